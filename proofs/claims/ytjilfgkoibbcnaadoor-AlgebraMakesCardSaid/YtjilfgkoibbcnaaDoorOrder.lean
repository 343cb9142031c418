/- The order of entries, the program's and the reference's. -/
import Derived.Test.YtjilfgkoibbcnaaDoorBase
import Derived.Lib.MinMaxS
namespace Go.Proofs.YtjilfgkoibbcnaaDoor
open Go.RowKit Go.Shelf
attribute [local go_sem] Oper.semAt_some

/-- Is an entry ahead of another one? -/
def ltE (x y : Ent) : Bool := decide (x.2 < y.2 ∨ x.2 = y.2 ∧ x.1.data.toList < y.1.data.toList)
theorem bl_eq (a b : ByteArray) : Op.bytesLess a.toList b.toList = decide (a.data.toList < b.data.toList) := by
  rw [Lib.toList_data, Lib.toList_data, bytesLess_eq]

/-- What a call of two entries lays. -/
def boxed2 (W : World) (x y : Ent) : World := (W.alloc (.cells #[.string x.1, .int .i64 x.2] 38)).alloc (.cells #[.string y.1, .int .i64 y.2] 38)
theorem boxed2_below (W : World) (x y : Ent) : Below W.heap.size W (boxed2 W x y) := ((Below.refl _ _).alloc (Nat.le_refl _) _).alloc (by simp) _

set_option maxRecDepth 100000 in
theorem less_any (x y : Ent) (w : World) : Calls Tryd.prog 59 #[.agg #[.string x.1, .int .i64 x.2], .agg #[.string y.1, .int .i64 y.2]] w fun e w' => e = .returned (.bool (ltE x y)) ∧ w' = boxed2 w x y := by
  obtain ⟨m, s⟩ := x
  obtain ⟨m', s'⟩ := y
  unfold ltE boxed2
  simp only
  by_cases h : s = s'
  · have e1 : (s == s') = true := by simpa using h
    have e2 : (s != s') = false := by simpa using h
    have H := Lib.hid h
    clear h
    go_enter Tryd.func59, Tryd.ntmps59
    go_wp2
    go_ret
    refine ⟨congrArg (fun b => Ending.returned (.bool b)) ?_, rfl⟩
    rw [bl_eq]
    have := H.out
    subst this
    simp
  · have e1 : (s == s') = false := by simpa using h
    have e2 : (s != s') = true := by simpa using h
    go_enter Tryd.func59, Tryd.ntmps59
    go_wp2
    go_ret
    refine ⟨congrArg (fun b => Ending.returned (.bool b)) ?_, rfl⟩
    simp [h]

/-- What 'order' tells. -/
def cmpE (x y : Ent) : Int := if ltE x y then -1 else if ltE y x then 1 else 0

set_option maxRecDepth 100000 in
theorem order_any (x y : Ent) (w : World) : Calls Tryd.prog 44 #[.agg #[.string x.1, .int .i64 x.2], .agg #[.string y.1, .int .i64 y.2]] w fun e w' =>
    e = .returned (.int .i64 (cmpE x y)) ∧ (w' = boxed2 (boxed2 w x y) x y ∨ w' = boxed2 (boxed2 (boxed2 w x y) x y) y x) := by
  have H1 := fun w => Lib.hid (less_any x y w)
  have H2 := fun w => Lib.hid (less_any y x w)
  unfold cmpE
  generalize ltE x y = p at *
  generalize ltE y x = q at *
  have c1 : ∀ W : World, (boxed2 W x y).heap.size = W.heap.size + 2 := fun W => by simp [boxed2]
  have hb0 := Blk.new w 38 #[.string x.1, .int .i64 x.2]
  have k0 := hb0.alloc (.cells #[.string y.1, .int .i64 y.2] 38)
  have k1 := Blk.new (w.alloc (.cells #[.string x.1, .int .i64 x.2] 38)) 38 #[.string y.1, .int .i64 y.2]
  rw [World.size_alloc] at k1
  have hw1 : (w.alloc (.cells #[.string x.1, .int .i64 x.2] 38)).alloc (.cells #[.string y.1, .int .i64 y.2] 38) = boxed2 w x y := rfl
  rw [hw1] at k0 k1
  have j0 := k0.later (boxed2_below _ x y)
  have j1 := k1.later (boxed2_below _ x y)
  obtain ⟨a0, a1, _, _⟩ := facts2 k0
  obtain ⟨a2, a3, _, _⟩ := facts2 k1
  obtain ⟨b0, b1, _, _⟩ := facts2 j0
  obtain ⟨b2, b3, _, _⟩ := facts2 j1
  clear hb0 k0 k1 j0 j1 c1
  cases p with
  | true =>
    go_enter Tryd.func44, Tryd.ntmps44
    go_wp2_with fail
    refine (H1 _).out.mono ?_
    rintro e w1 ⟨rfl, rfl⟩
    go_wp2_with fail
    go_ret
    exact ⟨rfl, .inl rfl⟩
  | false =>
    go_enter Tryd.func44, Tryd.ntmps44
    go_wp2_with fail
    refine (H1 _).out.mono ?_
    rintro e w1 ⟨rfl, rfl⟩
    go_wp2_with fail
    refine (H2 _).out.mono ?_
    rintro e w1 ⟨rfl, rfl⟩
    cases q <;> (
      go_wp2_with fail
      go_ret
      exact ⟨rfl, .inr rfl⟩)
end Go.Proofs.YtjilfgkoibbcnaaDoor
