/- A parser: what it is fed, what comes next, what is left. -/
import Derived.Test.YtbjjgkicjnoegaaDoorSplit
namespace Go.Proofs.YtbjjgkicjnoegaaDoor
open Go.RowKit Go.Shelf

/-- A parser's box: what is left, and whether it has told that bytes are wrong. -/
def PB (W : World) (b : Nat) (t : ByteArray) (told : Bool) : Prop := W.heap[b]? = some (Obj.cells #[.string t, .bool told] 53 (0, 0))

theorem set_in {W : World} {b T : Nat} {c : Array Value} (o : Nat) (v : Value) (h : W.heap[b]? = some (Obj.cells c T (0, 0))) : (W.setCell ⟨b, o, none⟩ v).heap[b]? = some (Obj.cells (c.setIfInBounds o v) T (0, 0)) := by
  simp [World.setCell, Array.getElem?_modify, h]
theorem PB.lt {W : World} {b : Nat} {t : ByteArray} {told : Bool} (h : PB W b t told) : b < W.heap.size := (Array.getElem?_eq_some_iff.1 h).1
theorem PB.c0 {W : World} {b : Nat} {t : ByteArray} {told : Bool} (h : PB W b t told) : W.cell? ⟨b, 0, none⟩ = some (.string t) := by rw [cell_in 0 h]; rfl
theorem PB.c1 {W : World} {b : Nat} {t : ByteArray} {told : Bool} (h : PB W b t told) : W.cell? ⟨b, 1, none⟩ = some (.bool told) := by rw [cell_in 1 h]; rfl
theorem PB.f0 {W : World} {b : Nat} {t : ByteArray} {told : Bool} (h : PB W b t told) : W.frozen? ⟨b, 0, none⟩ = false := free_in 0 h
theorem PB.f1 {W : World} {b : Nat} {t : ByteArray} {told : Bool} (h : PB W b t told) : W.frozen? ⟨b, 1, none⟩ = false := free_in 1 h
theorem PB.below {W W' : World} {b n : Nat} {t : ByteArray} {told : Bool} (h : PB W b t told) (hb : Below n W W') (hn : b < n) : PB W' b t told := (hb.block b hn).trans h
theorem PB.later {W W' : World} {b : Nat} {t : ByteArray} {told : Bool} (h : PB W b t told) (hb : Below W.heap.size W W') : PB W' b t told := h.below hb h.lt
theorem PB.kept {W W' : World} {b : Nat} {t : ByteArray} {told : Bool} {row : Option Nat} (h : PB W b t told) (hg : W.grownBy W' row) (hr : some b ≠ row) : PB W' b t told := (hg.block b h.lt hr).trans h
theorem PB.set0 {W : World} {b : Nat} {t : ByteArray} {told : Bool} (h : PB W b t told) (q : ByteArray) : PB (W.setCell ⟨b, 0, none⟩ (.string q)) b q told := set_in 0 (.string q) h
theorem PB.set1 {W : World} {b : Nat} {t : ByteArray} {told : Bool} (h : PB W b t told) (x : Bool) : PB (W.setCell ⟨b, 1, none⟩ (.bool x)) b t x := set_in 1 (.bool x) h

theorem new_any (w : World) : Calls Tryd.prog 14 #[] w fun e w' => e = .returned (.pointer (some ⟨w.heap.size, 0, none⟩)) ∧ w' = w.alloc (.cells #[.string ⟨#[]⟩, .bool false] 53) := by
  go_enter Tryd.func14, Tryd.ntmps14
  go_wp2
  go_ret
  exact ⟨rfl, rfl⟩

theorem ptr_nil (b : Nat) (W : World) : (binOp .eql 34 (.pointer (some ⟨b, 0, none⟩)) (.pointer none)).run Tryd.prog W = .ok (.bool false) W := by simp [go_sem]

theorem feed_told (b : Nat) (t s : ByteArray) (w : World) (hP : PB w b t true) :
    Calls Tryd.prog 15 #[.pointer (some ⟨b, 0, none⟩), .string s] w fun e w' => e = .returned (.int .i64 40) ∧ w' = w := by
  have c1 := hP.c1
  have hnil := ptr_nil b
  go_enter Tryd.func15, Tryd.ntmps15
  go_wp2
  go_ret
  exact ⟨rfl, rfl⟩
theorem feed_full (b : Nat) (t s : ByteArray) (hs : s.size ≤ 100000000) (ht : t.size ≤ 100000000) (w : World) (hP : PB w b t false) (h : 16384 < t.size + s.size) :
    Calls Tryd.prog 15 #[.pointer (some ⟨b, 0, none⟩), .string s] w fun e w' => e = .returned (.int .i64 41) ∧ w' = w := by
  have c0 := hP.c0
  have c1 := hP.c1
  have hnil := ptr_nil b
  have h2 : (16384 : Int) < t.size + s.size := by omega
  go_enter Tryd.func15, Tryd.ntmps15
  go_wp2
  go_ret
  exact ⟨rfl, rfl⟩
theorem feed_ok (b : Nat) (t s : ByteArray) (w : World) (hP : PB w b t false) (h : t.size + s.size ≤ 16384) :
    Calls Tryd.prog 15 #[.pointer (some ⟨b, 0, none⟩), .string s] w fun e w' => e = .returned (.int .i64 0) ∧ w' = w.setCell ⟨b, 0, none⟩ (.string (t ++ s)) := by
  have c0 := hP.c0
  have c1 := hP.c1
  have f0 := hP.f0
  have hnil := ptr_nil b
  have h2 : ¬ ((16384 : Int) < t.size + s.size) := by omega
  go_enter Tryd.func15, Tryd.ntmps15
  go_wp2
  go_ret
  exact ⟨rfl, rfl⟩

theorem left_any (b : Nat) (t : ByteArray) (told : Bool) (w : World) (hP : PB w b t told) :
    Calls Tryd.prog 17 #[.pointer (some ⟨b, 0, none⟩)] w fun e w' => e = .returned (.int .i64 t.size) ∧ w' = w := by
  have c0 := hP.c0
  go_enter Tryd.func17, Tryd.ntmps17
  go_wp2
  go_ret
  exact ⟨rfl, rfl⟩

/-- What Next answers of a parser that has told nothing. -/
def NextPost (b : Nat) (t : ByteArray) (w : World) (g : Got (List (List UInt8))) (e : Ending) (w' : World) : Prop :=
  match g with
  | .ok ss r => ∃ v, e = .returned (.tuple #[v, .int .i64 0]) ∧ w.grownBy w' (some b) ∧ PB w' b (ba r) false ∧ Owned w' w.heap.size v ss
  | .more => e = .returned (.tuple #[.slice none 0 0, .int .i64 31]) ∧ w.grownBy w' (some b) ∧ PB w' b t false
  | .wrong => e = .returned (.tuple #[.slice none 0 0, .int .i64 40]) ∧ w.grownBy w' (some b) ∧ PB w' b t true

theorem next_told (b : Nat) (t : ByteArray) (w : World) (hP : PB w b t true) : Calls Tryd.prog 18 #[.pointer (some ⟨b, 0, none⟩)] w fun e w' => e = .returned (.tuple #[.slice none 0 0, .int .i64 40]) ∧ w' = w := by
  have c1 := hP.c1
  have hnil := ptr_nil b
  go_enter Tryd.func18, Tryd.ntmps18
  go_wp2
  go_ret2
  exact ⟨rfl, rfl⟩

set_option maxRecDepth 100000 in
set_option maxHeartbeats 2000000 in
theorem next_any {T : Nat → Int} (b : Nat) (t : ByteArray) (ht : t.size ≤ 9223372036854775807) (w : World) (hE : Env T w) (hP : PB w b t false) :
    Calls Tryd.prog 18 #[.pointer (some ⟨b, 0, none⟩)] w (NextPost b t w (argumentsS T t.data.toList)) := by
  have c1 := hP.c1
  have hnil := ptr_nil b
  have HS := split_any (T := T) b t ht w hE hP.c0 hP.f0
  have HPP := Lib.hid hP
  clear hP hE
  cases hg : argumentsS T t.data.toList with
  | more =>
    rw [hg] at HS
    have H1 := Lib.hid HS
    clear HS hg
    go_enter Tryd.func18, Tryd.ntmps18
    go_wp2_with (go_at_call 21; refine H1.out.mono ?_; rintro e w2 ⟨rfl, hb2⟩; have hp2 := HPP.out.later hb2; have f1 := hp2.f1; have d1 := hp2.c1)
    go_ret2
    exact ⟨rfl, (grown_of_below hb2).trans (grown_set _ _ _ _), hp2.set1 _⟩
  | wrong =>
    rw [hg] at HS
    have H1 := Lib.hid HS
    clear HS hg
    go_enter Tryd.func18, Tryd.ntmps18
    go_wp2_with (go_at_call 21; refine H1.out.mono ?_; rintro e w2 ⟨rfl, hb2⟩; have hp2 := HPP.out.later hb2; have f1 := hp2.f1; have d1 := hp2.c1)
    go_ret2
    exact ⟨rfl, (grown_of_below hb2).trans (grown_set _ _ _ _), hp2.set1 _⟩
  | ok ss r =>
    rw [hg] at HS
    have H1 := Lib.hid HS
    clear HS hg
    go_enter Tryd.func18, Tryd.ntmps18
    go_wp2_with (go_at_call 21; refine H1.out.mono ?_; rintro e w2 ⟨v, W1, rfl, hb2, rfl, how⟩; have hp2 := (HPP.out.later hb2).set0 (ba r); have f1 := hp2.f1; have d1 := hp2.c1)
    go_ret2
    have hbl := HPP.out.lt
    exact ⟨v, rfl, ((grown_of_below hb2).trans (grown_set _ _ _ _)).trans (grown_set _ _ _ _), hp2.set1 _, ownsRow_setCell_below how (a := ⟨b, 1, none⟩) hbl _⟩

theorem feed_nil (s : ByteArray) (w : World) : Calls Tryd.prog 15 #[.pointer none, .string s] w fun e w' => e = .returned (.int .i64 1) ∧ w' = w := by
  go_enter Tryd.func15, Tryd.ntmps15
  go_wp2
  go_ret
  exact ⟨rfl, rfl⟩
theorem next_nil (w : World) : Calls Tryd.prog 18 #[.pointer none] w fun e w' => e = .returned (.tuple #[.slice none 0 0, .int .i64 1]) ∧ w' = w := by
  go_enter Tryd.func18, Tryd.ntmps18
  go_wp2
  go_ret2
  exact ⟨rfl, rfl⟩
theorem left_nil (w : World) : Calls Tryd.prog 17 #[.pointer none] w fun e w' => e = .returned (.int .i64 0) ∧ w' = w := by
  go_enter Tryd.func17, Tryd.ntmps17
  go_wp2
  go_ret
  exact ⟨rfl, rfl⟩

end Go.Proofs.YtbjjgkicjnoegaaDoor
