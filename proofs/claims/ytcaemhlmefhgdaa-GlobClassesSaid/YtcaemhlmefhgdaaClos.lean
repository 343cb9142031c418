/- The function values and closures of package glob: what a call of each of them answers, whatever world it is called in. -/
import Derived.Test.YtcaemhlmefhgdaaRows
import Derived.WalkKit
import Derived.WalkSpells
import Derived.WalkLawsBesides
import Derived.Lib.Hide
namespace Go.Proofs.Ytcaemhlmefhgdaa
open Go.RowKit

/-- The blocks of these cell types hold what they held. -/
def Same (ok : Nat → Bool) (w W : World) : Prop := ∀ (k : Nat) (c : Array Value) (T : Nat), ok T = true → w.heap[k]? = some (Obj.cells c T (0, 0)) → W.heap[k]? = some (Obj.cells c T (0, 0))

theorem Same.refl (ok : Nat → Bool) (w : World) : Same ok w w := fun _ _ _ _ h => h
theorem Same.trans {ok : Nat → Bool} {a b c : World} (h : Same ok a b) (g : Same ok b c) : Same ok a c := fun k x T hT hx => g k x T hT (h k x T hT hx)
theorem Same.of_below {ok : Nat → Bool} {a b : World} (h : Below a.heap.size a b) : Same ok a b := fun k x T _ hx => by
  rw [h.block k (Array.getElem?_eq_some_iff.1 hx).1]; exact hx
theorem Same.weaken {ok ok' : Nat → Bool} {a b : World} (h : Same ok a b) (hk : ∀ T, ok' T = true → ok T = true) : Same ok' a b := fun k x T hT hx => h k x T (hk T hT) hx

/-- v is a function value that answers p r at a rune r, wherever these blocks are as they are here. -/
def Takes (ok : Nat → Bool) (w : World) (v : Value) (p : Int → Bool) : Prop :=
  ∃ K caps, v = .func (.func K) #[] caps ∧ (∀ args W, (callFunc K args).run Try.prog W = .ok (.enter K args) W) ∧ ∀ W, Same ok w W → ∀ r : Int,
    Calls Try.prog K (#[.int .i32 r] ++ caps) W fun e W' => e = .returned (.bool (p r)) ∧ Below W.heap.size W W'

theorem Takes.mono {ok : Nat → Bool} {w w' : World} {v : Value} {p : Int → Bool} (h : Takes ok w v p) (g : Same ok w w') : Takes ok w' v p := by
  obtain ⟨K, caps, rfl, hf, hc⟩ := h
  exact ⟨K, caps, rfl, hf, fun W hW r => hc W (g.trans hW) r⟩
theorem Takes.weaken {ok ok' : Nat → Bool} {w : World} {v : Value} {p : Int → Bool} (h : Takes ok' w v p) (hk : ∀ T, ok' T = true → ok T = true) : Takes ok w v p := by
  obtain ⟨K, caps, rfl, hf, hc⟩ := h
  exact ⟨K, caps, rfl, hf, fun W hW r => hc W (hW.weaken hk) r⟩

def ok21 (T : Nat) : Bool := T == 21
def okAll (T : Nat) : Bool := T == 21 || T == 50 || T == 55

theorem heap_at {w : World} {o : Obj} {k : Nat} (h : k = w.heap.size) : (w.alloc o).heap[k]? = some o := by subst h; exact heap_alloc_new w o

theorem cell_of_block {w : World} {b T : Nat} {v : Value} (h : w.heap[b]? = some (Obj.cells #[v] T (0, 0))) : w.cell? ⟨b, 0, none⟩ = some v := by
  simp [World.cell?, h]

def inSpan (f t r : Int) : Bool := decide (min f t ≤ r) && decide (r ≤ max f t)

theorem ret_bool {a b : Bool} (h : a = b) : Ending.returned (.bool a) = .returned (.bool b) := by rw [h]

set_option maxHeartbeats 400000 in
theorem span1_any (b1 b2 : Nat) (f t r : Int) (w : World) (h1 : w.cell? ⟨b1, 0, none⟩ = some (.int .i32 f)) (h2 : w.cell? ⟨b2, 0, none⟩ = some (.int .i32 t)) :
    Calls Try.prog 29 #[.int .i32 r, .pointer (some ⟨b1, 0, none⟩), .pointer (some ⟨b2, 0, none⟩)] w fun e w' => e = .returned (.bool (inSpan f t r)) ∧ w' = w := by
  go_enter Try.func29, Try.ntmps29
  go_wp2
  all_goals go_ret
  all_goals refine ⟨ret_bool ?_, rfl⟩
  all_goals rw [Bool.eq_iff_iff]
  all_goals simp [inSpan]
  all_goals omega

/-- span's closure over two boxes. -/
def SpanAt (w : World) (v : Value) (f t : Int) : Prop :=
  ∃ b1 b2 : Nat, v = .func (.func 29) #[] #[.pointer (some ⟨b1, 0, none⟩), .pointer (some ⟨b2, 0, none⟩)] ∧
    w.heap[b1]? = some (Obj.cells #[.int .i32 f] 21 (0, 0)) ∧ w.heap[b2]? = some (Obj.cells #[.int .i32 t] 21 (0, 0))

theorem SpanAt.takes {w : World} {v : Value} {f t : Int} (h : SpanAt w v f t) : Takes ok21 w v (inSpan f t) := by
  obtain ⟨b1, b2, rfl, h1, h2⟩ := h
  refine ⟨29, _, rfl, fun _ _ => by kernel_rfl, fun W hW r => ?_⟩
  exact (span1_any b1 b2 f t r W (cell_of_block (hW _ _ _ rfl h1)) (cell_of_block (hW _ _ _ rfl h2))).mono fun e w' ⟨he, hw⟩ => ⟨he, by subst hw; exact Below.refl _ _⟩

set_option maxHeartbeats 400000 in
theorem span_any (f t : Int) (w : World) :
    Calls Try.prog 25 #[.int .i32 f, .int .i32 t] w fun e w' => ∃ v, e = .returned v ∧ SpanAt w' v f t ∧ Below w.heap.size w w' := by
  have hmf : ∀ (fn : Fn) (first cap : Array Value) (w : World), (Instr.makeFunc fn first cap).run Try.prog w = .ok (.func fn first cap) w := fun _ _ _ _ => rfl
  go_enter Try.func25, Try.ntmps25
  go_wp2
  go_ret
  exact ⟨_, rfl, ⟨_, _, rfl, (Below.heap_alloc _ _ _ (by simp)).trans (heap_at rfl), heap_at (by simp)⟩, ((Below.refl _ _).alloc (Nat.le_refl _) _).alloc (by simp) _⟩

set_option maxHeartbeats 400000 in
theorem takesRun_any (r : Int) (w : World) :
    Calls Try.prog 51 #[.agg #[], .int .i32 r] w fun e w' => e = .returned (.bool true) ∧ Below w.heap.size w w' := by
  go_enter Try.func51, Try.ntmps51
  go_wp2
  go_ret
  exact ⟨rfl, (Below.refl _ _).alloc (Nat.le_refl _) _⟩

set_option maxHeartbeats 400000 in
theorem takesOne_any {ok : Nat → Bool} (v : Value) (p : Int → Bool) (r : Int) (w : World) (h : Takes ok w v p) :
    Calls Try.prog 52 #[v, .int .i32 r] w fun e w' => e = .returned (.bool (p r)) ∧ Below w.heap.size w w' := by
  obtain ⟨K, caps, rfl, hf, hc⟩ := h
  have Hc := Lib.hid (hc w (Same.refl _ _) r)
  clear hc
  go_enter Try.func52, Try.ntmps52
  go_wp2_with fail
  refine Hc.out.mono ?_
  rintro e w' ⟨rfl, hb⟩
  go_wp2
  go_ret
  exact ⟨rfl, hb⟩

set_option maxHeartbeats 400000 in
theorem among11_any {ok : Nat → Bool} (v : Value) (p : Int → Bool) (r : Int) (b : Nat) (w : World) (h : Takes ok w v p) (hr : w.cell? ⟨b, 0, none⟩ = some (.int .i32 r)) :
    Calls Try.prog 33 #[v, .pointer (some ⟨b, 0, none⟩)] w fun e w' => e = .returned (.bool (p r)) ∧ Below w.heap.size w w' := by
  obtain ⟨K, caps, rfl, hf, hc⟩ := h
  have Hc := Lib.hid (hc w (Same.refl _ _) r)
  clear hc
  go_enter Try.func33, Try.ntmps33
  go_wp2_with fail
  refine Hc.out.mono ?_
  rintro e w' ⟨rfl, hb⟩
  go_wp2
  go_ret
  exact ⟨rfl, hb⟩

set_option maxHeartbeats 400000 in
theorem not1_any {ok : Nat → Bool} (v : Value) (p : Int → Bool) (r : Int) (b : Nat) (w : World) (h : Takes ok w v p) (hr : w.cell? ⟨b, 0, none⟩ = some v) :
    Calls Try.prog 34 #[.int .i32 r, .pointer (some ⟨b, 0, none⟩)] w fun e w' => e = .returned (.bool (!p r)) ∧ Below w.heap.size w w' := by
  obtain ⟨K, caps, rfl, hf, hc⟩ := h
  have Hc := Lib.hid (hc w (Same.refl _ _) r)
  clear hc
  go_enter Try.func34, Try.ntmps34
  go_wp2_with fail
  refine Hc.out.mono ?_
  rintro e w' ⟨rfl, hb⟩
  go_wp2
  go_ret
  exact ⟨rfl, hb⟩

/-- The boxes that not's closure leans on. -/
theorem ok_box (T : Nat) (h : ok21 T = true) : okAll T = true := by simp [ok21, okAll] at *; omega

set_option maxHeartbeats 400000 in
theorem not_any (v : Value) (p : Int → Bool) (w : World) (h : Takes okAll w v p) :
    Calls Try.prog 30 #[v] w fun e w' => ∃ u, e = .returned u ∧ Takes okAll w' u (fun r => !p r) ∧ Below w.heap.size w w' := by
  have hmf : ∀ (fn : Fn) (first cap : Array Value) (w : World), (Instr.makeFunc fn first cap).run Try.prog w = .ok (.func fn first cap) w := fun _ _ _ _ => rfl
  have h0 := h
  obtain ⟨K, caps, rfl, _⟩ := h0
  have H := Lib.hid h
  clear h
  go_enter Try.func30, Try.ntmps30
  go_wp2
  go_ret
  have hb : Below w.heap.size w (w.alloc (Obj.cells #[Value.func (Fn.func K) #[] caps] 50)) := (Below.refl _ _).alloc (Nat.le_refl _) _
  refine ⟨_, rfl, ⟨34, _, rfl, fun _ _ => by kernel_rfl, fun W hW r => ?_⟩, hb⟩
  refine not1_any (ok := okAll) _ p r _ W (H.out.mono ((Same.of_below hb).trans hW)) (cell_of_block (T := 50) (hW _ _ _ rfl ?_))
  exact heap_at rfl

/-- A slice of function values: what each of them answers. -/
structure Fns (ok : Nat → Bool) (w : World) (a : Option Addr) (n : Nat) (ps : List (Int → Bool)) : Prop where
  len : ps.length = n
  small : n ≤ 100000
  at' : ∀ j, j < n → ∃ g v, a = some ⟨g, 0, none⟩ ∧ w.cell? ⟨g, j, none⟩ = some v ∧ g < w.heap.size ∧ Takes ok w v (ps.getD j fun _ => false)

theorem Fns.below {ok : Nat → Bool} {w w' : World} {a : Option Addr} {n : Nat} {ps : List (Int → Bool)} (h : Fns ok w a n ps) (hb : Below w.heap.size w w') : Fns ok w' a n ps :=
  ⟨h.len, h.small, fun j hj => by
    obtain ⟨g, v, e, hc, hg, ht⟩ := h.at' j hj
    exact ⟨g, v, e, (hb.cell (p := ⟨g, j, none⟩) hg).trans hc, Nat.lt_of_lt_of_le hg hb.size, ht.mono (Same.of_below hb)⟩⟩

/-- What IndexFunc answers: a place, if there is one. -/
def Found (ps : List (Int → Bool)) (r : Int) (w : World) (e : Ending) (w' : World) : Prop :=
  ∃ k : Int, e = .returned (.int .i64 k) ∧ decide (0 ≤ k) = ps.any (fun p => p r) ∧ Below w.heap.size w w'

theorem any_true {ps : List (Int → Bool)} {k : Nat} {r : Int} (hk : k < ps.length) (h : ps.getD k (fun _ => false) r = true) : ps.any (fun p => p r) = true := by
  rw [List.any_eq_true]
  refine ⟨ps[k], List.getElem_mem hk, ?_⟩
  simpa [List.getD, List.getElem?_eq_getElem hk] using h

theorem any_false {ps : List (Int → Bool)} {r : Int} (h : ∀ j, j < ps.length → ps.getD j (fun _ => false) r = false) : ps.any (fun p => p r) = false := by
  rw [List.any_eq_false]
  intro p hp
  obtain ⟨j, hj, rfl⟩ := List.getElem_of_mem hp
  simpa [List.getD, List.getElem?_eq_getElem hj] using h j hj

set_option maxHeartbeats 400000 in
theorem index_any {ok : Nat → Bool} (a : Option Addr) (n cap : Nat) (ps : List (Int → Bool)) (r : Int) (b : Nat) (w : World) (h : Fns ok w a n ps)
    (hr : w.cell? ⟨b, 0, none⟩ = some (.int .i32 r)) (hbs : b < w.heap.size) :
    Calls Try.prog 35 #[.slice a n cap, .func (.func 33) #[] #[.pointer (some ⟨b, 0, none⟩)]] w (Found ps r w) := by
  have hn := h.small
  have hcf : ∀ args W, (callFunc 33 args).run Try.prog W = .ok (.enter 33 args) W := fun _ _ => by kernel_rfl
  go_enter Try.func35, Try.ntmps35
  go_wp2
  go_loopw [8] (fun i wr => ∃ k : Nat, k ≤ n ∧ i = .int .i64 k ∧ (∀ j, j < k → ps.getD j (fun _ => false) r = false) ∧ Below w.heap.size w wr) (fun i _ => n - (intOf i).toNat)
  case atStart => exact ⟨0, Nat.zero_le _, rfl, fun j hj => by omega, Below.refl _ _⟩
  case round =>
    obtain ⟨k, hk, rfl, hno0, hb⟩ := hrel
    have hno := Lib.hid hno0
    clear hno0
    by_cases hlt : k < n
    · obtain ⟨g, v, rfl, hc, hg, ht⟩ := (h.below hb).at' k hlt
      have HC0 := among11_any v _ r b _ ht ((hb.cell (p := ⟨b, 0, none⟩) hbs).trans hr)
      cases hp : ps.getD k (fun _ => false) r
      all_goals rw [hp] at HC0
      all_goals have HP := Lib.hid hp
      all_goals clear hp
      all_goals have HC := Lib.hid HC0
      all_goals clear HC0
      · go_wp2_with fail
        refine HC.out.mono ?_
        rintro e w1 ⟨rfl, hb1⟩
        go_wp2
        go_roundw
        case rel =>
          refine ⟨k + 1, by omega, by go_num, fun j hj => ?_, hb.trans (hb1.mono hb.size)⟩
          by_cases e : j = k
          · subst e; exact HP.out
          · exact hno.out j (by omega)
        case measure => simp [intOf]; omega
      · go_wp2_with fail
        refine HC.out.mono ?_
        rintro e w1 ⟨rfl, hb1⟩
        go_wp2
        go_ret
        exact ⟨k, rfl, by rw [any_true (k := k) (by have := h.len; omega) HP.out]; simp, hb.trans (hb1.mono hb.size)⟩
    · go_wp2
      go_ret
      exact ⟨-1, rfl, by rw [any_false fun j hj => hno.out j (by have := h.len; omega)]; rfl, hb⟩

theorem contains_any {ok : Nat → Bool} (a : Option Addr) (n cap : Nat) (ps : List (Int → Bool)) (r : Int) (b : Nat) (w : World) (h : Fns ok w a n ps)
    (hr : w.cell? ⟨b, 0, none⟩ = some (.int .i32 r)) (hbs : b < w.heap.size) :
    Calls Try.prog 32 #[.slice a n cap, .func (.func 33) #[] #[.pointer (some ⟨b, 0, none⟩)]] w fun e w' => e = .returned (.bool (ps.any fun p => p r)) ∧ Below w.heap.size w w' := by
  have HC := Lib.hid (index_any a n cap ps r b w h hr hbs)
  clear h hr
  go_enter Try.func32, Try.ntmps32
  go_wp2_with fail
  refine HC.out.mono ?_
  rintro e w1 ⟨k, rfl, hk, hb⟩
  have HK := Lib.hid hk
  clear hk
  go_wp2
  go_ret
  exact ⟨ret_bool HK.out, hb⟩

set_option maxHeartbeats 400000 in
theorem among1_any {ok : Nat → Bool} (A : Nat) (a : Option Addr) (n cap : Nat) (ps : List (Int → Bool)) (r : Int) (w : World) (h : Fns ok w a n ps)
    (hA : w.cell? ⟨A, 0, none⟩ = some (.slice a n cap)) (hAs : A < w.heap.size) :
    Calls Try.prog 31 #[.int .i32 r, .pointer (some ⟨A, 0, none⟩)] w fun e w' => e = .returned (.bool (ps.any fun p => p r)) ∧ Below w.heap.size w w' := by
  have hmf : ∀ (fn : Fn) (first cap : Array Value) (w : World), (Instr.makeFunc fn first cap).run Try.prog w = .ok (.func fn first cap) w := fun _ _ _ _ => rfl
  have hb : Below w.heap.size w (w.alloc (Obj.cells #[Value.int .i32 r] 21)) := (Below.refl _ _).alloc (Nat.le_refl _) _
  have hA1 := (hb.cell (p := ⟨A, 0, none⟩) hAs).trans hA
  have HC := Lib.hid (contains_any a n cap ps r w.heap.size _ (h.below hb) (cell_of_block (heap_at rfl)) (by simp))
  clear h hA
  go_enter Try.func31, Try.ntmps31
  go_wp2_with fail
  refine HC.out.mono ?_
  rintro e w1 ⟨rfl, hb1⟩
  go_wp2
  go_ret
  exact ⟨rfl, hb.trans (hb1.mono (by simp))⟩

end Go.Proofs.Ytcaemhlmefhgdaa
