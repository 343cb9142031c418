/- Heads of replies: whether a reply of a head may be right. -/
import Derived.Test.YtjcgfbmkgfhnaaaDoorHeads
import Derived.Test.YtjcgfbmkgfhnaaaDoorBrk
namespace Go.Proofs.YtjcgfbmkgfhnaaaDoor
open Go.RowKit Go.Shelf

/-- What a type assertion on a head answers. -/
theorem as68 (u : Value) (W : World) : (Instr.typeAssert (.iface 68 u) 49 68 true).run Tryd.prog W = .ok (.tuple #[u, .bool true]) W ∧ (Instr.typeAssert (.iface 68 u) 49 69 true).run Tryd.prog W = .ok (.tuple #[.string ⟨#[]⟩, .bool false]) W ∧
    (Instr.typeAssert (.iface 68 u) 49 53 true).run Tryd.prog W = .ok (.tuple #[.int .i64 0, .bool false]) W ∧ (Instr.typeAssert (.iface 68 u) 49 73 true).run Tryd.prog W = .ok (.tuple #[.int .i64 0, .bool false]) W :=
  ⟨by kernel_rfl, by kernel_rfl, by kernel_rfl, by kernel_rfl⟩
theorem as69 (u : Value) (W : World) : (Instr.typeAssert (.iface 69 u) 49 68 true).run Tryd.prog W = .ok (.tuple #[.string ⟨#[]⟩, .bool false]) W ∧ (Instr.typeAssert (.iface 69 u) 49 69 true).run Tryd.prog W = .ok (.tuple #[u, .bool true]) W ∧
    (Instr.typeAssert (.iface 69 u) 49 53 true).run Tryd.prog W = .ok (.tuple #[.int .i64 0, .bool false]) W ∧ (Instr.typeAssert (.iface 69 u) 49 73 true).run Tryd.prog W = .ok (.tuple #[.int .i64 0, .bool false]) W :=
  ⟨by kernel_rfl, by kernel_rfl, by kernel_rfl, by kernel_rfl⟩
theorem as70 (u : Value) (W : World) : (Instr.typeAssert (.iface 70 u) 49 68 true).run Tryd.prog W = .ok (.tuple #[.string ⟨#[]⟩, .bool false]) W ∧ (Instr.typeAssert (.iface 70 u) 49 69 true).run Tryd.prog W = .ok (.tuple #[.string ⟨#[]⟩, .bool false]) W ∧
    (Instr.typeAssert (.iface 70 u) 49 53 true).run Tryd.prog W = .ok (.tuple #[.int .i64 0, .bool false]) W ∧ (Instr.typeAssert (.iface 70 u) 49 73 true).run Tryd.prog W = .ok (.tuple #[.int .i64 0, .bool false]) W :=
  ⟨by kernel_rfl, by kernel_rfl, by kernel_rfl, by kernel_rfl⟩
theorem as53 (u : Value) (W : World) : (Instr.typeAssert (.iface 53 u) 49 68 true).run Tryd.prog W = .ok (.tuple #[.string ⟨#[]⟩, .bool false]) W ∧ (Instr.typeAssert (.iface 53 u) 49 69 true).run Tryd.prog W = .ok (.tuple #[.string ⟨#[]⟩, .bool false]) W ∧
    (Instr.typeAssert (.iface 53 u) 49 53 true).run Tryd.prog W = .ok (.tuple #[u, .bool true]) W ∧ (Instr.typeAssert (.iface 53 u) 49 73 true).run Tryd.prog W = .ok (.tuple #[.int .i64 0, .bool false]) W :=
  ⟨by kernel_rfl, by kernel_rfl, by kernel_rfl, by kernel_rfl⟩
theorem as72 (u : Value) (W : World) : (Instr.typeAssert (.iface 72 u) 49 68 true).run Tryd.prog W = .ok (.tuple #[.string ⟨#[]⟩, .bool false]) W ∧ (Instr.typeAssert (.iface 72 u) 49 69 true).run Tryd.prog W = .ok (.tuple #[.string ⟨#[]⟩, .bool false]) W ∧
    (Instr.typeAssert (.iface 72 u) 49 53 true).run Tryd.prog W = .ok (.tuple #[.int .i64 0, .bool false]) W ∧ (Instr.typeAssert (.iface 72 u) 49 73 true).run Tryd.prog W = .ok (.tuple #[.int .i64 0, .bool false]) W :=
  ⟨by kernel_rfl, by kernel_rfl, by kernel_rfl, by kernel_rfl⟩
theorem as73 (u : Value) (W : World) : (Instr.typeAssert (.iface 73 u) 49 68 true).run Tryd.prog W = .ok (.tuple #[.string ⟨#[]⟩, .bool false]) W ∧ (Instr.typeAssert (.iface 73 u) 49 69 true).run Tryd.prog W = .ok (.tuple #[.string ⟨#[]⟩, .bool false]) W ∧
    (Instr.typeAssert (.iface 73 u) 49 53 true).run Tryd.prog W = .ok (.tuple #[.int .i64 0, .bool false]) W ∧ (Instr.typeAssert (.iface 73 u) 49 73 true).run Tryd.prog W = .ok (.tuple #[u, .bool true]) W :=
  ⟨by kernel_rfl, by kernel_rfl, by kernel_rfl, by kernel_rfl⟩

/-- Whether a reply of this head, within so many arrays, may be right. -/
def fitsS : Hd → Int → Bool
  | .none, _ => false
  | .simple s, _ => decide ((s.size : Int) ≤ 600) && !brkS s
  | .failure s, _ => decide ((s.size : Int) ≤ 600) && !brkS s
  | .number _, _ => true
  | .length n, _ => decide (0 ≤ n ∧ n ≤ 600)
  | .nothing, _ => true
  | .count n, h => decide (0 ≤ n ∧ n ≤ 1000 ∧ h < 4)


/-- The methods of heads. -/
theorem head_names {n1 n2 : String} {s1 s2 : TypeId} (h : Tryd.prog.underlying 49 = some (.interface #[(n1, s1), (n2, s2)])) (u : Value) (W : World) :
    ((method 286 68 u n2).run Tryd.prog W = .ok (82, u) W ∧ (method 286 69 u n2).run Tryd.prog W = .ok (84, u) W ∧ (method 286 70 u n2).run Tryd.prog W = .ok (86, u) W ∧
      (method 286 53 u n2).run Tryd.prog W = .ok (79, u) W ∧ (method 286 72 u n2).run Tryd.prog W = .ok (88, u) W ∧ (method 286 73 u n2).run Tryd.prog W = .ok (90, u) W) ∧
    ((method 286 68 u n1).run Tryd.prog W = .ok (81, u) W ∧ (method 286 69 u n1).run Tryd.prog W = .ok (83, u) W ∧ (method 286 70 u n1).run Tryd.prog W = .ok (85, u) W ∧
      (method 286 53 u n1).run Tryd.prog W = .ok (78, u) W ∧ (method 286 72 u n1).run Tryd.prog W = .ok (87, u) W ∧ (method 286 73 u n1).run Tryd.prog W = .ok (89, u) W) := by
  have e := Tryd.underlying49.symm.trans h
  simp at e
  obtain ⟨⟨e1, _⟩, e2, _⟩ := e
  subst e1
  subst e2
  exact ⟨⟨by kernel_rfl, by kernel_rfl, by kernel_rfl, by kernel_rfl, by kernel_rfl, by kernel_rfl⟩, by kernel_rfl, by kernel_rfl, by kernel_rfl, by kernel_rfl, by kernel_rfl, by kernel_rfl⟩

theorem said_simple (s : ByteArray) (w : World) : Calls Tryd.prog 82 #[.string s] w fun e w' => e = .returned (.string s) ∧ w' = w := by
  go_enter Tryd.func82, Tryd.ntmps82
  go_wp2
  go_ret
  exact ⟨rfl, rfl⟩
theorem said_failure (s : ByteArray) (w : World) : Calls Tryd.prog 84 #[.string s] w fun e w' => e = .returned (.string s) ∧ w' = w := by
  go_enter Tryd.func84, Tryd.ntmps84
  go_wp2
  go_ret
  exact ⟨rfl, rfl⟩

set_option maxRecDepth 100000 in
set_option maxHeartbeats 2000000 in
theorem fits_simple (s : ByteArray) (h : Int) (w : World) (hs : s.size ≤ maxLen) :
    Calls Tryd.prog 26 #[.iface 68 (.string s), .int .i64 h] w fun e w' => e = .returned (.bool (fitsS (.simple s) h)) ∧ Below w.heap.size w w' := by
  unfold maxLen at hs
  have t1 := fun u W => (as68 u W).1
  have t2 := fun u W => (as68 u W).2.1
  have m1 := fun u W => (head_names Tryd.underlying49 u W).1.1
  have c1 : ∀ args W, (callFunc 82 args).run Tryd.prog W = .ok (.enter 82 args) W := fun _ _ => by kernel_rfl
  have HS := fun W => Lib.hid (said_simple s W)
  by_cases h6 : (s.size : Int) ≤ 600
  · have HE := fun W => Lib.hid (contains_end s W (by omega))
    have hf : fitsS (.simple s) h = !brkS s := by simp [fitsS, h6]
    have HF := Lib.hid hf
    clear hf
    go_enter Tryd.func26, Tryd.ntmps26
    go_wp2_with (first
      | (refine (HS _).out.mono ?_; rintro e w1 ⟨rfl, rfl⟩)
      | (refine (HE _).out.mono ?_; rintro e w2 ⟨rfl, hb⟩))
    go_ret
    exact ⟨by rw [HF.out]; rfl, hb⟩
  · have hf : fitsS (.simple s) h = false := by simp [fitsS, h6]
    have HF := Lib.hid hf
    clear hf
    go_enter Tryd.func26, Tryd.ntmps26
    go_wp2_with (refine (HS _).out.mono ?_; rintro e w1 ⟨rfl, rfl⟩)
    go_ret
    exact ⟨by rw [HF.out]; rfl, Below.refl _ _⟩

set_option maxRecDepth 100000 in
set_option maxHeartbeats 2000000 in
theorem fits_failure (s : ByteArray) (h : Int) (w : World) (hs : s.size ≤ maxLen) :
    Calls Tryd.prog 26 #[.iface 69 (.string s), .int .i64 h] w fun e w' => e = .returned (.bool (fitsS (.failure s) h)) ∧ Below w.heap.size w w' := by
  unfold maxLen at hs
  have t1 := fun u W => (as69 u W).1
  have t2 := fun u W => (as69 u W).2.1
  have m1 := fun u W => (head_names Tryd.underlying49 u W).1.2.1
  have c1 : ∀ args W, (callFunc 84 args).run Tryd.prog W = .ok (.enter 84 args) W := fun _ _ => by kernel_rfl
  have HS := fun W => Lib.hid (said_failure s W)
  by_cases h6 : (s.size : Int) ≤ 600
  · have HE := fun W => Lib.hid (contains_end s W (by omega))
    have hf : fitsS (.failure s) h = !brkS s := by simp [fitsS, h6]
    have HF := Lib.hid hf
    clear hf
    go_enter Tryd.func26, Tryd.ntmps26
    go_wp2_with (first
      | (refine (HS _).out.mono ?_; rintro e w1 ⟨rfl, rfl⟩)
      | (refine (HE _).out.mono ?_; rintro e w2 ⟨rfl, hb⟩))
    go_ret
    exact ⟨by rw [HF.out]; rfl, hb⟩
  · have hf : fitsS (.failure s) h = false := by simp [fitsS, h6]
    have HF := Lib.hid hf
    clear hf
    go_enter Tryd.func26, Tryd.ntmps26
    go_wp2_with (refine (HS _).out.mono ?_; rintro e w1 ⟨rfl, rfl⟩)
    go_ret
    exact ⟨by rw [HF.out]; rfl, Below.refl _ _⟩

set_option maxRecDepth 100000 in
set_option maxHeartbeats 2000000 in
theorem fits_number (n : Int) (h : Int) (w : World) :
    Calls Tryd.prog 26 #[.iface 70 (.int .i64 n), .int .i64 h] w fun e w' => e = .returned (.bool (fitsS (.number n) h)) ∧ Below w.heap.size w w' := by
  have t1 := fun u W => (as70 u W).1
  have t2 := fun u W => (as70 u W).2.1
  have t3 := fun u W => (as70 u W).2.2.1
  have t4 := fun u W => (as70 u W).2.2.2
  go_enter Tryd.func26, Tryd.ntmps26
  go_wp2
  all_goals go_ret
  all_goals refine ⟨ret_val ?_, Below.refl _ _⟩
  all_goals (try simp [fitsS, *])
  all_goals (try omega)

set_option maxRecDepth 100000 in
set_option maxHeartbeats 2000000 in
theorem fits_length (n : Int) (h : Int) (w : World) :
    Calls Tryd.prog 26 #[.iface 53 (.int .i64 n), .int .i64 h] w fun e w' => e = .returned (.bool (fitsS (.length n) h)) ∧ Below w.heap.size w w' := by
  have t1 := fun u W => (as53 u W).1
  have t2 := fun u W => (as53 u W).2.1
  have t3 := fun u W => (as53 u W).2.2.1
  have t4 := fun u W => (as53 u W).2.2.2
  go_enter Tryd.func26, Tryd.ntmps26
  go_wp2
  all_goals go_ret
  all_goals refine ⟨ret_val ?_, Below.refl _ _⟩
  all_goals (try simp [fitsS, *])
  all_goals (try omega)

set_option maxRecDepth 100000 in
set_option maxHeartbeats 2000000 in
theorem fits_nothing (h : Int) (w : World) :
    Calls Tryd.prog 26 #[.iface 72 (.agg #[]), .int .i64 h] w fun e w' => e = .returned (.bool (fitsS (.nothing) h)) ∧ Below w.heap.size w w' := by
  have t1 := fun u W => (as72 u W).1
  have t2 := fun u W => (as72 u W).2.1
  have t3 := fun u W => (as72 u W).2.2.1
  have t4 := fun u W => (as72 u W).2.2.2
  go_enter Tryd.func26, Tryd.ntmps26
  go_wp2
  all_goals go_ret
  all_goals refine ⟨ret_val ?_, Below.refl _ _⟩
  all_goals (try simp [fitsS, *])
  all_goals (try omega)

set_option maxRecDepth 100000 in
set_option maxHeartbeats 2000000 in
theorem fits_count (n : Int) (h : Int) (w : World) :
    Calls Tryd.prog 26 #[.iface 73 (.int .i64 n), .int .i64 h] w fun e w' => e = .returned (.bool (fitsS (.count n) h)) ∧ Below w.heap.size w w' := by
  have t1 := fun u W => (as73 u W).1
  have t2 := fun u W => (as73 u W).2.1
  have t3 := fun u W => (as73 u W).2.2.1
  have t4 := fun u W => (as73 u W).2.2.2
  go_enter Tryd.func26, Tryd.ntmps26
  go_wp2
  all_goals go_ret
  all_goals refine ⟨ret_val ?_, Below.refl _ _⟩
  all_goals (try simp [fitsS, *])
  all_goals (try omega)

set_option maxRecDepth 100000 in
theorem fits_none (h : Int) (w : World) : Calls Tryd.prog 26 #[.nilIface, .int .i64 h] w fun e w' => e = .returned (.bool (fitsS .none h)) ∧ Below w.heap.size w w' := by
  go_enter Tryd.func26, Tryd.ntmps26
  go_wp2
  go_ret
  exact ⟨rfl, Below.refl _ _⟩

def Hd.small : Hd → Prop
  | .simple s => s.size ≤ maxLen
  | .failure s => s.size ≤ maxLen
  | _ => True

theorem fits_any (x : Hd) (h : Int) (w : World) (hs : x.small) :
    Calls Tryd.prog 26 #[x.val, .int .i64 h] w fun e w' => e = .returned (.bool (fitsS x h)) ∧ Below w.heap.size w w' := by
  cases x with
  | none => exact fits_none h w
  | simple s => exact fits_simple s h w hs
  | failure s => exact fits_failure s h w hs
  | number n => exact fits_number n h w
  | length n => exact fits_length n h w
  | nothing => exact fits_nothing h w
  | count n => exact fits_count n h w

theorem headS_small (x : El) : (headS x).small := by
  have hs := x.s.2
  unfold headS
  repeat' split
  all_goals (first | exact hs | trivial)

end Go.Proofs.YtjcgfbmkgfhnaaaDoor
