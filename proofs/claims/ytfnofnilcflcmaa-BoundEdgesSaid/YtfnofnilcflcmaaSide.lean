/- Ends of ranges: on which side of an end an entry stands. -/
import Derived.Test.YtfnofnilcflcmaaRows
import Derived.WalkKit
import Derived.WalkSpells
import Derived.WalkLawsBesides
import Derived.Deep.DeepCutAuto
import Derived.Deep.QuietTactic
import Derived.BigQuiet
import Derived.Deep.RegionHeld3
import Derived.Lib.Hide
namespace Go.Proofs.Ytfnofnilcflcmaa
open Go.RowKit
attribute [local go_sem] Oper.semAt_some

def cmpI (a b : Int) : Int := if a < b then -1 else if b < a then 1 else 0
def cmpB (a b : ByteArray) : Int := if Op.bytesLess a.toList b.toList = true then -1 else if (a.toList == b.toList) = true then 0 else 1

theorem nan74 (a : Int) (w : World) : Calls Try.prog 74 #[.int .i64 a] w fun e w' => e = .returned (.bool false) ∧ w' = w := by
  go_enter Try.func74, Try.ntmps74
  go_wp2
  go_ret
  exact ⟨rfl, rfl⟩
theorem nan80 (a : Int) (w : World) : Calls Try.prog 80 #[.int .i64 a] w fun e w' => e = .returned (.bool false) ∧ w' = w := by
  go_enter Try.func80, Try.ntmps80
  go_wp2
  go_ret
  exact ⟨rfl, rfl⟩
theorem nan77 (a : ByteArray) (w : World) : Calls Try.prog 77 #[.string a] w fun e w' => e = .returned (.bool false) ∧ w' = w := by
  go_enter Try.func77, Try.ntmps77
  go_wp2
  go_ret
  exact ⟨rfl, rfl⟩

theorem ret_int {k : IntKind} {a b : Int} (h : a = b) : Ending.returned (.int k a) = .returned (.int k b) := by rw [h]

set_option maxHeartbeats 400000 in
theorem cmp73 (a b : Int) (w : World) : Calls Try.prog 73 #[.int .i64 a, .int .i64 b] w fun e w' => e = .returned (.int .i64 (cmpI a b)) ∧ w' = w := by
  have H := fun a w => Lib.hid (nan74 a w)
  go_enter Try.func73, Try.ntmps73
  go_wp2_with (go_at_call 74; refine (H _ _).out.mono ?_; rintro e w' ⟨rfl, rfl⟩)
  all_goals go_ret
  all_goals refine ⟨ret_int ?_, rfl⟩
  all_goals unfold cmpI
  all_goals (repeat' split)
  all_goals first | rfl | omega
set_option maxHeartbeats 400000 in
theorem cmp79 (a b : Int) (w : World) : Calls Try.prog 79 #[.int .i64 a, .int .i64 b] w fun e w' => e = .returned (.int .i64 (cmpI a b)) ∧ w' = w := by
  have H := fun a w => Lib.hid (nan80 a w)
  go_enter Try.func79, Try.ntmps79
  go_wp2_with (go_at_call 80; refine (H _ _).out.mono ?_; rintro e w' ⟨rfl, rfl⟩)
  all_goals go_ret
  all_goals refine ⟨ret_int ?_, rfl⟩
  all_goals unfold cmpI
  all_goals (repeat' split)
  all_goals first | rfl | omega
set_option maxHeartbeats 400000 in
theorem cmp76 (a b : ByteArray) (w : World) : Calls Try.prog 76 #[.string a, .string b] w fun e w' => e = .returned (.int .i64 (cmpB a b)) ∧ w' = w := by
  have H := fun a w => Lib.hid (nan77 a w)
  go_enter Try.func76, Try.ntmps76
  go_wp2_with (go_at_call 77; refine (H _ _).out.mono ?_; rintro e w' ⟨rfl, rfl⟩)
  all_goals go_ret
  all_goals refine ⟨ret_int ?_, rfl⟩
  all_goals unfold cmpB
  all_goals simp_all

/-- An end, as a value; and on which side of it an entry stands. -/
inductive End where
  | score (n : Int)
  | member (s : ByteArray)
  | far (k : Int)
  | noScore (n : Int)
  | noMember (s : ByteArray)
def End.v : End → Value
  | .score n => .iface 72 (.int .i64 n)
  | .member s => .iface 73 (.string s)
  | .far k => .iface 80 (.int .i64 k)
  | .noScore n => .iface 78 (.agg #[.iface 72 (.int .i64 n)])
  | .noMember s => .iface 78 (.agg #[.iface 73 (.string s)])
def End.side (m : ByteArray) (s : Int) : End → Int
  | .score n => cmpI s n
  | .member x => cmpB m x
  | .far k => cmpI 0 k
  | .noScore n => cmpI s n
  | .noMember x => cmpB m x
def End.isOut : End → Bool
  | .noScore _ => true
  | .noMember _ => true
  | _ => false
/-- What lets answers. -/
def End.lets (m : ByteArray) (s inner : Int) (x : End) : Bool := if x.isOut then x.side m s == inner else x.side m s != -inner

theorem side72 (a s : Int) (m : ByteArray) (w : World) : Calls Try.prog 72 #[.int .i64 a, .agg #[.string m, .int .i64 s]] w fun e w' => e = .returned (.int .i64 (cmpI s a)) ∧ Below w.heap.size w w' := by
  have H := fun a b w => Lib.hid (cmp73 a b w)
  go_enter Try.func72, Try.ntmps72
  go_wp2_with (go_at_call 73; refine (H _ _ _).out.mono ?_; rintro e w' ⟨rfl, rfl⟩)
  go_ret
  exact ⟨rfl, (Below.refl _ _).alloc (Nat.le_refl _) _⟩
theorem side75 (a : ByteArray) (s : Int) (m : ByteArray) (w : World) : Calls Try.prog 75 #[.string a, .agg #[.string m, .int .i64 s]] w fun e w' => e = .returned (.int .i64 (cmpB m a)) ∧ Below w.heap.size w w' := by
  have H := fun a b w => Lib.hid (cmp76 a b w)
  go_enter Try.func75, Try.ntmps75
  go_wp2_with (go_at_call 76; refine (H _ _ _).out.mono ?_; rintro e w' ⟨rfl, rfl⟩)
  go_ret
  exact ⟨rfl, (Below.refl _ _).alloc (Nat.le_refl _) _⟩
theorem side78 (a s : Int) (m : ByteArray) (w : World) : Calls Try.prog 78 #[.int .i64 a, .agg #[.string m, .int .i64 s]] w fun e w' => e = .returned (.int .i64 (cmpI 0 a)) ∧ Below w.heap.size w w' := by
  have H := fun a b w => Lib.hid (cmp79 a b w)
  go_enter Try.func78, Try.ntmps78
  go_wp2_with (go_at_call 79; refine (H _ _ _).out.mono ?_; rintro e w' ⟨rfl, rfl⟩)
  go_ret
  exact ⟨rfl, (Below.refl _ _).alloc (Nat.le_refl _) _⟩

/-- What is made ahead of a call, and behind it. -/
theorem below_two {w w1 : World} {o : Obj} (h : Below (w.alloc o).heap.size (w.alloc o) w1) (o' : Obj) : Below w.heap.size w (w1.alloc o') :=
  (((Below.refl _ _).alloc (Nat.le_refl _) o).trans (h.mono (by simp))).alloc (by have := h.size; simp at this; omega) o'
theorem as_not (T : TypeId) (h : T = 72 ∨ T = 73 ∨ T = 80) (u : Value) (W : World) : (Instr.typeAssert (.iface T u) 57 78 true).run Try.prog W = .ok (.tuple #[.agg #[.nilIface], .bool false]) W := by
  rcases h with rfl | rfl | rfl
  · kernel_rfl
  · kernel_rfl
  · kernel_rfl
theorem as_is (u : Value) (W : World) : (Instr.typeAssert (.iface 78 u) 57 78 true).run Try.prog W = .ok (.tuple #[u, .bool true]) W := by kernel_rfl

set_option maxRecDepth 100000 in
theorem lets_scoreUp (a s : Int) (m : ByteArray) (w : World) : Calls Try.prog 41 #[.iface 72 (.int .i64 a), .agg #[.string m, .int .i64 s], .int .i64 1] w fun e w' => e = .returned (.bool (cmpI s a != (-1))) ∧ Below w.heap.size w w' := by
  have H := fun (w : World) => Lib.hid (side72 a s m w)
  have t1 := fun u W => as_not 72 (by simp) u W
  go_enter Try.func41, Try.ntmps41
  go_wp2_with (first | (refine (H _).out.mono ?_; rintro e w1 ⟨rfl, hb⟩))
  go_ret
  exact ⟨rfl, below_two hb _⟩
set_option maxRecDepth 100000 in
theorem lets_scoreDown (a s : Int) (m : ByteArray) (w : World) : Calls Try.prog 41 #[.iface 72 (.int .i64 a), .agg #[.string m, .int .i64 s], .int .i64 (-1)] w fun e w' => e = .returned (.bool (cmpI s a != 1)) ∧ Below w.heap.size w w' := by
  have H := fun (w : World) => Lib.hid (side72 a s m w)
  have t1 := fun u W => as_not 72 (by simp) u W
  go_enter Try.func41, Try.ntmps41
  go_wp2_with (first | (refine (H _).out.mono ?_; rintro e w1 ⟨rfl, hb⟩))
  go_ret
  exact ⟨rfl, below_two hb _⟩
set_option maxRecDepth 100000 in
theorem lets_memberUp (a : ByteArray) (s : Int) (m : ByteArray) (w : World) : Calls Try.prog 41 #[.iface 73 (.string a), .agg #[.string m, .int .i64 s], .int .i64 1] w fun e w' => e = .returned (.bool (cmpB m a != (-1))) ∧ Below w.heap.size w w' := by
  have H := fun (w : World) => Lib.hid (side75 a s m w)
  have t1 := fun u W => as_not 73 (by simp) u W
  go_enter Try.func41, Try.ntmps41
  go_wp2_with (first | (refine (H _).out.mono ?_; rintro e w1 ⟨rfl, hb⟩))
  go_ret
  exact ⟨rfl, below_two hb _⟩
set_option maxRecDepth 100000 in
theorem lets_memberDown (a : ByteArray) (s : Int) (m : ByteArray) (w : World) : Calls Try.prog 41 #[.iface 73 (.string a), .agg #[.string m, .int .i64 s], .int .i64 (-1)] w fun e w' => e = .returned (.bool (cmpB m a != 1)) ∧ Below w.heap.size w w' := by
  have H := fun (w : World) => Lib.hid (side75 a s m w)
  have t1 := fun u W => as_not 73 (by simp) u W
  go_enter Try.func41, Try.ntmps41
  go_wp2_with (first | (refine (H _).out.mono ?_; rintro e w1 ⟨rfl, hb⟩))
  go_ret
  exact ⟨rfl, below_two hb _⟩
set_option maxRecDepth 100000 in
theorem lets_farUp (a s : Int) (m : ByteArray) (w : World) : Calls Try.prog 41 #[.iface 80 (.int .i64 a), .agg #[.string m, .int .i64 s], .int .i64 1] w fun e w' => e = .returned (.bool (cmpI 0 a != (-1))) ∧ Below w.heap.size w w' := by
  have H := fun (w : World) => Lib.hid (side78 a s m w)
  have t1 := fun u W => as_not 80 (by simp) u W
  go_enter Try.func41, Try.ntmps41
  go_wp2_with (first | (refine (H _).out.mono ?_; rintro e w1 ⟨rfl, hb⟩))
  go_ret
  exact ⟨rfl, below_two hb _⟩
set_option maxRecDepth 100000 in
theorem lets_farDown (a s : Int) (m : ByteArray) (w : World) : Calls Try.prog 41 #[.iface 80 (.int .i64 a), .agg #[.string m, .int .i64 s], .int .i64 (-1)] w fun e w' => e = .returned (.bool (cmpI 0 a != 1)) ∧ Below w.heap.size w w' := by
  have H := fun (w : World) => Lib.hid (side78 a s m w)
  have t1 := fun u W => as_not 80 (by simp) u W
  go_enter Try.func41, Try.ntmps41
  go_wp2_with (first | (refine (H _).out.mono ?_; rintro e w1 ⟨rfl, hb⟩))
  go_ret
  exact ⟨rfl, below_two hb _⟩
set_option maxRecDepth 100000 in
theorem lets_noScoreUp (a s : Int) (m : ByteArray) (w : World) : Calls Try.prog 41 #[.iface 78 (.agg #[.iface 72 (.int .i64 a)]), .agg #[.string m, .int .i64 s], .int .i64 1] w fun e w' => e = .returned (.bool (cmpI s a == 1)) ∧ Below w.heap.size w w' := by
  have H := fun (w : World) => Lib.hid (side72 a s m w)
  have t1 := fun u W => as_is u W
  go_enter Try.func41, Try.ntmps41
  go_wp2_with (first | (refine (H _).out.mono ?_; rintro e w1 ⟨rfl, hb⟩))
  go_ret
  exact ⟨rfl, below_two hb _⟩
set_option maxRecDepth 100000 in
theorem lets_noScoreDown (a s : Int) (m : ByteArray) (w : World) : Calls Try.prog 41 #[.iface 78 (.agg #[.iface 72 (.int .i64 a)]), .agg #[.string m, .int .i64 s], .int .i64 (-1)] w fun e w' => e = .returned (.bool (cmpI s a == (-1))) ∧ Below w.heap.size w w' := by
  have H := fun (w : World) => Lib.hid (side72 a s m w)
  have t1 := fun u W => as_is u W
  go_enter Try.func41, Try.ntmps41
  go_wp2_with (first | (refine (H _).out.mono ?_; rintro e w1 ⟨rfl, hb⟩))
  go_ret
  exact ⟨rfl, below_two hb _⟩
set_option maxRecDepth 100000 in
theorem lets_noMemberUp (a : ByteArray) (s : Int) (m : ByteArray) (w : World) : Calls Try.prog 41 #[.iface 78 (.agg #[.iface 73 (.string a)]), .agg #[.string m, .int .i64 s], .int .i64 1] w fun e w' => e = .returned (.bool (cmpB m a == 1)) ∧ Below w.heap.size w w' := by
  have H := fun (w : World) => Lib.hid (side75 a s m w)
  have t1 := fun u W => as_is u W
  go_enter Try.func41, Try.ntmps41
  go_wp2_with (first | (refine (H _).out.mono ?_; rintro e w1 ⟨rfl, hb⟩))
  go_ret
  exact ⟨rfl, below_two hb _⟩
set_option maxRecDepth 100000 in
theorem lets_noMemberDown (a : ByteArray) (s : Int) (m : ByteArray) (w : World) : Calls Try.prog 41 #[.iface 78 (.agg #[.iface 73 (.string a)]), .agg #[.string m, .int .i64 s], .int .i64 (-1)] w fun e w' => e = .returned (.bool (cmpB m a == (-1))) ∧ Below w.heap.size w w' := by
  have H := fun (w : World) => Lib.hid (side75 a s m w)
  have t1 := fun u W => as_is u W
  go_enter Try.func41, Try.ntmps41
  go_wp2_with (first | (refine (H _).out.mono ?_; rintro e w1 ⟨rfl, hb⟩))
  go_ret
  exact ⟨rfl, below_two hb _⟩
end Go.Proofs.Ytfnofnilcflcmaa
