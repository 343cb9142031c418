/- Ends of ranges: on which side of an end an entry stands. -/
import Derived.Test.YtpaphfofjfjdlaaGreatRows
import Derived.WalkKit
import Derived.WalkSpells
import Derived.WalkLawsBesides
import Derived.Deep.DeepCutAuto
import Derived.Deep.QuietTactic
import Derived.BigQuiet
import Derived.Deep.RegionHeld3
import Derived.Lib.Hide
namespace Go.Proofs.YtpaphfofjfjdlaaGreat.Bd
open Go.RowKit
attribute [local go_sem] Oper.semAt_some

def cmpI (a b : Int) : Int := if a < b then -1 else if b < a then 1 else 0
def cmpB (a b : ByteArray) : Int := if Op.bytesLess a.toList b.toList = true then -1 else if (a.toList == b.toList) = true then 0 else 1

theorem nan74 (a : Int) (w : World) : Calls Tryz.prog 216 #[.int .i64 a] w fun e w' => e = .returned (.bool false) ∧ w' = w := by
  go_enter Tryz.func216, Tryz.ntmps216
  go_wp2
  go_ret
  exact ⟨rfl, rfl⟩
theorem nan80 (a : Int) (w : World) : Calls Tryz.prog 222 #[.int .i64 a] w fun e w' => e = .returned (.bool false) ∧ w' = w := by
  go_enter Tryz.func222, Tryz.ntmps222
  go_wp2
  go_ret
  exact ⟨rfl, rfl⟩
theorem nan77 (a : ByteArray) (w : World) : Calls Tryz.prog 212 #[.string a] w fun e w' => e = .returned (.bool false) ∧ w' = w := by
  go_enter Tryz.func212, Tryz.ntmps212
  go_wp2
  go_ret
  exact ⟨rfl, rfl⟩

theorem ret_int {k : IntKind} {a b : Int} (h : a = b) : Ending.returned (.int k a) = .returned (.int k b) := by rw [h]

set_option maxHeartbeats 400000 in
theorem cmp73 (a b : Int) (w : World) : Calls Tryz.prog 215 #[.int .i64 a, .int .i64 b] w fun e w' => e = .returned (.int .i64 (cmpI a b)) ∧ w' = w := by
  have H := fun a w => Lib.hid (nan74 a w)
  go_enter Tryz.func215, Tryz.ntmps215
  go_wp2_with (go_at_call 216; refine (H _ _).out.mono ?_; rintro e w' ⟨rfl, rfl⟩)
  all_goals go_ret
  all_goals refine ⟨ret_int ?_, rfl⟩
  all_goals unfold cmpI
  all_goals (repeat' split)
  all_goals first | rfl | omega
set_option maxHeartbeats 400000 in
theorem cmp79 (a b : Int) (w : World) : Calls Tryz.prog 221 #[.int .i64 a, .int .i64 b] w fun e w' => e = .returned (.int .i64 (cmpI a b)) ∧ w' = w := by
  have H := fun a w => Lib.hid (nan80 a w)
  go_enter Tryz.func221, Tryz.ntmps221
  go_wp2_with (go_at_call 222; refine (H _ _).out.mono ?_; rintro e w' ⟨rfl, rfl⟩)
  all_goals go_ret
  all_goals refine ⟨ret_int ?_, rfl⟩
  all_goals unfold cmpI
  all_goals (repeat' split)
  all_goals first | rfl | omega
set_option maxHeartbeats 400000 in
theorem cmp76 (a b : ByteArray) (w : World) : Calls Tryz.prog 218 #[.string a, .string b] w fun e w' => e = .returned (.int .i64 (cmpB a b)) ∧ w' = w := by
  have H := fun a w => Lib.hid (nan77 a w)
  go_enter Tryz.func218, Tryz.ntmps218
  go_wp2_with (go_at_call 212; refine (H _ _).out.mono ?_; rintro e w' ⟨rfl, rfl⟩)
  all_goals go_ret
  all_goals refine ⟨ret_int ?_, rfl⟩
  all_goals unfold cmpB
  all_goals simp_all

/-- An end, as a value; and on which side of it an entry stands. -/
inductive End where
  | score (n : Int)
  | member (s : ByteArray)
  | far (k : Int)
  | noScore (n : Int)
  | noMember (s : ByteArray)
def End.v : End → Value
  | .score n => .iface 113 (.int .i64 n)
  | .member s => .iface 114 (.string s)
  | .far k => .iface 127 (.int .i64 k)
  | .noScore n => .iface 125 (.agg #[.iface 113 (.int .i64 n)])
  | .noMember s => .iface 125 (.agg #[.iface 114 (.string s)])
def End.side (m : ByteArray) (s : Int) : End → Int
  | .score n => cmpI s n
  | .member x => cmpB m x
  | .far k => cmpI 0 k
  | .noScore n => cmpI s n
  | .noMember x => cmpB m x
def End.isOut : End → Bool
  | .noScore _ => true
  | .noMember _ => true
  | _ => false
/-- What lets answers. -/
def End.lets (m : ByteArray) (s inner : Int) (x : End) : Bool := if x.isOut then x.side m s == inner else x.side m s != -inner

theorem side72 (a s : Int) (m : ByteArray) (w : World) : Calls Tryz.prog 214 #[.int .i64 a, .agg #[.string m, .int .i64 s]] w fun e w' => e = .returned (.int .i64 (cmpI s a)) ∧ Below w.heap.size w w' := by
  have H := fun a b w => Lib.hid (cmp73 a b w)
  go_enter Tryz.func214, Tryz.ntmps214
  go_wp2_with (go_at_call 215; refine (H _ _ _).out.mono ?_; rintro e w' ⟨rfl, rfl⟩)
  go_ret
  exact ⟨rfl, (Below.refl _ _).alloc (Nat.le_refl _) _⟩
theorem side75 (a : ByteArray) (s : Int) (m : ByteArray) (w : World) : Calls Tryz.prog 217 #[.string a, .agg #[.string m, .int .i64 s]] w fun e w' => e = .returned (.int .i64 (cmpB m a)) ∧ Below w.heap.size w w' := by
  have H := fun a b w => Lib.hid (cmp76 a b w)
  go_enter Tryz.func217, Tryz.ntmps217
  go_wp2_with (go_at_call 218; refine (H _ _ _).out.mono ?_; rintro e w' ⟨rfl, rfl⟩)
  go_ret
  exact ⟨rfl, (Below.refl _ _).alloc (Nat.le_refl _) _⟩
theorem side78 (a s : Int) (m : ByteArray) (w : World) : Calls Tryz.prog 220 #[.int .i64 a, .agg #[.string m, .int .i64 s]] w fun e w' => e = .returned (.int .i64 (cmpI 0 a)) ∧ Below w.heap.size w w' := by
  have H := fun a b w => Lib.hid (cmp79 a b w)
  go_enter Tryz.func220, Tryz.ntmps220
  go_wp2_with (go_at_call 221; refine (H _ _ _).out.mono ?_; rintro e w' ⟨rfl, rfl⟩)
  go_ret
  exact ⟨rfl, (Below.refl _ _).alloc (Nat.le_refl _) _⟩

/-- What is made ahead of a call, and behind it. -/
theorem below_two {w w1 : World} {o : Obj} (h : Below (w.alloc o).heap.size (w.alloc o) w1) (o' : Obj) : Below w.heap.size w (w1.alloc o') :=
  (((Below.refl _ _).alloc (Nat.le_refl _) o).trans (h.mono (by simp))).alloc (by have := h.size; simp at this; omega) o'
theorem as_not (T : TypeId) (h : T = 113 ∨ T = 114 ∨ T = 127) (u : Value) (W : World) : (Instr.typeAssert (.iface T u) 100 125 true).run Tryz.prog W = .ok (.tuple #[.agg #[.nilIface], .bool false]) W := by
  rcases h with rfl | rfl | rfl
  · kernel_rfl
  · kernel_rfl
  · kernel_rfl
theorem as_is (u : Value) (W : World) : (Instr.typeAssert (.iface 125 u) 100 125 true).run Tryz.prog W = .ok (.tuple #[u, .bool true]) W := by kernel_rfl

set_option maxRecDepth 100000 in
theorem lets_scoreUp (a s : Int) (m : ByteArray) (w : World) : Calls Tryz.prog 66 #[.iface 113 (.int .i64 a), .agg #[.string m, .int .i64 s], .int .i64 1] w fun e w' => e = .returned (.bool (cmpI s a != (-1))) ∧ Below w.heap.size w w' := by
  have H := fun (w : World) => Lib.hid (side72 a s m w)
  have t1 := fun u W => as_not 113 (by simp) u W
  go_enter Tryz.func66, Tryz.ntmps66
  go_wp2_with (first | (refine (H _).out.mono ?_; rintro e w1 ⟨rfl, hb⟩))
  go_ret
  exact ⟨rfl, below_two hb _⟩
set_option maxRecDepth 100000 in
theorem lets_scoreDown (a s : Int) (m : ByteArray) (w : World) : Calls Tryz.prog 66 #[.iface 113 (.int .i64 a), .agg #[.string m, .int .i64 s], .int .i64 (-1)] w fun e w' => e = .returned (.bool (cmpI s a != 1)) ∧ Below w.heap.size w w' := by
  have H := fun (w : World) => Lib.hid (side72 a s m w)
  have t1 := fun u W => as_not 113 (by simp) u W
  go_enter Tryz.func66, Tryz.ntmps66
  go_wp2_with (first | (refine (H _).out.mono ?_; rintro e w1 ⟨rfl, hb⟩))
  go_ret
  exact ⟨rfl, below_two hb _⟩
set_option maxRecDepth 100000 in
theorem lets_memberUp (a : ByteArray) (s : Int) (m : ByteArray) (w : World) : Calls Tryz.prog 66 #[.iface 114 (.string a), .agg #[.string m, .int .i64 s], .int .i64 1] w fun e w' => e = .returned (.bool (cmpB m a != (-1))) ∧ Below w.heap.size w w' := by
  have H := fun (w : World) => Lib.hid (side75 a s m w)
  have t1 := fun u W => as_not 114 (by simp) u W
  go_enter Tryz.func66, Tryz.ntmps66
  go_wp2_with (first | (refine (H _).out.mono ?_; rintro e w1 ⟨rfl, hb⟩))
  go_ret
  exact ⟨rfl, below_two hb _⟩
set_option maxRecDepth 100000 in
theorem lets_memberDown (a : ByteArray) (s : Int) (m : ByteArray) (w : World) : Calls Tryz.prog 66 #[.iface 114 (.string a), .agg #[.string m, .int .i64 s], .int .i64 (-1)] w fun e w' => e = .returned (.bool (cmpB m a != 1)) ∧ Below w.heap.size w w' := by
  have H := fun (w : World) => Lib.hid (side75 a s m w)
  have t1 := fun u W => as_not 114 (by simp) u W
  go_enter Tryz.func66, Tryz.ntmps66
  go_wp2_with (first | (refine (H _).out.mono ?_; rintro e w1 ⟨rfl, hb⟩))
  go_ret
  exact ⟨rfl, below_two hb _⟩
set_option maxRecDepth 100000 in
theorem lets_farUp (a s : Int) (m : ByteArray) (w : World) : Calls Tryz.prog 66 #[.iface 127 (.int .i64 a), .agg #[.string m, .int .i64 s], .int .i64 1] w fun e w' => e = .returned (.bool (cmpI 0 a != (-1))) ∧ Below w.heap.size w w' := by
  have H := fun (w : World) => Lib.hid (side78 a s m w)
  have t1 := fun u W => as_not 127 (by simp) u W
  go_enter Tryz.func66, Tryz.ntmps66
  go_wp2_with (first | (refine (H _).out.mono ?_; rintro e w1 ⟨rfl, hb⟩))
  go_ret
  exact ⟨rfl, below_two hb _⟩
set_option maxRecDepth 100000 in
theorem lets_farDown (a s : Int) (m : ByteArray) (w : World) : Calls Tryz.prog 66 #[.iface 127 (.int .i64 a), .agg #[.string m, .int .i64 s], .int .i64 (-1)] w fun e w' => e = .returned (.bool (cmpI 0 a != 1)) ∧ Below w.heap.size w w' := by
  have H := fun (w : World) => Lib.hid (side78 a s m w)
  have t1 := fun u W => as_not 127 (by simp) u W
  go_enter Tryz.func66, Tryz.ntmps66
  go_wp2_with (first | (refine (H _).out.mono ?_; rintro e w1 ⟨rfl, hb⟩))
  go_ret
  exact ⟨rfl, below_two hb _⟩
set_option maxRecDepth 100000 in
theorem lets_noScoreUp (a s : Int) (m : ByteArray) (w : World) : Calls Tryz.prog 66 #[.iface 125 (.agg #[.iface 113 (.int .i64 a)]), .agg #[.string m, .int .i64 s], .int .i64 1] w fun e w' => e = .returned (.bool (cmpI s a == 1)) ∧ Below w.heap.size w w' := by
  have H := fun (w : World) => Lib.hid (side72 a s m w)
  have t1 := fun u W => as_is u W
  go_enter Tryz.func66, Tryz.ntmps66
  go_wp2_with (first | (refine (H _).out.mono ?_; rintro e w1 ⟨rfl, hb⟩))
  go_ret
  exact ⟨rfl, below_two hb _⟩
set_option maxRecDepth 100000 in
theorem lets_noScoreDown (a s : Int) (m : ByteArray) (w : World) : Calls Tryz.prog 66 #[.iface 125 (.agg #[.iface 113 (.int .i64 a)]), .agg #[.string m, .int .i64 s], .int .i64 (-1)] w fun e w' => e = .returned (.bool (cmpI s a == (-1))) ∧ Below w.heap.size w w' := by
  have H := fun (w : World) => Lib.hid (side72 a s m w)
  have t1 := fun u W => as_is u W
  go_enter Tryz.func66, Tryz.ntmps66
  go_wp2_with (first | (refine (H _).out.mono ?_; rintro e w1 ⟨rfl, hb⟩))
  go_ret
  exact ⟨rfl, below_two hb _⟩
set_option maxRecDepth 100000 in
theorem lets_noMemberUp (a : ByteArray) (s : Int) (m : ByteArray) (w : World) : Calls Tryz.prog 66 #[.iface 125 (.agg #[.iface 114 (.string a)]), .agg #[.string m, .int .i64 s], .int .i64 1] w fun e w' => e = .returned (.bool (cmpB m a == 1)) ∧ Below w.heap.size w w' := by
  have H := fun (w : World) => Lib.hid (side75 a s m w)
  have t1 := fun u W => as_is u W
  go_enter Tryz.func66, Tryz.ntmps66
  go_wp2_with (first | (refine (H _).out.mono ?_; rintro e w1 ⟨rfl, hb⟩))
  go_ret
  exact ⟨rfl, below_two hb _⟩
set_option maxRecDepth 100000 in
theorem lets_noMemberDown (a : ByteArray) (s : Int) (m : ByteArray) (w : World) : Calls Tryz.prog 66 #[.iface 125 (.agg #[.iface 114 (.string a)]), .agg #[.string m, .int .i64 s], .int .i64 (-1)] w fun e w' => e = .returned (.bool (cmpB m a == (-1))) ∧ Below w.heap.size w w' := by
  have H := fun (w : World) => Lib.hid (side75 a s m w)
  have t1 := fun u W => as_is u W
  go_enter Tryz.func66, Tryz.ntmps66
  go_wp2_with (first | (refine (H _).out.mono ?_; rintro e w1 ⟨rfl, hb⟩))
  go_ret
  exact ⟨rfl, below_two hb _⟩
end Go.Proofs.YtpaphfofjfjdlaaGreat.Bd
