/- Heads of replies: what headOf, mark, said and fits answer. -/
import Derived.Test.YtjcgfbmkgfhnaaaDoorThrough
import Derived.Test.YtjcgfbmkgfhnaaaDoorBrk
namespace Go.Proofs.YtjcgfbmkgfhnaaaDoor
open Go.RowKit Go.Shelf

/-- A head. -/
inductive Hd where
  | none
  | simple (s : ByteArray)
  | failure (s : ByteArray)
  | number (n : Int)
  | length (n : Int)
  | nothing
  | count (n : Int)

def Hd.val : Hd → Value
  | .none => .nilIface
  | .simple s => .iface 68 (.string s)
  | .failure s => .iface 69 (.string s)
  | .number n => .iface 70 (.int .i64 n)
  | .length n => .iface 53 (.int .i64 n)
  | .nothing => .iface 72 (.agg #[])
  | .count n => .iface 73 (.int .i64 n)

/-- A reply's head. -/
def headS (x : El) : Hd :=
  if (x.n ≠ 0 ∧ x.k ≠ 3) ∨ (x.s.1.toList ≠ [] ∧ ¬ (x.k = 1 ∨ x.k = 2 ∨ x.k = 4)) ∨ (0 < x.len ∧ x.k ≠ 6) then .none
  else if x.k = 1 then .simple x.s.1
  else if x.k = 2 then .failure x.s.1
  else if x.k = 3 then .number x.n
  else if x.k = 4 then .length x.s.1.size
  else if x.k = 5 then .nothing
  else if x.k = 6 then .count x.len
  else .none

theorem ret_val {a b : Value} (h : a = b) : Ending.returned a = .returned b := by rw [h]

set_option maxRecDepth 100000 in
set_option maxHeartbeats 2000000 in
theorem headOf_any (x : El) (w : World) :
    Calls Tryd.prog 22 #[x.val] w fun e w' => e = .returned (headS x).val ∧ Below w.heap.size w w' := by
  obtain ⟨h, k, n, ⟨s, hs⟩, a, len, cap⟩ := x
  unfold maxLen at hs
  dsimp only [El.val] at *
  go_enter Tryd.func22, Tryd.ntmps22
  go_wp2
  all_goals go_ret
  all_goals refine ⟨ret_val ?_, (Below.refl _ _).alloc (Nat.le_refl _) _⟩
  all_goals (try subst_vars)
  all_goals (try simp only [beq_iff_eq, bne_iff_ne, ne_eq, beq_eq_false_iff_ne, bne_eq_false_iff_eq] at *)
  all_goals (try subst_vars)
  all_goals (try simp [headS, Hd.val, *])

end Go.Proofs.YtjcgfbmkgfhnaaaDoor
