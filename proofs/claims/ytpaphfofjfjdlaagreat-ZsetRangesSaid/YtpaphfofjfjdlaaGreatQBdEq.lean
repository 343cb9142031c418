/- What is in a range: the program's and the reference's are one. -/
import Derived.Test.YtpaphfofjfjdlaaGreatQBdRefsEdge
import Derived.Lib.MinMaxS
namespace Go.Proofs.YtpaphfofjfjdlaaGreat.Bd
open Go.RowKit
attribute [local go_sem] Oper.semAt_some

theorem bl_eq (a b : ByteArray) : Op.bytesLess a.toList b.toList = decide (a.data.toList < b.data.toList) := by
  rw [Lib.toList_data, Lib.toList_data, bytesLess_eq]

theorem cmpI_val (a b : Int) : (cmpI a b == 1) = decide (b < a) ∧ (cmpI a b == -1) = decide (a < b) ∧ (cmpI a b != -1) = decide (b ≤ a) ∧ (cmpI a b != 1) = decide (a ≤ b) := by
  unfold cmpI
  split
  · rename_i h; refine ⟨?_, ?_, ?_, ?_⟩ <;> simp <;> omega
  · split
    · rename_i h; refine ⟨?_, ?_, ?_, ?_⟩ <;> simp <;> omega
    · refine ⟨?_, ?_, ?_, ?_⟩ <;> simp <;> omega
theorem up_score (n a : Int) (m : ByteArray) (o : Bool) (i : Int) : (scoreE a o i).upB m n = fromR n a o i := by
  unfold scoreE fromR
  split
  · rename_i h
    show (cmpI 0 i != -1) = _
    rw [(cmpI_val 0 i).2.2.1, decide_eq_decide]
    omega
  · rename_i h
    have h : i = 0 := by simpa using h
    subst h
    cases o
    · show (cmpI n a != -1) = _
      rw [(cmpI_val n a).2.2.1, decide_eq_decide]
      simp; omega
    · show (cmpI n a == 1) = _
      rw [(cmpI_val n a).1, decide_eq_decide]
      simp
theorem down_score (n a : Int) (m : ByteArray) (o : Bool) (i : Int) : (scoreE a o i).downB m n = toR n a o i := by
  unfold scoreE toR
  split
  · rename_i h
    show (cmpI 0 i != 1) = _
    rw [(cmpI_val 0 i).2.2.2, decide_eq_decide]
    omega
  · rename_i h
    have h : i = 0 := by simpa using h
    subst h
    cases o
    · show (cmpI n a != 1) = _
      rw [(cmpI_val n a).2.2.2, decide_eq_decide]
      simp; omega
    · show (cmpI n a == -1) = _
      rw [(cmpI_val n a).2.1, decide_eq_decide]
      simp
theorem inB_eq (n a b : Int) (oa ob : Bool) (ia ib : Int) : inB n (scoreE a oa ia) (scoreE b ob ib) = (fromR n a oa ia && toR n b ob ib) := by
  unfold inB; rw [up_score, down_score]

theorem lt_tri (a b : List UInt8) : a < b ∨ a = b ∨ b < a := by
  by_cases h : a < b
  · exact .inl h
  · by_cases h2 : b < a
    · exact .inr (.inr h2)
    · exact .inr (.inl (List.le_antisymm (List.not_lt.1 h2) (List.not_lt.1 h)))
theorem cmpB_val (a b : ByteArray) : (cmpB a b == 1) = decide (b.data.toList < a.data.toList) ∧ (cmpB a b == -1) = decide (a.data.toList < b.data.toList) ∧ (cmpB a b != -1) = decide (b.data.toList < a.data.toList ∨ a = b) ∧ (cmpB a b != 1) = decide (a.data.toList < b.data.toList ∨ a = b) := by
  unfold cmpB
  rw [bl_eq]
  by_cases h : a.data.toList < b.data.toList
  · have h2 : ¬ b.data.toList < a.data.toList := List.lt_asymm h
    have h3 : ¬ a = b := fun e => by subst e; exact List.lt_irrefl _ h
    simp [h, h2, h3]
  · by_cases h3 : a = b
    · subst h3; simp [h]
    · have h4 : (a.toList == b.toList) = false := by rw [beq_eq_false_iff_ne]; exact fun e => h3 (toList_inj e)
      have h2 : b.data.toList < a.data.toList := by
        rcases lt_tri a.data.toList b.data.toList with h' | h' | h'
        · exact absurd h' h
        · exact absurd (by cases a; cases b; simp_all [Array.toList_inj]) h3
        · exact h'
      simp [h, h2, h3, h4]
theorem up_member (n a : ByteArray) (s : Int) (o : Bool) (i : Int) : (memberE a o i).upB n s = fromRE n a o i := by
  unfold memberE fromRE
  split
  · rename_i h
    show (cmpI 0 i != -1) = _
    rw [(cmpI_val 0 i).2.2.1, decide_eq_decide]
    omega
  · rename_i h
    have h : i = 0 := by simpa using h
    subst h
    cases o
    · show (cmpB n a != -1) = _
      rw [(cmpB_val n a).2.2.1, decide_eq_decide]
      simp
    · show (cmpB n a == 1) = _
      rw [(cmpB_val n a).1, decide_eq_decide]
      simp
theorem down_member (n a : ByteArray) (s : Int) (o : Bool) (i : Int) : (memberE a o i).downB n s = toRE n a o i := by
  unfold memberE toRE
  split
  · rename_i h
    show (cmpI 0 i != 1) = _
    rw [(cmpI_val 0 i).2.2.2, decide_eq_decide]
    omega
  · rename_i h
    have h : i = 0 := by simpa using h
    subst h
    cases o
    · show (cmpB n a != 1) = _
      rw [(cmpB_val n a).2.2.2, decide_eq_decide]
      simp
    · show (cmpB n a == -1) = _
      rw [(cmpB_val n a).2.1, decide_eq_decide]
      simp
theorem inEdgeB_eq (n a b : ByteArray) (oa ob : Bool) (ia ib : Int) : inEdgeB n (memberE a oa ia) (memberE b ob ib) = (fromRE n a oa ia && toRE n b ob ib) := by
  unfold inEdgeB; rw [up_member, down_member]
end Go.Proofs.YtpaphfofjfjdlaaGreat.Bd
