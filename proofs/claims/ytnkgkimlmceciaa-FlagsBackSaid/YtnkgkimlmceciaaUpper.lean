/- A text in capitals: the reference's. -/
import Derived.Test.YtnkgkimlmceciaaRows2
namespace Go.Proofs.Ytnkgkimlmceciaa
open Go.RowKit Go.Shelf
attribute [local go_sem] Oper.semAt_some

/-- A text in capitals. -/
def upT (s : ByteArray) : ByteArray := ⟨(upL s).toArray⟩
theorem upL_len (s : ByteArray) : (upL s).length = s.size := by unfold upL; rw [List.length_map, Array.length_toList]; rfl
theorem up_step (s : ByteArray) (k : Nat) (h : k < s.size) : cells8 ((upL s).take (k + 1)) = cells8 ((upL s).take k) ++ [.int .u8 ((upB s[k]).toNat : Int)] := by
  have e1 : (upL s)[k]? = some (upB s[k]) := by
    unfold upL
    rw [List.getElem?_map, List.getElem?_eq_getElem (by rw [Array.length_toList]; exact h), get_b s k h]; rfl
  obtain ⟨hi, he⟩ := List.getElem?_eq_some_iff.1 e1
  rw [List.take_succ_eq_append_getElem hi, he]
  unfold cells8
  rw [List.map_append]; rfl

set_option maxRecDepth 100000 in
set_option maxHeartbeats 4000000 in
theorem upper_any (s : ByteArray) (hs : s.size ≤ 100000000000000) (w : World) : Calls Try.prog 24 #[.string s] w fun e w' => e = .returned (.string (upT s)) ∧ Below w.heap.size w w' := by
  go_enter Try.func24, Try.ntmps24
  go_wp2
  go_loopw [3, 4] (fun r i wr => ∃ k : Nat, i = .int .i64 k ∧ k ≤ s.size ∧ Below w.heap.size w wr ∧ wr.ownsRow w.heap.size 5 1 r k (cells8 ((upL s).take k))) (fun _ i _ => s.size - (intOf i).toNat)
  case atStart => exact ⟨0, rfl, by omega, Below.refl _ _, World.ownsRow_nil _ _ _ _⟩
  case round =>
    obtain ⟨k, rfl, hk, hbr, hown⟩ := hrel
    have hz := hbr.size
    by_cases hlt : k < s.size
    · have hst := up_step s k hlt
      have hb2 := upB_nat s[k]
      have hlt2 : (k : Int) < s.size := by omega
      have hb3 := (s[k]).toNat_lt
      obtain ⟨g, cap, W7, hrun, h7, hg7⟩ := app5 hown hz (by omega) ((upB s[k]).toNat : Int)
      rw [← hst] at h7
      have H7 := Lib.hid h7
      have HG := Lib.hid (grown_below ((hbr.trans ((Below.refl _ _).alloc (Nat.le_refl _) _ |>.mono hz))) hg7 (World.ownsRow.alloc hown _) (Nat.le_refl _))
      clear hst h7 hg7 hbr hown
      by_cases hc : 97 ≤ (s[k]).toNat ∧ (s[k]).toNat ≤ 122
      · rw [if_pos hc] at hb2
        have e : ((upB s[k]).toNat : Int) = ((s[k]).toNat : Int) - 32 := by omega
        rw [e] at hrun
        obtain ⟨hc1, hc2⟩ := hc
        have hc1' : (97 : Int) ≤ ((s[k]).toNat : Int) := by omega
        have hc2' : ((s[k]).toNat : Int) ≤ 122 := by omega
        clear e hb2
        go_wp2_with (at_builtin; refine wpList_append_ran rfl _ _ 59 59 rfl rfl rfl hrun ?_; clear hrun)
        exact ⟨⟨k + 1, by go_num, hlt, HG.out, H7.out⟩, by simp [intOf]; omega⟩
      · rw [if_neg hc] at hb2
        rw [hb2] at hrun
        clear hb2
        by_cases hc1 : 97 ≤ (s[k]).toNat
        · have hc1' : (97 : Int) ≤ ((s[k]).toNat : Int) := by omega
          have hc2' : ¬ ((s[k]).toNat : Int) ≤ 122 := by omega
          clear hc hc1
          go_wp2_with (at_builtin; refine wpList_append_ran rfl _ _ 59 59 rfl rfl rfl hrun ?_; clear hrun)
          exact ⟨⟨k + 1, by go_num, hlt, HG.out, H7.out⟩, by simp [intOf]; omega⟩
        · have hc1' : ¬ (97 : Int) ≤ ((s[k]).toNat : Int) := by omega
          clear hc hc1
          go_wp2_with (at_builtin; refine wpList_append_ran rfl _ _ 59 59 rfl rfl rfl hrun ?_; clear hrun)
          exact ⟨⟨k + 1, by go_num, hlt, HG.out, H7.out⟩, by simp [intOf]; omega⟩
    · obtain rfl : k = s.size := by omega
      have hbr2 := hbr
      rw [List.take_of_length_le (by rw [upL_len]; exact Nat.le_refl _)] at hown
      rw [← upL_len s] at hown
      have ht := row_text hown
      have HB := Lib.hid hbr
      have hlt2 : ¬ (s.size : Int) < s.size := by omega
      clear hbr hbr2 hown
      go_wp2
      go_ret
      exact ⟨rfl, HB.out⟩
end Go.Proofs.Ytnkgkimlmceciaa
