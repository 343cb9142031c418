/- The document's own answers: IsSize, SizeFor, Slot. -/
import Derived.Test.YtbdcbakjkhpgdaaSize
namespace Go.Proofs.Ytbdcbakjkhpgdaa
open Go.RowKit Go.Shelf
attribute [local go_sem] Oper.semAt_some

theorem fit_last (n : Int) : fit n (sizeL.drop 14) = 65536 := by
  unfold fit
  show ((List.find? (fun (x : Nat) => decide (n ≤ (x : Int))) [65536]).getD 65536) = 65536
  cases h : List.find? (fun (x : Nat) => decide (n ≤ (x : Int))) [65536] with
  | none => rfl
  | some y => have := List.mem_of_find?_eq_some h; simp at this; subst this; rfl

theorem refSizeFor_any (n : Int) (w : World) : Calls Try.prog 18 #[.int .i64 n] w fun e w' => e = .returned (.int .i64 (sizeS n)) ∧ w' = w := by
  go_enter Try.func18, Try.ntmps18
  go_wp2
  go_loopw [3] (fun v wr => ∃ (i : Nat), v = .int .i64 (sizeN i) ∧ i ≤ 14 ∧ sizeS n = fit n (sizeL.drop i) ∧ wr = w)
    (fun v _ => 131072 - (intOf v).toNat)
  case atStart => exact ⟨0, rfl, by omega, rfl, rfl⟩
  case round =>
    obtain ⟨i, rfl, hi, hf, rfl⟩ := hrel
    by_cases h14 : i < 14
    · obtain ⟨hx, h1, h2, h3⟩ := sizeN_facts ⟨i, by omega⟩
      have h4 : sizeN i < 65536 := (show ∀ k : Fin 14, sizeN k.val < 65536 by decide +kernel) ⟨i, h14⟩
      simp only at hx h1 h2 h3
      have hy := fit_here n i _ hx
      have hz := fit_on n i _ hx
      have h4' : ((sizeN i : Nat) : Int) < 65536 := by omega
      have h2' : (4 : Int) ≤ ((sizeN i : Nat) : Int) := by omega
      have HF := Lib.hid hf
      clear hf
      by_cases hik : n ≤ ((sizeN i : Nat) : Int)
      · have hs : sizeS n = sizeN i := HF.out.trans (hy hik)
        have HS := Lib.hid hs
        clear hs hy hz HF h3 hx
        generalize sizeN i = s at *
        go_wp2
        go_ret
        exact ⟨by rw [HS.out]; rfl, rfl⟩
      · have HS := Lib.hid (HF.out.trans (hz hik))
        have H3 := Lib.hid h3
        clear hy hz HF h3 hx
        generalize sizeN i = s at *
        go_wp2
        refine ⟨⟨i + 1, ?_, by omega, HS.out, trivial⟩, ?_⟩
        · rw [H3.out]; congr 1
        · simp only [intOf]; omega
    · obtain rfl : i = 14 := by omega
      have hs : sizeS n = 65536 := hf.trans (fit_last n)
      have h14 : sizeN 14 = 65536 := by decide +kernel
      have HS := Lib.hid hs
      rw [show ((sizeN 14 : Nat) : Int) = 65536 by rw [h14]; rfl]
      clear hs hf h14
      go_wp2
      go_ret
      exact ⟨by rw [HS.out]; rfl, rfl⟩

theorem isS_iff (n : Int) : isS n = true ↔ ∃ x ∈ sizeL, (x : Int) = n := by
  constructor
  · intro h
    unfold isS sizeS fit at h
    have h2 := of_decide_eq_true h
    cases hh : sizeL.find? (fun (x : Nat) => decide (n ≤ (x : Int))) with
    | none => rw [hh] at h2; exact ⟨65536, by decide, h2⟩
    | some x => rw [hh] at h2; exact ⟨x, List.mem_of_find?_eq_some hh, h2⟩
  · rintro ⟨x, hx, rfl⟩
    have : ∀ x ∈ sizeL, isS (x : Int) = true := by decide +kernel
    exact this x hx

theorem refIsSize_any (n : Int) (w : World) : Calls Try.prog 16 #[.int .i64 n] w fun e w' => e = .returned (.bool (isS n)) ∧ w' = w := by
  go_enter Try.func16, Try.ntmps16
  go_wp2
  go_loopw [3] (fun v wr => ∃ (i : Nat), v = .int .i64 (sizeN i) ∧ i ≤ 15 ∧ (∀ j < i, (sizeN j : Int) ≠ n) ∧ wr = w)
    (fun v _ => 131072 - (intOf v).toNat)
  case atStart => exact ⟨0, rfl, by omega, fun j hj => by omega, rfl⟩
  case round =>
    obtain ⟨i, rfl, hi, hf, rfl⟩ := hrel
    have HF := Lib.hid hf
    clear hf
    by_cases h14 : i < 15
    · obtain ⟨hx, h1, h2, h3⟩ := sizeN_facts ⟨i, by omega⟩
      simp only at hx h1 h2 h3
      have h4' : ((sizeN i : Nat) : Int) ≤ 65536 := by omega
      have h2' : (4 : Int) ≤ ((sizeN i : Nat) : Int) := by omega
      by_cases hik : ((sizeN i : Nat) : Int) = n
      · have hs : isS n = true := (isS_iff n).2 ⟨_, List.mem_of_getElem? hx, hik⟩
        have HS := Lib.hid hs
        clear hs h3 hx
        generalize sizeN i = s at *
        subst hik
        go_wp2
        go_ret
        exact ⟨by rw [HS.out]; rfl, rfl⟩
      · have H3 := Lib.hid h3
        have HG : Hid (∀ j < i + 1, ((sizeN j : Nat) : Int) ≠ n) := Lib.hid (fun j hj => by
          by_cases e : j = i
          · rw [e]; exact hik
          · exact HF.out j (by omega))
        clear h3 hx HF
        generalize hg : sizeN i = s at *
        clear hg
        go_wp2
        refine ⟨⟨i + 1, ?_, by omega, HG.out, trivial⟩, ?_⟩
        · rw [H3.out]; congr 1
        · simp only [intOf]; omega
    · obtain rfl : i = 15 := by omega
      have hs : isS n = false := by
        cases hh : isS n with
        | false => rfl
        | true =>
          obtain ⟨x, hx, hx2⟩ := (isS_iff n).1 hh
          obtain ⟨j, hj, he⟩ := List.getElem_of_mem hx
          have hj15 : j < 15 := hj
          have := HF.out j hj15
          have hs := (sizeN_facts ⟨j, hj15⟩).1
          simp only at hs
          rw [List.getElem?_eq_getElem hj, he] at hs
          cases hs
          exact absurd hx2 this
      have h15 : sizeN 15 = 131072 := by decide +kernel
      have HS := Lib.hid hs
      rw [show ((sizeN 15 : Nat) : Int) = 131072 by rw [h15]; rfl]
      clear hs h15
      go_wp2
      go_ret
      exact ⟨by rw [HS.out]; rfl, rfl⟩

set_option maxHeartbeats 1000000 in
theorem refSlot_any (sum : Nat) (hs : sum < 4294967296) (n : Int) (w : World) : Calls Try.prog 11 #[.int .u32 sum, .int .i64 n] w fun e w' => e = .returned (slotS sum n) ∧ w' = w := by
  have HP := fun w => Lib.hid (refIsSize_any n w)
  unfold slotS
  by_cases h : isS n = true
  · have hp := isS_pos h
    rw [if_pos h]
    rw [h] at HP
    have g1 : (0 : Int) ≤ (sum : Int) := by omega
    have g2 : (sum : Int) ≤ 4294967295 := by omega
    have g3 : (0 : Int) ≤ (sum : Int) % n := Int.emod_nonneg _ (by omega)
    have g4 : (sum : Int) % n < n := Int.emod_lt_of_pos _ (by omega)
    clear h
    go_enter Try.func11, Try.ntmps11
    go_wp2_with fail
    refine (HP _).out.mono ?_
    rintro e w1 ⟨rfl, rfl⟩
    go_wp2
    go_ret2
    exact ⟨rfl, rfl⟩
  · have h' : isS n = false := by cases hh : isS n <;> simp_all
    rw [if_neg h]
    rw [h'] at HP
    clear h h'
    go_enter Try.func11, Try.ntmps11
    go_wp2_with fail
    refine (HP _).out.mono ?_
    rintro e w1 ⟨rfl, rfl⟩
    go_wp2
    go_ret2
    exact ⟨rfl, rfl⟩
end Go.Proofs.Ytbdcbakjkhpgdaa
