/- The walk of PackBack. -/
import Derived.Test.YtfladbfniihfmaaSame
namespace Go.Proofs.Ytfladbfniihfmaa
open Go.RowKit Go.Shelf
attribute [local go_sem] Oper.semAt_some

theorem rev_at (F : List Ent) (k : Nat) (hk : k < F.length) (hr : k < F.reverse.length) : F.reverse[k] = F[F.length - 1 - k]'(by omega) := by
  rw [List.getElem_reverse]

set_option maxRecDepth 100000 in
set_option maxHeartbeats 4000000 in
theorem backs_walk (a : Option Addr) (cap : Nat) (l : List Ent) (hl : l.length ≤ 9223372036854775807) (hz : ∀ e ∈ l, e.1.size ≤ 9223372036854775807 ∧ scoreOk e.2) (s0 : ByteArray) (hs0 : s0.size ≤ 9223372036854775807) (w : World) (hE : Ents w a l) :
    Calls Try.prog 4 #[.slice a l.length cap, .string s0] w fun e w' => e = .returned (.bool true) ∧ Below w.heap.size w w' := by
  have HS := fun w => Lib.hid (shown_any w)
  have HCUT := fun w => Lib.hid (cut_any s0 hs0 w)
  have HF := fun w hE => Lib.hid (few_any a cap l hl (fun e he => (hz e he).1) w hE)
  have hF := few_each (fun e he => (hz e he).2)
  have hFl := few_length l
  have HP := fun a cap w hE => Lib.hid (pack_any a cap (fewS l) (by omega) (fun e he => by have := hF e he; omega) w hE)
  have hps := packR_size (fewS l) (fun e he => (hF e he).2)
  have HE1 := fun w => Lib.hid (entriesF_any (packR (fewS l)).1 (by omega) w)
  have HK1 := fun w => Lib.hid (backF_any (packR (fewS l)).1 (by omega) w)
  have hsz := cutB_size s0
  generalize cutB s0 = S at *
  have HE2 := fun w => Lib.hid (entriesF_any S (by omega) w)
  have HK2 := fun w => Lib.hid (backF_any S (by omega) w)
  have hDl : (entsOf S).length ≤ 200 ∧ ∀ e ∈ entsOf S, e.1.size ≤ 64 := by
    cases hr : rightB S with
    | true => exact ⟨(valid_of hr).many, fun e he => ((valid_of hr).each e he).1⟩
    | false =>
      have : entsOf S = [] := by unfold entsOf; rw [packOf_wrong hr]; rfl
      rw [this]
      exact ⟨by simp, fun e he => by simp at he⟩
  have HP2 := fun a cap w hE => Lib.hid (pack_any a cap (entsOf S) (by omega) (fun e he => by have := hDl.2 e he; omega) w hE)
  have hc2 : (rightB S = true ∧ packR (entsOf S) = (S, 0)) ∨ rightB S = false := by
    cases hr : rightB S with
    | false => exact .inr rfl
    | true =>
      refine .inl ⟨rfl, ?_⟩
      have hv := valid_of hr
      rcases packR_cases (entsOf S) (fun e he => (hv.each e he).2) with ⟨_, h⟩ | ⟨_, (⟨_, h2⟩ | ⟨_, _, h2⟩)⟩
      · rw [h, ← pack_of_right hr]
      · have := hv.many; omega
      · have : fitS (entsOf S) = true := by
          unfold fitS
          rw [List.all_eq_true]
          intro e he
          have := (hv.each e he).1
          simpa using this
        rw [this] at h2; cases h2
  have hc : ((packR (fewS l)).2 = 0 ∧ rightB (packR (fewS l)).1 = true ∧ entsOf (packR (fewS l)).1 = fewS l) ∨ (¬ (packR (fewS l)).2 = 0 ∧ entsOf (packR (fewS l)).1 = []) := by
    rcases packR_cases (fewS l) (fun e he => (hF e he).2) with ⟨hv, h⟩ | ⟨h, h2⟩
    · rw [h]; exact .inl ⟨rfl, right_packB hv, ents_packB hv⟩
    · rw [h]; exact .inr ⟨by omega, by unfold entsOf; rw [packOf_wrong rightB_empty]; rfl⟩
  have HSM := fun a b ca cb w ha hb => Lib.hid (same_any a b ca cb (fewS l) (fewS l) (by omega) (by omega) w ha hb)
  rw [show decide (fewS l = fewS l) = true by simp] at HSM
  generalize (packR (fewS l)).2 = E at *
  generalize (packR (fewS l)).1 = P at *
  have hF70 := fun e he => (hF e he).1
  generalize fewS l = F at *
  have HEE := Lib.hid hE
  clear hE hF hz hps
  -- the list that Back tells: the other one from the end, or none
  obtain ⟨C, g, f, Bl, hC, hrest⟩ : ∃ (C : List Ent) (g f : Int) (Bl : List Ent), ((C = F.reverse ∧ F = Bl ∧ E = 0 ∧ g = 0 ∧ f = 0) ∨ (C = [] ∧ Bl = [] ∧ ¬ E = 0)) ∧
      (∀ w, Hid (Calls Try.prog 14 #[.string P] w fun e w' => ∃ r, e = .returned (.tuple #[r, .int .i64 f]) ∧ Own35 w' w.heap.size r Bl ∧ Below w.heap.size w w')) ∧
      (∀ w, Hid (Calls Try.prog 19 #[.string P] w fun e w' => ∃ r, e = .returned (.tuple #[r, .int .i64 g]) ∧ Own35 w' w.heap.size r C ∧ Below w.heap.size w w')) := by
    rcases hc with ⟨h1, h2, h3⟩ | ⟨h1, h3⟩
    · rw [h2, h3] at HE1 HK1
      exact ⟨F.reverse, 0, 0, F, .inl ⟨rfl, rfl, h1, rfl, rfl⟩, HE1, HK1⟩
    · rw [h3] at HE1 HK1
      exact ⟨[], _, _, [], .inr ⟨rfl, rfl, h1⟩, HE1, HK1⟩
  obtain ⟨HEN, HBK⟩ := hrest
  clear HE1 HK1 hc
  rcases hC with ⟨rfl, rfl, rfl, rfl, rfl⟩ | ⟨rfl, rfl, hE0⟩
  · go_enter Try.func4, Try.ntmps4
    go_wp2_with fail
    refine (HS _).out.mono ?_
    rintro e w1 ⟨rfl, hb1⟩
    have HEA := Lib.hid (HEE.out.below hb1)
    have HB1 := Lib.hid hb1
    clear hb1
    go_wp2_with fail
    refine (HF _ HEA.out).out.mono ?_
    rintro e w2 ⟨r2, rfl, ho2, hb2⟩
    have HB2 := Lib.hid (HB1.out.trans (hb2.mono HB1.out.size))
    obtain ⟨ra, rc, rfl, hEf⟩ := own35_form ho2
    have HE2f := Lib.hid hEf
    clear hb2 ho2 hEf
    go_wp2_with fail
    refine (HP _ _ _ HE2f.out).out.mono ?_
    rintro e w3 ⟨rfl, hb3⟩
    have HB3 := Lib.hid (HB2.out.trans (hb3.mono HB2.out.size))
    have HE3f := Lib.hid (HE2f.out.below hb3)
    clear hb3
    go_wp2_with fail
    refine (HEN _).out.mono ?_
    rintro e w4 ⟨r4, rfl, ho4, hb4⟩
    have HB4 := Lib.hid (HB3.out.trans (hb4.mono HB3.out.size))
    have HE4f := Lib.hid (HE3f.out.below hb4)
    obtain ⟨rb, rd, rfl, hEb⟩ := own35_form ho4
    have HE4b := Lib.hid hEb
    clear hb4 ho4 hEb
    go_wp2_with fail
    refine (HBK _).out.mono ?_
    rintro e w5 ⟨r5, rfl, ho5, hb5⟩
    have HB5 := Lib.hid (HB4.out.trans (hb5.mono HB4.out.size))
    have HE5f := Lib.hid (HE4f.out.below hb5)
    have HE5b := Lib.hid (HE4b.out.below hb5)
    obtain ⟨rg, rh, rfl, hEc⟩ := own35_form ho5
    have HE5c := Lib.hid hEc
    clear hb5 ho5 hEc
    go_wp2_with fail
    refine (HSM _ _ _ _ _ HE5b.out HE5f.out).out.mono ?_
    rintro e w6 ⟨rfl, hb6⟩
    have HB6 := Lib.hid (HB5.out.trans (hb6.mono HB5.out.size))
    have HE6f := Lib.hid (HE5f.out.below hb6)
    have HE6c := Lib.hid (HE5c.out.below hb6)
    clear hb6
    have hrl : F.reverse.length = F.length := List.length_reverse
    go_wp2_with fail
    go_loopw [12] (fun i wr => ∃ (k : Nat), i = .int .i64 k ∧ k ≤ F.length ∧ Below w6.heap.size w6 wr) (fun i _ => F.length - (intOf i).toNat)
    case atStart => exact ⟨0, rfl, Nat.zero_le _, Below.refl _ _⟩
    case round =>
      obtain ⟨k, rfl, hk, hb⟩ := hrel
      by_cases hlt : k < F.length
      · obtain ⟨g1, o1, e1, x0, x1⟩ := (HE6c.out.below hb) k (by rw [hrl]; exact hlt)
        have hlt2 : F.length - 1 - k < F.length := by omega
        obtain ⟨g2, o2, e2, y0, y1⟩ := (HE6f.out.below hb) (F.length - 1 - k) hlt2
        subst e1 e2
        rw [rev_at F k hlt (by rw [hrl]; exact hlt)] at x0 x1
        have hq := ent_same (F[F.length - 1 - k]'hlt2)
        generalize F[F.length - 1 - k]'hlt2 = x at *
        obtain ⟨m, s⟩ := x
        have HB := Lib.hid hb
        have hidx : (F.length : Int) - 1 - (k : Int) = ((F.length - 1 - k : Nat) : Int) := by omega
        have hidx2 : ((F.length - 1 - k : Nat) : Int) < F.length := by omega
        have hidx3 : (0 : Int) ≤ ((F.length - 1 - k : Nat) : Int) := by omega
        have hin : ((F.length : Int) - 1 - (k : Int)).toNat = F.length - 1 - k := by omega
        clear hb
        go_wp2_with fail
        go_quiet (fail)
        go_wp2_with fail
        go_roundw
        case rel => exact ⟨k + 1, by go_num, hlt, HB.out.trans ⟨rfl, rfl, rfl, Nat.le_refl _, fun _ _ => rfl⟩⟩
        case measure => simp [intOf]; omega
      · obtain rfl : k = F.length := by omega
        have HBX := Lib.hid (HB6.out.trans (hb.mono HB6.out.size))
        clear hb
        go_wp2_with fail
        refine (HCUT _).out.mono ?_
        rintro e w7 ⟨rfl, rfl⟩
        go_wp2_with fail
        refine (HE2 _).out.mono ?_
        rintro e w8 ⟨r8, rfl, ho8, hb8⟩
        have HB8 := Lib.hid (HBX.out.trans (hb8.mono HBX.out.size))
        obtain ⟨rj, rk, rfl, hEd⟩ := own35_form ho8
        have HE8 := Lib.hid hEd
        clear hb8 ho8 hEd
        rcases hc2 with ⟨hr, hpk⟩ | hr
        · rw [hpk] at HP2
          rw [hr] at HK2
          simp only [hr]
          go_wp2_with fail
          refine (HP2 _ _ _ HE8.out).out.mono ?_
          rintro e w9 ⟨rfl, hb9⟩
          have HB9 := Lib.hid (HB8.out.trans (hb9.mono HB8.out.size))
          clear hb9
          go_wp2_with fail
          refine (HCUT _).out.mono ?_
          rintro e w10 ⟨rfl, rfl⟩
          go_wp2_with fail
          refine (HK2 _).out.mono ?_
          rintro e w11 ⟨r11, rfl, _, hb11⟩
          have HB11 := Lib.hid (HB9.out.trans (hb11.mono HB9.out.size))
          clear hb11
          go_wp2_with fail
          refine (HCUT _).out.mono ?_
          rintro e w12 ⟨rfl, rfl⟩
          go_wp2_with fail
          go_ret
          exact ⟨rfl, HB11.out⟩
        · rw [hr] at HK2
          simp only [hr]
          go_wp2_with fail
          refine (HP2 _ _ _ HE8.out).out.mono ?_
          rintro e w9 ⟨rfl, hb9⟩
          have HB9 := Lib.hid (HB8.out.trans (hb9.mono HB8.out.size))
          clear hb9
          go_wp2_with fail
          refine (HCUT _).out.mono ?_
          rintro e w10 ⟨rfl, rfl⟩
          go_wp2_with fail
          refine (HK2 _).out.mono ?_
          rintro e w11 ⟨r11, rfl, _, hb11⟩
          have HB11 := Lib.hid (HB9.out.trans (hb11.mono HB9.out.size))
          clear hb11
          go_wp2_with fail
          go_ret
          exact ⟨rfl, HB11.out⟩
  · go_enter Try.func4, Try.ntmps4
    go_wp2_with fail
    refine (HS _).out.mono ?_
    rintro e w1 ⟨rfl, hb1⟩
    have HEA := Lib.hid (HEE.out.below hb1)
    have HB1 := Lib.hid hb1
    clear hb1
    go_wp2_with fail
    refine (HF _ HEA.out).out.mono ?_
    rintro e w2 ⟨r2, rfl, ho2, hb2⟩
    have HB2 := Lib.hid (HB1.out.trans (hb2.mono HB1.out.size))
    obtain ⟨ra, rc, rfl, hEf⟩ := own35_form ho2
    have HE2f := Lib.hid hEf
    clear hb2 ho2 hEf
    go_wp2_with fail
    refine (HP _ _ _ HE2f.out).out.mono ?_
    rintro e w3 ⟨rfl, hb3⟩
    have HB3 := Lib.hid (HB2.out.trans (hb3.mono HB2.out.size))
    have HE3f := Lib.hid (HE2f.out.below hb3)
    clear hb3
    go_wp2_with fail
    refine (HEN _).out.mono ?_
    rintro e w4 ⟨r4, rfl, ho4, hb4⟩
    have HB4 := Lib.hid (HB3.out.trans (hb4.mono HB3.out.size))
    have HE4f := Lib.hid (HE3f.out.below hb4)
    obtain ⟨rb, rd, rfl, hEb⟩ := own35_form ho4
    have HE4b := Lib.hid hEb
    clear hb4 ho4 hEb
    go_wp2_with fail
    refine (HBK _).out.mono ?_
    rintro e w5 ⟨r5, rfl, ho5, hb5⟩
    have HB5 := Lib.hid (HB4.out.trans (hb5.mono HB4.out.size))
    have HE5f := Lib.hid (HE4f.out.below hb5)
    have HE5b := Lib.hid (HE4b.out.below hb5)
    obtain ⟨rg, rh, rfl, hEc⟩ := own35_form ho5
    have HE5c := Lib.hid hEc
    clear hb5 ho5 hEc
    go_wp2_with fail
    go_loopw [12] (fun i wr => i = .int .i64 0 ∧ wr = w5) (fun _ _ => 0)
    case atStart => exact ⟨rfl, rfl⟩
    case round =>
      obtain ⟨rfl, rfl⟩ := hrel
      have HBX := HB5
      go_wp2_with fail
      refine (HCUT _).out.mono ?_
      rintro e w7 ⟨rfl, rfl⟩
      go_wp2_with fail
      refine (HE2 _).out.mono ?_
      rintro e w8 ⟨r8, rfl, ho8, hb8⟩
      have HB8 := Lib.hid (HBX.out.trans (hb8.mono HBX.out.size))
      obtain ⟨rj, rk, rfl, hEd⟩ := own35_form ho8
      have HE8 := Lib.hid hEd
      clear hb8 ho8 hEd
      rcases hc2 with ⟨hr, hpk⟩ | hr
      · rw [hpk] at HP2
        rw [hr] at HK2
        simp only [hr]
        go_wp2_with fail
        refine (HP2 _ _ _ HE8.out).out.mono ?_
        rintro e w9 ⟨rfl, hb9⟩
        have HB9 := Lib.hid (HB8.out.trans (hb9.mono HB8.out.size))
        clear hb9
        go_wp2_with fail
        refine (HCUT _).out.mono ?_
        rintro e w10 ⟨rfl, rfl⟩
        go_wp2_with fail
        refine (HK2 _).out.mono ?_
        rintro e w11 ⟨r11, rfl, _, hb11⟩
        have HB11 := Lib.hid (HB9.out.trans (hb11.mono HB9.out.size))
        clear hb11
        go_wp2_with fail
        refine (HCUT _).out.mono ?_
        rintro e w12 ⟨rfl, rfl⟩
        go_wp2_with fail
        go_ret
        exact ⟨rfl, HB11.out⟩
      · rw [hr] at HK2
        simp only [hr]
        go_wp2_with fail
        refine (HP2 _ _ _ HE8.out).out.mono ?_
        rintro e w9 ⟨rfl, hb9⟩
        have HB9 := Lib.hid (HB8.out.trans (hb9.mono HB8.out.size))
        clear hb9
        go_wp2_with fail
        refine (HCUT _).out.mono ?_
        rintro e w10 ⟨rfl, rfl⟩
        go_wp2_with fail
        refine (HK2 _).out.mono ?_
        rintro e w11 ⟨r11, rfl, _, hb11⟩
        have HB11 := Lib.hid (HB9.out.trans (hb11.mono HB9.out.size))
        clear hb11
        go_wp2_with fail
        go_ret
        exact ⟨rfl, HB11.out⟩
end Go.Proofs.Ytfladbfniihfmaa
