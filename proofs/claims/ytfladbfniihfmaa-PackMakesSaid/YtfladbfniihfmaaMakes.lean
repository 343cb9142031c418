/- The walk of PackMakes. -/
import Derived.Test.YtfladbfniihfmaaSame
import Derived.Test.YtfladbfniihfmaaRefPack
import Derived.Test.YtfladbfniihfmaaRefEnts
namespace Go.Proofs.Ytfladbfniihfmaa
open Go.RowKit Go.Shelf
attribute [local go_sem] Oper.semAt_some

set_option maxRecDepth 100000 in
set_option maxHeartbeats 4000000 in
theorem makes_walk (a : Option Addr) (cap : Nat) (l : List Ent) (hl : l.length ≤ 9223372036854775807) (hz : ∀ e ∈ l, e.1.size ≤ 9223372036854775807 ∧ scoreOk e.2) (s0 : ByteArray) (hs0 : s0.size ≤ 9223372036854775807) (w : World) (hE : Ents w a l) :
    Calls Try.prog 3 #[.slice a l.length cap, .string s0] w fun e w' => e = .returned (.bool true) ∧ Below w.heap.size w w' := by
  have HS := fun w => Lib.hid (shown_any w)
  have HCUT := fun w => Lib.hid (cut_any s0 hs0 w)
  have HF := fun w hE => Lib.hid (few_any a cap l hl (fun e he => (hz e he).1) w hE)
  have hF := few_each (fun e he => (hz e he).2)
  have hFl := few_length l
  have HP := fun a cap w hE => Lib.hid (pack_any a cap (fewS l) (by omega) (fun e he => by have := hF e he; omega) w hE)
  have HR := fun a cap w hE => Lib.hid (refPack_ok a cap (fewS l) (fun e he => by have := hF e he; omega) (by omega) w hE)
  have hsz := cutB_size s0
  generalize cutB s0 = S at *
  have HE2 := fun w => Lib.hid (entriesF_any S (by omega) w)
  have HRE := fun w => Lib.hid (refEnts_any S (by omega) w)
  have HRT := fun w => Lib.hid (right_any S (by omega) w)
  have hDl : (entsOf S).length ≤ 200 := by
    cases hr : rightB S with
    | true => exact (valid_of hr).many
    | false =>
      have : entsOf S = [] := by unfold entsOf; rw [packOf_wrong hr]; rfl
      rw [this]
      simp
  have HSM := fun a b ca cb w ha hb => Lib.hid (same_any a b ca cb (entsOf S) (entsOf S) (by omega) (by omega) w ha hb)
  rw [show decide (entsOf S = entsOf S) = true by simp] at HSM
  obtain ⟨er, b, her, hb, hbe⟩ : ∃ (er : Int) (b : Bool), er = (if rightB S then 0 else 50) ∧ b = rightB S ∧ ((b = true ∧ er = 0) ∨ (b = false ∧ er = 50)) := by
    cases rightB S with
    | true => exact ⟨0, true, rfl, rfl, .inl ⟨rfl, rfl⟩⟩
    | false => exact ⟨50, false, rfl, rfl, .inr ⟨rfl, rfl⟩⟩
  rw [← her] at HE2 HRE
  rw [← hb] at HRT
  clear her hb
  generalize (packR (fewS l)).2 = E at *
  generalize (packR (fewS l)).1 = P at *
  generalize fewS l = F at *
  generalize entsOf S = D at *
  have HEE := Lib.hid hE
  clear hE hF hz
  rcases hbe with ⟨rfl, rfl⟩ | ⟨rfl, rfl⟩
  all_goals (
    go_enter Try.func3, Try.ntmps3
    go_wp2_with fail
    refine (HS _).out.mono ?_
    rintro e w1 ⟨rfl, hb1⟩
    have HEA := Lib.hid (HEE.out.below hb1)
    have HB1 := Lib.hid hb1
    clear hb1
    go_wp2_with fail
    refine (HF _ HEA.out).out.mono ?_
    rintro e w2 ⟨r2, rfl, ho2, hb2⟩
    have HB2 := Lib.hid (HB1.out.trans (hb2.mono HB1.out.size))
    have HEA2 := Lib.hid (HEA.out.below hb2)
    obtain ⟨ra, rc, rfl, hEf⟩ := own35_form ho2
    have HE2f := Lib.hid hEf
    clear hb2 ho2 hEf
    go_wp2_with fail
    refine (HP _ _ _ HE2f.out).out.mono ?_
    rintro e w3 ⟨rfl, hb3⟩
    have HB3 := Lib.hid (HB2.out.trans (hb3.mono HB2.out.size))
    have HEA3 := Lib.hid (HEA2.out.below hb3)
    clear hb3
    go_wp2_with fail
    refine (HF _ HEA3.out).out.mono ?_
    rintro e w4 ⟨r4, rfl, ho4, hb4⟩
    have HB4 := Lib.hid (HB3.out.trans (hb4.mono HB3.out.size))
    obtain ⟨rb, rd, rfl, hEg⟩ := own35_form ho4
    have HE4f := Lib.hid hEg
    clear hb4 ho4 hEg
    go_wp2_with fail
    refine (HR _ _ _ HE4f.out).out.mono ?_
    rintro e w5 ⟨rfl, hb5⟩
    have HB5 := Lib.hid (HB4.out.trans (hb5.mono HB4.out.size))
    clear hb5
    go_wp2_with fail
    refine (HCUT _).out.mono ?_
    rintro e w5a ⟨rfl, rfl⟩
    go_wp2_with fail
    refine (HE2 _).out.mono ?_
    rintro e w6 ⟨r6, rfl, ho6, hb6⟩
    have HB6 := Lib.hid (HB5.out.trans (hb6.mono HB5.out.size))
    obtain ⟨rg, rh, rfl, hEh⟩ := own35_form ho6
    have HE6 := Lib.hid hEh
    clear hb6 ho6 hEh
    go_wp2_with fail
    refine (HCUT _).out.mono ?_
    rintro e w6a ⟨rfl, rfl⟩
    go_wp2_with fail
    refine (HRE _).out.mono ?_
    rintro e w7 ⟨r7, rfl, ho7, hb7⟩
    have HB7 := Lib.hid (HB6.out.trans (hb7.mono HB6.out.size))
    have HE67 := Lib.hid (HE6.out.below hb7)
    obtain ⟨ri, rj, rfl, hEi⟩ := own35_form ho7
    have HE7 := Lib.hid hEi
    clear hb7 ho7 hEi
    go_wp2_with fail
    refine (HSM _ _ _ _ _ HE67.out HE7.out).out.mono ?_
    rintro e w8 ⟨rfl, hb8⟩
    have HB8 := Lib.hid (HB7.out.trans (hb8.mono HB7.out.size))
    clear hb8
    go_wp2_with fail
    refine (HCUT _).out.mono ?_
    rintro e w8a ⟨rfl, rfl⟩
    go_wp2_with fail
    refine (HRT _).out.mono ?_
    rintro e w9 ⟨rfl, hb9⟩
    have HB9 := Lib.hid (HB8.out.trans (hb9.mono HB8.out.size))
    clear hb9
    go_wp2_with fail
    go_ret
    exact ⟨rfl, HB9.out⟩)
end Go.Proofs.Ytfladbfniihfmaa
