/- The walk of PackGrows. -/
import Derived.Test.YtfladbfniihfmaaTurns
namespace Go.Proofs.Ytfladbfniihfmaa
open Go.RowKit Go.Shelf
attribute [local go_sem] Oper.semAt_some

theorem grows_step {F : List Ent} (hF : ∀ e ∈ F, scoreOk e.2) (k : Nat) (hk : k < F.length) (hv : Valid (F.take k)) :
    (insR (packB (F.take k)) k F[k] = (packB (F.take (k + 1)), 0) ∧ Valid (F.take (k + 1))) ∨ (¬ (insR (packB (F.take k)) k F[k]).2 = 0 ∧ ¬ (packR F).2 = 0) := by
  have he := ents_packB hv
  have hkl : (F.take k).length = k := by simp; omega
  have hx := List.getElem_mem hk
  unfold insR
  rw [if_pos (right_packB hv), he, hkl]
  by_cases h200 : k = 200
  · rw [if_pos h200]
    refine .inr ⟨by decide, ?_⟩
    unfold packR
    rw [if_pos (by omega)]
    decide
  · rw [if_neg h200]
    have hm := hv.many
    by_cases h64 : 64 < F[k].1.size
    · rw [if_pos (by omega)]
      refine .inr ⟨by decide, ?_⟩
      unfold packR
      split
      · decide
      · cases hf : fitS F with
        | false => rw [if_neg (by decide)]; decide
        | true => have := fitS_each hf _ hx; omega
    · rw [if_neg (by omega)]
      refine .inl ⟨?_, ?_⟩
      · rw [Int.toNat_natCast, List.take_of_length_le (show (F.take k).length ≤ k by omega), List.drop_of_length_le (show (F.take k).length ≤ k by omega), List.append_nil, List.take_succ_eq_append_getElem hk]
      · rw [List.take_succ_eq_append_getElem hk]
        refine ⟨by simp; omega, fun e hm => ?_⟩
        rcases List.mem_append.1 hm with hm | hm
        · exact hv.each e hm
        · obtain rfl := List.mem_singleton.1 hm
          exact ⟨by omega, hF _ hx⟩

set_option maxRecDepth 100000 in
set_option maxHeartbeats 4000000 in
theorem grows_walk (a : Option Addr) (cap : Nat) (l : List Ent) (hl : l.length ≤ 9223372036854775807) (hz : ∀ e ∈ l, e.1.size ≤ 9223372036854775807 ∧ scoreOk e.2) (w : World) (hE : Ents w a l) :
    Calls Try.prog 9 #[.slice a l.length cap] w fun e w' => e = .returned (.bool true) ∧ Below w.heap.size w w' := by
  have HS := fun w => Lib.hid (shown_any w)
  have HN := fun w => Lib.hid (new_any w)
  have HF := fun w hE => Lib.hid (few_any a cap l hl (fun e he => (hz e he).1) w hE)
  have hF := few_each (fun e he => (hz e he).2)
  have hFl := few_length l
  have HP := fun a cap w hE => Lib.hid (pack_any a cap (fewS l) (by omega) (fun e he => by have := hF e he; omega) w hE)
  generalize fewS l = F at *
  have hall : Valid F → packR F = (packB F, 0) := fun h => by
    rcases packR_cases F (fun e he => (hF e he).2) with ⟨_, h⟩ | ⟨_, (⟨_, h2⟩ | ⟨_, _, h2⟩)⟩
    · exact h
    · have := h.many; omega
    · have : fitS F = true := by
        unfold fitS
        rw [List.all_eq_true]
        intro e he
        have := (h.each e he).1
        simpa using this
      rw [this] at h2; cases h2
  have hstep := grows_step (fun e he => (hF e he).2)
  have HALL := Lib.hid hall
  have HSTEP := Lib.hid hstep
  have hF70 : ∀ e ∈ F, e.1.size ≤ 70 := fun e he => (hF e he).1
  have HF70 := Lib.hid hF70
  clear hall hstep hF hF70
  generalize hPR : packR F = PR at *
  obtain ⟨P, E⟩ := PR
  have HPR := Lib.hid hPR
  clear hPR
  have HEE := Lib.hid hE
  clear hE
  go_enter Try.func9, Try.ntmps9
  go_wp2_with fail
  refine (HS _).out.mono ?_
  rintro e w1 ⟨rfl, hb1⟩
  have HE1 := Lib.hid (HEE.out.below hb1)
  have HB1 := Lib.hid hb1
  clear hb1
  go_wp2_with fail
  refine (HF _ HE1.out).out.mono ?_
  rintro e w2 ⟨r, rfl, ho2, hb2⟩
  have HB2 := Lib.hid (HB1.out.trans (hb2.mono HB1.out.size))
  obtain ⟨ra, rc, rfl, hE2⟩ := own35_form ho2
  have HE2 := Lib.hid hE2
  clear hb2 ho2 hE2
  go_wp2_with fail
  refine (HP _ _ _ HE2.out).out.mono ?_
  rintro e w3 ⟨rfl, hb3⟩
  have HB3 := Lib.hid (HB2.out.trans (hb3.mono HB2.out.size))
  have HE3 := Lib.hid (HE2.out.below hb3)
  clear hb3
  go_wp2_with fail
  refine (HN _).out.mono ?_
  rintro e w3' ⟨rfl, rfl⟩
  go_wp2_with fail
  go_loopw [6, 7] (fun pv i wr => ∃ (k : Nat), i = .int .i64 k ∧ k ≤ F.length ∧ pv = .string (packB (F.take k)) ∧ Valid (F.take k) ∧ Below w3'.heap.size w3' wr)
    (fun _ i _ => F.length - (intOf i).toNat)
  case atStart => exact ⟨0, rfl, Nat.zero_le _, rfl, ⟨by simp, fun e he => by simp at he⟩, Below.refl _ _⟩
  case round =>
    obtain ⟨k, rfl, hk, rfl, hv, hb⟩ := hrel
    by_cases hlt : k < F.length
    · obtain ⟨b, off, rfl, c0, c1⟩ := (HE3.out.below hb) k hlt
      have hst := HSTEP.out k hlt hv
      have hxs := HF70.out _ (List.getElem_mem hlt)
      have HI := fun w => Lib.hid (insert_any (packB (F.take k)) (by have := valid_size hv; omega) (k : Int) (by omega) F[k] (by omega) w)
      have HB := Lib.hid hb
      have HST := Lib.hid hst
      clear hst hb
      generalize F[k] = x at *
      obtain ⟨m, s⟩ := x
      simp only at c0 c1 hxs HI
      have hst := HST.out
      clear HST
      generalize insR (packB (F.take k)) (k : Int) (m, s) = R at *
      obtain ⟨Q, f⟩ := R
      simp only at HI hst
      rcases hst with ⟨hst, hv1⟩ | ⟨hf, hPE⟩
      · simp only [Prod.mk.injEq] at hst
        obtain ⟨rfl, rfl⟩ := hst
        have HV1 := Lib.hid hv1
        clear hv1
        go_wp2_with fail
        refine (HI _).out.mono ?_
        rintro e w5 ⟨rfl, hb5⟩
        have HB5 := Lib.hid (HB.out.trans (hb5.mono HB.out.size))
        clear hb5
        go_wp2_with fail
        exact ⟨⟨k + 1, by go_num, hlt, rfl, HV1.out, HB5.out⟩, by simp [intOf]; omega⟩
      · go_wp2_with fail
        refine (HI _).out.mono ?_
        rintro e w5 ⟨rfl, hb5⟩
        have HB5 := Lib.hid (HB.out.trans (hb5.mono HB.out.size))
        clear hb5
        go_wp2_with fail
        go_ret
        refine ⟨?_, HB3.out.trans (HB5.out.mono HB3.out.size)⟩
        show Ending.returned (Value.bool (E != 0)) = _
        rw [show (E != 0) = true by simpa using hPE]
    · obtain rfl : k = F.length := by omega
      rw [List.take_length] at hv
      have hpr := HALL.out hv
      simp only [Prod.mk.injEq] at hpr
      obtain ⟨rfl, rfl⟩ := hpr
      simp only [List.take_length]
      have HB := Lib.hid hb
      clear hb
      go_wp2_with fail
      go_ret
      exact ⟨rfl, HB3.out.trans (HB.out.mono HB3.out.size)⟩
end Go.Proofs.Ytfladbfniihfmaa
