/- LfuLeast, LfuFirst: their walks. -/
import Derived.Test.YtpjggdmfgoajbaaLeasts
namespace Go.Proofs.Ytpjggdmfgoajbaa
open Go.RowKit Go.Shelf
attribute [local go_sem] Oper.semAt_some
attribute [local go_sem] field0

theorem Uses.take {W : World} {a : Option Addr} {l : List Use} (h : Uses W a l) (n : Nat) : Uses W a (l.take n) := fun i hi => by
  obtain ⟨b, off, h1, h2, h3⟩ := h i (by simp at hi; omega)
  exact ⟨b, off, h1, by rw [List.getElem_take]; exact h2, by rw [List.getElem_take]; exact h3⟩

set_option maxRecDepth 100000 in
set_option maxHeartbeats 1000000 in
/-- LfuLeast. -/
theorem lfuLeast_walk (l : List Use) (hl : ∀ u ∈ l, I64U u) (hz : l.length ≤ 9223372036854775807) (now : Int) (hn : I64 now) (a : Option Addr) (cap : Nat) (hcap : l.length ≤ cap) (w : World) (hU : Uses w a l) :
    Calls Try.prog 4 #[.slice a l.length cap, .int .i64 now] w fun e w' => e = .returned (.bool true) ∧ Below w.heap.size w w' := by
  have HS := fun w => Lib.hid (shown_any w)
  by_cases hlen : l.length ≤ 50
  · have HA := fun w hU => Lib.hid (leasts_any l hl hz now hn a cap w hU)
    have HB := fun w hU => Lib.hid (refLeast_any l hz now hn a cap w hU)
    have HU := Lib.hid hU
    generalize leastA l now = la at *
    generalize leastE l now = le at *
    clear hU hl
    go_enter Try.func4, Try.ntmps4
    go_wp2_with fail
    refine (HS _).out.mono ?_
    rintro e w1 ⟨rfl, hb⟩
    have B1 := Lib.hid hb
    clear hb
    go_wp2_with fail
    refine (HA _ (HU.out.below B1.out)).out.mono ?_
    rintro e w2 ⟨rfl, hb⟩
    have B2 := Lib.hid (B1.out.trans (hb.mono B1.out.size))
    clear hb
    go_wp2_with fail
    refine (HB _ (HU.out.below B2.out)).out.mono ?_
    rintro e w3 ⟨rfl, hb⟩
    have B3 := Lib.hid (B2.out.trans (hb.mono B2.out.size))
    clear hb
    go_wp2
    go_ret
    exact ⟨by simp, B3.out⟩
  · have ht : (l.take 50).length = 50 := by simp; omega
    have HA := fun w hU => Lib.hid (leasts_any (l.take 50) (fun u hu => hl u (List.mem_of_mem_take hu)) (by omega) now hn a cap w hU)
    have HB := fun w hU => Lib.hid (refLeast_any (l.take 50) (by omega) now hn a cap w hU)
    have HU := Lib.hid (hU.take 50)
    rw [ht] at HA HB
    generalize leastA (l.take 50) now = la at *
    generalize leastE (l.take 50) now = le at *
    have hlen2 : (50 : Int) < l.length := by omega
    clear hU hl ht
    go_enter Try.func4, Try.ntmps4
    go_wp2_with fail
    refine (HS _).out.mono ?_
    rintro e w1 ⟨rfl, hb⟩
    have B1 := Lib.hid hb
    clear hb
    go_wp2_with fail
    refine (HA _ (HU.out.below B1.out)).out.mono ?_
    rintro e w2 ⟨rfl, hb⟩
    have B2 := Lib.hid (B1.out.trans (hb.mono B1.out.size))
    clear hb
    go_wp2_with fail
    refine (HB _ (HU.out.below B2.out)).out.mono ?_
    rintro e w3 ⟨rfl, hb⟩
    have B3 := Lib.hid (B2.out.trans (hb.mono B2.out.size))
    clear hb
    go_wp2
    go_ret
    exact ⟨by simp, B3.out⟩

theorem least_is (xs : List Int) (hne : 0 < xs.length) : IsLeast xs (leastN xs) := by
  have all : ∀ i, i ≤ xs.length → ∃ p f, PartR xs i p f := by
    intro i
    induction i with
    | zero => exact fun _ => ⟨-1, 0, .inl ⟨rfl, rfl⟩⟩
    | succ i ih =>
      intro hi
      obtain ⟨p, f, h⟩ := ih (by omega)
      have hx : xs[i]? = some xs[i] := List.getElem?_eq_getElem (by omega)
      by_cases h1 : p < 0 ∨ xs[i] < f
      · exact ⟨_, _, h.less hx h1⟩
      · exact ⟨_, _, h.more hx (by omega) (by omega)⟩
  obtain ⟨p, f, h⟩ := all xs.length (Nat.le_refl _)
  rcases h with ⟨h, _⟩ | ⟨q, h, h1, h2, h3, h4, h5⟩
  · omega
  · have hq : IsLeast xs q := ⟨h, fun j hj => by rw [h3]; exact h4 j hj hj, fun j hj => by rw [h3]; exact h5 j hj⟩
    rw [hq.eq]; exact hq
/-- What a law's loop over the uses asks. -/
theorem first_cases {l : List Use} {now : Int} (hne : 0 < l.length) (k : Nat) (h : k < l.length) :
    ∃ hp : leastN (cntsU l now) < l.length, ¬ cntU l[k] now < cntU l[leastN (cntsU l now)] now ∧ (k < leastN (cntsU l now) → (cntU l[k] now == cntU l[leastN (cntsU l now)] now) = false) := by
  have hI := least_is (cntsU l now) (by rw [cnts_len]; exact hne)
  have hlt := hI.lt
  have hle := hI.le k (by rw [cnts_len]; exact h)
  have hfi := hI.first k
  generalize leastN (cntsU l now) = p at *
  unfold cntsU at hlt hle hfi
  simp only [List.length_map, List.getElem_map] at hlt hle hfi
  exact ⟨hlt, by omega, fun hkp => by have := hfi hkp; simp; omega⟩

set_option maxRecDepth 100000 in
set_option maxHeartbeats 4000000 in
/-- LfuFirst. -/
theorem first_walk (l : List Use) (hl : ∀ u ∈ l, I64U u) (hz : l.length ≤ 9223372036854775807) (now : Int) (hn : I64 now) (a : Option Addr) (cap : Nat) (hcap : l.length ≤ cap) (w : World) (hU : Uses w a l) :
    Calls Try.prog 7 #[.slice a l.length cap, .int .i64 now] w fun e w' => e = .returned (.bool true) ∧ Below w.heap.size w w' := by
  have HS := fun w => Lib.hid (shown_any w)
  by_cases hlen : l.length ≤ 50
  · obtain ⟨l2, hz2, hU2, hI2⟩ : ∃ l2 : List Use, l2.length = l.length ∧ Uses w a l2 ∧ ∀ u ∈ l2, I64U u := ⟨l, rfl, hU, hl⟩
    have HA := fun w hU => Lib.hid (leasts_any l2 hI2 (by omega) now hn a cap w hU)
    have HC := fun u (h : I64U u) w => Lib.hid (count_any u h now hn w)
    rw [hz2] at HA
    unfold leastA leastE at HA
    cases hok : leastOk l2 now with
    | false =>
      rw [hok] at HA
      simp only [Bool.false_eq_true, if_false] at HA
      have HU := Lib.hid hU2
      clear hU hl hz2 hU2 hI2 hok HC
      go_enter Try.func7, Try.ntmps7
      go_wp2_with fail
      refine (HS _).out.mono ?_
      rintro e w1 ⟨rfl, hb⟩
      have B1 := Lib.hid hb
      clear hb
      go_wp2_with fail
      refine (HA _ (HU.out.below B1.out)).out.mono ?_
      rintro e w2 ⟨rfl, hb⟩
      have B2 := Lib.hid (B1.out.trans (hb.mono B1.out.size))
      clear hb
      go_wp2
      go_ret
      exact ⟨rfl, B2.out⟩
    | true =>
      rw [hok] at HA
      simp only [if_true] at HA
      obtain ⟨hne, hw⟩ : 0 < l2.length ∧ anyW l2 now = false := by
        unfold leastOk at hok
        cases l2 with
        | nil => simp at hok
        | cons x r => exact ⟨by simp, by simpa using hok⟩
      have hkn := all_of hw hn
      have HKC := Lib.hid (fun u (h : u ∈ l2) => show cntN u now = cntU u now ∧ errN u now = 0 from by
        have h1 : okB u now = true := by
          unfold anyW at hw
          have := (List.any_eq_false.1 hw) u h
          unfold okB; simpa using this
        exact ⟨cnt_ok h1, err_ok h1⟩)
      have HFC := Lib.hid (fun (k : Nat) (h : k < l2.length) => first_cases (now := now) hne k h)
      obtain ⟨hpl, x1, x2⟩ := HFC.out 0 hne
      clear x1 x2
      have HI2 := Lib.hid hI2
      have HZ := Lib.hid hz2
      generalize leastN (cntsU l2 now) = p at *
      obtain ⟨b, off, rfl, y1, y2⟩ := hU2 p hpl
      clear y1 y2
      have HU := Lib.hid hU2
      have hpi : (p : Int) < (l.length : Int) := by omega
      clear hU hl hU2 hI2 hok hne hw hkn hz2
      go_enter Try.func7, Try.ntmps7
      go_wp2_with fail
      refine (HS _).out.mono ?_
      rintro e w1 ⟨rfl, hb⟩
      have B1 := Lib.hid hb
      clear hb
      go_wp2_with fail
      refine (HA _ (HU.out.below B1.out)).out.mono ?_
      rintro e w2 ⟨rfl, hb⟩
      have B2 := Lib.hid (B1.out.trans (hb.mono B1.out.size))
      clear hb HA HS
      obtain ⟨b', off', hbb, c0, c1⟩ := (HU.out.below B2.out) p hpl
      cases hbb
      have HCP := HC l2[p] (HI2.out _ (List.getElem_mem hpl))
      rw [(HKC.out _ (List.getElem_mem hpl)).1, (HKC.out _ (List.getElem_mem hpl)).2] at HCP
      obtain ⟨m, hm⟩ : ∃ m, m = cntU l2[p] now := ⟨_, rfl⟩
      rw [← hm] at HCP
      have HM := Lib.hid hm
      generalize l2[p] = u at HCP c0 c1
      obtain ⟨c, t⟩ := u
      unfold valU at HCP
      simp only at c0 c1 HCP
      clear hm
      go_wp2_with fail
      refine (HCP _).out.mono ?_
      rintro e w3 ⟨rfl, hb⟩
      have B3 := Lib.hid (B2.out.trans (hb.mono B2.out.size))
      clear hb c0 c1 HCP B1 B2
      go_wp2_with fail
      go_loopw [10] (fun i wr => ∃ k : Nat, i = .int .i64 k ∧ k ≤ l2.length ∧ Below w.heap.size w wr) (fun i _ => l.length - (intOf i).toNat)
      case atStart => exact ⟨0, rfl, by omega, B3.out⟩
      case round =>
        obtain ⟨k, rfl, hk, hb⟩ := hrel
        by_cases hlt : k < l2.length
        · have hlt2 : (k : Int) < (l.length : Int) := by have := HZ.out; omega
          obtain ⟨b', off', hbb, c0, c1⟩ := (HU.out.below hb) k hlt
          cases hbb
          have HCP := HC l2[k] (HI2.out _ (List.getElem_mem hlt))
          rw [(HKC.out _ (List.getElem_mem hlt)).1, (HKC.out _ (List.getElem_mem hlt)).2] at HCP
          obtain ⟨_, hn1, hn2⟩ := HFC.out k hlt
          rw [← HM.out] at hn1 hn2
          have HB := Lib.hid hb
          generalize cntU l2[k] now = n at *
          generalize l2[k] = u at HCP c0 c1
          obtain ⟨c', t'⟩ := u
          unfold valU at HCP
          simp only at c0 c1 HCP
          clear hb
          have hcs : (n == m) = false ∨ ((n == m) = true ∧ ¬ ((k : Int) < p)) := by
            cases hnm : n == m
            · exact .inl rfl
            · exact .inr ⟨rfl, fun hkp => by rw [hn2 (by omega)] at hnm; cases hnm⟩
          clear hn2
          rcases hcs with h1 | ⟨h1, h2⟩
          · go_wp2_with fail
            refine (HCP _).out.mono ?_
            rintro e w4 ⟨rfl, hb⟩
            have B4 := Lib.hid (HB.out.trans (hb.mono HB.out.size))
            clear hb
            go_wp2
            go_roundw
            case rel => exact ⟨k + 1, by go_num, by omega, B4.out⟩
            case measure => have := HZ.out; simp [intOf]; omega
          · go_wp2_with fail
            refine (HCP _).out.mono ?_
            rintro e w4 ⟨rfl, hb⟩
            have B4 := Lib.hid (HB.out.trans (hb.mono HB.out.size))
            clear hb
            go_wp2
            go_roundw
            case rel => exact ⟨k + 1, by go_num, by omega, B4.out⟩
            case measure => have := HZ.out; simp [intOf]; omega
        · have hlt2 : ¬ ((k : Int) < (l.length : Int)) := by have := HZ.out; omega
          have HB := Lib.hid hb
          clear hb
          go_wp2
          go_ret
          exact ⟨rfl, HB.out⟩
  · obtain ⟨l2, hz2, hU2, hI2⟩ : ∃ l2 : List Use, l2.length = 50 ∧ Uses w a l2 ∧ ∀ u ∈ l2, I64U u := ⟨l.take 50, by simp; omega, hU.take 50, fun u hu => hl u (List.mem_of_mem_take hu)⟩
    have hlen2 : (50 : Int) < l.length := by omega
    have HA := fun w hU => Lib.hid (leasts_any l2 hI2 (by omega) now hn a cap w hU)
    have HC := fun u (h : I64U u) w => Lib.hid (count_any u h now hn w)
    rw [hz2] at HA
    unfold leastA leastE at HA
    cases hok : leastOk l2 now with
    | false =>
      rw [hok] at HA
      simp only [Bool.false_eq_true, if_false] at HA
      have HU := Lib.hid hU2
      clear hU hl hz2 hU2 hI2 hok HC
      go_enter Try.func7, Try.ntmps7
      go_wp2_with fail
      refine (HS _).out.mono ?_
      rintro e w1 ⟨rfl, hb⟩
      have B1 := Lib.hid hb
      clear hb
      go_wp2_with fail
      refine (HA _ (HU.out.below B1.out)).out.mono ?_
      rintro e w2 ⟨rfl, hb⟩
      have B2 := Lib.hid (B1.out.trans (hb.mono B1.out.size))
      clear hb
      go_wp2
      go_ret
      exact ⟨rfl, B2.out⟩
    | true =>
      rw [hok] at HA
      simp only [if_true] at HA
      obtain ⟨hne, hw⟩ : 0 < l2.length ∧ anyW l2 now = false := by
        unfold leastOk at hok
        cases l2 with
        | nil => simp at hok
        | cons x r => exact ⟨by simp, by simpa using hok⟩
      have hkn := all_of hw hn
      have HKC := Lib.hid (fun u (h : u ∈ l2) => show cntN u now = cntU u now ∧ errN u now = 0 from by
        have h1 : okB u now = true := by
          unfold anyW at hw
          have := (List.any_eq_false.1 hw) u h
          unfold okB; simpa using this
        exact ⟨cnt_ok h1, err_ok h1⟩)
      have HFC := Lib.hid (fun (k : Nat) (h : k < l2.length) => first_cases (now := now) hne k h)
      obtain ⟨hpl, x1, x2⟩ := HFC.out 0 hne
      clear x1 x2
      have HI2 := Lib.hid hI2
      have HZ := Lib.hid hz2
      generalize leastN (cntsU l2 now) = p at *
      obtain ⟨b, off, rfl, y1, y2⟩ := hU2 p hpl
      clear y1 y2
      have HU := Lib.hid hU2
      have hpi : (p : Int) < (50 : Int) := by omega
      clear hU hl hU2 hI2 hok hne hw hkn hz2
      go_enter Try.func7, Try.ntmps7
      go_wp2_with fail
      refine (HS _).out.mono ?_
      rintro e w1 ⟨rfl, hb⟩
      have B1 := Lib.hid hb
      clear hb
      go_wp2_with fail
      refine (HA _ (HU.out.below B1.out)).out.mono ?_
      rintro e w2 ⟨rfl, hb⟩
      have B2 := Lib.hid (B1.out.trans (hb.mono B1.out.size))
      clear hb HA HS
      obtain ⟨b', off', hbb, c0, c1⟩ := (HU.out.below B2.out) p hpl
      cases hbb
      have HCP := HC l2[p] (HI2.out _ (List.getElem_mem hpl))
      rw [(HKC.out _ (List.getElem_mem hpl)).1, (HKC.out _ (List.getElem_mem hpl)).2] at HCP
      obtain ⟨m, hm⟩ : ∃ m, m = cntU l2[p] now := ⟨_, rfl⟩
      rw [← hm] at HCP
      have HM := Lib.hid hm
      generalize l2[p] = u at HCP c0 c1
      obtain ⟨c, t⟩ := u
      unfold valU at HCP
      simp only at c0 c1 HCP
      clear hm
      go_wp2_with fail
      refine (HCP _).out.mono ?_
      rintro e w3 ⟨rfl, hb⟩
      have B3 := Lib.hid (B2.out.trans (hb.mono B2.out.size))
      clear hb c0 c1 HCP B1 B2
      go_wp2_with fail
      go_loopw [10] (fun i wr => ∃ k : Nat, i = .int .i64 k ∧ k ≤ l2.length ∧ Below w.heap.size w wr) (fun i _ => 50 - (intOf i).toNat)
      case atStart => exact ⟨0, rfl, by omega, B3.out⟩
      case round =>
        obtain ⟨k, rfl, hk, hb⟩ := hrel
        by_cases hlt : k < l2.length
        · have hlt2 : (k : Int) < (50 : Int) := by have := HZ.out; omega
          obtain ⟨b', off', hbb, c0, c1⟩ := (HU.out.below hb) k hlt
          cases hbb
          have HCP := HC l2[k] (HI2.out _ (List.getElem_mem hlt))
          rw [(HKC.out _ (List.getElem_mem hlt)).1, (HKC.out _ (List.getElem_mem hlt)).2] at HCP
          obtain ⟨_, hn1, hn2⟩ := HFC.out k hlt
          rw [← HM.out] at hn1 hn2
          have HB := Lib.hid hb
          generalize cntU l2[k] now = n at *
          generalize l2[k] = u at HCP c0 c1
          obtain ⟨c', t'⟩ := u
          unfold valU at HCP
          simp only at c0 c1 HCP
          clear hb
          have hcs : (n == m) = false ∨ ((n == m) = true ∧ ¬ ((k : Int) < p)) := by
            cases hnm : n == m
            · exact .inl rfl
            · exact .inr ⟨rfl, fun hkp => by rw [hn2 (by omega)] at hnm; cases hnm⟩
          clear hn2
          rcases hcs with h1 | ⟨h1, h2⟩
          · go_wp2_with fail
            refine (HCP _).out.mono ?_
            rintro e w4 ⟨rfl, hb⟩
            have B4 := Lib.hid (HB.out.trans (hb.mono HB.out.size))
            clear hb
            go_wp2
            go_roundw
            case rel => exact ⟨k + 1, by go_num, by omega, B4.out⟩
            case measure => have := HZ.out; simp [intOf]; omega
          · go_wp2_with fail
            refine (HCP _).out.mono ?_
            rintro e w4 ⟨rfl, hb⟩
            have B4 := Lib.hid (HB.out.trans (hb.mono HB.out.size))
            clear hb
            go_wp2
            go_roundw
            case rel => exact ⟨k + 1, by go_num, by omega, B4.out⟩
            case measure => have := HZ.out; simp [intOf]; omega
        · have hlt2 : ¬ ((k : Int) < (50 : Int)) := by have := HZ.out; omega
          have HB := Lib.hid hb
          clear hb
          go_wp2
          go_ret
          exact ⟨rfl, HB.out⟩
end Go.Proofs.Ytpjggdmfgoajbaa
