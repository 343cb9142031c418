/- The document's own answer: the next cursor. -/
import Derived.Test.YtlfhiolkbnhinaaDoorNext
namespace Go.Proofs.YtlfhiolkbnhinaaDoor
open Go.RowKit Go.Shelf
attribute [local go_sem] Oper.semAt_some

theorem refIsSize_any (n : Int) (w : World) : Calls Tryd.prog 20 #[.int .i64 n] w fun e w' => e = .returned (.bool (isS n)) ∧ w' = w := by
  go_enter Tryd.func20, Tryd.ntmps20
  go_wp2
  go_loopw [3] (fun v wr => ∃ (i : Nat), v = .int .i64 (sizeN i) ∧ i ≤ 15 ∧ (∀ j < i, (sizeN j : Int) ≠ n) ∧ wr = w)
    (fun v _ => 131072 - (intOf v).toNat)
  case atStart => exact ⟨0, rfl, by omega, fun j hj => by omega, rfl⟩
  case round =>
    obtain ⟨i, rfl, hi, hf, rfl⟩ := hrel
    have HF := Lib.hid hf
    clear hf
    by_cases h14 : i < 15
    · obtain ⟨hx, h1, h2, h3⟩ := sizeN_facts ⟨i, by omega⟩
      simp only at hx h1 h2 h3
      have h4' : ((sizeN i : Nat) : Int) ≤ 65536 := by omega
      have h2' : (4 : Int) ≤ ((sizeN i : Nat) : Int) := by omega
      by_cases hik : ((sizeN i : Nat) : Int) = n
      · have hs : isS n = true := (isS_iff n).2 ⟨_, List.mem_of_getElem? hx, hik⟩
        have HS := Lib.hid hs
        clear hs h3 hx
        generalize sizeN i = s at *
        subst hik
        go_wp2
        go_ret
        exact ⟨by rw [HS.out]; rfl, rfl⟩
      · have H3 := Lib.hid h3
        have HG : Hid (∀ j < i + 1, ((sizeN j : Nat) : Int) ≠ n) := Lib.hid (fun j hj => by
          by_cases e : j = i
          · rw [e]; exact hik
          · exact HF.out j (by omega))
        clear h3 hx HF
        generalize hg : sizeN i = s at *
        clear hg
        go_wp2
        refine ⟨⟨i + 1, ?_, by omega, HG.out, trivial⟩, ?_⟩
        · rw [H3.out]; congr 1
        · simp only [intOf]; omega
    · obtain rfl : i = 15 := by omega
      have hs : isS n = false := by
        cases hh : isS n with
        | false => rfl
        | true =>
          obtain ⟨x, hx, hx2⟩ := (isS_iff n).1 hh
          obtain ⟨j, hj, he⟩ := List.getElem_of_mem hx
          have hj15 : j < 15 := hj
          have := HF.out j hj15
          have hs := (sizeN_facts ⟨j, hj15⟩).1
          simp only at hs
          rw [List.getElem?_eq_getElem hj, he] at hs
          cases hs
          exact absurd hx2 this
      have h15 : sizeN 15 = 131072 := by decide +kernel
      have HS := Lib.hid hs
      rw [show ((sizeN 15 : Nat) : Int) = 131072 by rw [h15]; rfl]
      clear hs h15
      go_wp2
      go_ret
      exact ⟨by rw [HS.out]; rfl, rfl⟩


theorem pow_facts : ∀ i : Fin 17, wrap64 ((2 : Int) ^ i.val) = (2 : Int) ^ i.val := by decide +kernel
theorem pow_less {i k : Nat} (h : i < k) : (2 : Int) ^ i < 2 ^ k := by
  have := Nat.pow_lt_pow_right (a := 2) (by decide) h
  exact_mod_cast this
theorem up_val (z e : Nat) (hz : z < 4294967296) (he : e ≤ 32) : IntKind.u64.wrap (IntKind.u64.wrap ((z : Int) / 2 ^ e + 1) * 2 ^ e) % 4294967296 = (((z / 2 ^ e + 1) * 2 ^ e % 4294967296 : Nat) : Int) := by
  have hq : (2 : Int) ^ e = ((2 ^ e : Nat) : Int) := by exact_mod_cast rfl
  have h1 : 2 ^ e ≤ 4294967296 := Nat.pow_le_pow_right (n := 2) (by decide) he
  have h2 : z / 2 ^ e * 2 ^ e ≤ z := Nat.div_mul_le_self _ _
  have h3 : z / 2 ^ e ≤ z := Nat.div_le_self _ _
  rw [hq]
  generalize hqq : 2 ^ e = q at *
  have h4 : (z : Int) / (q : Int) = ((z / q : Nat) : Int) := by exact_mod_cast rfl
  rw [h4]
  generalize z / q = d at *
  have h5 : IntKind.u64.wrap ((d : Int) + 1) = ((d + 1 : Nat) : Int) := by rw [IntKind.wrap_u64]; omega
  have h6 : ((d + 1) * q : Nat) = d * q + q := by rw [Nat.add_mul, Nat.one_mul]
  have h7 : IntKind.u64.wrap (((d + 1 : Nat) : Int) * (q : Int)) = (((d + 1) * q : Nat) : Int) := by
    rw [IntKind.wrap_u64, ← Int.natCast_mul]
    generalize (d + 1) * q = y at *
    omega
  rw [h5, h7]
  generalize (d + 1) * q = y at *
  omega
set_option maxHeartbeats 2000000 in
theorem refnext_any (c : Nat) (hc : c < 4294967296) (s : Nat) (hs : isS (s : Int) = true) (w : World) :
    Calls Tryd.prog 31 #[.int .u32 c, .int .i64 s] w fun e w' => e = .returned (.int .u32 (nextN c s)) ∧ w' = w := by
  obtain ⟨k, hk, hk2, rfl⟩ := size_pow hs
  have hv : nextN c (2 ^ k) = turnN ((turnN c / 2 ^ (32 - k) + 1) * 2 ^ (32 - k) % 4294967296) := by unfold nextN upN; rw [unit_pow k (by omega)]
  have HT := fun n hn w => Lib.hid (refTurn_any n hn w)
  have hr := turn_rev c hc
  have hl := turn_lt c hc
  have HV := Lib.hid hv
  rw [hr] at HV hl
  clear hv hr hs
  go_enter Tryd.func31, Tryd.ntmps31
  go_wp2
  go_loopw [5] (fun d wr => ∃ i : Nat, d = .int .i64 i ∧ i ≤ k ∧ wr = w) (fun d _ => k - (intOf d).toNat)
  case atStart => exact ⟨0, rfl, by omega, rfl⟩
  case round =>
    obtain ⟨i, rfl, hi, rfl⟩ := hrel
    have hp := pow_facts ⟨i, by omega⟩
    simp only at hp
    by_cases hlt : i < k
    · have hpl := pow_less hlt
      go_wp2
      exact ⟨⟨i + 1, by go_num, hlt, trivial⟩, by simp [intOf]; omega⟩
    · obtain rfl : i = k := by omega
      have hl2 : ¬ ((2 : Int) ^ i < 2 ^ i) := Int.lt_irrefl _
      go_wp2_with fail
      (with_reducible refine (HT c hc _).out.mono ?_)
      rintro e w1 ⟨rfl, rfl⟩
      generalize revN c 32 = z at *
      have hu := up_val z (32 - i) hl (by omega)
      have hul : (z / 2 ^ (32 - i) + 1) * 2 ^ (32 - i) % 4294967296 < 4294967296 := Nat.mod_lt _ (by decide)
      generalize (z / 2 ^ (32 - i) + 1) * 2 ^ (32 - i) % 4294967296 = v at *
      have hv2 := turn_rev v hul
      go_wp2_with fail
      (with_reducible refine (HT v hul _).out.mono ?_)
      rintro e w2 ⟨rfl, rfl⟩
      rw [← hv2, ← HV.out]
      go_wp2
      go_ret
      exact ⟨rfl, rfl⟩
theorem refNext_any (c : Nat) (hc : c < 4294967296) (s : Nat) (hs : isS (s : Int) = true) (w : World) :
    Calls Tryd.prog 12 #[.int .u32 c, .int .i64 s] w fun e w' => e = .returned (.tuple #[.int .u32 (nextN c s), .int .i64 0]) ∧ w' = w := by
  have h1 := refIsSize_any (s : Int) w
  rw [hs] at h1
  have H1 := Lib.hid h1
  have H2 := Lib.hid (refnext_any c hc s hs w)
  clear h1 hs
  go_enter Tryd.func12, Tryd.ntmps12
  go_wp2_with fail
  (with_reducible refine H1.out.mono ?_)
  rintro e w1 ⟨rfl, rfl⟩
  go_wp2_with fail
  (with_reducible refine H2.out.mono ?_)
  rintro e w1 ⟨rfl, rfl⟩
  go_wp2
  go_ret2
  exact ⟨rfl, rfl⟩
theorem refNext_none (c : Nat) (s : Int) (hs : isS s = false) (w : World) :
    Calls Tryd.prog 12 #[.int .u32 c, .int .i64 s] w fun e w' => e = .returned (.tuple #[.int .u32 0, .int .i64 2]) ∧ w' = w := by
  have h1 := refIsSize_any s w
  rw [hs] at h1
  have H1 := Lib.hid h1
  clear h1 hs
  go_enter Tryd.func12, Tryd.ntmps12
  go_wp2_with fail
  (with_reducible refine H1.out.mono ?_)
  rintro e w1 ⟨rfl, rfl⟩
  go_wp2
  go_ret2
  exact ⟨rfl, rfl⟩
end Go.Proofs.YtlfhiolkbnhinaaDoor
