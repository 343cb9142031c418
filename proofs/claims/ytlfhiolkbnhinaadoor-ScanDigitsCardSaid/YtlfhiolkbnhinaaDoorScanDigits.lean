/- ScanDigits: a cursor's digits above the size make no difference. -/
import Derived.Test.YtlfhiolkbnhinaaDoorTexts
import Derived.Test.YtlfhiolkbnhinaaDoorActed
namespace Go.Proofs.YtlfhiolkbnhinaaDoor
open Go.RowKit Go.Shelf Go.Sort
attribute [local go_sem] Oper.semAt_some

/-- A cursor's digits below a size, others above. -/
def mixN (c more low : Nat) : Nat := (c &&& low) ||| (more &&& (4294967295 - low))
theorem mix_lt (c more low : Nat) (hc : c < 4294967296) (hm : more < 4294967296) : mixN c more low < 4294967296 :=
  or_lt32 (Nat.lt_of_le_of_lt Nat.and_le_left hc) (Nat.lt_of_le_of_lt Nat.and_le_left hm)
theorem mix_mod (c more k : Nat) (hk : k ≤ 16) : mixN c more (2 ^ k - 1) % 2 ^ k = c % 2 ^ k := by
  have h1 : 2 ^ k ≤ 2 ^ 16 := Nat.pow_le_pow_right (by decide) hk
  have h0 := Nat.two_pow_pos k
  have h2 : 4294967295 - (2 ^ k - 1) = 2 ^ 32 - ((2 ^ k - 1) + 1) := by omega
  apply Nat.eq_of_testBit_eq
  intro i
  unfold mixN
  rw [Nat.testBit_mod_two_pow, Nat.testBit_mod_two_pow, Nat.testBit_or, Nat.testBit_and, Nat.testBit_and, h2, Nat.testBit_two_pow_sub_succ (x := 2 ^ k - 1) (n := 32) (by omega), Nat.testBit_two_pow_sub_one]
  by_cases hi : i < k <;> simp [hi]
theorem digits_same {D : Dc} (ok : D.Ok tyI) (hb : D.b = []) (c more : Nat) (hc : c < 4294967296) (hm : more < 4294967296) :
    nextN (mixN c more (D.a.length - 1)) D.least = nextN c D.least ∧ scanK D (turnN (mixN c more (D.a.length - 1))) = scanK D (turnN c) ∧ nextN c D.least < D.a.length := by
  have hl : D.least = D.a.length := by unfold Dc.least; rw [hb]; unfold smallT; rw [if_pos (.inl rfl)]
  have hs := ok.a
  have hml := mix_lt c more (D.a.length - 1) hc hm
  have key : turnN (mixN c more (D.a.length - 1)) / unitN D.least = turnN c / unitN D.least := by
    rw [hl]
    obtain ⟨k, hk, hk2, he⟩ := size_pow hs
    rw [he] at hml ⊢
    rw [unit_pow k (by omega)]
    exact (slot_part _ _ k (by omega) hml hc).1 (mix_mod c more k hk2)
  refine ⟨?_, ?_, ?_⟩
  · unfold nextN upN; rw [key]
  · unfold scanK; rw [key, if_pos hb, if_pos hb]
  · rw [hl]
    rw [cur_up]
    have h1 := part_lt D.a.length c hs hc
    rcases Nat.lt_or_ge (turnN c / unitN D.a.length + 1) D.a.length with h2 | h2
    · exact cur_slot _ _ hs h2
    · have h3 : turnN c / unitN D.a.length + 1 = D.a.length := by omega
      rw [h3, cur_end _ hs]
      have := isS_pos hs
      omega

set_option maxRecDepth 100000 in
set_option maxHeartbeats 8000000 in
theorem digits_walk (seed : Nat) (hsd : seed < 4294967296) (a : Option Addr) (cap : Nat) (l : List (Int × ByteArray × Int)) (_ : l.length ≤ 9223372036854775807) (hz : ∀ x ∈ l, x.2.1.size ≤ 9223372036854775807)
    (c : Nat) (hc : c < 4294967296) (more : Nat) (hm : more < 4294967296) (w : World) (hEnv : Env w) (hE : Acts w a l) : Calls Tryd.prog 8 #[.int .u32 seed, .slice a l.length cap, .int .u32 c, .int .u32 more] w fun e w' => e = .returned (.bool true) ∧ Below w.heap.size w w' := by
  have HE := Lib.hid hE
  have HV := Lib.hid hEnv
  clear hE
  go_enter Tryd.func8, Tryd.ntmps8
  go_wp2_with fail
  refine (shown_any _ HV.out).mono ?_
  rintro e w1 ⟨rfl, hb1⟩
  have HB1 := Lib.hid hb1
  clear hb1 hEnv
  go_wp2_with fail
  refine (new_is seed _).mono ?_
  rintro e w2 ⟨p, rfl, h2, hb2⟩
  have hA := Alone.new HB1.out h2 hb2
  have HA := Lib.hid hA
  clear h2 hb2 hA
  go_wp2
  go_loopw [11] (fun i wr => ∃ (j : Nat) (m : ByteArray → Option Int) (n : Sh), i = .int .i64 j ∧ j ≤ l.length ∧ j ≤ 100 ∧ Alone w p seed m n wr ∧ n.n ≤ j ∧ n.small) (fun i _ => l.length - (intOf i).toNat)
  case atStart => exact ⟨0, _, _, rfl, by omega, by omega, HA.out, Nat.le_refl _, ⟨by show 4 ≤ 1024; omega, by show 0 ≤ 1024; omega⟩⟩
  case round =>
    obtain ⟨j, m, n, rfl, hj, hj100, hA, hn, hsm⟩ := hrel
    by_cases hlt : j < l.length ∧ j < 100
    · obtain ⟨hjl, hj8⟩ := hlt
      obtain ⟨b, off, rfl, c0, c1, c2⟩ := (HE.out.below hA.2) j hjl
      have hsz := hz _ (List.getElem_mem hjl)
      generalize l[j] = x at *
      obtain ⟨d, kk, vv⟩ := x
      simp only at c0 c1 c2 hsz
      have hACT := Lib.hid (acted_is hsd hA (by omega) hsm d kk hsz vv)
      have hj8' : (j : Int) < 100 := by omega
      clear hA hsm
      go_wp2_with fail
      (with_reducible refine hACT.out.mono ?_)
      rintro e w3 ⟨rfl, m', n', h3, h4, h5, _⟩
      have H3 := Lib.hid h3
      have H5 := Lib.hid h5
      clear h3 h5 hACT
      go_wp2
      exact ⟨⟨j + 1, _, _, by go_num, by omega, by omega, H3.out, by omega, H5.out⟩, by simp [intOf]; omega⟩
    · have hex : (l.length : Int) ≤ j ∨ ((j : Int) < l.length ∧ (j : Int) = 100) := by omega
      have HST := Lib.hid (step_is hA.1 (by omega) 2000)
      have HA3 := Lib.hid hA
      have HSM := Lib.hid hsm
      clear hA hlt hsm HA HB1
      rcases hex with hex | ⟨hex, hex2⟩
      all_goals (
        go_wp2_with fail
        (with_reducible refine HST.out.mono ?_)
        rintro e w3 ⟨rfl, h3⟩
        have hA4 := HA3.out.now h3
        obtain ⟨⟨D, hR, hL, hD⟩, hBw⟩ := hA4
        have hsm4 := small_steps HSM.out (2000 : Int).toNat
        rw [← hD] at hsm4
        have hnD : D.n ≤ 500 := by
          have h9 : D.shape.n = n.n := by rw [hD, steps_n]
          have : D.shape.n = D.n := rfl
          omega
        have hok := hL.1.ok
        have hal := (isS_pos hok.a).1
        have hSZ := Lib.hid (sizes_of hR)
        have HR := Lib.hid hR
        have HB := Lib.hid hBw
        have HOK := Lib.hid hok
        have HS4 := Lib.hid hsm4
        have hai : (D.a.length : Int) ≤ 1024 := by have : D.a.length ≤ 1024 := hsm4.1; omega
        have hbi : (D.b.length : Int) ≤ 1024 := by have : D.b.length ≤ 1024 := hsm4.2; omega
        have HL9 := Lib.hid hL.1
        clear h3 HST hR hBw hL hsm4 HA3 HSM hok hD
        go_wp2_with fail
        (with_reducible refine hSZ.out.mono ?_)
        rintro e w4 ⟨rfl, hb4⟩
        by_cases hb : D.b = []
        · have hb0 : (D.b.length : Int) = 0 := by rw [hb]; rfl
          obtain ⟨s1, s2, s3⟩ := digits_same HOK.out hb c more hc hm
          have HB4 := Lib.hid (HB.out.trans (hb4.mono HB.out.size))
          have hSC := Lib.hid (scan_any (HR.out.later hb4) HOK.out hnD HS4.out.1 HS4.out.2 c hc (HV.out.below HB4.out))
          have HR4 := Lib.hid (HR.out.later hb4)
          have hml := mix_lt c more (D.a.length - 1) hc hm
          have e1 : ((D.a.length : Int) - 1) % 4294967296 = ((D.a.length - 1 : Nat) : Int) := by omega
          have e1' : (D.a.length : Int) - 1 = ((D.a.length - 1 : Nat) : Int) := by omega
          have e2 := bits_and32 c (D.a.length - 1) hc (by omega)
          have e3 := bits_andNot32 more (D.a.length - 1) hm (by omega)
          have e4 : bits .or .u32 ((c &&& (D.a.length - 1) : Nat) : Int) ((more &&& (4294967295 - (D.a.length - 1)) : Nat) : Int) = (mixN c more (D.a.length - 1) : Nat) := bits_or32 _ _ (Nat.lt_of_le_of_lt Nat.and_le_left hc) (Nat.lt_of_le_of_lt Nat.and_le_left hm)
          have hH := Lib.hid (fun W (hb : Below w4.heap.size w4 W) => scan_any (HR4.out.later hb) HOK.out hnD HS4.out.1 HS4.out.2 (mixN c more (D.a.length - 1)) hml (HV.out.below (HB4.out.trans (hb.mono HB4.out.size))))
          rw [s1] at hH
          rw [s2] at hH
          have hkl : (scanK D (turnN c)).length ≤ 1000000 := by
            have h9 := (scan_told HL9.out HS4.out.1 HS4.out.2 (turnN c) (turn_lt c hc))
            have h8 := nodup_sub (K := D.nodes.map bytesK) h9.1 (fun k hk => by
              obtain ⟨⟨x, hx, he⟩, _⟩ := h9.2.1 k hk
              exact List.mem_map.2 ⟨x, hx, he⟩)
            rw [List.length_map] at h8
            have h7 : D.nodes.length = D.n := by unfold Dc.nodes; rw [List.length_append]; exact HOK.out.n.symm
            omega
          have HKL := Lib.hid hkl
          have s3' : ((nextN c D.least : Nat) : Int) < D.a.length := by omega
          have hnl := nextN_lt c D.least
          clear s1 s2 s3 hkl hSZ hb4 hb
          generalize hK : scanK D (turnN c) = K at *
          generalize nextN c D.least = nx at *
          generalize hmx : mixN c more (D.a.length - 1) = mx at *
          have hal3 : (D.a.length : Int) - 1 = ((D.a.length - 1 : Nat) : Int) := e1'
          generalize hlow : D.a.length - 1 = low at *
          clear hK hmx
          go_wp2_with fail
          (with_reducible refine hSC.out.mono ?_)
          rintro e w5 ⟨u, rfl, hu, hb5⟩
          go_wp2_with fail
          (with_reducible refine (hH.out _ hb5).mono ?_)
          rintro e w6 ⟨u', rfl, hu', hb6⟩
          have hT := Lib.hid (texts_same (hu.below hb6) hu' HKL.out)
          have HB6 := Lib.hid (HB4.out.trans ((hb5.trans (hb6.mono hb5.size)).mono HB4.out.size))
          clear hu hu' hb5 hb6 hSC hH
          go_wp2_with fail
          (with_reducible refine hT.out.mono ?_)
          rintro e w7 ⟨rfl, hb7⟩
          go_wp2
          go_ret
          exact ⟨rfl, HB6.out.trans (hb7.mono HB6.out.size)⟩
        · have hb0 : ¬ (D.b.length : Int) = 0 := by have : D.b.length ≠ 0 := fun e => hb (List.length_eq_zero_iff.1 e); omega
          have HB4 := Lib.hid (HB.out.trans (hb4.mono HB.out.size))
          have hbn : ((D.b.length : Int) != 0) = true := by simpa using hb0
          clear hb4 hb
          go_wp2
          go_ret
          exact ⟨rfl, HB4.out⟩)
end Go.Proofs.YtlfhiolkbnhinaaDoor
