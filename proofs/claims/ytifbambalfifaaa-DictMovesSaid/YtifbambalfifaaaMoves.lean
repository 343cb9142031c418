/- DictMoves: what moves is done when all slots were moved, and no key is lost by it. -/
import Derived.Test.YtifbambalfifaaaMovesMath
namespace Go.Proofs.Ytifbambalfifaaa
open Go.RowKit Go.Shelf
attribute [local go_sem] Oper.semAt_some

theorem str_two (W : World) (b c : UInt8) : (convert 58 9 (.slice (some ⟨W.heap.size, 0, none⟩) 2 2)).run Try.prog (W.alloc (.cells #[.int .u8 b.toNat, .int .u8 c.toNat] 5)) = .ok (.string ⟨#[b, c]⟩) (W.alloc (.cells #[.int .u8 b.toNat, .int .u8 c.toNat] 5)) := by
  have h := run_convert_bytes_back (P := Try.prog) (W.alloc (.cells #[.int .u8 b.toNat, .int .u8 c.toNat] 5)) 58 9 5 ⟨W.heap.size, 0, none⟩ 2 [b, c] Try.underlying58 Try.underlying5 Try.underlying9
    (fun j hj => by
      match j, hj with
      | 0, _ => exact (Blk.new W 5 #[.int .u8 b.toNat, .int .u8 c.toNat]).cell 0
      | 1, _ => simp [Addr.add]
      | j + 2, hj => simp at hj; omega)
  exact h
theorem kb_str (i : Nat) (hi : i ≤ 300) (W : World) : (convert 58 9 (.slice (some ⟨W.heap.size, 0, none⟩) 2 2)).run Try.prog (W.alloc (.cells #[.int .u8 ((i : Int) % 256), .int .u8 ((i : Int) / 256)] 5)) = .ok (.string (kb i)) (W.alloc (.cells #[.int .u8 ((i : Int) % 256), .int .u8 ((i : Int) / 256)] 5)) := by
  have h := str_two W (UInt8.ofNat (i % 256)) (UInt8.ofNat (i / 256 % 256))
  have e1 : ((UInt8.ofNat (i % 256)).toNat : Int) = (i : Int) % 256 := by simp
  have e2 : ((UInt8.ofNat (i / 256 % 256)).toNat : Int) = (i : Int) / 256 := by simp; omega
  rw [e1, e2] at h
  exact h

theorem steps_min {g : Sh} (hat : g.B ≠ 0 → g.At < g.A) (K : Nat) : Sh.steps K g = Sh.steps (min K g.left) g := by
  rcases Nat.le_total K g.left with h | h
  · rw [Nat.min_eq_left h]
  · rw [Nat.min_eq_right h]
    obtain ⟨j, rfl⟩ : ∃ j, K = g.left + j := ⟨K - g.left, by omega⟩
    rw [steps_add]
    refine steps_still ?_ j
    have := (steps_facts hat g.left (Nat.le_refl _)).2.2.2.1
    omega

set_option maxRecDepth 100000 in
set_option maxHeartbeats 40000000 in
theorem moves_walk (seed : Nat) (hsd : seed < 4294967296) (n s : Int) (w : World) : Calls Try.prog 7 #[.int .u32 seed, .int .i64 n, .int .i64 s] w fun e w' => e = .returned (.bool true) ∧ Below w.heap.size w w' := by
  by_cases hout : n < 0 ∨ 300 < n ∨ s < 1 ∨ 50 < s
  · go_enter Try.func7, Try.ntmps7
    go_wp2_with fail
    refine (shown_any _).mono ?_
    rintro e w1 ⟨rfl, hb1⟩
    have HB1 := Lib.hid hb1
    clear hb1
    go_wp2
    all_goals first
      | omega
      | (go_ret; exact ⟨rfl, HB1.out⟩)
  · obtain ⟨N, rfl⟩ : ∃ N : Nat, n = (N : Int) := ⟨n.toNat, by omega⟩
    obtain ⟨K, rfl⟩ : ∃ K : Nat, s = (K : Int) := ⟨s.toNat, by omega⟩
    have hN : (N : Int) ≤ 300 := by omega
    have hK1 : (1 : Int) ≤ K := by omega
    have hK2 : (K : Int) ≤ 50 := by omega
    clear hout
    go_enter Try.func7, Try.ntmps7
    go_wp2_with fail
    refine (shown_any _).mono ?_
    rintro e w1 ⟨rfl, hb1⟩
    have HB1 := Lib.hid hb1
    clear hb1
    go_wp2_with fail
    refine (new_is seed _).mono ?_
    rintro e w2 ⟨p, rfl, h2, hb2⟩
    have hA : Alone w p seed (mm 0) (shN 0) w2 := Alone.new HB1.out h2 hb2
    have HA := Lib.hid hA
    clear h2 hb2 hA
    go_wp2
    go_loopw [9] (fun i wr => ∃ (j : Nat), i = .int .i64 j ∧ j ≤ N ∧ Alone w p seed (mm j) (shN j) wr) (fun i _ => N - (intOf i).toNat)
    case atStart => exact ⟨0, rfl, by omega, HA.out⟩
    case round =>
      obtain ⟨j, rfl, hj, hA⟩ := hrel
      have HAA := Lib.hid hA
      by_cases hlt : j < N
      · have hlt' : (j : Int) < N := by omega
        have hcv := kb_str j (by omega)
        have hSS := fun W (hb : Below wr.heap.size wr W) => set_is hsd (hA.later hb).1 (by rw [shN_n]; omega) (kb j) (by rw [kb_size]; decide) j
        rw [mm_none j j (Nat.le_refl _) (by omega)] at hSS
        have HSS := fun W hb => Lib.hid (hSS W hb)
        have q1 : (j : Int) ≤ 300 := by omega
        have q2 : (0 : Int) ≤ (j : Int) / 256 := by omega
        have q3 : (j : Int) / 256 ≤ 255 := by omega
        clear hA hSS
        go_wp2_with fail
        (with_reducible refine (HSS _ ((Below.refl _ _).alloc (Nat.le_refl _) _)).out.mono ?_)
        rintro e w3 ⟨rfl, h3⟩
        have h4 := (HAA.out.later ((Below.refl _ _).alloc (Nat.le_refl _) _)).now h3
        have H4 := Lib.hid h4
        clear h3 h4
        go_wp2
        refine ⟨⟨j + 1, by go_num, by omega, H4.out⟩, by simp [intOf]; omega⟩
      · obtain rfl : j = N := by omega
        have F := shN_facts j (by omega)
        have hN2 := shN_n j
        have hSZ := sizes_is hA.1
        have HSZ := Lib.hid hSZ
        have SF := Lib.hid (fun k hk => steps_facts F.at_ k hk)
        obtain ⟨f1, f2, f3, f4, f5, f6, f7, f8, f9⟩ := F
        have F4 := Lib.hid f4
        have F8 := Lib.hid f8
        have HN2 := Lib.hid hN2
        generalize hH : shN j = H at *
        have HH := Lib.hid hH
        clear hA hSZ f4 f8 hN2 hH hlt hj
        go_wp2_with fail
        (with_reducible refine HSZ.out.mono ?_)
        rintro e w3 ⟨rfl, hb3⟩
        have hA3 := HAA.out.later hb3
        have HA3 := Lib.hid hA3
        clear hA3 hb3
        go_wp2
        go_loopw [11, 13, 14] (fun bv mv iv wr => ∃ (i m : Nat), iv = .int .i64 i ∧ mv = .int .i64 m ∧ bv = .int .i64 (Sh.steps m H).B ∧ i ≤ m ∧ m ≤ H.left ∧ Alone w p seed (mm j) (Sh.steps m H) wr) (fun _ _ iv _ => 600 - (intOf iv).toNat)
        case atStart => exact ⟨0, 0, rfl, rfl, rfl, by omega, by omega, HA3.out⟩
        case round =>
          obtain ⟨i, m, rfl, rfl, rfl, him, hml, hA⟩ := hrel
          obtain ⟨s1, s2, s3, s4, s5, s6⟩ := SF.out m hml
          by_cases hmv : m < H.left
          · have hB : 0 < (Sh.steps m H).B := s4.2 hmv
            have hst := step_is hA.1 (by rw [steps_n]; have := HN2.out; omega) K
            have hmin : min (K : Int).toNat (Sh.steps m H).left = min K (H.left - m) := by rw [s1]; simp
            have hsh : Sh.steps (K : Int).toNat (Sh.steps m H) = Sh.steps (m + min K (H.left - m)) H := by
              rw [steps_add, Int.toNat_natCast, steps_min s2 K, s1]
            rw [hmin, hsh] at hst
            have HST := Lib.hid hst
            have HAA2 := Lib.hid hA
            obtain ⟨k, hk⟩ : ∃ k, k = min K (H.left - m) := ⟨_, rfl⟩
            rw [← hk] at HST
            have hk1 : 1 ≤ k := by omega
            have hk2 : k ≤ K := by omega
            have hk3 : m + k ≤ H.left := by omega
            have hBi : 0 < ((Sh.steps m H).B : Int) := by omega
            have hi6 : (i : Int) < 600 := by omega
            have hm6 : (m : Int) ≤ 600 := by omega
            have hk1' : (1 : Int) ≤ k := by omega
            have hk2' : (k : Int) ≤ K := by omega
            clear hst hA hmin hsh hk s1 s2 s3 s4 s5 s6 hB
            generalize ((Sh.steps m H).B : Int) = bb at *
            go_wp2_with fail
            (with_reducible refine HST.out.mono ?_)
            rintro e w4 ⟨rfl, h4⟩
            have hA4 := HAA2.out.now h4
            have HA4 := Lib.hid hA4
            have HSZ4 := Lib.hid (sizes_is hA4.1)
            clear h4 hA4
            go_wp2_with fail
            (with_reducible refine HSZ4.out.mono ?_)
            rintro e w5 ⟨rfl, hb5⟩
            have hA5 := HA4.out.later hb5
            have HA5 := Lib.hid hA5
            clear hb5 hA5
            go_wp2
            refine ⟨⟨i + 1, m + k, by go_num, by go_num, rfl, by omega, hk3, HA5.out⟩, by simp [intOf]; omega⟩
          · obtain rfl : m = H.left := by omega
            have hB : (Sh.steps H.left H).B = 0 := by omega
            have hfin : (Sh.steps H.left H).A = H.fin := by rw [← s3]; unfold Sh.fin; rw [if_pos hB]
            have hSZ2 := sizes_is hA.1
            rw [hB, hfin] at hSZ2
            have HSZ2 := Lib.hid hSZ2
            have HAA2 := Lib.hid hA
            have hl0 : (Sh.steps H.left H).left = 0 := by rw [s1]; omega
            have hst0 : Sh.steps (K : Int).toNat (Sh.steps H.left H) = Sh.steps H.left H := steps_still hB _
            have HST0 := fun W (hb : Below wr.heap.size wr W) => step_is (hA.later hb).1 (by rw [steps_n]; have := HN2.out; omega) K
            rw [hl0, hst0, Nat.min_zero] at HST0
            have HST0' := fun W hb => Lib.hid (HST0 W hb)
            have hBz : (((Sh.steps H.left H).B : Nat) : Int) = 0 := by omega
            have hn0 := steps_n H H.left
            rw [HN2.out] at hn0
            have HB0 := Lib.hid hB
            have HN0 := Lib.hid hn0
            rw [hBz]
            clear hSZ2 hA hl0 hst0 HST0 s1 s2 s3 s4 s5 s6 hB hfin hn0 hBz hmv
            generalize Sh.steps H.left H = G at *
            have hi6 : (i : Int) < 600 := by omega
            all_goals (
              go_wp2_with fail
              (with_reducible refine HSZ2.out.mono ?_)
              rintro e w4 ⟨rfl, hb4⟩
              have HB4 := Lib.hid hb4
              clear hb4
              go_wp2_with fail
              (with_reducible refine (HST0' _ HB4.out).out.mono ?_)
              rintro e w5 ⟨rfl, h5⟩
              have hA5 := (HAA2.out.later HB4.out).now h5
              have HA5 := Lib.hid hA5
              clear h5 hA5
              go_wp2
              go_loopw [20] (fun iv wr => ∃ (t : Nat), iv = .int .i64 t ∧ t ≤ j ∧ Alone w p seed (mm j) G wr) (fun iv _ => j - (intOf iv).toNat)
              case atStart => exact ⟨0, rfl, by omega, HA5.out⟩
              case round =>
                obtain ⟨t, rfl, htj, hA⟩ := hrel
                by_cases htl : t < j
                · have hcv := kb_str t (by omega)
                  have hg1 : G.step1 = G := by unfold Sh.step1; rw [if_pos HB0.out]
                  have hSS := fun W (hb : Below wr.heap.size wr W) => get_is hsd (hA.later hb).1 (by rw [HN0.out]; omega) (kb t) (by rw [kb_size]; decide)
                  rw [mm_later j t htl (by omega), hg1] at hSS
                  have HSS := fun W hb => Lib.hid (hSS W hb)
                  have HAt := Lib.hid hA
                  have q1 : (t : Int) ≤ 300 := by omega
                  have q2 : (0 : Int) ≤ (t : Int) / 256 := by omega
                  have q3 : (t : Int) / 256 ≤ 255 := by omega
                  have q4 : (t : Int) < j := by omega
                  clear hA hSS hg1
                  go_wp2_with fail
                  (with_reducible refine (HSS _ ((Below.refl _ _).alloc (Nat.le_refl _) _)).out.mono ?_)
                  rintro e w6 ⟨rfl, h6⟩
                  have h7 := (HAt.out.later ((Below.refl _ _).alloc (Nat.le_refl _) _)).now h6
                  have H7 := Lib.hid h7
                  clear h6 h7
                  go_wp2
                  refine ⟨⟨t + 1, by go_num, by omega, H7.out⟩, by simp [intOf]; omega⟩
                · obtain rfl : t = j := by omega
                  have HLN := len_is hA.1
                  rw [HN0.out] at HLN
                  have HLN' := fun W (hb : Below wr.heap.size wr W) => (len_is (hA.later hb).1)
                  rw [HN0.out] at HLN'
                  have HLN2 := fun W hb => Lib.hid (HLN' W hb)
                  have HAt := Lib.hid hA
                  clear hA HLN HLN' htl
                  have g1 : (4 : Int) ≤ H.fin := by omega
                  have g2 : (t : Int) ≤ H.fin := by omega
                  have g3 : (H.left : Int) = 0 ∨ (0 < (H.left : Int) ∧ (H.left : Int) = (H.A : Int) - H.At) := by
                    have h1 : H.left = 0 ∨ H.left = H.A - H.At := by
                      unfold Sh.left
                      split
                      · exact .inl rfl
                      · exact .inr rfl
                    omega
                  have g4 : (H.At : Int) ≤ H.A := by omega
                  have g5 : (H.A : Int) ≤ 65536 := by omega
                  have NG := fun W => Lib.hid (nil_get ⟨#[]⟩ W)
                  have NZ := fun W => Lib.hid (nil_sizes W)
                  have NL := fun W => Lib.hid (nil_len W)
                  have NS := fun W => Lib.hid (nil_set ⟨#[]⟩ 1 W)
                  have ND := fun W => Lib.hid (nil_del ⟨#[]⟩ W)
                  have NT := fun W => Lib.hid (nil_step 1 W)
                  clear HSZ HSZ2 SF F4 F8 HN2 HH HST0' HAA2 HA3 HB4 HA5 HAA HA HB1 HB0 HN0
                  generalize (H.left : Int) = lf at *
                  generalize (H.fin : Int) = fi at *
                  clear f1 f2 f3 f5 f6 f7 f9 hi6 him hK1 hK2 hsd htj hml
                  rcases g3 with g3 | ⟨g3, g6⟩
                  all_goals (
                    go_wp2_with fail
                    (with_reducible refine (NG _).out.mono ?_)
                    rintro e w6 ⟨rfl, hb6⟩
                    have HL6 := Lib.hid (HLN2 _ hb6).out
                    have HB6 := Lib.hid hb6
                    clear hb6
                    go_wp2_with fail
                    (with_reducible refine (NZ _).out.mono ?_)
                    rintro e w7 ⟨rfl, rfl⟩
                    go_wp2_with fail
                    (with_reducible refine HL6.out.mono ?_)
                    rintro e w7 ⟨rfl, rfl⟩
                    go_wp2_with fail
                    (with_reducible refine (NL _).out.mono ?_)
                    rintro e w7 ⟨rfl, rfl⟩
                    go_wp2_with fail
                    (with_reducible refine (NS _).out.mono ?_)
                    rintro e w8 ⟨rfl, hb8⟩
                    have HB8 := Lib.hid hb8
                    clear hb8
                    go_wp2_with fail
                    (with_reducible refine (ND _).out.mono ?_)
                    rintro e w9 ⟨rfl, rfl⟩
                    go_wp2_with fail
                    (with_reducible refine (NT _).out.mono ?_)
                    rintro e w10 ⟨rfl, hb10⟩
                    have HB10 := Lib.hid hb10
                    clear hb10
                    go_wp2
                    go_ret
                    exact ⟨rfl, ((HAt.out.2.trans (HB6.out.mono HAt.out.2.size)).trans (HB8.out.mono (HAt.out.2.trans (HB6.out.mono HAt.out.2.size)).size)).trans (HB10.out.mono ((HAt.out.2.trans (HB6.out.mono HAt.out.2.size)).trans (HB8.out.mono (HAt.out.2.trans (HB6.out.mono HAt.out.2.size)).size)).size)⟩))
end Go.Proofs.Ytifbambalfifaaa
