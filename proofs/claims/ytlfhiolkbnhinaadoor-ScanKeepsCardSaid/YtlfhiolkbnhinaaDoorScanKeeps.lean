/- ScanKeeps: a scan tells each key that is there all the time, whatever is done between. -/
import Derived.Test.YtlfhiolkbnhinaaDoorKeep
namespace Go.Proofs.YtlfhiolkbnhinaaDoor
open Go.RowKit Go.Shelf Go.Sort
attribute [local go_sem] Oper.semAt_some

/-- Each key of K was told, or it is there, and stands at F or behind it. -/
def Due (seed : Nat) (m : ByteArray → Option Int) (F : Nat) (K : List (List UInt8)) (bs : List Bool) : Prop :=
  bs.length = K.length ∧ ∀ (j : Nat) (hj : j < K.length), bs.getD j false = true ∨ ((m (keyB K[j])).isSome = true ∧ F ≤ posN seed K[j])
def More (bs bs' : List Bool) : Prop := bs'.length = bs.length ∧ ∀ j : Nat, bs.getD j false = true → bs'.getD j false = true
theorem More.refl (bs : List Bool) : More bs bs := ⟨rfl, fun _ h => h⟩
theorem More.trans {a b c : List Bool} (h : More a b) (g : More b c) : More a c := ⟨g.1.trans h.1, fun j hj => g.2 j (h.2 j hj)⟩
theorem More.set (bs : List Bool) (j : Nat) : More bs (bs.set j true) := by
  refine ⟨List.length_set, fun i hi => ?_⟩
  rw [List.getD_eq_getElem?_getD] at hi ⊢
  rw [List.getElem?_set]
  split
  · split
    · rfl
    · rename_i h1 h2
      rw [List.getElem?_eq_none (by omega)] at hi
      simp at hi
  · exact hi
theorem set_at (bs : List Bool) (j : Nat) (hj : j < bs.length) : (bs.set j true).getD j false = true := by
  rw [List.getD_eq_getElem?_getD, List.getElem?_set_self hj]
  rfl
def Short (m : ByteArray → Option Int) : Prop := ∀ k, (m k).isSome = true → k.size ≤ 12

theorem next_front (s F : Nat) (hs : isS (s : Int) = true) (hs2 : s ≤ 1024) (hF : F < 4294967296) :
    ∃ F', nextN (frontC F) s = frontC F' ∧ F' ≤ 4294967296 ∧ F / 4194304 + 1 ≤ F' / 4194304 ∧ ∀ q, F ≤ q → q < F' → q / unitN s = F / unitN s := by
  obtain ⟨u, hh, h1, h2⟩ := cur_facts s hs
  have hG : 4194304 ∣ u := by
    obtain ⟨k, hk, hk2, rfl⟩ := size_pow hs
    have h3 : k ≤ 10 := (Nat.pow_le_pow_iff_right (a := 2) (by decide)).1 hs2
    rw [unit_pow k (by omega)] at hh
    rw [← hh]
    exact Nat.pow_dvd_pow 2 (show 22 ≤ 32 - k by omega)
  have h4 : F / u < s := by rw [Nat.div_lt_iff_lt_mul h2, h1]; exact hF
  have h5 : (F / u + 1) * u ≤ s * u := Nat.mul_le_mul_right _ h4
  have h6 : F < (F / u + 1) * u := by rw [Nat.mul_comm]; exact Nat.lt_mul_div_succ F h2
  refine ⟨(F / u + 1) * u, ?_, by omega, ?_, fun q hq1 hq2 => ?_⟩
  · unfold nextN upN frontC
    rw [turn_turn _ (Nat.mod_lt _ (by decide)), Nat.mod_eq_of_lt hF, hh]
  · obtain ⟨c, hc⟩ := Nat.dvd_trans hG (Nat.dvd_mul_left u (F / u + 1))
    rw [hc] at h6 ⊢
    rw [Nat.mul_div_cancel_left _ (by decide)]
    exact Nat.div_lt_of_lt_mul h6
  · rw [hh]
    have h7 : F / u ≤ q / u := Nat.div_le_div_right hq1
    have h8 : q / u < F / u + 1 := (Nat.div_lt_iff_lt_mul h2).2 hq2
    omega
theorem Due.next {seed : Nat} {m : ByteArray → Option Int} {F F' s : Nat} {K L : List (List UInt8)} {bs bs' : List Bool} (h : Due seed m F K bs) (hT : Tells seed m s F L) (hq : ∀ q, F ≤ q → q < F' → q / unitN s = F / unitN s)
    (hm : More bs bs') (hL : ∀ (j : Nat) (hj : j < K.length), K[j] ∈ L → bs'.getD j false = true) : Due seed m F' K bs' := by
  refine ⟨hm.1.trans h.1, fun j hj => ?_⟩
  rcases h.2 j hj with h1 | ⟨h1, h2⟩
  · exact .inl (hm.2 j h1)
  · rcases Nat.lt_or_ge (posN seed K[j]) F' with h3 | h3
    · exact .inl (hL j hj (hT.all _ h1 h2 (hq _ h2 h3)))
    · exact .inr ⟨h1, h3⟩
theorem Due.acted {seed : Nat} {m m' : ByteArray → Option Int} {F : Nat} {K : List (List UInt8)} {bs bs' : List Bool} {d : Int} {key : ByteArray} (h : Due seed m F K bs) (hm : More bs bs')
    (hk : ∀ k, (m k).isSome = true → ¬ (dels d ∧ k = key) → (m' k).isSome = true) (hL : dels d → ∀ (j : Nat) (hj : j < K.length), keyB K[j] = key → bs'.getD j false = true) : Due seed m' F K bs' := by
  refine ⟨hm.1.trans h.1, fun j hj => ?_⟩
  rcases h.2 j hj with h1 | ⟨h1, h2⟩
  · exact .inl (hm.2 j h1)
  · by_cases h3 : dels d ∧ keyB K[j] = key
    · exact .inl (hL h3.1 j hj h3.2)
    · exact .inr ⟨hk _ h1 h3, h2⟩
theorem Due.end_ {seed : Nat} {m : ByteArray → Option Int} {K : List (List UInt8)} {bs : List Bool} (h : Due seed m 4294967296 K bs) (j : Nat) (hj : j < bs.length) : bs[j] = true := by
  rcases h.2 j (by rw [← h.1]; exact hj) with h1 | ⟨_, h1⟩
  · rw [List.getD_eq_getElem?_getD, List.getElem?_eq_getElem hj] at h1
    exact h1
  · have := posN_lt seed (K[j]'(by rw [← h.1]; exact hj))
    omega

set_option maxRecDepth 100000 in
set_option maxHeartbeats 16000000 in
theorem keeps_walk (seed : Nat) (hsd : seed < 4294967296) (a : Option Addr) (cap : Nat) (l : List (Int × ByteArray × Int)) (_ : l.length ≤ 9223372036854775807) (hz : ∀ x ∈ l, x.2.1.size ≤ 9223372036854775807)
    (ab : Option Addr) (capb : Nat) (lb : List (Int × ByteArray × Int)) (_ : lb.length ≤ 9223372036854775807) (hzb : ∀ x ∈ lb, x.2.1.size ≤ 9223372036854775807)
    (w : World) (hEnv : Env w) (hE : Acts w a l) (hEb : Acts w ab lb) : Calls Tryd.prog 6 #[.int .u32 seed, .slice a l.length cap, .slice ab lb.length capb] w fun e w' => e = .returned (.bool true) ∧ Below w.heap.size w w' := by
  have HE := Lib.hid hE
  have HEB := Lib.hid hEb
  have HV := Lib.hid hEnv
  clear hE hEb
  go_enter Tryd.func6, Tryd.ntmps6
  go_wp2_with fail
  refine (shown_any _ HV.out).mono ?_
  rintro e w1 ⟨rfl, hb1⟩
  have HB1 := Lib.hid hb1
  clear hb1 hEnv
  go_wp2_with fail
  refine (new_is seed _).mono ?_
  rintro e w2 ⟨p, rfl, h2, hb2⟩
  have hA := Alone.new HB1.out h2 hb2
  have HA := Lib.hid hA
  clear h2 hb2 hA
  go_wp2
  go_loopw [9] (fun i wr => ∃ (j : Nat) (m : ByteArray → Option Int) (n : Sh), i = .int .i64 j ∧ j ≤ l.length ∧ j ≤ 80 ∧ Alone w p seed m n wr ∧ n.n ≤ j ∧ n.small ∧ Short m) (fun i _ => l.length - (intOf i).toNat)
  case atStart => exact ⟨0, _, _, rfl, by omega, by omega, HA.out, Nat.le_refl _, ⟨by show 4 ≤ 1024; omega, by show 0 ≤ 1024; omega⟩, fun k hk => by simp at hk⟩
  case round =>
    obtain ⟨j, m, n, rfl, hj, hj100, hA, hn, hsm, hsh⟩ := hrel
    by_cases hlt : j < l.length ∧ j < 80
    · obtain ⟨hjl, hj8⟩ := hlt
      obtain ⟨b, off, rfl, c0, c1, c2⟩ := (HE.out.below hA.2) j hjl
      have hsz := hz _ (List.getElem_mem hjl)
      generalize l[j] = x at *
      obtain ⟨d, kk, vv⟩ := x
      simp only at c0 c1 c2 hsz
      have hACT := Lib.hid (acted_is hsd hA (by omega) hsm d kk hsz vv)
      have hj8' : (j : Int) < 80 := by omega
      have HSH := Lib.hid hsh
      clear hA hsm hsh
      go_wp2_with fail
      (with_reducible refine hACT.out.mono ?_)
      rintro e w3 ⟨rfl, m', n', h3, h4, h5, _, _, h6⟩
      have H3 := Lib.hid h3
      have H5 := Lib.hid h5
      have H6 := Lib.hid (show Short m' from fun k hk => by
        rcases h6 k hk with h7 | h7
        · exact HSH.out k h7
        · rw [h7]; exact cutK_size kk)
      clear h3 h5 hACT h6
      go_wp2
      exact ⟨⟨j + 1, _, _, by go_num, by omega, by omega, H3.out, by omega, H5.out, H6.out⟩, by simp [intOf]; omega⟩
    · have hex : (l.length : Int) ≤ j ∨ ((j : Int) < l.length ∧ (j : Int) = 80) := by omega
      have HA3 := Lib.hid hA
      have HSM := Lib.hid hsm
      have HSH := Lib.hid hsh
      have HALL := Lib.hid (show Calls Tryd.prog 21 #[.pointer (some ⟨p, 0, none⟩)] wr fun e w' => ∃ u K, e = .returned u ∧ Own9 w' wr.heap.size u K ∧ Below wr.heap.size wr w' ∧ K.length ≤ 80 ∧ ∀ k ∈ K, (m (keyB k)).isSome = true by
        obtain ⟨⟨D, hR, hL, hD⟩, hBw⟩ := hA
        rw [← hD] at hsm
        have hnD : D.n ≤ 80 := by
          have h9 : D.shape.n = n.n := by rw [hD]
          have : D.shape.n = D.n := rfl
          omega
        refine (all_any hR hL (by omega) hsm (HV.out.below hBw)).mono ?_
        rintro e w' ⟨u, h1, h2, h3⟩
        exact ⟨u, _, h1, h2, h3, Nat.le_trans (scans_len hL hsm D.least (Nat.le_refl _)).1 hnD, fun k hk => ((scans_front hL hsm D.least (Nat.le_refl _)).is k hk).1⟩)
      clear hA hlt hsm hsh HA HB1
      rcases hex with hex | ⟨hex, hex2⟩
      all_goals (
        go_wp2_with fail
        (with_reducible refine HALL.out.mono ?_)
        rintro e w4 ⟨uall, K, rfl, hu, hb4, hKl, hKm⟩
        have hA4 := HA3.out.later hb4
        have HA4 := Lib.hid hA4
        obtain ⟨ua, uc, rfl, _⟩ := hu.form
        have HU := Lib.hid (hu.mono HA3.out.2.size)
        have HKM := Lib.hid hKm
        obtain ⟨i0, hi0, hz0, hz1, hz2⟩ := info_parts info4
        have hmk := run_make (P := Tryd.prog) w4 47 4 i0 (.bool false) Tryd.underlying47 hi0 hz0 .i64 .i64 0 100 (by omega) (by omega) (by rw [hz2]; omega) (by omega)
        have htold := World.ownsRow_made (base := w.heap.size) (e := 4) (size := 1) w4 (madeCells #[.bool false] (100 * 1)) 100 hA4.2.size (by unfold maxLen; omega) (by simp [madeCells])
        have hbk := (Below.refl w4.heap.size w4).alloc (Nat.le_refl _) (Obj.cells (madeCells #[Value.bool false] (100 * 1)) 4)
        rw [hz1] at hmk
        have hmk' : (Instr.makeSlice 47 (.int .i64 0) (.int .i64 100)).run Tryd.prog w4 = .ok (.slice (some ⟨w4.heap.size, 0, none⟩) 0 100) (w4.alloc (.cells (madeCells #[.bool false] (100 * 1)) 4)) := hmk
        have HT0 := Lib.hid (show Own4 (w4.alloc (.cells (madeCells #[.bool false] (100 * 1)) 4)) w.heap.size (.slice (some ⟨w4.heap.size, 0, none⟩) 0 100) [] from htold)
        have HBK := Lib.hid hbk
        clear hu hb4 hA4 hKm hmk htold hbk HALL hi0 hz0 hz1 hz2
        generalize hw5 : w4.alloc (.cells (madeCells #[.bool false] (100 * 1)) 4) = w5 at *
        have HKB0 := Lib.hid (show KB w p seed (.slice ua K.length uc) (.slice (some ⟨w4.heap.size, 0, none⟩) 0 100) K m n [] w5 from ⟨HA4.out.later HBK.out, HU.out.below HBK.out, HT0.out⟩)
        clear HA4 HU HBK HT0 hw5
        go_upto_region 10 with fail
        have hki : (K.length : Int) ≤ 80 := by omega
        go_loopw [11, 12] (fun tv iv wr => ∃ y : Nat, iv = .int .i64 y ∧ y ≤ K.length ∧ KB w p seed (.slice ua K.length uc) tv K m n (List.replicate y false) wr) (fun _ iv _ => K.length - (intOf iv).toNat)
        case atStart => exact ⟨0, rfl, Nat.zero_le _, HKB0.out⟩
        case round =>
          clear HKB0
          obtain ⟨y, rfl, hy, hKB⟩ := hrel
          by_cases hyl : y < K.length
          · obtain ⟨v7, w7, hrun, hKB7⟩ := hKB.push (by rw [List.length_replicate]; omega)
            have hrep : List.replicate y false ++ [false] = List.replicate (y + 1) false := by rw [List.replicate_succ']
            rw [hrep] at hKB7
            have HKB7 := Lib.hid hKB7
            have hyi : (y : Int) < K.length := by omega
            clear hKB hKB7 hrep
            go_wp2_with (at_builtin; refine wpList_append_ran rfl _ _ 47 47 rfl rfl rfl hrun ?_)
            exact ⟨⟨y + 1, by go_num, by omega, HKB7.out⟩, by simp [intOf]; omega⟩
          · obtain rfl : y = K.length := by omega
            have HKB := Lib.hid hKB
            obtain ⟨ta, tc, rfl, _⟩ := hKB.told.form
            rw [List.length_replicate] at HKB
            rw [List.length_replicate]
            clear hKB
            go_upto_region 15 with fail
            go_loopw [13, 14] (fun cv iv wr => ∃ (i F : Nat) (m : ByteArray → Option Int) (n : Sh) (bs : List Bool), iv = .int .i64 i ∧ cv = .int .u32 (frontC F) ∧ F < 4294967296 ∧ i ≤ F / 4194304 ∧ KB w p seed (.slice ua K.length uc) (.slice ta K.length tc) K m n bs wr ∧ Due seed m F K bs ∧ n.n ≤ 80 + min i 120 ∧ n.small ∧ Short m) (fun _ iv _ => 2000 - (intOf iv).toNat)
            case atStart => exact ⟨0, 0, m, n, _, rfl, front0V, by omega, Nat.zero_le _, HKB.out, ⟨List.length_replicate, fun x hx => .inr ⟨HKM.out _ (List.getElem_mem hx), Nat.zero_le _⟩⟩, by omega, HSM.out, HSH.out⟩
            case round =>
              clear HKB HSM HSH HKM hn
              obtain ⟨i, F, m, n, bs, rfl, rfl, hF, hiF, hKB, hDue, hn, hsm, hsh⟩ := hrel
              have hcl := frontC_lt F
              have hEw : Env wr := HV.out.below hKB.dict.2
              obtain ⟨l1, l2⟩ := least_ok hKB.dict.1 hsm
              obtain ⟨F', x1, x2, x3, x4⟩ := next_front n.least F l1 l2 hF
              have hSC := scan_is hKB.dict.1 (by omega) hsm (frontC F) hcl hEw
              rw [x1, frontC_pos F hF] at hSC
              have HSC := Lib.hid hSC
              have HKB := Lib.hid hKB
              have HDUE := Lib.hid hDue
              have HSM := Lib.hid hsm
              have HSH := Lib.hid hsh
              have HX4 := Lib.hid x4
              have hi3 : (i : Int) < 3000 := by omega
              have hi2 : i < 1024 := by omega
              clear hSC hKB hDue hsm hsh x1 x4 hEw
              generalize frontC F = c at *
              go_wp2_with fail
              (with_reducible refine HSC.out.mono ?_)
              rintro e w5 ⟨ul, L, rfl, hul, hb5, hT⟩
              obtain ⟨la, lc, rfl, _⟩ := hul.form
              have HT := Lib.hid hT
              have HKB5 := Lib.hid (HKB.out.later hb5)
              have HL5 := Lib.hid (hul.mono HKB.out.dict.2.size)
              have hLl : L.length ≤ 200 := by
                obtain ⟨K2, k1, k2, k3⟩ := keys_is HKB.out.dict.1
                have := nodup_sub (K := K2) hT.nodup (fun k hk => by
                  have h9 := (k3 (keyB k)).2 (hT.is k hk).1
                  rwa [keyB_list] at h9)
                omega
              have hLi : (L.length : Int) ≤ 200 := by omega
              clear hul hb5 hT HSC HKB
              go_upto_region 19 with fail
              go_loopw [17] (fun kv wz => ∃ (x : Nat) (n' : Sh) (bs' : List Bool), kv = .int .i64 x ∧ x ≤ L.length ∧ KB w p seed (.slice ua K.length uc) (.slice ta K.length tc) K m n' bs' wz ∧ Own9 wz w.heap.size (.slice la L.length lc) L ∧ n'.n = n.n ∧ n'.small ∧ More bs bs' ∧ ∀ (y : Nat) (hy : y < K.length), K[y] ∈ L.take x → bs'.getD y false = true) (fun kv _ => L.length - (intOf kv).toNat)
              case atStart => exact ⟨0, n, bs, rfl, Nat.zero_le _, HKB5.out, HL5.out, rfl, HSM.out, More.refl _, fun y hy h => by simp at h⟩
              case round =>
                clear HKB5 HL5
                obtain ⟨x, n', bs', rfl, hx, hKB, hL, hn', hsm', hmore, htk⟩ := hrel
                by_cases hxl : x < L.length
                · have hxi : (x : Int) < L.length := by omega
                  obtain ⟨la', lc', he, hlat⟩ := hL.form
                  obtain ⟨g, hg, hcx⟩ := hlat x hxl
                  obtain rfl : la = la' := by injection he
                  subst hg
                  have hks := (HT.out.is _ (List.getElem_mem hxl)).1
                  have hksz := HSH.out _ hks
                  have hGET := get_is hsd hKB.dict.1 (by omega) (keyB L[x]) (by omega)
                  rw [hks] at hGET
                  have HGET := Lib.hid hGET
                  have HKB := Lib.hid hKB
                  have HLR := Lib.hid hL
                  have HSM' := Lib.hid hsm'
                  have HMO := Lib.hid hmore
                  have HTK := Lib.hid htk
                  have HTKN := Lib.hid (show L.take (x + 1) = L.take x ++ [L[x]] from (List.take_succ_eq_append_getElem hxl))
                  generalize hLx : L[x] = kx at *
                  have HLX := Lib.hid hLx
                  clear hGET hKB hL hsm' hmore htk he hlat hks hLx
                  go_wp2_with fail
                  (with_reducible refine HGET.out.mono ?_)
                  rintro e w6 ⟨rfl, h6⟩
                  have HKB6 := Lib.hid (HKB.out.now h6)
                  have HL6 := Lib.hid (HLR.out.kept (Kept.now h6))
                  clear h6 HGET hcx
                  go_upto_region 25 with fail
                  go_loopw [20] (fun jv wz => ∃ (y : Nat) (bb : List Bool), jv = .int .i64 y ∧ y ≤ K.length ∧ KB w p seed (.slice ua K.length uc) (.slice ta K.length tc) K m n'.step1 bb wz ∧ Own9 wz w.heap.size (.slice (some ⟨g, 0, none⟩) L.length lc) L ∧ More bs' bb ∧ ∀ (z : Nat) (hz : z < K.length), z < y → K[z] = kx → bb.getD z false = true) (fun jv _ => K.length - (intOf jv).toNat)
                  case atStart => exact ⟨0, bs', rfl, Nat.zero_le _, HKB6.out, HL6.out, More.refl _, fun z hz h => by omega⟩
                  case round =>
                    clear HKB6 HL6 HKB HLR
                    obtain ⟨y, bb, rfl, hy, hKB, hL, hmo, htk⟩ := hrel
                    have HKB := Lib.hid hKB
                    have HLR := Lib.hid hL
                    have HMB := Lib.hid hmo
                    have HTB := Lib.hid htk
                    by_cases hyl : y < K.length
                    · have hyi : (y : Int) < K.length := by omega
                      obtain ⟨ua', uc', he1, hua⟩ := hKB.all.form
                      obtain ⟨gu, hgu, hcu⟩ := hua y hyl
                      obtain rfl : ua = ua' := by injection he1
                      subst hgu
                      have hbl : bb.length = K.length := (hmo.1.trans HMO.out.1).trans HDUE.out.1
                      obtain ⟨ta', tc', he2, hta⟩ := hKB.told.form
                      obtain ⟨gt, hgt, hct, hft⟩ := hta y (by omega)
                      obtain rfl : ta = ta' := by injection he2
                      subst hgt
                      obtain ⟨la', lc', he3, hlat⟩ := hL.form
                      obtain ⟨gl, hgl, hcl2⟩ := hlat x hxl
                      have hgg : gl = g := by
                        injection he3 with he3
                        rw [hgl] at he3
                        injection he3 with he3
                        injection he3 with he3
                        exact he3.symm
                      subst hgg
                      rw [HLX.out] at hcl2
                      clear hKB hL hmo htk he1 hua he2 hta he3 hlat hgl
                      by_cases heq : K[y] = kx
                      · have hne : ((keyB K[y]).toList == (keyB kx).toList) = true := by rw [heq]; simp
                        have HEQ := Lib.hid heq
                        generalize hsy : keyB K[y] = sy at *
                        clear hsy heq
                        generalize hsx : keyB kx = sx at *
                        clear hsx
                        have hst : ∀ q, Hid (KB w p seed (.slice (some ⟨gu, 0, none⟩) K.length uc) (.slice (some ⟨gt, 0, none⟩) K.length tc) K m n'.step1 (bb.set y true) ((wr.drewN q).setCell ⟨gt, y, none⟩ (.bool true)) ∧ Own9 ((wr.drewN q).setCell ⟨gt, y, none⟩ (.bool true)) w.heap.size (.slice (some ⟨gl, 0, none⟩) L.length lc) L) := fun q => Lib.hid (by
                          have hd := HKB.out.later (below_drewN (Below.refl _ _) q)
                          have hLd := HLR.out.below (below_drewN (Below.refl _ _) q)
                          exact ⟨hd.store y true, hLd.bools (hd.told.store y true).2 (fun k e => by cases e; exact (hd.told.cell gt rfl).2)⟩)
                        go_wp2
                        go_quiet (fail)
                        go_wp2
                        refine ⟨⟨y + 1, bb.set y true, by go_num, by omega, (hst nq).out.1, (hst nq).out.2, HMB.out.trans (More.set _ _), fun z hz h1 h2 => ?_⟩, by simp [intOf]; omega⟩
                        by_cases hzy : z = y
                        · subst hzy
                          exact set_at _ _ (by omega)
                        · exact (More.set bb y).2 z (HTB.out z hz (by omega) h2)
                      · have hne := keyB_ne heq
                        have HEQ := Lib.hid heq
                        generalize hsy : keyB K[y] = sy at *
                        clear hsy heq
                        generalize hsx : keyB kx = sx at *
                        clear hsx
                        go_wp2
                        go_quiet (fail)
                        go_wp2
                        refine ⟨⟨y + 1, bb, by go_num, by omega, HKB.out.later (below_drewN (Below.refl _ _) nq), HLR.out.below (below_drewN (Below.refl _ _) nq), HMB.out, fun z hz h1 h2 => ?_⟩, by simp [intOf]; omega⟩
                        by_cases hzy : z = y
                        · subst hzy
                          exact absurd h2 HEQ.out
                        · exact HTB.out z hz (by omega) h2
                    · obtain rfl : y = K.length := by omega
                      clear hKB hL hmo htk
                      go_wp2
                      refine ⟨⟨x + 1, n'.step1, bb, by go_num, hxl, HKB.out, HLR.out, by rw [step1_n]; exact hn', small_step HSM'.out, HMO.out.trans HMB.out, fun z hz h1 => ?_⟩, by simp [intOf]; omega⟩
                      rw [HTKN.out, List.mem_append, List.mem_singleton] at h1
                      rcases h1 with h1 | h1
                      · exact HMB.out.2 z (HTK.out z hz h1)
                      · exact HTB.out z hz (by omega) h1
                · obtain rfl : x = L.length := by omega
                  rw [List.take_length] at htk
                  have HDN := Lib.hid (HDUE.out.next HT.out HX4.out hmore htk)
                  have HKB := Lib.hid hKB
                  have HSM' := Lib.hid hsm'
                  have HMO := Lib.hid hmore
                  clear hKB hL hsm' hmore htk HDUE HX4 HT HSM
                  have hF0 : F' ≠ 0 := by omega
                  rcases Nat.lt_or_ge F' 4294967296 with hF2 | hF2
                  · have hne : frontC F' ≠ 0 := fun e => by
                      have := frontC_zero F' e
                      omega
                    have hni : ¬ ((frontC F' : Nat) : Int) = 0 := by omega
                    generalize hcc : frontC F' = c' at *
                    have HCC := Lib.hid hcc
                    clear hcc hne
                    by_cases hst : i < lb.length ∧ i < 120
                    · obtain ⟨hs1, hs2⟩ := hst
                      have hs1' : (i : Int) < lb.length := by omega
                      have hs2' : (i : Int) < 120 := by omega
                      have hmi : min (i + 1) 120 = min i 120 + 1 := by omega
                      obtain ⟨bb, off, rfl, e0, e1, e2⟩ := (HEB.out.below HKB.out.dict.2) i hs1
                      have hsz := hzb _ (List.getElem_mem hs1)
                      generalize lb[i] = act at *
                      obtain ⟨d, kk, vv⟩ := act
                      simp only at e0 e1 e2 hsz
                      have HKEY := fun w => Lib.hid (key_any kk hsz w)
                      go_upto_region 33 with fail
                      have kx := Blk.new wr 36 #[Value.int .i64 d, .string kk, .int .i64 vv]
                      have hKBx := HKB.out.later ((Below.refl wr.heap.size wr).alloc (Nat.le_refl _) (Obj.cells #[Value.int .i64 d, .string kk, .int .i64 vv] 36))
                      generalize hgx : wr.heap.size = gx at *
                      generalize wr.alloc (Obj.cells #[Value.int .i64 d, .string kk, .int .i64 vv] 36) = wx at *
                      have y0 := kx.cell 0
                      have y1 := kx.cell 1
                      have y2 := kx.cell 2
                      simp only [List.getElem?_toArray, List.getElem?_cons_succ, List.getElem?_cons_zero] at y0 y1 y2
                      have HCK := Lib.hid (cutK_size kk)
                      have hACTW := fun W bb (h : KB w p seed (.slice ua K.length uc) (.slice ta K.length tc) K m n' bb W) => Lib.hid (acted_is hsd h.dict (by omega) HSM'.out d kk hsz vv)
                      generalize cutK kk = ck at *
                      clear hgx e0 e1 e2
                      by_cases hd : dels d
                      · have hq : (((IntKind.u64.wrap d).tmod 8 == 5) = true) ∨ (((IntKind.u64.wrap d).tmod 8 == 5) = false ∧ ((IntKind.u64.wrap d).tmod 8 == 6) = true) := by
                          unfold dels at hd
                          rcases hd with h | h
                          · exact .inl (by simpa using h)
                          · exact .inr ⟨by rw [h]; decide, by simpa using h⟩
                        have HKX := Lib.hid kx
                        have HKB1 := Lib.hid hKBx
                        clear kx hKBx
                        rcases hq with hq5 | ⟨hq5, hq6⟩
                        all_goals (
                          go_upto_region 35 with fail
                          go_loopw [22] (fun jv wz => ∃ (y : Nat) (bb : List Bool), jv = .int .i64 y ∧ y ≤ K.length ∧ KB w p seed (.slice ua K.length uc) (.slice ta K.length tc) K m n' bb wz ∧ Blk wz gx 36 #[Value.int .i64 d, .string kk, .int .i64 vv] ∧ More bs' bb ∧ ∀ (z : Nat) (hz : z < K.length), z < y → keyB K[z] = ck → bb.getD z false = true) (fun jv _ => K.length - (intOf jv).toNat)
                          case atStart => exact ⟨0, bs', rfl, Nat.zero_le _, HKB1.out, HKX.out, More.refl _, fun z hz h => by omega⟩
                          case round =>
                            clear HKB1 HKX y0 y1 y2
                            obtain ⟨y, bb, rfl, hy, hKB, hkx, hmo, htk⟩ := hrel
                            have y0 := hkx.cell 0
                            have y1 := hkx.cell 1
                            have y2 := hkx.cell 2
                            simp only [List.getElem?_toArray, List.getElem?_cons_succ, List.getElem?_cons_zero] at y0 y1 y2
                            have HKBX := Lib.hid hKB
                            have HKX := Lib.hid hkx
                            have HMB := Lib.hid hmo
                            have HTB := Lib.hid htk
                            by_cases hyl : y < K.length
                            · have hyi : (y : Int) < K.length := by omega
                              obtain ⟨ua', uc', he1, hua⟩ := hKB.all.form
                              obtain ⟨gu, hgu, hcu⟩ := hua y hyl
                              obtain rfl : ua = ua' := by injection he1
                              subst hgu
                              have hbl : bb.length = K.length := hmo.1.trans HDN.out.1
                              obtain ⟨ta', tc', he2, hta⟩ := hKB.told.form
                              obtain ⟨gt, hgt, hct, hft⟩ := hta y (by omega)
                              obtain rfl : ta = ta' := by injection he2
                              subst hgt
                              clear hKB hkx hmo htk he1 hua he2 hta hACTW
                              by_cases heq : keyB K[y] = ck
                              · have hne : ((keyB K[y]).toList == ck.toList) = true := by rw [heq]; simp
                                have hst : ∀ q, Hid (KB w p seed (.slice (some ⟨gu, 0, none⟩) K.length uc) (.slice (some ⟨gt, 0, none⟩) K.length tc) K m n' (bb.set y true) ((wr.drewN q).setCell ⟨gt, y, none⟩ (.bool true)) ∧ Blk ((wr.drewN q).setCell ⟨gt, y, none⟩ (.bool true)) gx 36 #[Value.int .i64 d, .string kk, .int .i64 vv]) := fun q => Lib.hid (by
                                  have hd := HKBX.out.later (below_drewN (Below.refl _ _) q)
                                  have hx := HKX.out.later (below_drewN (Below.refl _ _) q)
                                  refine ⟨hd.store y true, hx.setOther y _ fun e => ?_⟩
                                  obtain ⟨c, hc⟩ := (hd.told.cell gt rfl).2
                                  rw [← e] at hc
                                  have := Blk.ty hx hc
                                  revert this
                                  decide)
                                generalize hsy : keyB K[y] = sy at *
                                clear hsy heq
                                go_wp2
                                go_quiet ((go_at_call 23; exact Calls.quiet_of_same (HKEY _).out))
                                go_wp2
                                refine ⟨⟨y + 1, bb.set y true, by go_num, by omega, (hst nq).out.1, (hst nq).out.2, HMB.out.trans (More.set _ _), fun z hz h1 h2 => ?_⟩, by simp [intOf]; omega⟩
                                by_cases hzy : z = y
                                · subst hzy
                                  exact set_at _ _ (by omega)
                                · exact (More.set bb y).2 z (HTB.out z hz (by omega) h2)
                              · have hne : ((keyB K[y]).toList == ck.toList) = false := by
                                  rw [ByteArray.toList_eq, ByteArray.toList_eq]
                                  have : (keyB K[y]).data.toList ≠ ck.data.toList := fun e => heq (ByteArray.ext (Array.toList_inj.1 e))
                                  simpa using this
                                have HEQ := Lib.hid heq
                                generalize hsy : keyB K[y] = sy at *
                                have HSY := Lib.hid hsy
                                clear hsy heq
                                go_wp2
                                go_quiet ((go_at_call 23; exact Calls.quiet_of_same (HKEY _).out))
                                go_wp2
                                refine ⟨⟨y + 1, bb, by go_num, by omega, HKBX.out.later (below_drewN (Below.refl _ _) nq), HKX.out.later (below_drewN (Below.refl _ _) nq), HMB.out, fun z hz h1 h2 => ?_⟩, by simp [intOf]; omega⟩
                                by_cases hzy : z = y
                                · subst hzy
                                  exact absurd (HSY.out.symm.trans h2) HEQ.out
                                · exact HTB.out z hz (by omega) h2
                            · obtain rfl : y = K.length := by omega
                              have hACT := hACTW wr bb hKB
                              have HMX := Lib.hid hmo
                              have HTX := Lib.hid (show dels d → ∀ (z : Nat) (hz : z < K.length), keyB K[z] = ck → bb.getD z false = true from fun _ z hz h => htk z hz (by omega) h)
                              clear hKB hkx hmo htk hACTW
                              go_wp2_with fail
                              (with_reducible refine hACT.out.mono ?_)
                              rintro e w9 ⟨rfl, m2, n2, h3, h4, h5, h6, h7, h8⟩
                              have HK9 := Lib.hid (HKBX.out.acted h3 h7)
                              have HD9 := Lib.hid (HDN.out.acted HMX.out h6 HTX.out)
                              have H5 := Lib.hid h5
                              have HS9 := Lib.hid (show Short m2 from fun k hk => by
                                rcases h8 k hk with h9 | h9
                                · exact HSH.out k h9
                                · rw [h9]; exact HCK.out)
                              clear h3 h5 h6 h7 h8 hACT
                              go_wp2
                              exact ⟨⟨i + 1, F', m2, n2, bb, by go_num, by rw [HCC.out], hF2, by omega, HK9.out, HD9.out, by omega, H5.out, HS9.out⟩, by simp [intOf]; omega⟩)
                      · have hq5 : ((IntKind.u64.wrap d).tmod 8 == 5) = false := by
                          have : (IntKind.u64.wrap d).tmod 8 ≠ 5 := fun e => hd (.inl e)
                          simpa using this
                        have hq6 : ((IntKind.u64.wrap d).tmod 8 == 6) = false := by
                          have : (IntKind.u64.wrap d).tmod 8 ≠ 6 := fun e => hd (.inr e)
                          simpa using this
                        have hACT := hACTW wx bs' hKBx
                        have HKBX := Lib.hid hKBx
                        have HMX := Lib.hid (More.refl bs')
                        have HTX := Lib.hid (show dels d → ∀ (z : Nat) (hz : z < K.length), keyB K[z] = ck → bs'.getD z false = true from fun h => absurd h hd)
                        clear kx hKBx hACTW
                        go_wp2_with fail
                        (with_reducible refine hACT.out.mono ?_)
                        rintro e w9 ⟨rfl, m2, n2, h3, h4, h5, h6, h7, h8⟩
                        have HK9 := Lib.hid (HKBX.out.acted h3 h7)
                        have HD9 := Lib.hid (HDN.out.acted HMX.out h6 HTX.out)
                        have H5 := Lib.hid h5
                        have HS9 := Lib.hid (show Short m2 from fun k hk => by
                          rcases h8 k hk with h9 | h9
                          · exact HSH.out k h9
                          · rw [h9]; exact HCK.out)
                        clear h3 h5 h6 h7 h8 hACT
                        go_wp2
                        exact ⟨⟨i + 1, F', m2, n2, bs', by go_num, by rw [HCC.out], hF2, by omega, HK9.out, HD9.out, by omega, H5.out, HS9.out⟩, by simp [intOf]; omega⟩
                    · have hex3 : (lb.length : Int) ≤ i ∨ ((i : Int) < lb.length ∧ ¬ (i : Int) < 120) := by omega
                      rcases hex3 with h3 | ⟨h3, h4⟩
                      all_goals (
                        go_wp2
                        exact ⟨⟨i + 1, F', m, n', bs', by go_num, by rw [HCC.out], hF2, by omega, HKB.out, HDN.out, by omega, HSM'.out, HSH.out⟩, by simp [intOf]; omega⟩)
                  · obtain rfl : F' = 4294967296 := by omega
                    rw [frontEV]
                    have HEND := Lib.hid HDN.out.end_
                    have HBW := Lib.hid HKB.out.dict.2
                    have hbl : bs'.length = K.length := HDN.out.1
                    obtain ⟨ta', tc', he2, hta⟩ := HKB.out.told.form
                    have HTA := Lib.hid hta
                    obtain rfl : ta = ta' := by injection he2
                    clear hta he2
                    generalize wr = wa at *
                    go_upto_region 41 with fail
                    go_loopw [23] (fun jv wz => ∃ y : Nat, jv = .int .i64 y ∧ y ≤ K.length ∧ wz = wa) (fun jv _ => K.length - (intOf jv).toNat)
                    case atStart => exact ⟨0, rfl, Nat.zero_le _, rfl⟩
                    case round =>
                      obtain ⟨y, rfl, hy, rfl⟩ := hrel
                      by_cases hyl : y < K.length
                      · obtain ⟨gt, hgt, hct, _⟩ := HTA.out y (by omega)
                        rw [HEND.out y (by omega)] at hct
                        subst hgt
                        have hyi : (y : Int) < K.length := by omega
                        go_wp2
                        exact ⟨⟨y + 1, by go_num, by omega, trivial⟩, by simp [intOf]; omega⟩
                      · obtain rfl : y = K.length := by omega
                        go_wp2
                        go_ret
                        exact ⟨rfl, HBW.out⟩)
end Go.Proofs.YtlfhiolkbnhinaaDoor
