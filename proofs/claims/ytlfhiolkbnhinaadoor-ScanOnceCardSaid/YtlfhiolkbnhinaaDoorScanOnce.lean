/- ScanOnce: without changes a scan tells each key once. -/
import Derived.Test.YtlfhiolkbnhinaaDoorAll
import Derived.Test.YtlfhiolkbnhinaaDoorTexts
import Derived.Test.YtlfhiolkbnhinaaDoorActed
namespace Go.Proofs.YtlfhiolkbnhinaaDoor
open Go.RowKit Go.Shelf Go.Sort
attribute [local go_sem] Oper.semAt_some

set_option maxRecDepth 100000 in
theorem all_nil (w : World) : Calls Tryd.prog 21 #[.pointer none] w fun e w' => ∃ ua uc, e = .returned (.slice ua 0 uc) ∧ Below w.heap.size w w' := by
  have HS := fun W => Lib.hid (show Calls Tryd.prog 17 #[.pointer none, .int .u32 0] W fun e w' => ∃ u, e = .returned (.tuple #[u, .int .u32 0]) ∧ Own9 w' W.heap.size u [] ∧ Below W.heap.size W w' from scan_nil 0 (by decide) W)
  go_enter Tryd.func21, Tryd.ntmps21
  go_wp2_with fail
  (with_reducible refine (HS _).out.mono ?_)
  rintro e w1 ⟨u, rfl, hu, hb1⟩
  obtain ⟨ua, uc, rfl, _⟩ := hu.form
  go_upto_region 2 with fail
  go_loopw [3, 4] (fun lv cv wr => lv = .slice ua 0 uc ∧ cv = .int .u32 0 ∧ wr = w1) (fun _ _ _ => 0)
  case atStart => exact ⟨rfl, rfl, rfl⟩
  case round =>
    obtain ⟨rfl, rfl, rfl⟩ := hrel
    go_wp2
    go_ret
    exact ⟨_, _, rfl, hb1⟩

theorem least_min {D : Dc} : (D.b.length = 0 → D.least = D.a.length) ∧ (0 < D.b.length → (D.least : Int) = min (D.a.length : Int) (D.b.length : Int)) := by
  unfold Dc.least smallT
  constructor
  · intro h
    rw [if_pos (.inl h)]
  · intro h
    by_cases h2 : D.a.length ≤ D.b.length
    · rw [if_pos (.inr h2)]; simp only; omega
    · rw [if_neg (by omega)]; simp only; omega

set_option maxRecDepth 100000 in
set_option maxHeartbeats 8000000 in
theorem once_walk (seed : Nat) (hsd : seed < 4294967296) (a : Option Addr) (cap : Nat) (l : List (Int × ByteArray × Int)) (_ : l.length ≤ 9223372036854775807) (hz : ∀ x ∈ l, x.2.1.size ≤ 9223372036854775807)
    (w : World) (hEnv : Env w) (hE : Acts w a l) : Calls Tryd.prog 7 #[.int .u32 seed, .slice a l.length cap] w fun e w' => e = .returned (.bool true) ∧ Below w.heap.size w w' := by
  have HE := Lib.hid hE
  have HV := Lib.hid hEnv
  clear hE
  go_enter Tryd.func7, Tryd.ntmps7
  go_wp2_with fail
  refine (shown_any _ HV.out).mono ?_
  rintro e w1 ⟨rfl, hb1⟩
  have HB1 := Lib.hid hb1
  clear hb1 hEnv
  go_wp2_with fail
  refine (new_is seed _).mono ?_
  rintro e w2 ⟨p, rfl, h2, hb2⟩
  have hA := Alone.new HB1.out h2 hb2
  have HA := Lib.hid hA
  clear h2 hb2 hA
  go_wp2
  go_loopw [7] (fun i wr => ∃ (j : Nat) (m : ByteArray → Option Int) (n : Sh), i = .int .i64 j ∧ j ≤ l.length ∧ j ≤ 100 ∧ Alone w p seed m n wr ∧ n.n ≤ j ∧ n.small) (fun i _ => l.length - (intOf i).toNat)
  case atStart => exact ⟨0, _, _, rfl, by omega, by omega, HA.out, Nat.le_refl _, ⟨by show 4 ≤ 1024; omega, by show 0 ≤ 1024; omega⟩⟩
  case round =>
    obtain ⟨j, m, n, rfl, hj, hj100, hA, hn, hsm⟩ := hrel
    by_cases hlt : j < l.length ∧ j < 100
    · obtain ⟨hjl, hj8⟩ := hlt
      obtain ⟨b, off, rfl, c0, c1, c2⟩ := (HE.out.below hA.2) j hjl
      have hsz := hz _ (List.getElem_mem hjl)
      generalize l[j] = x at *
      obtain ⟨d, kk, vv⟩ := x
      simp only at c0 c1 c2 hsz
      have hACT := Lib.hid (acted_is hsd hA (by omega) hsm d kk hsz vv)
      have hj8' : (j : Int) < 100 := by omega
      clear hA hsm
      go_wp2_with fail
      (with_reducible refine hACT.out.mono ?_)
      rintro e w3 ⟨rfl, m', n', h3, h4, h5, _⟩
      have H3 := Lib.hid h3
      have H5 := Lib.hid h5
      clear h3 h5 hACT
      go_wp2
      exact ⟨⟨j + 1, _, _, by go_num, by omega, by omega, H3.out, by omega, H5.out⟩, by simp [intOf]; omega⟩
    · have hex : (l.length : Int) ≤ j ∨ ((j : Int) < l.length ∧ (j : Int) = 100) := by omega
      obtain ⟨⟨D, hR, hL, hD⟩, hBw⟩ := hA
      rw [← hD] at hsm
      have hnD : D.n ≤ 500 := by
        have h9 : D.shape.n = n.n := by rw [hD]
        have : D.shape.n = D.n := rfl
        omega
      have hok := hL.1.ok
      have ho := tables_ok hok _ (.inl rfl) hsm.1 hsm.2
      have hl4 := isS_pos ho.2.1
      have hls : isS (D.least : Int) = true := ho.2.1
      have hl10 : D.least ≤ 1024 := ho.2.2.2
      have hlp : 0 < D.least := by have : (4 : Int) ≤ (D.least : Int) := hl4.1; omega
      have HSZ := Lib.hid (sizes_of hR)
      have HR := Lib.hid hR
      have HB := Lib.hid hBw
      have HL := Lib.hid hL
      have HS4 := Lib.hid hsm
      have hai : (D.a.length : Int) ≤ 1024 := by have : D.a.length ≤ 1024 := hsm.1; omega
      have hbi : (D.b.length : Int) ≤ 1024 := by have : D.b.length ≤ 1024 := hsm.2; omega
      obtain ⟨hm0, hm1⟩ := least_min (D := D)
      clear hR hBw hL hsm hok hD hn ho hl4 HA HB1
      rcases hex with hex | ⟨hex, hex2⟩
      all_goals (
        go_wp2_with fail
        (with_reducible refine HSZ.out.mono ?_)
        rintro e w4 ⟨rfl, hb4⟩
        have HB4 := Lib.hid (HB.out.trans (hb4.mono HB.out.size))
        have HR4 := Lib.hid (HR.out.later hb4)
        have HALL := Lib.hid (all_any HR4.out HL.out hnD HS4.out (HV.out.below HB4.out))
        clear hb4 HSZ
        rcases Nat.eq_zero_or_pos D.b.length with hb0 | hb0
        · have hb0' : (D.b.length : Int) = 0 := by omega
          go_upto_region 10 with fail
          rw [show (D.a.length : Int) = (D.least : Int) by rw [hm0 hb0]]
          clear hm0 hm1 hb0 hb0'
          go_wp2_with fail
          (with_reducible refine HALL.out.mono ?_)
          rintro e w5 ⟨uall, rfl, huall, hb5⟩
          have HB5 := Lib.hid (HB4.out.trans (hb5.mono HB4.out.size))
          have HR5 := Lib.hid (HR4.out.later hb5)
          have HUA := Lib.hid huall
          have hbs : w.heap.size ≤ w4.heap.size := HB4.out.size
          clear huall hb5 HALL
          go_upto_region 14 with fail
          have HFC := fun j hj h0 => Lib.hid (front_cases D.least j hls hj h0)
          have HSC := fun W (hb : Below w5.heap.size w5 W) j hj => Lib.hid (scans_call (HR5.out.later hb) HL.out hnD HS4.out j hj (HV.out.below (HB5.out.trans (hb.mono HB5.out.size))))
          have HLEN := fun j hj => Lib.hid (scans_len HL.out HS4.out j hj)
          go_loopw [12, 13, 14] (fun lv cv iv wr => ∃ i : Nat, i ≤ D.least ∧ iv = .int .i64 i ∧ cv = .int .u32 (frontC (i * unitN D.least)) ∧ Own9 wr w5.heap.size lv (scansK D i) ∧ Below w5.heap.size w5 wr) (fun _ _ iv _ => 2000 - (intOf iv).toNat)
          case atStart => exact ⟨0, Nat.zero_le _, rfl, by rw [Nat.zero_mul]; exact front0V, World.ownsRow_nil _ _ _ _, Below.refl _ _⟩
          case round =>
            obtain ⟨i, hi, rfl, rfl, hO, hb⟩ := hrel
            have HO := Lib.hid hO
            have HB := Lib.hid hb
            clear hO hb
            rcases Nat.lt_or_ge i D.least with hlt2 | hge
            · have hSC := Lib.hid (HSC wr HB.out i hlt2).out
              have hlen := (HLEN (i + 1) (by omega)).out.1
              have hsc : scansK D (i + 1) = scansK D i ++ scanK D (i * unitN D.least) := rfl
              rw [hsc, List.length_append] at hlen
              have hi01 : (((i : Int) == 0) = true) ∨ (((i : Int) == 0) = false ∧ (((frontC (i * unitN D.least) : Nat) : Int) != 0) = true) := by
                by_cases h0 : i = 0
                · exact .inl (by simpa using h0)
                · rcases (HFC i hi (by omega)).out with ⟨h1, _⟩ | ⟨_, h2, _⟩
                  · omega
                  · exact .inr ⟨by simpa using h0, by simpa using h2⟩
              have hi5 : (i : Int) < 5000 := by omega
              have hi2 : i < 2000 := by omega
              clear hsc HSC HLEN HFC
              generalize frontC (i * unitN D.least) = c at *
              generalize hd : frontC ((i + 1) * unitN D.least) = d at *
              have HD := Lib.hid hd
              clear hd
              rcases hi01 with h0 | ⟨h0, h0'⟩
              all_goals (
                go_wp2_with fail
                (with_reducible refine hSC.out.mono ?_)
                rintro e w6 ⟨uu, rfl, hu6, hb6⟩
                have hO6 := HO.out.below hb6
                have hz6 := hb6.size
                have hzr := HB.out.size
                obtain ⟨v7, w7, hrun, hO7, hg7⟩ := hO6.join hu6 (by omega) (by omega)
                have hb7 : Below w5.heap.size w5 w7 := (HB.out.trans (hb6.mono HB.out.size)).grown hg7 (by omega) (fun k e => (World.ownsRow.lt hO6 k e).1)
                have HO7 := Lib.hid hO7
                have HB7 := Lib.hid hb7
                clear hO6 hu6 hb6 hO7 hg7 hb7 HO HB
                go_wp2_with (first | fail | (at_builtin; refine wpList_append_ran rfl _ _ 38 38 rfl rfl rfl hrun ?_))
                exact ⟨⟨i + 1, hlt2, by go_num, by rw [HD.out], HO7.out, HB7.out⟩, by simp [intOf]; omega⟩)
            · obtain rfl : i = D.least := by omega
              have hi0 : ((D.least : Int) == 0) = false := by have : D.least ≠ 0 := by omega
                                                              simpa using this
              have hcz : frontC (D.least * unitN D.least) = 0 := by
                rcases (HFC D.least (Nat.le_refl _) hlp).out with ⟨_, h1⟩ | ⟨h1, _⟩
                · exact h1
                · omega
              have hLN := (HLEN D.least (Nat.le_refl _)).out
              have hsf := scans_front HL.out HS4.out D.least (Nat.le_refl _)
              generalize frontC (D.least * unitN D.least) = c at *
              subst hcz
              have HND := Lib.hid hsf.nodup
              have hln := hLN.2 rfl
              generalize hK : scansK D D.least = K at *
              have HUA6 := Lib.hid (HUA.out.below HB.out)
              clear hsf hLN HFC HSC HLEN hK
              obtain ⟨ua, ucap, rfl, hat⟩ := HUA6.out.form
              have HAT := Lib.hid hat
              clear hat
              generalize wr = wa at *
              have HB6 := Lib.hid (HB5.out.trans (HB.out.mono HB5.out.size))
              have HR6 := Lib.hid (HR5.out.later HB.out)
              have hK5 : K.length ≤ 500 := by omega
              have hki : (K.length : Int) ≤ 500 := by omega
              go_upto_region 20 with fail
              go_loopw [17] (fun iv wz => ∃ x : Nat, iv = .int .i64 x ∧ x ≤ K.length ∧ Below wa.heap.size wa wz ∧ ∀ a, wz.cell? a = wa.cell? a) (fun iv _ => K.length - (intOf iv).toNat)
              case atStart => exact ⟨0, rfl, by omega, Below.refl _ _, fun _ => rfl⟩
              case round =>
                obtain ⟨x, rfl, hx, hbz, hcz⟩ := hrel
                by_cases hxl : x < K.length
                · have hxi : (x : Int) < K.length := by omega
                  obtain ⟨g, rfl, hcx⟩ := HAT.out x hxl
                  have HBZ := Lib.hid hbz
                  have HCZ := Lib.hid hcz
                  have HCX := Lib.hid hcx
                  clear hbz hcz hcx
                  go_upto_region 23 with fail
                  go_loopw [18] (fun iv wz => ∃ y : Nat, iv = .int .i64 y ∧ y ≤ x ∧ Below wa.heap.size wa wz ∧ ∀ a, wz.cell? a = wa.cell? a) (fun iv _ => x - (intOf iv).toNat)
                  case atStart => exact ⟨0, rfl, by omega, HBZ.out, HCZ.out⟩
                  case round =>
                    obtain ⟨y, rfl, hy, hby, hcy⟩ := hrel
                    by_cases hyl : y < x
                    · obtain ⟨g', he, hcy2⟩ := HAT.out y (by omega)
                      obtain rfl : g = g' := by injection he with he; injection he
                      have hcx2 := HCX.out
                      rw [← hcy] at hcx2 hcy2
                      have hne := keyB_ne (nodup_ne HND.out hxl hyl)
                      generalize keyB K[x] = sx at *
                      generalize keyB (K[y]'(by omega)) = sy at *
                      have HBY := Lib.hid hby
                      have HCY := Lib.hid hcy
                      have hyi : (y : Int) < x := by omega
                      have hyi2 : (y : Int) < K.length := by omega
                      clear hby hcy he
                      go_wp2
                      go_quiet (fail)
                      go_wp2
                      exact ⟨⟨y + 1, by go_num, by omega, HBY.out.trans ((below_drewN (Below.refl _ _) nq).mono HBY.out.size), fun a => HCY.out a⟩, by simp [intOf]; omega⟩
                    · obtain rfl : y = x := by omega
                      have HBY := Lib.hid hby
                      have HCY := Lib.hid hcy
                      clear hby hcy
                      go_wp2
                      exact ⟨⟨y + 1, by go_num, by omega, HBY.out, HCY.out⟩, by simp [intOf]; omega⟩
                · obtain rfl : x = K.length := by omega
                  have HBZ := Lib.hid hbz
                  have hSN := Lib.hid (show Calls Tryd.prog 17 #[.pointer none, .int .u32 0] wr fun e w' => ∃ u, e = .returned (.tuple #[u, .int .u32 0]) ∧ Own9 w' wr.heap.size u [] ∧ Below wr.heap.size wr w' from scan_nil 0 (by decide) wr)
                  clear hbz hcz hxl
                  go_wp2_with fail
                  (with_reducible refine hSN.out.mono ?_)
                  rintro e w8 ⟨ux, rfl, hux, hb8⟩
                  obtain ⟨xa, xc, rfl, _⟩ := hux.form
                  have HB8 := Lib.hid (HBZ.out.trans (hb8.mono HBZ.out.size))
                  have hLE := Lib.hid (len_any (HR6.out.later HB8.out))
                  have hTX := Lib.hid (texts_same (HUA6.out.below HB8.out) (HO.out.below HB8.out) (by omega))
                  have hlnI : ((K.length : Nat) : Int) = (D.n : Int) := by omega
                  clear hux hb8 hSN
                  go_wp2_with fail
                  (with_reducible refine hLE.out.mono ?_)
                  rintro e w9 ⟨rfl, rfl⟩
                  rw [hln] at hTX
                  go_wp2_with fail
                  (with_reducible refine hTX.out.mono ?_)
                  rintro e w10 ⟨rfl, hb10⟩
                  have HB10 := Lib.hid (HB8.out.trans (hb10.mono HB8.out.size))
                  clear hb10 hTX
                  go_wp2_with fail
                  (with_reducible refine (all_nil _).mono ?_)
                  rintro e w11 ⟨ya, yc, rfl, hb11⟩
                  go_wp2
                  go_ret
                  exact ⟨rfl, HB6.out.trans ((HB10.out.trans (hb11.mono HB10.out.size)).mono HB6.out.size)⟩
        · have hb0' : (0 : Int) < (D.b.length : Int) := by omega
          have hmm := hm1 hb0
          go_upto_region 10 with fail
          rw [← hmm]
          clear hm0 hm1 hb0 hb0'
          go_wp2_with fail
          (with_reducible refine HALL.out.mono ?_)
          rintro e w5 ⟨uall, rfl, huall, hb5⟩
          have HB5 := Lib.hid (HB4.out.trans (hb5.mono HB4.out.size))
          have HR5 := Lib.hid (HR4.out.later hb5)
          have HUA := Lib.hid huall
          have hbs : w.heap.size ≤ w4.heap.size := HB4.out.size
          clear huall hb5 HALL
          go_upto_region 14 with fail
          have HFC := fun j hj h0 => Lib.hid (front_cases D.least j hls hj h0)
          have HSC := fun W (hb : Below w5.heap.size w5 W) j hj => Lib.hid (scans_call (HR5.out.later hb) HL.out hnD HS4.out j hj (HV.out.below (HB5.out.trans (hb.mono HB5.out.size))))
          have HLEN := fun j hj => Lib.hid (scans_len HL.out HS4.out j hj)
          go_loopw [12, 13, 14] (fun lv cv iv wr => ∃ i : Nat, i ≤ D.least ∧ iv = .int .i64 i ∧ cv = .int .u32 (frontC (i * unitN D.least)) ∧ Own9 wr w5.heap.size lv (scansK D i) ∧ Below w5.heap.size w5 wr) (fun _ _ iv _ => 2000 - (intOf iv).toNat)
          case atStart => exact ⟨0, Nat.zero_le _, rfl, by rw [Nat.zero_mul]; exact front0V, World.ownsRow_nil _ _ _ _, Below.refl _ _⟩
          case round =>
            obtain ⟨i, hi, rfl, rfl, hO, hb⟩ := hrel
            have HO := Lib.hid hO
            have HB := Lib.hid hb
            clear hO hb
            rcases Nat.lt_or_ge i D.least with hlt2 | hge
            · have hSC := Lib.hid (HSC wr HB.out i hlt2).out
              have hlen := (HLEN (i + 1) (by omega)).out.1
              have hsc : scansK D (i + 1) = scansK D i ++ scanK D (i * unitN D.least) := rfl
              rw [hsc, List.length_append] at hlen
              have hi01 : (((i : Int) == 0) = true) ∨ (((i : Int) == 0) = false ∧ (((frontC (i * unitN D.least) : Nat) : Int) != 0) = true) := by
                by_cases h0 : i = 0
                · exact .inl (by simpa using h0)
                · rcases (HFC i hi (by omega)).out with ⟨h1, _⟩ | ⟨_, h2, _⟩
                  · omega
                  · exact .inr ⟨by simpa using h0, by simpa using h2⟩
              have hi5 : (i : Int) < 5000 := by omega
              have hi2 : i < 2000 := by omega
              clear hsc HSC HLEN HFC
              generalize frontC (i * unitN D.least) = c at *
              generalize hd : frontC ((i + 1) * unitN D.least) = d at *
              have HD := Lib.hid hd
              clear hd
              rcases hi01 with h0 | ⟨h0, h0'⟩
              all_goals (
                go_wp2_with fail
                (with_reducible refine hSC.out.mono ?_)
                rintro e w6 ⟨uu, rfl, hu6, hb6⟩
                have hO6 := HO.out.below hb6
                have hz6 := hb6.size
                have hzr := HB.out.size
                obtain ⟨v7, w7, hrun, hO7, hg7⟩ := hO6.join hu6 (by omega) (by omega)
                have hb7 : Below w5.heap.size w5 w7 := (HB.out.trans (hb6.mono HB.out.size)).grown hg7 (by omega) (fun k e => (World.ownsRow.lt hO6 k e).1)
                have HO7 := Lib.hid hO7
                have HB7 := Lib.hid hb7
                clear hO6 hu6 hb6 hO7 hg7 hb7 HO HB
                go_wp2_with (first | fail | (at_builtin; refine wpList_append_ran rfl _ _ 38 38 rfl rfl rfl hrun ?_))
                exact ⟨⟨i + 1, hlt2, by go_num, by rw [HD.out], HO7.out, HB7.out⟩, by simp [intOf]; omega⟩)
            · obtain rfl : i = D.least := by omega
              have hi0 : ((D.least : Int) == 0) = false := by have : D.least ≠ 0 := by omega
                                                              simpa using this
              have hcz : frontC (D.least * unitN D.least) = 0 := by
                rcases (HFC D.least (Nat.le_refl _) hlp).out with ⟨_, h1⟩ | ⟨h1, _⟩
                · exact h1
                · omega
              have hLN := (HLEN D.least (Nat.le_refl _)).out
              have hsf := scans_front HL.out HS4.out D.least (Nat.le_refl _)
              generalize frontC (D.least * unitN D.least) = c at *
              subst hcz
              have HND := Lib.hid hsf.nodup
              have hln := hLN.2 rfl
              generalize hK : scansK D D.least = K at *
              have HUA6 := Lib.hid (HUA.out.below HB.out)
              clear hsf hLN HFC HSC HLEN hK
              obtain ⟨ua, ucap, rfl, hat⟩ := HUA6.out.form
              have HAT := Lib.hid hat
              clear hat
              generalize wr = wa at *
              have HB6 := Lib.hid (HB5.out.trans (HB.out.mono HB5.out.size))
              have HR6 := Lib.hid (HR5.out.later HB.out)
              have hK5 : K.length ≤ 500 := by omega
              have hki : (K.length : Int) ≤ 500 := by omega
              go_upto_region 20 with fail
              go_loopw [17] (fun iv wz => ∃ x : Nat, iv = .int .i64 x ∧ x ≤ K.length ∧ Below wa.heap.size wa wz ∧ ∀ a, wz.cell? a = wa.cell? a) (fun iv _ => K.length - (intOf iv).toNat)
              case atStart => exact ⟨0, rfl, by omega, Below.refl _ _, fun _ => rfl⟩
              case round =>
                obtain ⟨x, rfl, hx, hbz, hcz⟩ := hrel
                by_cases hxl : x < K.length
                · have hxi : (x : Int) < K.length := by omega
                  obtain ⟨g, rfl, hcx⟩ := HAT.out x hxl
                  have HBZ := Lib.hid hbz
                  have HCZ := Lib.hid hcz
                  have HCX := Lib.hid hcx
                  clear hbz hcz hcx
                  go_upto_region 23 with fail
                  go_loopw [18] (fun iv wz => ∃ y : Nat, iv = .int .i64 y ∧ y ≤ x ∧ Below wa.heap.size wa wz ∧ ∀ a, wz.cell? a = wa.cell? a) (fun iv _ => x - (intOf iv).toNat)
                  case atStart => exact ⟨0, rfl, by omega, HBZ.out, HCZ.out⟩
                  case round =>
                    obtain ⟨y, rfl, hy, hby, hcy⟩ := hrel
                    by_cases hyl : y < x
                    · obtain ⟨g', he, hcy2⟩ := HAT.out y (by omega)
                      obtain rfl : g = g' := by injection he with he; injection he
                      have hcx2 := HCX.out
                      rw [← hcy] at hcx2 hcy2
                      have hne := keyB_ne (nodup_ne HND.out hxl hyl)
                      generalize keyB K[x] = sx at *
                      generalize keyB (K[y]'(by omega)) = sy at *
                      have HBY := Lib.hid hby
                      have HCY := Lib.hid hcy
                      have hyi : (y : Int) < x := by omega
                      have hyi2 : (y : Int) < K.length := by omega
                      clear hby hcy he
                      go_wp2
                      go_quiet (fail)
                      go_wp2
                      exact ⟨⟨y + 1, by go_num, by omega, HBY.out.trans ((below_drewN (Below.refl _ _) nq).mono HBY.out.size), fun a => HCY.out a⟩, by simp [intOf]; omega⟩
                    · obtain rfl : y = x := by omega
                      have HBY := Lib.hid hby
                      have HCY := Lib.hid hcy
                      clear hby hcy
                      go_wp2
                      exact ⟨⟨y + 1, by go_num, by omega, HBY.out, HCY.out⟩, by simp [intOf]; omega⟩
                · obtain rfl : x = K.length := by omega
                  have HBZ := Lib.hid hbz
                  have hSN := Lib.hid (show Calls Tryd.prog 17 #[.pointer none, .int .u32 0] wr fun e w' => ∃ u, e = .returned (.tuple #[u, .int .u32 0]) ∧ Own9 w' wr.heap.size u [] ∧ Below wr.heap.size wr w' from scan_nil 0 (by decide) wr)
                  clear hbz hcz hxl
                  go_wp2_with fail
                  (with_reducible refine hSN.out.mono ?_)
                  rintro e w8 ⟨ux, rfl, hux, hb8⟩
                  obtain ⟨xa, xc, rfl, _⟩ := hux.form
                  have HB8 := Lib.hid (HBZ.out.trans (hb8.mono HBZ.out.size))
                  have hLE := Lib.hid (len_any (HR6.out.later HB8.out))
                  have hTX := Lib.hid (texts_same (HUA6.out.below HB8.out) (HO.out.below HB8.out) (by omega))
                  have hlnI : ((K.length : Nat) : Int) = (D.n : Int) := by omega
                  clear hux hb8 hSN
                  go_wp2_with fail
                  (with_reducible refine hLE.out.mono ?_)
                  rintro e w9 ⟨rfl, rfl⟩
                  rw [hln] at hTX
                  go_wp2_with fail
                  (with_reducible refine hTX.out.mono ?_)
                  rintro e w10 ⟨rfl, hb10⟩
                  have HB10 := Lib.hid (HB8.out.trans (hb10.mono HB8.out.size))
                  clear hb10 hTX
                  go_wp2_with fail
                  (with_reducible refine (all_nil _).mono ?_)
                  rintro e w11 ⟨ya, yc, rfl, hb11⟩
                  go_wp2
                  go_ret
                  exact ⟨rfl, HB6.out.trans ((HB10.out.trans (hb11.mono HB10.out.size)).mono HB6.out.size)⟩)
end Go.Proofs.YtlfhiolkbnhinaaDoor
