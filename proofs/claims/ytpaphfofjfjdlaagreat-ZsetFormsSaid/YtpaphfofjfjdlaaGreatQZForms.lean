/- Whatever the limits, the levels, the seed, the same is told. -/
import Derived.Test.YtpaphfofjfjdlaaGreatQZNum
import Derived.Test.YtpaphfofjfjdlaaGreatQZWays
namespace Go.Proofs.YtpaphfofjfjdlaaGreat
open Go.RowKit Go.Shelf Sk
attribute [local go_sem] Oper.semAt_some

/-- Behind k acts. -/
def FormsAt (w0 : World) (s t k : Nat) (W : World) : Prop := ∃ E, TwoIs w0 W s t (2 * k) E E
theorem two_new {w0 W W' : World} {s t : Nat} {S T : Nat → Prop} {isL isM : Bool} {le lm le' lm' : Int} (h1 : SetIs W s S isL le lm 0 []) (hS : ∀ j, S j → w0.heap.size ≤ j) (hb : Below w0.heap.size w0 W) (h2 : SetIs W' t T isM le' lm' 0 []) (hT : ∀ j, T j → W.heap.size ≤ j) (hb2 : Below W.heap.size W W') : FormsAt w0 s t 0 W' :=
  ⟨[], S, T, isL, isM, le, lm, le', lm', h1.later hb2, h2, fun j hj ht => by have := h1.lt hj; have := hT j ht; omega, hS, fun j hj => Nat.le_trans hb.size (hT j hj), hb.trans (hb2.mono hb.size)⟩
theorem add_same (E : List En) (k : ByteArray) (sc lv lv' : Int) (h : 1 ≤ lv ∧ lv ≤ 32) (h' : 1 ≤ lv' ∧ lv' ≤ 32) : addA E k lv = addA E k lv' ∧ addN k lv = addN k lv' ∧ addS E k sc lv = addS E k sc lv' := by
  unfold addA addN addS
  rw [bad_same k lv lv' h h']
  exact ⟨rfl, rfl, rfl⟩

set_option maxRecDepth 100000 in
set_option maxHeartbeats 32000000 in
theorem forms_walk (en mn en2 mn2 : Int) (sd sd2 : Nat) (hsd : sd < 4294967296) (hsd2 : sd2 < 4294967296) (a : Option Addr) (cap : Nat) (l : List Ac) (hn : l.length ≤ 9223372036854775807) (hu : ∀ x ∈ l, x.Fit) (a' : Option Addr) (cap' : Nat) (v : List Int) (_ : v.length ≤ 9223372036854775807) (w : World) (hA : Acts w a l) (hI : Ints w a' v) :
    Calls Tryz.prog 5 #[.agg #[.int .i64 en, .int .i64 mn], .agg #[.int .i64 en2, .int .i64 mn2], .int .u32 sd, .int .u32 sd2, .slice a l.length cap, .slice a' v.length cap'] w fun e w' => e = .returned (.bool true) ∧ Below w.heap.size w w' := by
  obtain ⟨wA, hwA⟩ : ∃ wA, wA = (w.alloc (.cells #[.int .i64 en, .int .i64 mn] 23)).alloc (.cells #[.int .i64 en2, .int .i64 mn2] 23) := ⟨_, rfl⟩
  have hbA : Below w.heap.size w wA := by rw [hwA]; exact (alloc_below _ _).trans ((alloc_below _ _).mono (by simp))
  have kA : Blk wA w.heap.size 23 #[.int .i64 en, .int .i64 mn] := by rw [hwA]; exact (Blk.new _ _ _).alloc _
  have kB : Blk wA (w.heap.size + 1) 23 #[.int .i64 en2, .int .i64 mn2] := by
    rw [hwA]
    have := Blk.new (w.alloc (.cells #[.int .i64 en, .int .i64 mn] 23)) 23 #[.int .i64 en2, .int .i64 mn2]
    simpa using this
  have H10 := Lib.hid (shown_any wA)
  have HWA := Lib.hid hwA
  have HBA := Lib.hid hbA
  have HKA := Lib.hid (fun W (hb : Below wA.heap.size wA W) => facts2 (kA.later hb))
  have HKB := Lib.hid (fun W (hb : Below wA.heap.size wA W) => facts2 (kB.later hb))
  have HU := Lib.hid hu
  have HA := Lib.hid (hA.later hbA)
  have HI := Lib.hid (hI.later hbA)
  have HN := fun W => Lib.hid (set_new en mn sd hsd W)
  have HN2 := fun W => Lib.hid (set_new en2 mn2 sd2 hsd2 W)
  clear hu hA hI hbA kA kB hwA
  go_enter Tryz.func5, Tryz.ntmps5
  go_wp2_with fail
  rw [← HWA.out]
  refine H10.out.mono ?_
  rintro e w1 ⟨rfl, hb1⟩
  obtain ⟨c0, c1, _, _⟩ := HKA.out w1 hb1
  have HB1 := Lib.hid hb1
  clear hb1 H10 HWA
  go_wp2_with fail
  refine (HN w1).out.mono ?_
  rintro e w2 ⟨s, S, rfl, h2, hS2, hb2⟩
  have hb12 := HB1.out.trans (hb2.mono HB1.out.size)
  obtain ⟨d0, d1, _, _⟩ := HKB.out w2 hb12
  have H2 := Lib.hid (And.intro h2 (And.intro hS2 hb2))
  clear h2 hS2 hb2 hb12 c0 c1 HN
  go_wp2_with fail
  refine (HN2 w2).out.mono ?_
  rintro e w3 ⟨t, T, rfl, h3, hT3, hb3⟩
  have H3 := Lib.hid (two_new (w0 := w1) H2.out.1 H2.out.2.1 H2.out.2.2 h3 hT3 hb3)
  have HBW := Lib.hid (HBA.out.trans (HB1.out.mono HBA.out.size))
  have HA1 := Lib.hid (HA.out.later HB1.out)
  have HI1 := Lib.hid (HI.out.later HB1.out)
  clear h3 hT3 hb3 H2 HN2 d0 d1 HKA HKB HB1 HBA HA HI
  go_wp2_with fail
  go_loopw [16] (fun i wr => ∃ (k : Nat), i = .int .i64 k ∧ k ≤ min l.length 100 ∧ FormsAt w1 s t k wr) (fun i _ => 100 - (intOf i).toNat)
  case atStart => exact ⟨0, rfl, by omega, H3.out⟩
  case round =>
    clear H3
    obtain ⟨k, rfl, hk, hM⟩ := hrel
    by_cases hlt : k < l.length ∧ k < 100
    · obtain ⟨hk1, hk2⟩ := hlt
      obtain ⟨b, off, rfl, hc⟩ := HA1.out k hk1
      obtain ⟨E, hE⟩ := hM
      have hbl := hE.below
      have hc6 : ∀ j u, (l[k]).cells[j]? = some u → wr.cell? ⟨b, off + k * 6 + j, none⟩ = some u := fun j u hj => by
        have := hc j u hj
        exact (hbl.cell (World.block_lt_of_cell? w1 _ this)).trans this
      have hfit := HU.out _ (List.getElem_mem hk1)
      generalize l[k] = x at *
      have c0 := hc6 0 _ rfl
      have c1 := hc6 1 _ rfl
      have c2 := hc6 2 _ rfl
      have c3 := hc6 3 _ rfl
      have c4 := hc6 4 _ rfl
      have c5 := hc6 5 _ rfl
      rw [Nat.add_zero] at c0
      have hkd := kd_wrap x
      have hm := hfit.m
      have hsc : Pk.scoreOk x.s := hfit.s
      have hkk : kd x = 0 ∨ kd x = 1 ∨ kd x = 2 ∨ kd x = 3 ∨ kd x = 4 ∨ kd x = 5 ∨ kd x = 6 ∨ kd x = 7 := by unfold kd; omega
      obtain ⟨xd, xm, xs, xl, xf, xt⟩ := x
      simp only at c0 c1 c2 c3 c4 c5 hm hsc hkd
      generalize kd ⟨xd, xm, xs, xl, xf, xt⟩ = K at *
      have hk3 : (k : Int) < l.length := by omega
      have hk4 : (k : Int) < 100 := by omega
      have hb1 := alloc_below wr (.cells #[.int .i64 xd, .string xm, .int .i64 xs, .int .i64 xl, .int .i64 xf, .int .i64 xt] 32)
      have h1 := hE.later hb1
      have hns := name_size xm
      have HD := Lib.hid (name_any xm hm (wr.alloc (.cells #[.int .i64 xd, .string xm, .int .i64 xs, .int .i64 xl, .int .i64 xf, .int .i64 xt] 32)))
      generalize nameB xm = nm at *
      have kX := Blk.new wr 32 #[.int .i64 xd, .string xm, .int .i64 xs, .int .i64 xl, .int .i64 xf, .int .i64 xt]
      have HX := Lib.hid kX
      obtain ⟨e0, e1, e2, e3, e4, e5⟩ := facts6 kX
      obtain ⟨_, hgd, hgl, hgc⟩ := h1.good
      have HR := fun W E (h : TwoIs w1 W s t (2 * k + 1 + 1) E E) => Lib.hid (two_rank h nm (by omega))
      have HR2 := fun W E (h : TwoIs w1 W s t (2 * k + 1 + 1) E E) => Lib.hid (two_rank h.swap nm (by omega))
      have HL := fun W E (h : TwoIs w1 W s t (2 * k + 1 + 1) E E) => Lib.hid (two_len h)
      have HL2 := fun W E (h : TwoIs w1 W s t (2 * k + 1 + 1) E E) => Lib.hid (two_len h.swap)
      have HNX := fun W E (h : TwoIs w1 W s t (2 * k + 1 + 1) E E) => Lib.hid (show FormsAt w1 s t (k + 1) W from ⟨E, by rw [show 2 * (k + 1) = 2 * k + 1 + 1 by omega]; exact h⟩)
      have HADD := fun lv (hlv : 1 ≤ lv ∧ lv ≤ 32) => Lib.hid (add_same E nm xs 1 lv ⟨by decide, by decide⟩ hlv)
      have HA0 := Lib.hid (two_add h1 (by omega) (by omega) nm xs 1 hsc)
      have HA2 := fun W F lv (h : TwoIs w1 W s t (2 * k + 1) F E) => Lib.hid (two_add h.swap (by omega) (by omega) nm xs lv hsc)
      have HM0 := Lib.hid (two_remove h1 nm (by omega))
      have HM2 := fun W F (h : TwoIs w1 W s t (2 * k) F E) => Lib.hid (two_remove h.swap nm (by omega))
      have HC0 := Lib.hid (two_cut (h1.later (drewB _ 1)) xf xt)
      have HC2 := fun W F (h : TwoIs w1 W s t (2 * k) F E) => Lib.hid (two_cut h.swap xf xt)
      have HMORE := fun W E F (h : TwoIs w1 W s t (2 * k) E F) => Lib.hid (h.more (c' := 2 * k + 1 + 1) (by omega) (by omega))
      have HCP := Lib.hid (show 2 * k + 1 + 1 ≤ 10000 by omega)
      by_cases hlv : k < v.length
      · have hlk : (k : Int) < v.length := by omega
        obtain ⟨b2, off2, rfl, hq⟩ := HI1.out k _ (List.getElem?_eq_getElem hlv)
        have hq2 := (hbl.cell (World.block_lt_of_cell? w1 _ hq)).trans hq
        have hq3 := (hb1.cell (World.block_lt_of_cell? wr _ hq2)).trans hq2
        generalize v[k] = vv at *
        obtain ⟨hl1, hl2, hl3⟩ := level_any vv
        clear hq hq2 HI1
        generalize lvN vv + 1 = lvl at *
        rcases hkk with rfl | rfl | rfl | rfl | rfl | rfl | rfl | rfl
        · have hsm := HADD ((lvl : Int)) ⟨hl2, hl3⟩
          have HA20 := fun W F (h : TwoIs w1 W s t (2 * k + 1) F E) => HA2 W F ((lvl : Int)) h
          rw [← hsm.out.1, ← hsm.out.2.1, ← hsm.out.2.2] at HA20
          clear hsm HADD HA2 HM0 HM2 HC0 HC2 HMORE h1 hE hbl hc hc6 hfit kX HA1 HU hb1 hgd
          generalize addA E nm 1 = ba at *
          generalize addN nm 1 = na at *
          generalize addS E nm xs 1 = EQ at *
          go_wp2_with fail
          refine HD.out.mono ?_
          rintro e w2' ⟨rfl, rfl⟩
          go_wp2_with fail
          refine HA0.out.mono ?_
          rintro e w4 ⟨rfl, h4, hk4'⟩
          have HA24 := HA20 w4 EQ h4
          clear e0 e1 e2 e3 e4 e5
          obtain ⟨e0, e1, e2, e3, e4, e5⟩ := facts6 (hk4' _ _ HX.out)
          clear HA0 HA20 h4 HD hk4' HX
          go_wp2_with fail
          refine HA24.out.mono ?_
          rintro e w5 ⟨rfl, h5', _⟩
          have h5 := h5'.swap
          clear HA24 h5' c0 c1 c2 c3 c4 c5 e0 e1 e2 e3 e4 e5
          have HRA := HR w5 _ h5
          clear HR
          go_wp2_with fail
          refine HRA.out.mono ?_
          rintro e w6 ⟨rfl, h6⟩
          have HRB := HR2 w6 _ h6
          clear HRA HR2 h5
          go_wp2_with fail
          refine HRB.out.mono ?_
          rintro e w7 ⟨rfl, h7⟩
          have h7' := h7.swap
          have HLA := HL w7 _ h7'
          have HLB := fun W (hb : Below w7.heap.size w7 W) => HL2 W _ (h7'.later hb)
          have HNX7 := fun W (hb : Below w7.heap.size w7 W) => HNX W _ (h7'.later hb)
          clear HRB HL HL2 HNX h6 h7 h7'
          generalize (whE EQ nm).isSome = bb at *
          generalize (whE EQ nm).getD 0 = ii at *
          go_wp2_with fail
          refine HLA.out.mono ?_
          rintro e w8 ⟨rfl, hb8⟩
          have HLC := HLB w8 hb8
          have HB8 := Lib.hid hb8
          clear hb8 HLA HLB
          go_wp2_with fail
          refine HLC.out.mono ?_
          rintro e w9 ⟨rfl, hb9⟩
          have HN9 := HNX7 w9 (HB8.out.trans (hb9.mono HB8.out.size))
          clear hb9 HLC HNX7 HB8
          go_wp2_with fail
          exact ⟨⟨k + 1, by go_num, by omega, HN9.out⟩, by simp [intOf]; omega⟩
        · have hsm := HADD ((lvl : Int)) ⟨hl2, hl3⟩
          have HA20 := fun W F (h : TwoIs w1 W s t (2 * k + 1) F E) => HA2 W F ((lvl : Int)) h
          rw [← hsm.out.1, ← hsm.out.2.1, ← hsm.out.2.2] at HA20
          clear hsm HADD HA2 HM0 HM2 HC0 HC2 HMORE h1 hE hbl hc hc6 hfit kX HA1 HU hb1 hgd
          generalize addA E nm 1 = ba at *
          generalize addN nm 1 = na at *
          generalize addS E nm xs 1 = EQ at *
          go_wp2_with fail
          refine HD.out.mono ?_
          rintro e w2' ⟨rfl, rfl⟩
          go_wp2_with fail
          refine HA0.out.mono ?_
          rintro e w4 ⟨rfl, h4, hk4'⟩
          have HA24 := HA20 w4 EQ h4
          clear e0 e1 e2 e3 e4 e5
          obtain ⟨e0, e1, e2, e3, e4, e5⟩ := facts6 (hk4' _ _ HX.out)
          clear HA0 HA20 h4 HD hk4' HX
          go_wp2_with fail
          refine HA24.out.mono ?_
          rintro e w5 ⟨rfl, h5', _⟩
          have h5 := h5'.swap
          clear HA24 h5' c0 c1 c2 c3 c4 c5 e0 e1 e2 e3 e4 e5
          have HRA := HR w5 _ h5
          clear HR
          go_wp2_with fail
          refine HRA.out.mono ?_
          rintro e w6 ⟨rfl, h6⟩
          have HRB := HR2 w6 _ h6
          clear HRA HR2 h5
          go_wp2_with fail
          refine HRB.out.mono ?_
          rintro e w7 ⟨rfl, h7⟩
          have h7' := h7.swap
          have HLA := HL w7 _ h7'
          have HLB := fun W (hb : Below w7.heap.size w7 W) => HL2 W _ (h7'.later hb)
          have HNX7 := fun W (hb : Below w7.heap.size w7 W) => HNX W _ (h7'.later hb)
          clear HRB HL HL2 HNX h6 h7 h7'
          generalize (whE EQ nm).isSome = bb at *
          generalize (whE EQ nm).getD 0 = ii at *
          go_wp2_with fail
          refine HLA.out.mono ?_
          rintro e w8 ⟨rfl, hb8⟩
          have HLC := HLB w8 hb8
          have HB8 := Lib.hid hb8
          clear hb8 HLA HLB
          go_wp2_with fail
          refine HLC.out.mono ?_
          rintro e w9 ⟨rfl, hb9⟩
          have HN9 := HNX7 w9 (HB8.out.trans (hb9.mono HB8.out.size))
          clear hb9 HLC HNX7 HB8
          go_wp2_with fail
          exact ⟨⟨k + 1, by go_num, by omega, HN9.out⟩, by simp [intOf]; omega⟩
        · have hsm := HADD ((lvl : Int)) ⟨hl2, hl3⟩
          have HA20 := fun W F (h : TwoIs w1 W s t (2 * k + 1) F E) => HA2 W F ((lvl : Int)) h
          rw [← hsm.out.1, ← hsm.out.2.1, ← hsm.out.2.2] at HA20
          clear hsm HADD HA2 HM0 HM2 HC0 HC2 HMORE h1 hE hbl hc hc6 hfit kX HA1 HU hb1 hgd
          generalize addA E nm 1 = ba at *
          generalize addN nm 1 = na at *
          generalize addS E nm xs 1 = EQ at *
          go_wp2_with fail
          refine HD.out.mono ?_
          rintro e w2' ⟨rfl, rfl⟩
          go_wp2_with fail
          refine HA0.out.mono ?_
          rintro e w4 ⟨rfl, h4, hk4'⟩
          have HA24 := HA20 w4 EQ h4
          clear e0 e1 e2 e3 e4 e5
          obtain ⟨e0, e1, e2, e3, e4, e5⟩ := facts6 (hk4' _ _ HX.out)
          clear HA0 HA20 h4 HD hk4' HX
          go_wp2_with fail
          refine HA24.out.mono ?_
          rintro e w5 ⟨rfl, h5', _⟩
          have h5 := h5'.swap
          clear HA24 h5' c0 c1 c2 c3 c4 c5 e0 e1 e2 e3 e4 e5
          have HRA := HR w5 _ h5
          clear HR
          go_wp2_with fail
          refine HRA.out.mono ?_
          rintro e w6 ⟨rfl, h6⟩
          have HRB := HR2 w6 _ h6
          clear HRA HR2 h5
          go_wp2_with fail
          refine HRB.out.mono ?_
          rintro e w7 ⟨rfl, h7⟩
          have h7' := h7.swap
          have HLA := HL w7 _ h7'
          have HLB := fun W (hb : Below w7.heap.size w7 W) => HL2 W _ (h7'.later hb)
          have HNX7 := fun W (hb : Below w7.heap.size w7 W) => HNX W _ (h7'.later hb)
          clear HRB HL HL2 HNX h6 h7 h7'
          generalize (whE EQ nm).isSome = bb at *
          generalize (whE EQ nm).getD 0 = ii at *
          go_wp2_with fail
          refine HLA.out.mono ?_
          rintro e w8 ⟨rfl, hb8⟩
          have HLC := HLB w8 hb8
          have HB8 := Lib.hid hb8
          clear hb8 HLA HLB
          go_wp2_with fail
          refine HLC.out.mono ?_
          rintro e w9 ⟨rfl, hb9⟩
          have HN9 := HNX7 w9 (HB8.out.trans (hb9.mono HB8.out.size))
          clear hb9 HLC HNX7 HB8
          go_wp2_with fail
          exact ⟨⟨k + 1, by go_num, by omega, HN9.out⟩, by simp [intOf]; omega⟩
        · have hsm := HADD ((lvl : Int)) ⟨hl2, hl3⟩
          have HA20 := fun W F (h : TwoIs w1 W s t (2 * k + 1) F E) => HA2 W F ((lvl : Int)) h
          rw [← hsm.out.1, ← hsm.out.2.1, ← hsm.out.2.2] at HA20
          clear hsm HADD HA2 HM0 HM2 HC0 HC2 HMORE h1 hE hbl hc hc6 hfit kX HA1 HU hb1 hgd
          generalize addA E nm 1 = ba at *
          generalize addN nm 1 = na at *
          generalize addS E nm xs 1 = EQ at *
          go_wp2_with fail
          refine HD.out.mono ?_
          rintro e w2' ⟨rfl, rfl⟩
          go_wp2_with fail
          refine HA0.out.mono ?_
          rintro e w4 ⟨rfl, h4, hk4'⟩
          have HA24 := HA20 w4 EQ h4
          clear e0 e1 e2 e3 e4 e5
          obtain ⟨e0, e1, e2, e3, e4, e5⟩ := facts6 (hk4' _ _ HX.out)
          clear HA0 HA20 h4 HD hk4' HX
          go_wp2_with fail
          refine HA24.out.mono ?_
          rintro e w5 ⟨rfl, h5', _⟩
          have h5 := h5'.swap
          clear HA24 h5' c0 c1 c2 c3 c4 c5 e0 e1 e2 e3 e4 e5
          have HRA := HR w5 _ h5
          clear HR
          go_wp2_with fail
          refine HRA.out.mono ?_
          rintro e w6 ⟨rfl, h6⟩
          have HRB := HR2 w6 _ h6
          clear HRA HR2 h5
          go_wp2_with fail
          refine HRB.out.mono ?_
          rintro e w7 ⟨rfl, h7⟩
          have h7' := h7.swap
          have HLA := HL w7 _ h7'
          have HLB := fun W (hb : Below w7.heap.size w7 W) => HL2 W _ (h7'.later hb)
          have HNX7 := fun W (hb : Below w7.heap.size w7 W) => HNX W _ (h7'.later hb)
          clear HRB HL HL2 HNX h6 h7 h7'
          generalize (whE EQ nm).isSome = bb at *
          generalize (whE EQ nm).getD 0 = ii at *
          go_wp2_with fail
          refine HLA.out.mono ?_
          rintro e w8 ⟨rfl, hb8⟩
          have HLC := HLB w8 hb8
          have HB8 := Lib.hid hb8
          clear hb8 HLA HLB
          go_wp2_with fail
          refine HLC.out.mono ?_
          rintro e w9 ⟨rfl, hb9⟩
          have HN9 := HNX7 w9 (HB8.out.trans (hb9.mono HB8.out.size))
          clear hb9 HLC HNX7 HB8
          go_wp2_with fail
          exact ⟨⟨k + 1, by go_num, by omega, HN9.out⟩, by simp [intOf]; omega⟩
        · have hsm := HADD ((lvl : Int)) ⟨hl2, hl3⟩
          have HA20 := fun W F (h : TwoIs w1 W s t (2 * k + 1) F E) => HA2 W F ((lvl : Int)) h
          rw [← hsm.out.1, ← hsm.out.2.1, ← hsm.out.2.2] at HA20
          clear hsm HADD HA2 HM0 HM2 HC0 HC2 HMORE h1 hE hbl hc hc6 hfit kX HA1 HU hb1 hgd
          generalize addA E nm 1 = ba at *
          generalize addN nm 1 = na at *
          generalize addS E nm xs 1 = EQ at *
          go_wp2_with fail
          refine HD.out.mono ?_
          rintro e w2' ⟨rfl, rfl⟩
          go_wp2_with fail
          refine HA0.out.mono ?_
          rintro e w4 ⟨rfl, h4, hk4'⟩
          have HA24 := HA20 w4 EQ h4
          clear e0 e1 e2 e3 e4 e5
          obtain ⟨e0, e1, e2, e3, e4, e5⟩ := facts6 (hk4' _ _ HX.out)
          clear HA0 HA20 h4 HD hk4' HX
          go_wp2_with fail
          refine HA24.out.mono ?_
          rintro e w5 ⟨rfl, h5', _⟩
          have h5 := h5'.swap
          clear HA24 h5' c0 c1 c2 c3 c4 c5 e0 e1 e2 e3 e4 e5
          have HRA := HR w5 _ h5
          clear HR
          go_wp2_with fail
          refine HRA.out.mono ?_
          rintro e w6 ⟨rfl, h6⟩
          have HRB := HR2 w6 _ h6
          clear HRA HR2 h5
          go_wp2_with fail
          refine HRB.out.mono ?_
          rintro e w7 ⟨rfl, h7⟩
          have h7' := h7.swap
          have HLA := HL w7 _ h7'
          have HLB := fun W (hb : Below w7.heap.size w7 W) => HL2 W _ (h7'.later hb)
          have HNX7 := fun W (hb : Below w7.heap.size w7 W) => HNX W _ (h7'.later hb)
          clear HRB HL HL2 HNX h6 h7 h7'
          generalize (whE EQ nm).isSome = bb at *
          generalize (whE EQ nm).getD 0 = ii at *
          go_wp2_with fail
          refine HLA.out.mono ?_
          rintro e w8 ⟨rfl, hb8⟩
          have HLC := HLB w8 hb8
          have HB8 := Lib.hid hb8
          clear hb8 HLA HLB
          go_wp2_with fail
          refine HLC.out.mono ?_
          rintro e w9 ⟨rfl, hb9⟩
          have HN9 := HNX7 w9 (HB8.out.trans (hb9.mono HB8.out.size))
          clear hb9 HLC HNX7 HB8
          go_wp2_with fail
          exact ⟨⟨k + 1, by go_num, by omega, HN9.out⟩, by simp [intOf]; omega⟩
        · clear HADD HA2 HA0 HC0 HC2 h1 hE hbl hc hc6 hfit kX HX HA1 HU hb1 hgd
          generalize hasE E nm = ba at *
          generalize rmE E nm = EQ at *
          go_wp2_with fail
          refine HD.out.mono ?_
          rintro e w2' ⟨rfl, rfl⟩
          go_wp2_with fail
          refine HM0.out.mono ?_
          rintro e w4 ⟨rfl, h4⟩
          have HM24 := HM2 w4 EQ h4
          clear HM0 HM2 h4 HD
          go_wp2_with fail
          refine HM24.out.mono ?_
          rintro e w5 ⟨rfl, h5'⟩
          have h5 := (HMORE w5 _ _ h5'.swap).out
          clear HM24 h5' HMORE c0 c1 c2 c3 c4 c5 e0 e1 e2 e3 e4 e5
          have HRA := HR w5 _ h5
          clear HR
          go_wp2_with fail
          refine HRA.out.mono ?_
          rintro e w6 ⟨rfl, h6⟩
          have HRB := HR2 w6 _ h6
          clear HRA HR2 h5
          go_wp2_with fail
          refine HRB.out.mono ?_
          rintro e w7 ⟨rfl, h7⟩
          have h7' := h7.swap
          have HLA := HL w7 _ h7'
          have HLB := fun W (hb : Below w7.heap.size w7 W) => HL2 W _ (h7'.later hb)
          have HNX7 := fun W (hb : Below w7.heap.size w7 W) => HNX W _ (h7'.later hb)
          clear HRB HL HL2 HNX h6 h7 h7'
          generalize (whE EQ nm).isSome = bb at *
          generalize (whE EQ nm).getD 0 = ii at *
          go_wp2_with fail
          refine HLA.out.mono ?_
          rintro e w8 ⟨rfl, hb8⟩
          have HLC := HLB w8 hb8
          have HB8 := Lib.hid hb8
          clear hb8 HLA HLB
          go_wp2_with fail
          refine HLC.out.mono ?_
          rintro e w9 ⟨rfl, hb9⟩
          have HN9 := HNX7 w9 (HB8.out.trans (hb9.mono HB8.out.size))
          clear hb9 HLC HNX7 HB8
          go_wp2_with fail
          exact ⟨⟨k + 1, by go_num, by omega, HN9.out⟩, by simp [intOf]; omega⟩
        · clear HADD HA2 HA0 HC0 HC2 h1 hE hbl hc hc6 hfit kX HX HA1 HU hb1 hgd
          generalize hasE E nm = ba at *
          generalize rmE E nm = EQ at *
          go_wp2_with fail
          refine HD.out.mono ?_
          rintro e w2' ⟨rfl, rfl⟩
          go_wp2_with fail
          refine HM0.out.mono ?_
          rintro e w4 ⟨rfl, h4⟩
          have HM24 := HM2 w4 EQ h4
          clear HM0 HM2 h4 HD
          go_wp2_with fail
          refine HM24.out.mono ?_
          rintro e w5 ⟨rfl, h5'⟩
          have h5 := (HMORE w5 _ _ h5'.swap).out
          clear HM24 h5' HMORE c0 c1 c2 c3 c4 c5 e0 e1 e2 e3 e4 e5
          have HRA := HR w5 _ h5
          clear HR
          go_wp2_with fail
          refine HRA.out.mono ?_
          rintro e w6 ⟨rfl, h6⟩
          have HRB := HR2 w6 _ h6
          clear HRA HR2 h5
          go_wp2_with fail
          refine HRB.out.mono ?_
          rintro e w7 ⟨rfl, h7⟩
          have h7' := h7.swap
          have HLA := HL w7 _ h7'
          have HLB := fun W (hb : Below w7.heap.size w7 W) => HL2 W _ (h7'.later hb)
          have HNX7 := fun W (hb : Below w7.heap.size w7 W) => HNX W _ (h7'.later hb)
          clear HRB HL HL2 HNX h6 h7 h7'
          generalize (whE EQ nm).isSome = bb at *
          generalize (whE EQ nm).getD 0 = ii at *
          go_wp2_with fail
          refine HLA.out.mono ?_
          rintro e w8 ⟨rfl, hb8⟩
          have HLC := HLB w8 hb8
          have HB8 := Lib.hid hb8
          clear hb8 HLA HLB
          go_wp2_with fail
          refine HLC.out.mono ?_
          rintro e w9 ⟨rfl, hb9⟩
          have HN9 := HNX7 w9 (HB8.out.trans (hb9.mono HB8.out.size))
          clear hb9 HLC HNX7 HB8
          go_wp2_with fail
          exact ⟨⟨k + 1, by go_num, by omega, HN9.out⟩, by simp [intOf]; omega⟩
        · clear HADD HA2 HA0 HM0 HM2 h1 hE hbl hc hc6 hfit HA1 HU hb1 hgd
          generalize (subE E xf xt).length = nc at *
          generalize cutE E xf xt = EQ at *
          go_wp2_with fail
          refine HD.out.mono ?_
          rintro e w2' ⟨rfl, rfl⟩
          go_wp2_with fail
          obtain ⟨f0, f1, f2, f3, f4, f5⟩ := facts6 kX.drew
          have S0 := And.intro f4 f5
          clear HD c0 c1 c2 c3 c4 c5 e0 e1 e2 e3 e4 e5 f0 f1 f2 f3 f4 f5 kX
          go_region_held (fun W => W.cell? ⟨wr.heap.size, 4, none⟩ = some (.int .i64 xf) ∧ W.cell? ⟨wr.heap.size, 5, none⟩ = some (.int .i64 xt)) (first | exact S0 | exact S1 | exact S2)
            (first
              | (go_at_call 33; refine HC0.out.mono ?_; rintro e w4 ⟨rfl, h4, hk4'⟩
                 have HK4 := Lib.hid (hk4' _ _ HX.out.drew)
                 have S1 := And.intro (facts6 HK4.out).2.2.2.2.1 (facts6 HK4.out).2.2.2.2.2
                 have HC24 := HC2 w4 EQ h4
                 clear HC0 HC2 h4 hk4')
              | (go_at_call 33; refine HC24.out.mono ?_; rintro e w5 ⟨rfl, h5', hk5'⟩
                 have S2 := And.intro (facts6 (hk5' _ _ HK4.out)).2.2.2.2.1 (facts6 (hk5' _ _ HK4.out)).2.2.2.2.2
                 have h5 := (HMORE w5 _ _ h5'.swap).out
                 clear HC24 h5' hk5' HMORE))
          clear S2 HX HK4
          go_wp2_with fail
          have HRA := HR w5 _ h5
          clear HR
          go_wp2_with fail
          refine HRA.out.mono ?_
          rintro e w6 ⟨rfl, h6⟩
          have HRB := HR2 w6 _ h6
          clear HRA HR2 h5
          go_wp2_with fail
          refine HRB.out.mono ?_
          rintro e w7 ⟨rfl, h7⟩
          have h7' := h7.swap
          have HLA := HL w7 _ h7'
          have HLB := fun W (hb : Below w7.heap.size w7 W) => HL2 W _ (h7'.later hb)
          have HNX7 := fun W (hb : Below w7.heap.size w7 W) => HNX W _ (h7'.later hb)
          clear HRB HL HL2 HNX h6 h7 h7'
          generalize (whE EQ nm).isSome = bb at *
          generalize (whE EQ nm).getD 0 = ii at *
          go_wp2_with fail
          refine HLA.out.mono ?_
          rintro e w8 ⟨rfl, hb8⟩
          have HLC := HLB w8 hb8
          have HB8 := Lib.hid hb8
          clear hb8 HLA HLB
          go_wp2_with fail
          refine HLC.out.mono ?_
          rintro e w9 ⟨rfl, hb9⟩
          have HN9 := HNX7 w9 (HB8.out.trans (hb9.mono HB8.out.size))
          clear hb9 HLC HNX7 HB8
          go_wp2_with fail
          exact ⟨⟨k + 1, by go_num, by omega, HN9.out⟩, by simp [intOf]; omega⟩
      · have hlk : ¬ (k : Int) < v.length := by omega
        clear HI1
        rcases hkk with rfl | rfl | rfl | rfl | rfl | rfl | rfl | rfl
        · have hsm := HADD (1) ⟨by decide, by decide⟩
          have HA20 := fun W F (h : TwoIs w1 W s t (2 * k + 1) F E) => HA2 W F (1) h
          rw [← hsm.out.1, ← hsm.out.2.1, ← hsm.out.2.2] at HA20
          clear hsm HADD HA2 HM0 HM2 HC0 HC2 HMORE h1 hE hbl hc hc6 hfit kX HA1 HU hb1 hgd
          generalize addA E nm 1 = ba at *
          generalize addN nm 1 = na at *
          generalize addS E nm xs 1 = EQ at *
          go_wp2_with fail
          refine HD.out.mono ?_
          rintro e w2' ⟨rfl, rfl⟩
          go_wp2_with fail
          refine HA0.out.mono ?_
          rintro e w4 ⟨rfl, h4, hk4'⟩
          have HA24 := HA20 w4 EQ h4
          clear e0 e1 e2 e3 e4 e5
          obtain ⟨e0, e1, e2, e3, e4, e5⟩ := facts6 (hk4' _ _ HX.out)
          clear HA0 HA20 h4 HD hk4' HX
          go_wp2_with fail
          refine HA24.out.mono ?_
          rintro e w5 ⟨rfl, h5', _⟩
          have h5 := h5'.swap
          clear HA24 h5' c0 c1 c2 c3 c4 c5 e0 e1 e2 e3 e4 e5
          have HRA := HR w5 _ h5
          clear HR
          go_wp2_with fail
          refine HRA.out.mono ?_
          rintro e w6 ⟨rfl, h6⟩
          have HRB := HR2 w6 _ h6
          clear HRA HR2 h5
          go_wp2_with fail
          refine HRB.out.mono ?_
          rintro e w7 ⟨rfl, h7⟩
          have h7' := h7.swap
          have HLA := HL w7 _ h7'
          have HLB := fun W (hb : Below w7.heap.size w7 W) => HL2 W _ (h7'.later hb)
          have HNX7 := fun W (hb : Below w7.heap.size w7 W) => HNX W _ (h7'.later hb)
          clear HRB HL HL2 HNX h6 h7 h7'
          generalize (whE EQ nm).isSome = bb at *
          generalize (whE EQ nm).getD 0 = ii at *
          go_wp2_with fail
          refine HLA.out.mono ?_
          rintro e w8 ⟨rfl, hb8⟩
          have HLC := HLB w8 hb8
          have HB8 := Lib.hid hb8
          clear hb8 HLA HLB
          go_wp2_with fail
          refine HLC.out.mono ?_
          rintro e w9 ⟨rfl, hb9⟩
          have HN9 := HNX7 w9 (HB8.out.trans (hb9.mono HB8.out.size))
          clear hb9 HLC HNX7 HB8
          go_wp2_with fail
          exact ⟨⟨k + 1, by go_num, by omega, HN9.out⟩, by simp [intOf]; omega⟩
        · have hsm := HADD (1) ⟨by decide, by decide⟩
          have HA20 := fun W F (h : TwoIs w1 W s t (2 * k + 1) F E) => HA2 W F (1) h
          rw [← hsm.out.1, ← hsm.out.2.1, ← hsm.out.2.2] at HA20
          clear hsm HADD HA2 HM0 HM2 HC0 HC2 HMORE h1 hE hbl hc hc6 hfit kX HA1 HU hb1 hgd
          generalize addA E nm 1 = ba at *
          generalize addN nm 1 = na at *
          generalize addS E nm xs 1 = EQ at *
          go_wp2_with fail
          refine HD.out.mono ?_
          rintro e w2' ⟨rfl, rfl⟩
          go_wp2_with fail
          refine HA0.out.mono ?_
          rintro e w4 ⟨rfl, h4, hk4'⟩
          have HA24 := HA20 w4 EQ h4
          clear e0 e1 e2 e3 e4 e5
          obtain ⟨e0, e1, e2, e3, e4, e5⟩ := facts6 (hk4' _ _ HX.out)
          clear HA0 HA20 h4 HD hk4' HX
          go_wp2_with fail
          refine HA24.out.mono ?_
          rintro e w5 ⟨rfl, h5', _⟩
          have h5 := h5'.swap
          clear HA24 h5' c0 c1 c2 c3 c4 c5 e0 e1 e2 e3 e4 e5
          have HRA := HR w5 _ h5
          clear HR
          go_wp2_with fail
          refine HRA.out.mono ?_
          rintro e w6 ⟨rfl, h6⟩
          have HRB := HR2 w6 _ h6
          clear HRA HR2 h5
          go_wp2_with fail
          refine HRB.out.mono ?_
          rintro e w7 ⟨rfl, h7⟩
          have h7' := h7.swap
          have HLA := HL w7 _ h7'
          have HLB := fun W (hb : Below w7.heap.size w7 W) => HL2 W _ (h7'.later hb)
          have HNX7 := fun W (hb : Below w7.heap.size w7 W) => HNX W _ (h7'.later hb)
          clear HRB HL HL2 HNX h6 h7 h7'
          generalize (whE EQ nm).isSome = bb at *
          generalize (whE EQ nm).getD 0 = ii at *
          go_wp2_with fail
          refine HLA.out.mono ?_
          rintro e w8 ⟨rfl, hb8⟩
          have HLC := HLB w8 hb8
          have HB8 := Lib.hid hb8
          clear hb8 HLA HLB
          go_wp2_with fail
          refine HLC.out.mono ?_
          rintro e w9 ⟨rfl, hb9⟩
          have HN9 := HNX7 w9 (HB8.out.trans (hb9.mono HB8.out.size))
          clear hb9 HLC HNX7 HB8
          go_wp2_with fail
          exact ⟨⟨k + 1, by go_num, by omega, HN9.out⟩, by simp [intOf]; omega⟩
        · have hsm := HADD (1) ⟨by decide, by decide⟩
          have HA20 := fun W F (h : TwoIs w1 W s t (2 * k + 1) F E) => HA2 W F (1) h
          rw [← hsm.out.1, ← hsm.out.2.1, ← hsm.out.2.2] at HA20
          clear hsm HADD HA2 HM0 HM2 HC0 HC2 HMORE h1 hE hbl hc hc6 hfit kX HA1 HU hb1 hgd
          generalize addA E nm 1 = ba at *
          generalize addN nm 1 = na at *
          generalize addS E nm xs 1 = EQ at *
          go_wp2_with fail
          refine HD.out.mono ?_
          rintro e w2' ⟨rfl, rfl⟩
          go_wp2_with fail
          refine HA0.out.mono ?_
          rintro e w4 ⟨rfl, h4, hk4'⟩
          have HA24 := HA20 w4 EQ h4
          clear e0 e1 e2 e3 e4 e5
          obtain ⟨e0, e1, e2, e3, e4, e5⟩ := facts6 (hk4' _ _ HX.out)
          clear HA0 HA20 h4 HD hk4' HX
          go_wp2_with fail
          refine HA24.out.mono ?_
          rintro e w5 ⟨rfl, h5', _⟩
          have h5 := h5'.swap
          clear HA24 h5' c0 c1 c2 c3 c4 c5 e0 e1 e2 e3 e4 e5
          have HRA := HR w5 _ h5
          clear HR
          go_wp2_with fail
          refine HRA.out.mono ?_
          rintro e w6 ⟨rfl, h6⟩
          have HRB := HR2 w6 _ h6
          clear HRA HR2 h5
          go_wp2_with fail
          refine HRB.out.mono ?_
          rintro e w7 ⟨rfl, h7⟩
          have h7' := h7.swap
          have HLA := HL w7 _ h7'
          have HLB := fun W (hb : Below w7.heap.size w7 W) => HL2 W _ (h7'.later hb)
          have HNX7 := fun W (hb : Below w7.heap.size w7 W) => HNX W _ (h7'.later hb)
          clear HRB HL HL2 HNX h6 h7 h7'
          generalize (whE EQ nm).isSome = bb at *
          generalize (whE EQ nm).getD 0 = ii at *
          go_wp2_with fail
          refine HLA.out.mono ?_
          rintro e w8 ⟨rfl, hb8⟩
          have HLC := HLB w8 hb8
          have HB8 := Lib.hid hb8
          clear hb8 HLA HLB
          go_wp2_with fail
          refine HLC.out.mono ?_
          rintro e w9 ⟨rfl, hb9⟩
          have HN9 := HNX7 w9 (HB8.out.trans (hb9.mono HB8.out.size))
          clear hb9 HLC HNX7 HB8
          go_wp2_with fail
          exact ⟨⟨k + 1, by go_num, by omega, HN9.out⟩, by simp [intOf]; omega⟩
        · have hsm := HADD (1) ⟨by decide, by decide⟩
          have HA20 := fun W F (h : TwoIs w1 W s t (2 * k + 1) F E) => HA2 W F (1) h
          rw [← hsm.out.1, ← hsm.out.2.1, ← hsm.out.2.2] at HA20
          clear hsm HADD HA2 HM0 HM2 HC0 HC2 HMORE h1 hE hbl hc hc6 hfit kX HA1 HU hb1 hgd
          generalize addA E nm 1 = ba at *
          generalize addN nm 1 = na at *
          generalize addS E nm xs 1 = EQ at *
          go_wp2_with fail
          refine HD.out.mono ?_
          rintro e w2' ⟨rfl, rfl⟩
          go_wp2_with fail
          refine HA0.out.mono ?_
          rintro e w4 ⟨rfl, h4, hk4'⟩
          have HA24 := HA20 w4 EQ h4
          clear e0 e1 e2 e3 e4 e5
          obtain ⟨e0, e1, e2, e3, e4, e5⟩ := facts6 (hk4' _ _ HX.out)
          clear HA0 HA20 h4 HD hk4' HX
          go_wp2_with fail
          refine HA24.out.mono ?_
          rintro e w5 ⟨rfl, h5', _⟩
          have h5 := h5'.swap
          clear HA24 h5' c0 c1 c2 c3 c4 c5 e0 e1 e2 e3 e4 e5
          have HRA := HR w5 _ h5
          clear HR
          go_wp2_with fail
          refine HRA.out.mono ?_
          rintro e w6 ⟨rfl, h6⟩
          have HRB := HR2 w6 _ h6
          clear HRA HR2 h5
          go_wp2_with fail
          refine HRB.out.mono ?_
          rintro e w7 ⟨rfl, h7⟩
          have h7' := h7.swap
          have HLA := HL w7 _ h7'
          have HLB := fun W (hb : Below w7.heap.size w7 W) => HL2 W _ (h7'.later hb)
          have HNX7 := fun W (hb : Below w7.heap.size w7 W) => HNX W _ (h7'.later hb)
          clear HRB HL HL2 HNX h6 h7 h7'
          generalize (whE EQ nm).isSome = bb at *
          generalize (whE EQ nm).getD 0 = ii at *
          go_wp2_with fail
          refine HLA.out.mono ?_
          rintro e w8 ⟨rfl, hb8⟩
          have HLC := HLB w8 hb8
          have HB8 := Lib.hid hb8
          clear hb8 HLA HLB
          go_wp2_with fail
          refine HLC.out.mono ?_
          rintro e w9 ⟨rfl, hb9⟩
          have HN9 := HNX7 w9 (HB8.out.trans (hb9.mono HB8.out.size))
          clear hb9 HLC HNX7 HB8
          go_wp2_with fail
          exact ⟨⟨k + 1, by go_num, by omega, HN9.out⟩, by simp [intOf]; omega⟩
        · have hsm := HADD (1) ⟨by decide, by decide⟩
          have HA20 := fun W F (h : TwoIs w1 W s t (2 * k + 1) F E) => HA2 W F (1) h
          rw [← hsm.out.1, ← hsm.out.2.1, ← hsm.out.2.2] at HA20
          clear hsm HADD HA2 HM0 HM2 HC0 HC2 HMORE h1 hE hbl hc hc6 hfit kX HA1 HU hb1 hgd
          generalize addA E nm 1 = ba at *
          generalize addN nm 1 = na at *
          generalize addS E nm xs 1 = EQ at *
          go_wp2_with fail
          refine HD.out.mono ?_
          rintro e w2' ⟨rfl, rfl⟩
          go_wp2_with fail
          refine HA0.out.mono ?_
          rintro e w4 ⟨rfl, h4, hk4'⟩
          have HA24 := HA20 w4 EQ h4
          clear e0 e1 e2 e3 e4 e5
          obtain ⟨e0, e1, e2, e3, e4, e5⟩ := facts6 (hk4' _ _ HX.out)
          clear HA0 HA20 h4 HD hk4' HX
          go_wp2_with fail
          refine HA24.out.mono ?_
          rintro e w5 ⟨rfl, h5', _⟩
          have h5 := h5'.swap
          clear HA24 h5' c0 c1 c2 c3 c4 c5 e0 e1 e2 e3 e4 e5
          have HRA := HR w5 _ h5
          clear HR
          go_wp2_with fail
          refine HRA.out.mono ?_
          rintro e w6 ⟨rfl, h6⟩
          have HRB := HR2 w6 _ h6
          clear HRA HR2 h5
          go_wp2_with fail
          refine HRB.out.mono ?_
          rintro e w7 ⟨rfl, h7⟩
          have h7' := h7.swap
          have HLA := HL w7 _ h7'
          have HLB := fun W (hb : Below w7.heap.size w7 W) => HL2 W _ (h7'.later hb)
          have HNX7 := fun W (hb : Below w7.heap.size w7 W) => HNX W _ (h7'.later hb)
          clear HRB HL HL2 HNX h6 h7 h7'
          generalize (whE EQ nm).isSome = bb at *
          generalize (whE EQ nm).getD 0 = ii at *
          go_wp2_with fail
          refine HLA.out.mono ?_
          rintro e w8 ⟨rfl, hb8⟩
          have HLC := HLB w8 hb8
          have HB8 := Lib.hid hb8
          clear hb8 HLA HLB
          go_wp2_with fail
          refine HLC.out.mono ?_
          rintro e w9 ⟨rfl, hb9⟩
          have HN9 := HNX7 w9 (HB8.out.trans (hb9.mono HB8.out.size))
          clear hb9 HLC HNX7 HB8
          go_wp2_with fail
          exact ⟨⟨k + 1, by go_num, by omega, HN9.out⟩, by simp [intOf]; omega⟩
        · clear HADD HA2 HA0 HC0 HC2 h1 hE hbl hc hc6 hfit kX HX HA1 HU hb1 hgd
          generalize hasE E nm = ba at *
          generalize rmE E nm = EQ at *
          go_wp2_with fail
          refine HD.out.mono ?_
          rintro e w2' ⟨rfl, rfl⟩
          go_wp2_with fail
          refine HM0.out.mono ?_
          rintro e w4 ⟨rfl, h4⟩
          have HM24 := HM2 w4 EQ h4
          clear HM0 HM2 h4 HD
          go_wp2_with fail
          refine HM24.out.mono ?_
          rintro e w5 ⟨rfl, h5'⟩
          have h5 := (HMORE w5 _ _ h5'.swap).out
          clear HM24 h5' HMORE c0 c1 c2 c3 c4 c5 e0 e1 e2 e3 e4 e5
          have HRA := HR w5 _ h5
          clear HR
          go_wp2_with fail
          refine HRA.out.mono ?_
          rintro e w6 ⟨rfl, h6⟩
          have HRB := HR2 w6 _ h6
          clear HRA HR2 h5
          go_wp2_with fail
          refine HRB.out.mono ?_
          rintro e w7 ⟨rfl, h7⟩
          have h7' := h7.swap
          have HLA := HL w7 _ h7'
          have HLB := fun W (hb : Below w7.heap.size w7 W) => HL2 W _ (h7'.later hb)
          have HNX7 := fun W (hb : Below w7.heap.size w7 W) => HNX W _ (h7'.later hb)
          clear HRB HL HL2 HNX h6 h7 h7'
          generalize (whE EQ nm).isSome = bb at *
          generalize (whE EQ nm).getD 0 = ii at *
          go_wp2_with fail
          refine HLA.out.mono ?_
          rintro e w8 ⟨rfl, hb8⟩
          have HLC := HLB w8 hb8
          have HB8 := Lib.hid hb8
          clear hb8 HLA HLB
          go_wp2_with fail
          refine HLC.out.mono ?_
          rintro e w9 ⟨rfl, hb9⟩
          have HN9 := HNX7 w9 (HB8.out.trans (hb9.mono HB8.out.size))
          clear hb9 HLC HNX7 HB8
          go_wp2_with fail
          exact ⟨⟨k + 1, by go_num, by omega, HN9.out⟩, by simp [intOf]; omega⟩
        · clear HADD HA2 HA0 HC0 HC2 h1 hE hbl hc hc6 hfit kX HX HA1 HU hb1 hgd
          generalize hasE E nm = ba at *
          generalize rmE E nm = EQ at *
          go_wp2_with fail
          refine HD.out.mono ?_
          rintro e w2' ⟨rfl, rfl⟩
          go_wp2_with fail
          refine HM0.out.mono ?_
          rintro e w4 ⟨rfl, h4⟩
          have HM24 := HM2 w4 EQ h4
          clear HM0 HM2 h4 HD
          go_wp2_with fail
          refine HM24.out.mono ?_
          rintro e w5 ⟨rfl, h5'⟩
          have h5 := (HMORE w5 _ _ h5'.swap).out
          clear HM24 h5' HMORE c0 c1 c2 c3 c4 c5 e0 e1 e2 e3 e4 e5
          have HRA := HR w5 _ h5
          clear HR
          go_wp2_with fail
          refine HRA.out.mono ?_
          rintro e w6 ⟨rfl, h6⟩
          have HRB := HR2 w6 _ h6
          clear HRA HR2 h5
          go_wp2_with fail
          refine HRB.out.mono ?_
          rintro e w7 ⟨rfl, h7⟩
          have h7' := h7.swap
          have HLA := HL w7 _ h7'
          have HLB := fun W (hb : Below w7.heap.size w7 W) => HL2 W _ (h7'.later hb)
          have HNX7 := fun W (hb : Below w7.heap.size w7 W) => HNX W _ (h7'.later hb)
          clear HRB HL HL2 HNX h6 h7 h7'
          generalize (whE EQ nm).isSome = bb at *
          generalize (whE EQ nm).getD 0 = ii at *
          go_wp2_with fail
          refine HLA.out.mono ?_
          rintro e w8 ⟨rfl, hb8⟩
          have HLC := HLB w8 hb8
          have HB8 := Lib.hid hb8
          clear hb8 HLA HLB
          go_wp2_with fail
          refine HLC.out.mono ?_
          rintro e w9 ⟨rfl, hb9⟩
          have HN9 := HNX7 w9 (HB8.out.trans (hb9.mono HB8.out.size))
          clear hb9 HLC HNX7 HB8
          go_wp2_with fail
          exact ⟨⟨k + 1, by go_num, by omega, HN9.out⟩, by simp [intOf]; omega⟩
        · clear HADD HA2 HA0 HM0 HM2 h1 hE hbl hc hc6 hfit HA1 HU hb1 hgd
          generalize (subE E xf xt).length = nc at *
          generalize cutE E xf xt = EQ at *
          go_wp2_with fail
          refine HD.out.mono ?_
          rintro e w2' ⟨rfl, rfl⟩
          go_wp2_with fail
          obtain ⟨f0, f1, f2, f3, f4, f5⟩ := facts6 kX.drew
          have S0 := And.intro f4 f5
          clear HD c0 c1 c2 c3 c4 c5 e0 e1 e2 e3 e4 e5 f0 f1 f2 f3 f4 f5 kX
          go_region_held (fun W => W.cell? ⟨wr.heap.size, 4, none⟩ = some (.int .i64 xf) ∧ W.cell? ⟨wr.heap.size, 5, none⟩ = some (.int .i64 xt)) (first | exact S0 | exact S1 | exact S2)
            (first
              | (go_at_call 33; refine HC0.out.mono ?_; rintro e w4 ⟨rfl, h4, hk4'⟩
                 have HK4 := Lib.hid (hk4' _ _ HX.out.drew)
                 have S1 := And.intro (facts6 HK4.out).2.2.2.2.1 (facts6 HK4.out).2.2.2.2.2
                 have HC24 := HC2 w4 EQ h4
                 clear HC0 HC2 h4 hk4')
              | (go_at_call 33; refine HC24.out.mono ?_; rintro e w5 ⟨rfl, h5', hk5'⟩
                 have S2 := And.intro (facts6 (hk5' _ _ HK4.out)).2.2.2.2.1 (facts6 (hk5' _ _ HK4.out)).2.2.2.2.2
                 have h5 := (HMORE w5 _ _ h5'.swap).out
                 clear HC24 h5' hk5' HMORE))
          clear S2 HX HK4
          go_wp2_with fail
          have HRA := HR w5 _ h5
          clear HR
          go_wp2_with fail
          refine HRA.out.mono ?_
          rintro e w6 ⟨rfl, h6⟩
          have HRB := HR2 w6 _ h6
          clear HRA HR2 h5
          go_wp2_with fail
          refine HRB.out.mono ?_
          rintro e w7 ⟨rfl, h7⟩
          have h7' := h7.swap
          have HLA := HL w7 _ h7'
          have HLB := fun W (hb : Below w7.heap.size w7 W) => HL2 W _ (h7'.later hb)
          have HNX7 := fun W (hb : Below w7.heap.size w7 W) => HNX W _ (h7'.later hb)
          clear HRB HL HL2 HNX h6 h7 h7'
          generalize (whE EQ nm).isSome = bb at *
          generalize (whE EQ nm).getD 0 = ii at *
          go_wp2_with fail
          refine HLA.out.mono ?_
          rintro e w8 ⟨rfl, hb8⟩
          have HLC := HLB w8 hb8
          have HB8 := Lib.hid hb8
          clear hb8 HLA HLB
          go_wp2_with fail
          refine HLC.out.mono ?_
          rintro e w9 ⟨rfl, hb9⟩
          have HN9 := HNX7 w9 (HB8.out.trans (hb9.mono HB8.out.size))
          clear hb9 HLC HNX7 HB8
          go_wp2_with fail
          exact ⟨⟨k + 1, by go_num, by omega, HN9.out⟩, by simp [intOf]; omega⟩
    · have HFN := Lib.hid hM
      clear hM
      by_cases hl : k < l.length
      · have h120 : ¬ (k : Int) < 100 := by omega
        have hl2 : (k : Int) < l.length := by omega
        obtain ⟨E, hE⟩ := HFN.out
        have hz := hE.good
        have HS := fun W n0 n1 v1 v2 (h1 : Row W n0 v1 E) (h2 : Row W n1 v2 E) => Lib.hid (same_rows v1 v2 E (by omega) W h1 h2)
        have HBE := Lib.hid (HBW.out.trans (hE.below.mono HBW.out.size))
        have HE := Lib.hid (fun W (hb : Below wr.heap.size wr W) => hE.later hb)
        have HL0 := Lib.hid (two_len hE)
        clear hz hE HFN
        go_wp2_with fail
        refine HL0.out.mono ?_
        rintro e w4 ⟨rfl, hb4⟩
        have HR4 := Lib.hid (two_range (HE.out w4 hb4))
        have HB4 := Lib.hid hb4
        clear hb4 HL0
        go_wp2_with fail
        refine HR4.out.mono ?_
        rintro e w5 ⟨r1, rfl, hr1, hb5⟩
        have hb5' := HB4.out.trans (hb5.mono HB4.out.size)
        have HL5 := Lib.hid (two_len (HE.out w5 hb5').swap)
        have HB5 := Lib.hid hb5'
        have HR1 := Lib.hid hr1
        clear hb5 hb5' hr1 HR4
        go_wp2_with fail
        refine HL5.out.mono ?_
        rintro e w6 ⟨rfl, hb6⟩
        have hb6' := HB5.out.trans (hb6.mono HB5.out.size)
        have HR6 := Lib.hid (two_range (HE.out w6 hb6').swap)
        have HB6 := Lib.hid hb6'
        have HR1' := Lib.hid (HR1.out.later hb6)
        clear hb6 hb6' HL5 HR1
        go_wp2_with fail
        refine HR6.out.mono ?_
        rintro e w7 ⟨r2, rfl, hr2, hb7⟩
        have HS7 := HS w7 _ _ r1 r2 (HR1'.out.later hb7) hr2
        have HB7 := Lib.hid (HB6.out.trans (hb7.mono HB6.out.size))
        clear hb7 hr2 HR6 HS HR1'
        go_wp2_with fail
        refine HS7.out.mono ?_
        rintro e w8 ⟨rfl, hb8⟩
        have HB8 := Lib.hid (HBE.out.trans ((HB7.out.trans (hb8.mono HB7.out.size)).mono HBE.out.size))
        clear hb8 HS7
        go_wp2_with fail
        go_returns
        exact ⟨rfl, HB8.out⟩
      · have hl2 : ¬ (k : Int) < l.length := by omega
        obtain ⟨E, hE⟩ := HFN.out
        have hz := hE.good
        have HS := fun W n0 n1 v1 v2 (h1 : Row W n0 v1 E) (h2 : Row W n1 v2 E) => Lib.hid (same_rows v1 v2 E (by omega) W h1 h2)
        have HBE := Lib.hid (HBW.out.trans (hE.below.mono HBW.out.size))
        have HE := Lib.hid (fun W (hb : Below wr.heap.size wr W) => hE.later hb)
        have HL0 := Lib.hid (two_len hE)
        clear hz hE HFN
        go_wp2_with fail
        refine HL0.out.mono ?_
        rintro e w4 ⟨rfl, hb4⟩
        have HR4 := Lib.hid (two_range (HE.out w4 hb4))
        have HB4 := Lib.hid hb4
        clear hb4 HL0
        go_wp2_with fail
        refine HR4.out.mono ?_
        rintro e w5 ⟨r1, rfl, hr1, hb5⟩
        have hb5' := HB4.out.trans (hb5.mono HB4.out.size)
        have HL5 := Lib.hid (two_len (HE.out w5 hb5').swap)
        have HB5 := Lib.hid hb5'
        have HR1 := Lib.hid hr1
        clear hb5 hb5' hr1 HR4
        go_wp2_with fail
        refine HL5.out.mono ?_
        rintro e w6 ⟨rfl, hb6⟩
        have hb6' := HB5.out.trans (hb6.mono HB5.out.size)
        have HR6 := Lib.hid (two_range (HE.out w6 hb6').swap)
        have HB6 := Lib.hid hb6'
        have HR1' := Lib.hid (HR1.out.later hb6)
        clear hb6 hb6' HL5 HR1
        go_wp2_with fail
        refine HR6.out.mono ?_
        rintro e w7 ⟨r2, rfl, hr2, hb7⟩
        have HS7 := HS w7 _ _ r1 r2 (HR1'.out.later hb7) hr2
        have HB7 := Lib.hid (HB6.out.trans (hb7.mono HB6.out.size))
        clear hb7 hr2 HR6 HS HR1'
        go_wp2_with fail
        refine HS7.out.mono ?_
        rintro e w8 ⟨rfl, hb8⟩
        have HB8 := Lib.hid (HBE.out.trans ((HB7.out.trans (hb8.mono HB7.out.size)).mono HBE.out.size))
        clear hb8 HS7
        go_wp2_with fail
        go_returns
        exact ⟨rfl, HB8.out⟩
end Go.Proofs.YtpaphfofjfjdlaaGreat
