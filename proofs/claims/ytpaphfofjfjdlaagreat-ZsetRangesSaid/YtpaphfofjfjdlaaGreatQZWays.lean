/- Once a set is a list it is one for ever; when it becomes one it has too many entries, or one that is too long. -/
import Derived.Test.YtpaphfofjfjdlaaGreatQZG
namespace Go.Proofs.YtpaphfofjfjdlaaGreat
open Go.RowKit Go.Shelf Sk
attribute [local go_sem] Oper.semAt_some

def Inv (isL : Bool) (le lm : Int) (E : List En) : Prop := isL = false → (E.length : Int) ≤ le ∧ ∀ e ∈ E, (e.1.size : Int) ≤ lm
theorem inv_rm {isL : Bool} {le lm : Int} {E : List En} (h : Inv isL le lm E) (k : ByteArray) : Inv isL le lm (rmE E k) := fun h0 => by
  obtain ⟨h1, h2⟩ := h h0
  refine ⟨?_, fun e he => h2 e (mem_rmE.1 he).1⟩
  have : (rmE E k).length ≤ E.length := List.length_filter_le _ _
  omega
/-- What an Add that adds makes of it. -/
theorem inv_add {isL : Bool} {le lm : Int} {E : List En} (h : Inv isL le lm E) (hd : Dist E) (k : ByteArray) (sc lv : Int) (hb : badB k lv = false) :
    Inv (addL le lm isL E k lv) le lm (addE E k sc) ∧ (isL = true → addL le lm isL E k lv = true) ∧ (isL = false → addL le lm isL E k lv = (decide (le < ((addE E k sc).length : Int)) || decide (lm < (k.size : Int)))) := by
  have hl := addE_len hd k sc
  unfold addL
  rw [hb]
  cases isL with
  | true => 
    refine ⟨?_, ?_, ?_⟩
    · intro h0; cases h0
    · intro _; rfl
    · intro h0; cases h0
  | false =>
    obtain ⟨h1, h2⟩ := h rfl
    cases hh : hasE E k with
    | true =>
      rw [hh] at hl
      simp only [if_true] at hl
      obtain ⟨v, hv⟩ := hasE_iff.1 hh
      have hkl := h2 _ hv
      simp only at hkl
      refine ⟨?_, ?_, ?_⟩
      · intro _
        refine ⟨by omega, fun e he => ?_⟩
        rcases mem_addE.1 he with rfl | he
        · exact hkl
        · exact h2 e he.1
      · intro h0; cases h0
      · intro _
        rw [decide_eq_false (show ¬ le < ((addE E k sc).length : Int) by omega), decide_eq_false (show ¬ lm < (k.size : Int) by omega)]
        rfl
    | false =>
      rw [hh] at hl
      simp only [Bool.false_eq_true, if_false] at hl
      refine ⟨?_, ?_, ?_⟩
      · intro h0
        simp at h0
        refine ⟨by omega, fun e he => ?_⟩
        rcases mem_addE.1 he with rfl | he
        · show (k.size : Int) ≤ lm
          omega
        · exact h2 e he.1
      · intro h0; cases h0
      · intro _
        have : decide (le ≤ (E.length : Int)) = decide (le < ((addE E k sc).length : Int)) := by rw [decide_eq_decide]; omega
        rw [this]
        rfl

theorem encT : encB true = ⟨#[115, 107, 105, 112, 108, 105, 115, 116]⟩ := rfl
theorem encF : encB false = ⟨#[108, 105, 115, 116, 112, 97, 99, 107]⟩ := rfl
theorem facts6 {W : World} {b : Nat} {t : TypeId} {c0 c1 c2 c3 c4 c5 : Value} (h : Blk W b t #[c0, c1, c2, c3, c4, c5]) : W.cell? ⟨b, 0, none⟩ = some c0 ∧ W.cell? ⟨b, 1, none⟩ = some c1 ∧ W.cell? ⟨b, 2, none⟩ = some c2 ∧ W.cell? ⟨b, 3, none⟩ = some c3 ∧ W.cell? ⟨b, 4, none⟩ = some c4 ∧ W.cell? ⟨b, 5, none⟩ = some c5 :=
  ⟨h.cell 0, h.cell 1, h.cell 2, h.cell 3, h.cell 4, h.cell 5⟩
/-- Behind k acts. -/
structure WaysAt (w0 : World) (s : Nat) (le lm : Int) (isL : Bool) (k : Nat) (W : World) : Prop where
  ex : ∃ S E, SetIs W s S isL le lm k E ∧ (∀ j, S j → w0.heap.size ≤ j) ∧ Inv isL le lm E
  below : Below w0.heap.size w0 W
theorem WaysAt.later {w0 W W' : World} {s : Nat} {le lm : Int} {isL : Bool} {k : Nat} (h : WaysAt w0 s le lm isL k W) (hb : Below W.heap.size W W') : WaysAt w0 s le lm isL k W' := by
  obtain ⟨⟨S, E, h1, h2, h3⟩, h4⟩ := h
  exact ⟨⟨S, E, h1.later hb, h2, h3⟩, h4.trans (hb.mono h4.size)⟩

set_option maxRecDepth 100000 in
set_option maxHeartbeats 16000000 in
theorem ways_walk (en mn : Int) (sd : Nat) (hsd : sd < 4294967296) (a : Option Addr) (cap : Nat) (l : List Ac) (hn : l.length ≤ 9223372036854775807) (hu : ∀ x ∈ l, x.Fit) (w : World) (hA : Acts w a l) :
    Calls Tryz.prog 7 #[.agg #[.int .i64 en, .int .i64 mn], .int .u32 sd, .slice a l.length cap] w fun e w' => e = .returned (.bool true) ∧ Below w.heap.size w w' := by
  have hbX := alloc_below w (.cells #[.int .i64 en, .int .i64 mn] 23)
  have k0 := Blk.new w 23 #[.int .i64 en, .int .i64 mn]
  have H10 := Lib.hid (shown_any (w.alloc (.cells #[.int .i64 en, .int .i64 mn] 23)))
  have HB0 := Lib.hid hbX
  have HK0 := Lib.hid (fun W (hb : Below (w.alloc (.cells #[.int .i64 en, .int .i64 mn] 23)).heap.size (w.alloc (.cells #[.int .i64 en, .int .i64 mn] 23)) W) => k0.later hb)
  have HU := Lib.hid hu
  have HA := Lib.hid (fun W (hb : Below w.heap.size w W) => hA.later hb)
  clear hu hA hbX k0
  by_cases hin : 0 ≤ en ∧ en ≤ 200 ∧ 0 ≤ mn ∧ mn ≤ 64
  · obtain ⟨hi1, hi2, hi3, hi4⟩ := hin
    have HN := fun W => Lib.hid (set_new0 en mn en mn (by omega) (by omega) sd hsd W)
    go_enter Tryz.func7, Tryz.ntmps7
    go_wp2_with fail
    refine H10.out.mono ?_
    rintro e w1 ⟨rfl, hb1⟩
    obtain ⟨c0, c1, _, _⟩ := facts2 (HK0.out w1 hb1)
    have HB1 := Lib.hid hb1
    have d1 : ¬ en < 0 := by omega
    have d2 : ¬ 200 < en := by omega
    have d3 : ¬ mn < 0 := by omega
    have d4 : ¬ 64 < mn := by omega
    clear hb1 H10
    go_wp2_with fail
    refine (HN w1).out.mono ?_
    rintro e w2 ⟨s, S, rfl, h2, hS2, hb2⟩
    have HK1 := Lib.hid (HK0.out w1 HB1.out)
    have HBW := Lib.hid (HB0.out.trans (HB1.out.mono HB0.out.size))
    have HA1 := Lib.hid (HA.out w1 HBW.out)
    have H2 := Lib.hid (show WaysAt w1 s en mn false 0 w2 from ⟨⟨S, [], h2, hS2, fun _ => ⟨hi1, fun e he => by cases he⟩⟩, hb2⟩)
    clear h2 hS2 hb2 HK0 HB0 HB1 HA HN c0 c1 d1 d2 d3 d4 hi1 hi2 hi3 hi4
    go_wp2_with fail
    go_loopw [9, 10] (fun was i wr => ∃ (k : Nat) (isL : Bool), i = .int .i64 k ∧ k ≤ min l.length 100 ∧ was = .string (encB isL) ∧ WaysAt w1 s en mn isL k wr) (fun _ i _ => 100 - (intOf i).toNat)
    case atStart => exact ⟨0, false, rfl, by omega, rfl, H2.out⟩
    case round =>
      clear H2
      obtain ⟨k, isL, rfl, hk, rfl, hM⟩ := hrel
      by_cases hlt : k < l.length ∧ k < 100
      · obtain ⟨hk1, hk2⟩ := hlt
        obtain ⟨b, off, rfl, hc⟩ := HA1.out k hk1
        obtain ⟨⟨S, E, hset, hS, hinv⟩, hbl⟩ := hM
        have hc6 : ∀ j u, (l[k]).cells[j]? = some u → wr.cell? ⟨b, off + k * 6 + j, none⟩ = some u := fun j u hj => by
          have := hc j u hj
          exact (hbl.cell (World.block_lt_of_cell? w1 _ this)).trans this
        have hfit := HU.out _ (List.getElem_mem hk1)
        generalize l[k] = x at *
        have c0 := hc6 0 _ rfl
        have c1 := hc6 1 _ rfl
        have c2 := hc6 2 _ rfl
        have c3 := hc6 3 _ rfl
        have c4 := hc6 4 _ rfl
        have c5 := hc6 5 _ rfl
        rw [Nat.add_zero] at c0
        have hkd := kd_wrap x
        have hm := hfit.m
        have hsc : Pk.scoreOk x.s := hfit.s
        have hkd5 : kd x < 5 ∨ 5 ≤ kd x := by omega
        obtain ⟨xd, xm, xs, xl, xf, xt⟩ := x
        simp only at c0 c1 c2 c3 c4 c5 hm hsc hkd
        generalize kd ⟨xd, xm, xs, xl, xf, xt⟩ = K at *
        have hk3 : (k : Int) < l.length := by omega
        have hk4 : (k : Int) < 100 := by omega
        have hb1 := alloc_below wr (.cells #[.int .i64 xd, .string xm, .int .i64 xs, .int .i64 xl, .int .i64 xf, .int .i64 xt] 32)
        have h1 := hset.later hb1
        have hns := name_size xm
        have HD := Lib.hid (name_any xm hm (wr.alloc (.cells #[.int .i64 xd, .string xm, .int .i64 xs, .int .i64 xl, .int .i64 xf, .int .i64 xt] 32)))
        generalize nameB xm = nm at *
        have kX := Blk.new wr 32 #[.int .i64 xd, .string xm, .int .i64 xs, .int .i64 xl, .int .i64 xf, .int .i64 xt]
        obtain ⟨e0, e1, e2, e3, e4, e5⟩ := facts6 kX
        have hgl := hset.good.len
        have hgd := hset.good.dist
        have hb2 := hbl.trans (hb1.mono hbl.size)
        have HLAT := Lib.hid (fun W (hb : Below w1.heap.size w1 W) => facts2 (HK1.out.later hb))
        clear hset hc hc6 hfit HA1 HU hb1 hbl kX
        rcases hkd5 with h5 | h5
        · have g5 : ¬ 5 ≤ K := by omega
          have HADD := Lib.hid (set_add h1 (by omega) (by omega) nm xs xl hsc)
          cases hbad : badB nm xl with
          | true =>
            have hE : addS E nm xs xl = E := by unfold addS; rw [hbad]; rfl
            have hL : addL en mn isL E nm xl = isL := by unfold addL; rw [hbad]; simp
            have hN : addN nm xl = 2 := by unfold addN; rw [hbad]; rfl
            rw [hE, hL, hN] at HADD
            generalize addA E nm xl = ba at *
            go_wp2_with fail
            refine HD.out.mono ?_
            rintro e w2' ⟨rfl, rfl⟩
            go_wp2_with fail
            refine HADD.out.mono ?_
            rintro e w3 ⟨rfl, hn3⟩
            obtain ⟨S3, h3, hS3, hb3⟩ := hn3.seen hb2 (fun j hj => hS j hj)
            clear HADD HD hn3 hb2 hS h1 c0 c1 c2 c3 c4 c5 e0 e1 e2 e3 e4 e5
            have HEN := Lib.hid (set_enc h3)
            have HLE := fun y : Ext w3 => Lib.hid (set_len (h3.later y.ok))
            have q1 := fun y : Ext w3 => (HLAT.out y.w (hb3.trans (y.ok.mono hb3.size))).1
            have q2 := fun y : Ext w3 => (HLAT.out y.w (hb3.trans (y.ok.mono hb3.size))).2.1
            have HNX := fun y : Ext w3 => Lib.hid (show WaysAt w1 s en mn isL (k + 1) y.w from (WaysAt.mk ⟨S3, _, h3, hS3, hinv⟩ hb3).later y.ok)
            have hne := Ext.one w3
            clear h3 hS3 hb3 hinv HLAT
            cases isL with
            | true =>
              simp only [encT] at *
              go_wp2_with fail
              refine HEN.out.mono ?_
              rintro e w4 ⟨rfl, rfl⟩
              go_wp2_with fail
              refine region_ext (w1 := w4) (by kernel_rfl) (by kernel_rfl) (Below.refl _ _) ?_
              repeat go_big_quiet_step ((go_at_call 14; exact Ext.call _ (HLE _).out))
              refine wpQuiet_nil ?_
              rintro _ ⟨y, rfl⟩
              have HY := HNX y
              clear q1 q2 HLE HNX hne HEN
              go_wp2_with fail
              exact ⟨⟨k + 1, true, by go_num, by omega, rfl, HY.out⟩, by simp [intOf]; omega⟩
            | false =>
              simp only [encF] at *
              go_wp2_with fail
              refine HEN.out.mono ?_
              rintro e w4 ⟨rfl, rfl⟩
              go_wp2_with fail
              refine region_ext (w1 := w4) (by kernel_rfl) (by kernel_rfl) (Below.refl _ _) ?_
              repeat go_big_quiet_step ((go_at_call 14; exact Ext.call _ (HLE _).out))
              refine wpQuiet_nil ?_
              rintro _ ⟨y, rfl⟩
              have HY := HNX y
              clear q1 q2 HLE HNX hne HEN
              go_wp2_with fail
              exact ⟨⟨k + 1, false, by go_num, by omega, rfl, HY.out⟩, by simp [intOf]; omega⟩
          | false =>
            have hE : addS E nm xs xl = addE E nm xs := by unfold addS; rw [hbad]; rfl
            have hN : addN nm xl = 0 := by unfold addN; rw [hbad]; rfl
            obtain ⟨hi, hi1, hi2⟩ := inv_add hinv hgd nm xs xl hbad
            rw [hE, hN] at HADD
            generalize addA E nm xl = ba at *
            generalize addL en mn isL E nm xl = isM at *
            generalize addE E nm xs = E1 at *
            clear hinv
            go_wp2_with fail
            refine HD.out.mono ?_
            rintro e w2' ⟨rfl, rfl⟩
            go_wp2_with fail
            refine HADD.out.mono ?_
            rintro e w3 ⟨rfl, hn3⟩
            obtain ⟨S3, h3, hS3, hb3⟩ := hn3.seen hb2 (fun j hj => hS j hj)
            clear HADD HD hn3 hb2 hS h1 c0 c1 c2 c3 c4 c5 e0 e1 e2 e3 e4 e5
            have HEN := Lib.hid (set_enc h3)
            have HLE := fun y : Ext w3 => Lib.hid (set_len (h3.later y.ok))
            have q1 := fun y : Ext w3 => (HLAT.out y.w (hb3.trans (y.ok.mono hb3.size))).1
            have q2 := fun y : Ext w3 => (HLAT.out y.w (hb3.trans (y.ok.mono hb3.size))).2.1
            have HNX := fun y : Ext w3 => Lib.hid (show WaysAt w1 s en mn isM (k + 1) y.w from (WaysAt.mk ⟨S3, _, h3, hS3, hi⟩ hb3).later y.ok)
            have hne := Ext.one w3
            clear h3 hS3 hb3 hi HLAT
            have hlong : decide (en < (E1.length : Int)) = true ∨ decide (en < (E1.length : Int)) = false ∧ decide (mn < (nm.size : Int)) = true ∨ decide (en < (E1.length : Int)) = false ∧ decide (mn < (nm.size : Int)) = false := by
              cases decide (en < (E1.length : Int)) <;> cases decide (mn < (nm.size : Int)) <;> simp
            cases isL with
            | true =>
              have hM1 := hi1 rfl
              clear hi1 hi2
              rcases hlong with g1 | ⟨g1, g2⟩ | ⟨g1, g2⟩
              · subst hM1
                simp only [encT] at *
                go_wp2_with fail
                refine HEN.out.mono ?_
                rintro e w4 ⟨rfl, rfl⟩
                go_wp2_with fail
                refine region_ext (w1 := w4) (by kernel_rfl) (by kernel_rfl) (Below.refl _ _) ?_
                repeat go_big_quiet_step ((go_at_call 14; exact Ext.call _ (HLE _).out))
                refine wpQuiet_nil ?_
                rintro _ ⟨y, rfl⟩
                have HY := HNX y
                clear q1 q2 HLE HNX hne HEN
                go_wp2_with fail
                exact ⟨⟨k + 1, true, by go_num, by omega, rfl, HY.out⟩, by simp [intOf]; omega⟩
              · subst hM1
                simp only [encT] at *
                go_wp2_with fail
                refine HEN.out.mono ?_
                rintro e w4 ⟨rfl, rfl⟩
                go_wp2_with fail
                refine region_ext (w1 := w4) (by kernel_rfl) (by kernel_rfl) (Below.refl _ _) ?_
                repeat go_big_quiet_step ((go_at_call 14; exact Ext.call _ (HLE _).out))
                refine wpQuiet_nil ?_
                rintro _ ⟨y, rfl⟩
                have HY := HNX y
                clear q1 q2 HLE HNX hne HEN
                go_wp2_with fail
                exact ⟨⟨k + 1, true, by go_num, by omega, rfl, HY.out⟩, by simp [intOf]; omega⟩
              · subst hM1
                simp only [encT] at *
                go_wp2_with fail
                refine HEN.out.mono ?_
                rintro e w4 ⟨rfl, rfl⟩
                go_wp2_with fail
                refine region_ext (w1 := w4) (by kernel_rfl) (by kernel_rfl) (Below.refl _ _) ?_
                repeat go_big_quiet_step ((go_at_call 14; exact Ext.call _ (HLE _).out))
                refine wpQuiet_nil ?_
                rintro _ ⟨y, rfl⟩
                have HY := HNX y
                clear q1 q2 HLE HNX hne HEN
                go_wp2_with fail
                exact ⟨⟨k + 1, true, by go_num, by omega, rfl, HY.out⟩, by simp [intOf]; omega⟩
            | false =>
              have hM1 := hi2 rfl
              clear hi1 hi2
              rcases hlong with g1 | ⟨g1, g2⟩ | ⟨g1, g2⟩
              · simp only [g1, Bool.true_or] at hM1
                subst hM1
                simp only [encF, encT] at *
                go_wp2_with fail
                refine HEN.out.mono ?_
                rintro e w4 ⟨rfl, rfl⟩
                go_wp2_with fail
                refine region_ext (w1 := w4) (by kernel_rfl) (by kernel_rfl) (Below.refl _ _) ?_
                repeat go_big_quiet_step ((go_at_call 14; exact Ext.call _ (HLE _).out))
                refine wpQuiet_nil ?_
                rintro _ ⟨y, rfl⟩
                have HY := HNX y
                clear q1 q2 HLE HNX hne HEN
                go_wp2_with fail
                exact ⟨⟨k + 1, true, by go_num, by omega, rfl, HY.out⟩, by simp [intOf]; omega⟩
              · simp only [g1, g2, Bool.false_or] at hM1
                subst hM1
                simp only [encF, encT] at *
                go_wp2_with fail
                refine HEN.out.mono ?_
                rintro e w4 ⟨rfl, rfl⟩
                go_wp2_with fail
                refine region_ext (w1 := w4) (by kernel_rfl) (by kernel_rfl) (Below.refl _ _) ?_
                repeat go_big_quiet_step ((go_at_call 14; exact Ext.call _ (HLE _).out))
                refine wpQuiet_nil ?_
                rintro _ ⟨y, rfl⟩
                have HY := HNX y
                clear q1 q2 HLE HNX hne HEN
                go_wp2_with fail
                exact ⟨⟨k + 1, true, by go_num, by omega, rfl, HY.out⟩, by simp [intOf]; omega⟩
              · simp only [g1, g2, Bool.false_or] at hM1
                subst hM1
                simp only [encF] at *
                go_wp2_with fail
                refine HEN.out.mono ?_
                rintro e w4 ⟨rfl, rfl⟩
                go_wp2_with fail
                refine region_ext (w1 := w4) (by kernel_rfl) (by kernel_rfl) (Below.refl _ _) ?_
                repeat go_big_quiet_step ((go_at_call 14; exact Ext.call _ (HLE _).out))
                refine wpQuiet_nil ?_
                rintro _ ⟨y, rfl⟩
                have HY := HNX y
                clear q1 q2 HLE HNX hne HEN
                go_wp2_with fail
                exact ⟨⟨k + 1, false, by go_num, by omega, rfl, HY.out⟩, by simp [intOf]; omega⟩
        · have g5 : ¬ K < 5 := by omega
          have HREM := Lib.hid (set_remove h1 nm (by omega))
          go_wp2_with fail
          refine HD.out.mono ?_
          rintro e w2' ⟨rfl, rfl⟩
          go_wp2_with fail
          refine HREM.out.mono ?_
          rintro e w3 ⟨rfl, hn3⟩
          obtain ⟨S3, h3, hS3, hb3⟩ := hn3.seen hb2 (fun j hj => hS j hj)
          have h3 := h3.more (Nat.le_succ k) (by omega)
          have hinv := inv_rm hinv nm
          clear HREM HD hn3 hb2 hS h1 c0 c1 c2 c3 c4 c5 e0 e1 e2 e3 e4 e5
          have HEN := Lib.hid (set_enc h3)
          have HLE := fun y : Ext w3 => Lib.hid (set_len (h3.later y.ok))
          have q1 := fun y : Ext w3 => (HLAT.out y.w (hb3.trans (y.ok.mono hb3.size))).1
          have q2 := fun y : Ext w3 => (HLAT.out y.w (hb3.trans (y.ok.mono hb3.size))).2.1
          have HNX := fun y : Ext w3 => Lib.hid (show WaysAt w1 s en mn isL (k + 1) y.w from (WaysAt.mk ⟨S3, _, h3, hS3, hinv⟩ hb3).later y.ok)
          have hne := Ext.one w3
          clear h3 hS3 hb3 hinv HLAT
          cases isL with
          | true =>
            simp only [encT] at *
            go_wp2_with fail
            refine HEN.out.mono ?_
            rintro e w4 ⟨rfl, rfl⟩
            go_wp2_with fail
            refine region_ext (w1 := w4) (by kernel_rfl) (by kernel_rfl) (Below.refl _ _) ?_
            repeat go_big_quiet_step ((go_at_call 14; exact Ext.call _ (HLE _).out))
            refine wpQuiet_nil ?_
            rintro _ ⟨y, rfl⟩
            have HY := HNX y
            clear q1 q2 HLE HNX hne HEN
            go_wp2_with fail
            exact ⟨⟨k + 1, true, by go_num, by omega, rfl, HY.out⟩, by simp [intOf]; omega⟩
          | false =>
            simp only [encF] at *
            go_wp2_with fail
            refine HEN.out.mono ?_
            rintro e w4 ⟨rfl, rfl⟩
            go_wp2_with fail
            refine region_ext (w1 := w4) (by kernel_rfl) (by kernel_rfl) (Below.refl _ _) ?_
            repeat go_big_quiet_step ((go_at_call 14; exact Ext.call _ (HLE _).out))
            refine wpQuiet_nil ?_
            rintro _ ⟨y, rfl⟩
            have HY := HNX y
            clear q1 q2 HLE HNX hne HEN
            go_wp2_with fail
            exact ⟨⟨k + 1, false, by go_num, by omega, rfl, HY.out⟩, by simp [intOf]; omega⟩
      · have HFN := Lib.hid hM.below
        clear hM
        by_cases hl : k < l.length
        · have h120 : ¬ (k : Int) < 100 := by omega
          have hl2 : (k : Int) < l.length := by omega
          go_wp2_with fail
          go_returns
          exact ⟨rfl, HBW.out.trans (HFN.out.mono HBW.out.size)⟩
        · have hl2 : ¬ (k : Int) < l.length := by omega
          go_wp2_with fail
          go_returns
          exact ⟨rfl, HBW.out.trans (HFN.out.mono HBW.out.size)⟩
  · have hcs : (decide (en < 0) = true) ∨ (decide (en < 0) = false ∧ decide (200 < en) = true) ∨ (decide (en < 0) = false ∧ decide (200 < en) = false ∧ decide (mn < 0) = true) ∨ (decide (en < 0) = false ∧ decide (200 < en) = false ∧ decide (mn < 0) = false ∧ decide (64 < mn) = true) := by
      by_cases h1 : en < 0
      · exact .inl (decide_eq_true h1)
      · by_cases h2 : 200 < en
        · exact .inr (.inl ⟨decide_eq_false h1, decide_eq_true h2⟩)
        · by_cases h3 : mn < 0
          · exact .inr (.inr (.inl ⟨decide_eq_false h1, decide_eq_false h2, decide_eq_true h3⟩))
          · exact .inr (.inr (.inr ⟨decide_eq_false h1, decide_eq_false h2, decide_eq_false h3, decide_eq_true (by omega)⟩))
    rcases hcs with d1 | ⟨d1, d2⟩ | ⟨d1, d2, d3⟩ | ⟨d1, d2, d3, d4⟩
    all_goals (
      go_enter Tryz.func7, Tryz.ntmps7
      go_wp2_with fail
      refine H10.out.mono ?_
      rintro e w1 ⟨rfl, hb1⟩
      obtain ⟨c0, c1, _, _⟩ := facts2 (HK0.out w1 hb1)
      have HB1 := Lib.hid (HB0.out.trans (hb1.mono HB0.out.size))
      clear hb1 H10 HK0 HB0 HA HU
      go_wp2_with fail
      go_returns
      exact ⟨rfl, HB1.out⟩)
end Go.Proofs.YtpaphfofjfjdlaaGreat
