/- made: a set and its model, behind acts. -/
import Derived.Test.YtpaphfofjfjdlaaGreatQZDidA
import Derived.Test.YtpaphfofjfjdlaaGreatQZDidB
import Derived.Test.YtpaphfofjfjdlaaGreatQZDidC
namespace Go.Proofs.YtpaphfofjfjdlaaGreat
open Go.RowKit Go.Shelf Sk
attribute [local go_sem] Oper.semAt_some

theorem MidR.good {w0 W : World} {s r c : Nat} {le lm : Int} {isL isM : Bool} {E F : List En} (h : MidR w0 W s r c le lm isL E isM F) : Good le lm c E := by
  obtain ⟨S, h1, _⟩ := h.ex
  exact h1.good
theorem MidR.more {w0 W : World} {s r c c' : Nat} {le lm : Int} {isL isM : Bool} {E F : List En} (h : MidR w0 W s r c le lm isL E isM F) (h1 : c ≤ c') (h2 : c' ≤ 10000) : MidR w0 W s r c' le lm isL E isM F := by
  obtain ⟨S, g1, g2, g3⟩ := h.ex
  exact ⟨⟨S, g1.more h1 h2, g2, g3⟩, h.rr, h.lt, h.below⟩
/-- Both hold the same. -/
structure BothZ (w0 W : World) (s r c : Nat) (le lm : Int) : Prop where
  ex : ∃ isL E, MidR w0 W s r c le lm isL E isL E ∧ FitE isL le lm E
theorem BothZ.later {w0 W W' : World} {s r c : Nat} {le lm : Int} (h : BothZ w0 W s r c le lm) (hb : Below W.heap.size W W') : BothZ w0 W' s r c le lm := by
  obtain ⟨isL, E, h1, h2⟩ := h.ex
  exact ⟨isL, E, h1.later hb, h2⟩
theorem BothZ.below {w0 W : World} {s r c : Nat} {le lm : Int} (h : BothZ w0 W s r c le lm) : Below w0.heap.size w0 W := by
  obtain ⟨isL, E, h1, h2⟩ := h.ex
  exact h1.below

theorem zdid_any {w0 w : World} {s r c : Nat} {le lm : Int} (h : BothZ w0 w s r c le lm) (hc : c < 400) (xd : Int) (xm : ByteArray) (xs xl xf xt : Int) (hm : xm.size ≤ 9223372036854775807) (hsc : Pk.scoreOk xs) :
    Calls Tryz.prog 13 #[.pointer (some ⟨s, 0, none⟩), .pointer (some ⟨r, 0, none⟩), .agg #[.int .i64 xd, .string xm, .int .i64 xs, .int .i64 xl, .int .i64 xf, .int .i64 xt]] w fun e w' => e = .returned (.bool true) ∧ BothZ w0 w' s r (c + 1) le lm ∧ Keep32 w w' := by
  obtain ⟨isL, E, h1, hfit⟩ := h.ex
  have hg := h1.good
  have h4 : E.length < 400 := Nat.lt_of_le_of_lt hg.len hc
  have hz : ∀ x ∈ E, x.1.size ≤ 64 := fun x hx => (hg.each x hx).1
  have hK : ∀ K : Int, (IntKind.u64.wrap xd).tmod 8 = K → 0 ≤ K ∧ K < 8 := fun K e => by
    rw [kd_wrap ⟨xd, xm, xs, xl, xf, xt⟩] at e
    unfold kd at e
    simp only at e
    omega
  have hA : FitE (addL le lm isL E (nameB xm) xl) le lm (addS E (nameB xm) xs xl) := fit_add hfit hg.dist _ _ _
  have hR : FitE isL le lm (rmE E (nameB xm)) := hfit.sub (List.length_filter_le _ _) fun e he => (mem_rmE.1 he).1
  have hC : FitE isL le lm (cutE E xf xt) := hfit.sub (by rw [cutE_len]; omega) fun e he => mem_cutE he
  generalize hKK : (IntKind.u64.wrap xd).tmod 8 = K
  obtain ⟨k1, k2⟩ := hK K hKK
  have hcase : K = 0 ∨ K = 1 ∨ K = 2 ∨ K = 3 ∨ K = 4 ∨ K = 5 ∨ K = 6 ∨ K = 7 := by omega
  rcases hcase with rfl | rfl | rfl | rfl | rfl | rfl | rfl | rfl
  · exact (zdid_0 h1 hfit hg.srt hg.dist hz xd xm xs xl xf xt hm h4 (by omega) hsc hKK).mono fun _ _ ⟨e, g, k⟩ => ⟨e, ⟨_, _, g, hA⟩, k⟩
  · exact (zdid_1 h1 hfit hg.srt hg.dist hz xd xm xs xl xf xt hm h4 (by omega) hsc hKK).mono fun _ _ ⟨e, g, k⟩ => ⟨e, ⟨_, _, g, hA⟩, k⟩
  · exact (zdid_2 h1 hfit hg.srt hg.dist hz xd xm xs xl xf xt hm h4 (by omega) hsc hKK).mono fun _ _ ⟨e, g, k⟩ => ⟨e, ⟨_, _, g, hA⟩, k⟩
  · exact (zdid_3 h1 hfit hg.srt hg.dist hz xd xm xs xl xf xt hm h4 (by omega) hsc hKK).mono fun _ _ ⟨e, g, k⟩ => ⟨e, ⟨_, _, g, hA⟩, k⟩
  · exact (zdid_4 h1 hfit hg.srt hg.dist hz xd xm xs xl xf xt hm h4 (by omega) hsc hKK).mono fun _ _ ⟨e, g, k⟩ => ⟨e, ⟨_, _, g, hA⟩, k⟩
  · exact (zdid_5 h1 hfit hg.srt hg.dist hz xd xm xs xl xf xt hm h4 hKK).mono fun _ _ ⟨e, g, k⟩ => ⟨e, ⟨_, _, g.more (by omega) (by omega), hR⟩, k⟩
  · exact (zdid_6 h1 hfit hg.srt hg.dist hz xd xm xs xl xf xt hm h4 hKK).mono fun _ _ ⟨e, g, k⟩ => ⟨e, ⟨_, _, g.more (by omega) (by omega), hR⟩, k⟩
  · exact (zdid_7 h1 hfit hg.srt hg.dist hz xd xm xs xl xf xt hm h4 hKK).mono fun _ _ ⟨e, g, k⟩ => ⟨e, ⟨_, _, g.more (by omega) (by omega), hC⟩, k⟩

set_option maxRecDepth 100000 in
set_option maxHeartbeats 8000000 in
theorem made_any (en mn le lm : Int) (hle : min (max en 0) 200 = le) (hlm : min (max mn 0) 64 = lm) (sd : Nat) (hsd : sd < 4294967296) (a : Option Addr) (cap : Nat) (l : List Ac) (hn : l.length ≤ 9223372036854775807) (hu : ∀ x ∈ l, x.Fit) (w : World) (hA : Acts w a l) :
    Calls Tryz.prog 26 #[.agg #[.int .i64 en, .int .i64 mn], .int .u32 sd, .slice a l.length cap] w fun e w' => ∃ s r c, e = .returned (.tuple #[.pointer (some ⟨s, 0, none⟩), .pointer (some ⟨r, 0, none⟩)]) ∧ c ≤ 100 ∧ BothZ w w' s r c le lm := by
  have hbX := alloc_below w (.cells #[.int .i64 en, .int .i64 mn] 23)
  have k0 := Blk.new w 23 #[.int .i64 en, .int .i64 mn]
  have HB0 := Lib.hid hbX
  have HK0 := Lib.hid (fun W (hb : Below (w.alloc (.cells #[.int .i64 en, .int .i64 mn] 23)).heap.size (w.alloc (.cells #[.int .i64 en, .int .i64 mn] 23)) W) => k0.later hb)
  have HU := Lib.hid hu
  have HA := Lib.hid (fun W (hb : Below w.heap.size w W) => hA.later hb)
  have HN := fun W => Lib.hid (set_new0 en mn le lm hle hlm sd hsd W)
  have HR := fun W => Lib.hid (ref_new en mn le lm hle hlm W)
  have hle0 : 0 ≤ le := by omega
  have HL0 := Lib.hid hle0
  obtain ⟨c0, c1, _, _⟩ := facts2 k0
  clear hu hA hbX k0 hle hlm hle0
  go_enter Tryz.func26, Tryz.ntmps26
  go_wp2_with fail
  refine (HN _).out.mono ?_
  rintro e w1 ⟨s, S, rfl, h1, hS, hb1⟩
  obtain ⟨d0, d1, _, _⟩ := facts2 (HK0.out w1 hb1)
  have H1 := Lib.hid h1
  have HS := Lib.hid hS
  have HB1 := Lib.hid (HB0.out.trans (hb1.mono HB0.out.size))
  clear h1 hS hb1 HN c0 c1
  go_wp2_with fail
  refine (HR w1).out.mono ?_
  rintro e w2 ⟨r, rfl, hr, h2, hb2⟩
  have HB2 := Lib.hid (HB1.out.trans (hb2.mono HB1.out.size))
  have HZ := Lib.hid (show BothZ w w2 s r 0 le lm from ⟨false, [], ⟨⟨S, H1.out.later hb2, h2, fun j hj => Nat.le_trans HB0.out.size (HS.out j hj)⟩, Nat.le_trans HB1.out.size hr, by obtain ⟨_, _, hk, _⟩ := h2.ex; exact hk.lt, HB2.out⟩, fit_nil _ HL0.out⟩)
  clear hr h2 hb2 HR H1 HS HB1 HB2 HB0 HK0 d0 d1
  go_wp2_with fail
  go_loopw [10] (fun i wr => ∃ (k : Nat), i = .int .i64 k ∧ k ≤ min l.length 100 ∧ BothZ w wr s r k le lm) (fun i _ => 100 - (intOf i).toNat)
  case atStart => exact ⟨0, rfl, by omega, HZ.out⟩
  case round =>
    clear HZ
    obtain ⟨k, rfl, hk, hM⟩ := hrel
    by_cases hlt : k < l.length ∧ k < 100
    · obtain ⟨hk1, hk2⟩ := hlt
      obtain ⟨b, off, rfl, hc⟩ := HA.out wr hM.below k hk1
      have hfit := HU.out _ (List.getElem_mem hk1)
      generalize l[k] = x at *
      have c0 := hc 0 _ rfl
      have c1 := hc 1 _ rfl
      have c2 := hc 2 _ rfl
      have c3 := hc 3 _ rfl
      have c4 := hc 4 _ rfl
      have c5 := hc 5 _ rfl
      rw [Nat.add_zero] at c0
      have HD := Lib.hid (zdid_any hM (by omega) x.d x.m x.s x.l x.f x.t hfit.m hfit.s)
      obtain ⟨xd, xm, xs, xl, xf, xt⟩ := x
      simp only at c0 c1 c2 c3 c4 c5 HD
      have hk3 : (k : Int) < l.length := by omega
      have hk4 : (k : Int) < 100 := by omega
      clear hM hc hfit
      go_wp2_with fail
      refine HD.out.mono ?_
      rintro e w3 ⟨rfl, h3, _⟩
      have H3 := Lib.hid h3
      clear HD h3 c0 c1 c2 c3 c4 c5
      go_wp2_with fail
      exact ⟨⟨k + 1, by go_num, by omega, H3.out⟩, by simp [intOf]; omega⟩
    · have HM := Lib.hid hM
      have hno : ¬ ((k : Int) < l.length ∧ (k : Int) < 100) := by omega
      have hk5 : k ≤ 100 := by omega
      clear hM
      by_cases hl : (k : Int) < l.length
      · have hl2 : ¬ (k : Int) < 100 := fun h => hno ⟨hl, h⟩
        clear hno hlt
        go_wp2_with fail
        go_returns
        exact ⟨s, r, rfl, k, hk5, HM.out⟩
      · clear hno hlt
        go_wp2_with fail
        go_returns
        exact ⟨s, r, rfl, k, hk5, HM.out⟩
end Go.Proofs.YtpaphfofjfjdlaaGreat
