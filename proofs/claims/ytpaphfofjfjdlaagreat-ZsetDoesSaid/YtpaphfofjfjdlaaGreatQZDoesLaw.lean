/- ZsetDoes: its walk. -/
import Derived.Test.YtpaphfofjfjdlaaGreatQZMade
import Derived.Test.YtpaphfofjfjdlaaGreatQZSee
namespace Go.Proofs.YtpaphfofjfjdlaaGreat
open Go.RowKit Go.Shelf Sk
attribute [local go_sem] Oper.semAt_some

theorem blk_ext {w1 : World} {b : Nat} {t : TypeId} {c : Array Value} (h : Blk w1 b t c) (o : Nat) (v : Value) (hv : c[o]? = some v) : ∀ x : Ext w1, x.w.cell? ⟨b, o, none⟩ = some v := fun x => x.cell ((h.cell o).trans hv)

section
variable {w0 W W' : World} {s r c c' : Nat} {le lm : Int} {isL isM : Bool} {E F : List En}
def KeepRows (W W' : World) : Prop := ∀ n0 v l, Row W n0 v l → Row W' n0 v l
theorem mid_len (h : MidR w0 W s r c le lm isL E isM F) : Calls Tryz.prog 14 #[.pointer (some ⟨s, 0, none⟩)] W fun e W' => e = .returned (.int .i64 E.length) ∧ Below W.heap.size W W' := by
  obtain ⟨S, h1, _⟩ := h.ex
  exact set_len h1
theorem mid_range (h : MidR w0 W s r c le lm isL E isM F) (f t : Int) : Calls Tryz.prog 16 #[.pointer (some ⟨s, 0, none⟩), .int .i64 f, .int .i64 t] W fun e W' => ∃ v, e = .returned v ∧ Row W' W.heap.size v (subE E f t) ∧ Below W.heap.size W W' := by
  obtain ⟨S, h1, _⟩ := h.ex
  exact set_range h1 f t
theorem mid_rrange (h : MidR w0 W s r c le lm isL E isM F) (hF : F.length ≤ 1000) (f t : Int) : Calls Tryz.prog 17 #[.pointer (some ⟨r, 0, none⟩), .int .i64 f, .int .i64 t] W fun e W' => ∃ v, e = .returned v ∧ Row W' 0 v (subE F f t) ∧ W' = W := by
  obtain ⟨S, h1, h2, _⟩ := h.ex
  exact ref_range h2 hF f t
theorem mid_enc (h : MidR w0 W s r c le lm isL E isM F) : Calls Tryz.prog 18 #[.pointer (some ⟨s, 0, none⟩)] W fun e W' => e = .returned (.string (encB isL)) ∧ W' = W := by
  obtain ⟨S, h1, _⟩ := h.ex
  exact set_enc h1
theorem mid_renc (h : MidR w0 W s r c le lm isL E isM F) : Calls Tryz.prog 19 #[.pointer (some ⟨r, 0, none⟩)] W fun e W' => e = .returned (.string (encB isM)) ∧ W' = W := by
  obtain ⟨S, h1, h2, _⟩ := h.ex
  exact ref_enc h2
theorem mid_bytes (h : MidR w0 W s r c le lm isL E isM F) : Calls Tryz.prog 20 #[.pointer (some ⟨s, 0, none⟩)] W fun e W' => e = .returned (.int .i64 (szS isL E)) ∧ Below W.heap.size W W' := by
  obtain ⟨S, h1, _⟩ := h.ex
  exact set_bytes h1
theorem mid_rbytes (h : MidR w0 W s r c le lm isL E isM F) (hF : F.length ≤ 1000) (hz : ∀ e ∈ F, e.1.size ≤ 64) : Calls Tryz.prog 21 #[.pointer (some ⟨r, 0, none⟩)] W fun e W' => e = .returned (.int .i64 (szS isM F)) ∧ W' = W := by
  obtain ⟨S, h1, h2, _⟩ := h.ex
  exact ref_bytes h2 hF hz
theorem keep_rows {S : Nat → Prop} {isL' : Bool} {E' : List En} (h1 : SetIs W s S isL le lm c E) (hn : SetNow W s S isL' le lm c' E' W') : KeepRows W W' := fun n0 v l hr => by
  obtain ⟨S', g1, g2, g3⟩ := hn
  exact hr.far g3 fun k cur _ hk => set_no h1 (.inr (.inr rfl)) hk
theorem mid_rank (h : MidR w0 W s r c le lm isL E isM F) (k : ByteArray) (hk : k.size ≤ 281474976710656) : Calls Tryz.prog 24 #[.pointer (some ⟨s, 0, none⟩), .string k] W fun e W' => e = .returned (.tuple #[.int .i64 ((whE E k).getD 0 : Nat), .bool (whE E k).isSome]) ∧ MidR w0 W' s r c le lm isL E isM F ∧ Keep32 W W' ∧ KeepRows W W' := by
  obtain ⟨S, h1, h2, h3⟩ := h.ex
  exact (set_rank h1 k hk).mono fun _ _ ⟨he, hn⟩ => ⟨he, h.set h1 h3 h2 hn, keep_now h1 hn, keep_rows h1 hn⟩
theorem mid_score (h : MidR w0 W s r c le lm isL E isM F) (k : ByteArray) (hk : k.size ≤ 281474976710656) : Calls Tryz.prog 25 #[.pointer (some ⟨s, 0, none⟩), .string k] W fun e W' => e = .returned (.tuple #[.int .i64 (scE E k), .bool (whE E k).isSome]) ∧ MidR w0 W' s r c le lm isL E isM F ∧ Keep32 W W' ∧ KeepRows W W' := by
  obtain ⟨S, h1, h2, h3⟩ := h.ex
  exact (set_score h1 k hk).mono fun _ _ ⟨he, hn⟩ => ⟨he, h.set h1 h3 h2 hn, keep_now h1 hn, keep_rows h1 hn⟩
end

set_option maxRecDepth 100000 in
set_option maxHeartbeats 16000000 in
theorem does_walk (en mn le lm : Int) (hle : min (max en 0) 200 = le) (hlm : min (max mn 0) 64 = lm) (sd : Nat) (hsd : sd < 4294967296) (a : Option Addr) (cap : Nat) (l : List Ac) (hn : l.length ≤ 9223372036854775807) (hu : ∀ x ∈ l, x.Fit) (w : World) (hA : Acts w a l) :
    Calls Tryz.prog 3 #[.agg #[.int .i64 en, .int .i64 mn], .int .u32 sd, .slice a l.length cap] w fun e w' => e = .returned (.bool true) ∧ Below w.heap.size w w' := by
  have hbX := alloc_below w (.cells #[.int .i64 en, .int .i64 mn] 23)
  have k0 := Blk.new w 23 #[.int .i64 en, .int .i64 mn]
  have HB0 := Lib.hid hbX
  have HK0 := Lib.hid (fun W (hb : Below (w.alloc (.cells #[.int .i64 en, .int .i64 mn] 23)).heap.size (w.alloc (.cells #[.int .i64 en, .int .i64 mn] 23)) W) => k0.later hb)
  have HU := Lib.hid hu
  have HA := Lib.hid (fun W (hb : Below w.heap.size w W) => hA.later hb)
  have HS := fun W => Lib.hid (shown_any W)
  have HN := fun W => Lib.hid (set_new0 en mn le lm hle hlm sd hsd W)
  have HR := fun W => Lib.hid (ref_new en mn le lm hle hlm W)
  have hle0 : 0 ≤ le := by omega
  have HL0 := Lib.hid hle0
  clear hu hA hbX k0 hle hlm hle0
  go_enter Tryz.func3, Tryz.ntmps3
  go_wp2_with fail
  refine (HS _).out.mono ?_
  rintro e w1 ⟨rfl, hb1⟩
  have k1 := HK0.out w1 hb1
  obtain ⟨d0, d1, _, _⟩ := facts2 k1
  have HK1 := Lib.hid k1
  have HB1 := Lib.hid (HB0.out.trans (hb1.mono HB0.out.size))
  clear hb1 HS HK0 HB0 k1
  go_wp2_with fail
  refine (HN _).out.mono ?_
  rintro e w2 ⟨s, S, rfl, h1, hS, hb2⟩
  clear d0 d1
  obtain ⟨d0, d1, _, _⟩ := facts2 (HK1.out.later hb2)
  have H1 := Lib.hid h1
  have HS := Lib.hid (show ∀ j, S j → w.heap.size ≤ j from fun j hj => Nat.le_trans HB1.out.size (hS j hj))
  have HB2 := Lib.hid (HB1.out.trans (hb2.mono HB1.out.size))
  clear h1 hS hb2 HN HK1
  go_wp2_with fail
  refine (HR w2).out.mono ?_
  rintro e w3 ⟨r, rfl, hr, h2, hb3⟩
  have HB3 := Lib.hid (HB2.out.trans (hb3.mono HB2.out.size))
  have HZ := Lib.hid (show BothZ w w3 s r 0 le lm from ⟨false, [], ⟨⟨S, H1.out.later hb3, h2, HS.out⟩, Nat.le_trans HB2.out.size hr, by obtain ⟨_, _, hk, _⟩ := h2.ex; exact hk.lt, HB3.out⟩, fit_nil _ HL0.out⟩)
  clear hr h2 hb3 HR H1 HS HB1 HB2 HB3 d0 d1
  go_wp2_with fail
  go_loopw [10] (fun i wr => ∃ (k : Nat), i = .int .i64 k ∧ k ≤ min l.length 100 ∧ BothZ w wr s r k le lm) (fun i _ => 100 - (intOf i).toNat)
  case atStart => exact ⟨0, rfl, by omega, HZ.out⟩
  case round =>
    clear HZ
    obtain ⟨k, rfl, hk, hM⟩ := hrel
    by_cases hlt : k < l.length ∧ k < 100
    · obtain ⟨hk1, hk2⟩ := hlt
      obtain ⟨b, off, rfl, hc⟩ := HA.out wr hM.below k hk1
      have hfit := HU.out _ (List.getElem_mem hk1)
      generalize l[k] = x at *
      have c0 := hc 0 _ rfl
      have c1 := hc 1 _ rfl
      have c2 := hc 2 _ rfl
      have c3 := hc 3 _ rfl
      have c4 := hc 4 _ rfl
      have c5 := hc 5 _ rfl
      rw [Nat.add_zero] at c0
      have HD := Lib.hid (zdid_any (hM.later (alloc_below wr (.cells #[.int .i64 x.d, .string x.m, .int .i64 x.s, .int .i64 x.l, .int .i64 x.f, .int .i64 x.t] 32))) (by omega) x.d x.m x.s x.l x.f x.t hfit.m hfit.s)
      have HKX := Lib.hid (Blk.new wr 32 #[.int .i64 x.d, .string x.m, .int .i64 x.s, .int .i64 x.l, .int .i64 x.f, .int .i64 x.t])
      have hxm := hfit.m
      obtain ⟨xd, xm, xs, xl, xf, xt⟩ := x
      simp only at c0 c1 c2 c3 c4 c5 HD HKX hxm
      have HNM := fun W => Lib.hid (name_any xm hxm W)
      have hns := name_size xm
      generalize nameB xm = nm at *
      have hk3 : (k : Int) < l.length := by omega
      have hk4 : (k : Int) < 100 := by omega
      obtain ⟨B, hB⟩ : ∃ B, B = wr.heap.size := ⟨_, rfl⟩
      rw [← hB] at HKX
      clear hM hc hfit hxm
      go_wp2_with fail
      rw [← hB]
      obtain ⟨W1, hW1⟩ : ∃ W1, W1 = wr.alloc (.cells #[.int .i64 xd, .string xm, .int .i64 xs, .int .i64 xl, .int .i64 xf, .int .i64 xt] 32) := ⟨_, rfl⟩
      rw [← hW1] at HD HKX ⊢
      obtain ⟨e0, e1, e2, e3, e4, e5⟩ := facts6 HKX.out
      clear hW1 hB c0 c1 c2 c3 c4 c5
      refine HD.out.mono ?_
      rintro e v0 ⟨rfl, h3, hk32⟩
      obtain ⟨isL, E, M0, hft⟩ := h3.ex
      have hkx := hk32 _ _ HKX.out
      obtain ⟨SS, g1, g2, g3⟩ := M0.ex
      obtain ⟨ra, rc, hkr, _, hrr⟩ := g2.ex
      have hg := g1.good
      have hlen : E.length ≤ 400 := by have := hg.len; omega
      have HSW := Lib.hid (fun W (hb : Below v0.heap.size v0 W) => show W.cell? ⟨r, 0, none⟩ = some (.slice ra E.length rc) ∧ W.cell? ⟨B, 4, none⟩ = some (.int .i64 xf) ∧ W.cell? ⟨B, 5, none⟩ = some (.int .i64 xt) from ⟨(facts4 (hkr.later hb)).1.1, (hkx.later hb).cell 4, (hkx.later hb).cell 5⟩)
      have HRow := Lib.hid (fun W (hb : Below v0.heap.size v0 W) => hrr.later hb)
      have HKB := Lib.hid (fun W (hb : Below v0.heap.size v0 W) => hkx.later hb)
      have HKR := Lib.hid (fun W (hb : Below v0.heap.size v0 W) => hkr.later hb)
      have HLen := fun W (hb : Below v0.heap.size v0 W) => Lib.hid (mid_len (M0.later hb))
      have HRngA := fun W (hb : Below v0.heap.size v0 W) => Lib.hid (mid_range (M0.later hb) 0 E.length)
      simp only [subE_all] at HRngA
      have HRngB := fun W (hb : Below v0.heap.size v0 W) => Lib.hid (mid_range (M0.later hb) xf xt)
      have HRr := fun W (hb : Below v0.heap.size v0 W) => Lib.hid (mid_rrange (M0.later hb) (by omega) xf xt)
      have HEn := fun W (hb : Below v0.heap.size v0 W) => Lib.hid (mid_enc (M0.later hb))
      have HRe := fun W (hb : Below v0.heap.size v0 W) => Lib.hid (mid_renc (M0.later hb))
      have HBy := fun W (hb : Below v0.heap.size v0 W) => Lib.hid (mid_bytes (M0.later hb))
      have HRb := fun W (hb : Below v0.heap.size v0 W) => Lib.hid (mid_rbytes (M0.later hb) (by omega) (fun e he => (hg.each e he).1))
      have M := Lib.hid M0
      have HFIT := Lib.hid hft
      have HDI := Lib.hid hg.dist
      generalize szS isL E = sz at *
      generalize encB isL = eb at *
      have heb : (eb.toList == eb.toList) = true := by simp
      clear HD h3 hk32 M0 hft hkx g1 g2 g3 hkr hrr hg HKX e0 e1 e2 e3 e4 e5
      go_wp2_with fail
      have HB0 := Lib.hid (show Below v0.heap.size v0 v0.drew from (Below.refl _ _).drew)
      have S0 := HSW.out _ HB0.out
      refine Sched.region_sched [(0, true), (1, true), (2, true), (3, true), (5, true), (6, true), (7, true), (8, true), (9, true), (4, false), (10, true), (11, true), (12, true), (13, true), (14, true), (17, true), (18, true), (19, true), (20, true), (15, false), (16, false), (21, false), (22, true), (23, true), (24, true), (25, true), (26, true), (27, true), (28, true), (29, true), (31, true), (32, true), (33, true), (34, true), (35, true), (30, false), (36, false), (37, false), (38, true), (39, true), (40, true), (41, true), (43, true), (42, false), (44, false), (45, true), (46, true), (47, true), (48, true), (50, true), (49, false), (51, false), (52, true), (53, true)] (fun W => W.cell? ⟨r, 0, none⟩ = some (.slice ra E.length rc) ∧ W.cell? ⟨B, 4, none⟩ = some (.int .i64 xf) ∧ W.cell? ⟨B, 5, none⟩ = some (.int .i64 xt)) (by kernel_rfl) (by kernel_rfl) rfl (by kernel_rfl) (fun _ _ _ d _ h => by cases d <;> exact h) S0 ?_
      intro L hL
      simp only [Sched.picks, List.getElem?_toArray, List.getElem?_cons_zero, List.getElem?_cons_succ] at hL
      subst hL
      repeat (first
        | (refine Sched.sched_skip (by rfl) ?_; simp only [Act.put, List.setIfInBounds_toArray, List.set_cons_zero, List.set_cons_succ])
        | (refine Sched.sched_take (v := ?_) (by rfl) ?_ ?_
           rotate_left
           (focus (intro w' hSw; (try dsimp only at hSw); go_simp; (try with_reducible rfl); done))
           simp only [Act.put, List.setIfInBounds_toArray, List.set_cons_zero, List.set_cons_succ]))
      refine Sched.sched_do (by rfl) fun K' hK => ?_
      go_simp
      go_at_call 14; refine (HLen _ HB0.out).out.mono ?_; rintro e v1 ⟨rfl, hb⟩
      have HB1 := Lib.hid (HB0.out.trans (hb.mono HB0.out.size))
      have S1 := HSW.out _ HB1.out
      clear hb
      refine hK _ _ S1 ?_
      clear hK K'
      repeat (first
        | (refine Sched.sched_skip (by rfl) ?_; simp only [Act.put, List.setIfInBounds_toArray, List.set_cons_zero, List.set_cons_succ])
        | (refine Sched.sched_take (v := ?_) (by rfl) ?_ ?_
           rotate_left
           (focus (intro w' hSw; (try dsimp only at hSw); go_simp; (try with_reducible rfl); done))
           simp only [Act.put, List.setIfInBounds_toArray, List.set_cons_zero, List.set_cons_succ]))
      refine Sched.sched_do (by rfl) fun K' hK => ?_
      go_simp
      go_at_call 14; refine (HLen _ HB1.out).out.mono ?_; rintro e v2 ⟨rfl, hb⟩
      have HB2 := Lib.hid (HB1.out.trans (hb.mono HB1.out.size))
      have S2 := HSW.out _ HB2.out
      clear hb
      refine hK _ _ S2 ?_
      clear hK K'
      repeat (first
        | (refine Sched.sched_skip (by rfl) ?_; simp only [Act.put, List.setIfInBounds_toArray, List.set_cons_zero, List.set_cons_succ])
        | (refine Sched.sched_take (v := ?_) (by rfl) ?_ ?_
           rotate_left
           (focus (intro w' hSw; (try dsimp only at hSw); go_simp; (try with_reducible rfl); done))
           simp only [Act.put, List.setIfInBounds_toArray, List.set_cons_zero, List.set_cons_succ]))
      refine Sched.sched_do (by rfl) fun K' hK => ?_
      go_simp
      go_at_call 16; refine (HRngA _ HB2.out).out.mono ?_; rintro e v3 ⟨r1, rfl, hr1, hb⟩
      have HB3 := Lib.hid (HB2.out.trans (hb.mono HB2.out.size))
      have S3 := HSW.out _ HB3.out
      have HSA := Lib.hid (same_rows r1 (.slice ra E.length rc) E (by omega) v3 hr1 (HRow.out _ HB3.out))
      clear hb hr1
      refine hK _ _ S3 ?_
      clear hK K'
      as_aux_lemma => (
        repeat (first
          | (refine Sched.sched_skip (by rfl) ?_; simp only [Act.put, List.setIfInBounds_toArray, List.set_cons_zero, List.set_cons_succ])
          | (refine Sched.sched_take (v := ?_) (by rfl) ?_ ?_
             rotate_left
             (focus (intro w' hSw; (try dsimp only at hSw); go_simp; (try with_reducible rfl); done))
             simp only [Act.put, List.setIfInBounds_toArray, List.set_cons_zero, List.set_cons_succ]))
        refine Sched.sched_do (by rfl) fun K' hK => ?_
        go_simp
        go_at_call 15; refine HSA.out.mono ?_; rintro e v4 ⟨rfl, hb⟩
        have HB4 := Lib.hid (HB3.out.trans (hb.mono HB3.out.size))
        have S4 := HSW.out _ HB4.out
        clear hb HSA
        refine hK _ _ S4 ?_
        clear hK K'
        repeat (first
          | (refine Sched.sched_skip (by rfl) ?_; simp only [Act.put, List.setIfInBounds_toArray, List.set_cons_zero, List.set_cons_succ])
          | (refine Sched.sched_take (v := ?_) (by rfl) ?_ ?_
             rotate_left
             (focus (intro w' hSw; (try dsimp only at hSw); go_simp; (try with_reducible rfl); done))
             simp only [Act.put, List.setIfInBounds_toArray, List.set_cons_zero, List.set_cons_succ]))
        refine Sched.sched_do (by rfl) fun K' hK => ?_
        go_simp
        go_at_call 16; refine (HRngB _ HB4.out).out.mono ?_; rintro e v5 ⟨r2, rfl, hr2, hb⟩
        have HB5 := Lib.hid (HB4.out.trans (hb.mono HB4.out.size))
        have S5 := HSW.out _ HB5.out
        have HR2 := Lib.hid hr2
        clear hb hr2
        refine hK _ _ S5 ?_
        clear hK K'
        repeat (first
          | (refine Sched.sched_skip (by rfl) ?_; simp only [Act.put, List.setIfInBounds_toArray, List.set_cons_zero, List.set_cons_succ])
          | (refine Sched.sched_take (v := ?_) (by rfl) ?_ ?_
             rotate_left
             (focus (intro w' hSw; (try dsimp only at hSw); go_simp; (try with_reducible rfl); done))
             simp only [Act.put, List.setIfInBounds_toArray, List.set_cons_zero, List.set_cons_succ]))
        refine Sched.sched_do (by rfl) fun K' hK => ?_
        go_simp
        go_at_call 17; refine (HRr _ HB5.out).out.mono ?_; rintro e v6 ⟨r3, rfl, hr3, rfl⟩
        have HSB := Lib.hid (same_rows r2 r3 (subE E xf xt) (by rw [subE_len]; unfold t0; omega) v6 HR2.out hr3)
        clear hr3 HR2
        refine hK _ _ S5 ?_
        clear hK K'
        repeat (first
          | (refine Sched.sched_skip (by rfl) ?_; simp only [Act.put, List.setIfInBounds_toArray, List.set_cons_zero, List.set_cons_succ])
          | (refine Sched.sched_take (v := ?_) (by rfl) ?_ ?_
             rotate_left
             (focus (intro w' hSw; (try dsimp only at hSw); go_simp; (try with_reducible rfl); done))
             simp only [Act.put, List.setIfInBounds_toArray, List.set_cons_zero, List.set_cons_succ]))
        refine Sched.sched_do (by rfl) fun K' hK => ?_
        go_simp
        go_at_call 15; refine HSB.out.mono ?_; rintro e v7 ⟨rfl, hb⟩
        have HB7 := Lib.hid (HB5.out.trans (hb.mono HB5.out.size))
        have S7 := HSW.out _ HB7.out
        clear hb HSB
        refine hK _ _ S7 ?_
        clear hK K'

        as_aux_lemma => (
          repeat (first
            | (refine Sched.sched_skip (by rfl) ?_; simp only [Act.put, List.setIfInBounds_toArray, List.set_cons_zero, List.set_cons_succ])
            | (refine Sched.sched_take (v := ?_) (by rfl) ?_ ?_
               rotate_left
               (focus (intro w' hSw; (try dsimp only at hSw); go_simp; (try with_reducible rfl); done))
               simp only [Act.put, List.setIfInBounds_toArray, List.set_cons_zero, List.set_cons_succ]))
          refine Sched.sched_do (by rfl) fun K' hK => ?_
          go_simp
          go_at_call 18; refine (HEn _ HB7.out).out.mono ?_; rintro e v8 ⟨rfl, rfl⟩
          refine hK _ _ S7 ?_
          clear hK K'
          repeat (first
            | (refine Sched.sched_skip (by rfl) ?_; simp only [Act.put, List.setIfInBounds_toArray, List.set_cons_zero, List.set_cons_succ])
            | (refine Sched.sched_take (v := ?_) (by rfl) ?_ ?_
               rotate_left
               (focus (intro w' hSw; (try dsimp only at hSw); go_simp; (try with_reducible rfl); done))
               simp only [Act.put, List.setIfInBounds_toArray, List.set_cons_zero, List.set_cons_succ]))
          refine Sched.sched_do (by rfl) fun K' hK => ?_
          go_simp
          go_at_call 19; refine (HRe _ HB7.out).out.mono ?_; rintro e v8 ⟨rfl, rfl⟩
          refine hK _ _ S7 ?_
          clear hK K'
          repeat (first
            | (refine Sched.sched_skip (by rfl) ?_; simp only [Act.put, List.setIfInBounds_toArray, List.set_cons_zero, List.set_cons_succ])
            | (refine Sched.sched_take (v := ?_) (by rfl) ?_ ?_
               rotate_left
               (focus (intro w' hSw; (try dsimp only at hSw); go_simp; (try with_reducible rfl); done))
               simp only [Act.put, List.setIfInBounds_toArray, List.set_cons_zero, List.set_cons_succ]))
          refine Sched.sched_do (by rfl) fun K' hK => ?_
          go_simp
          go_at_call 20; refine (HBy _ HB7.out).out.mono ?_; rintro e v9 ⟨rfl, hb⟩
          have HB9 := Lib.hid (HB7.out.trans (hb.mono HB7.out.size))
          have S9 := HSW.out _ HB9.out
          clear hb
          refine hK _ _ S9 ?_
          clear hK K'
          repeat (first
            | (refine Sched.sched_skip (by rfl) ?_; simp only [Act.put, List.setIfInBounds_toArray, List.set_cons_zero, List.set_cons_succ])
            | (refine Sched.sched_take (v := ?_) (by rfl) ?_ ?_
               rotate_left
               (focus (intro w' hSw; (try dsimp only at hSw); go_simp; (try with_reducible rfl); done))
               simp only [Act.put, List.setIfInBounds_toArray, List.set_cons_zero, List.set_cons_succ]))
          refine Sched.sched_do (by rfl) fun K' hK => ?_
          go_simp
          go_at_call 21; refine (HRb _ HB9.out).out.mono ?_; rintro e v9 ⟨rfl, rfl⟩
          refine hK _ _ S9 ?_
          clear hK K'
          repeat (first
            | (refine Sched.sched_skip (by rfl) ?_; simp only [Act.put, List.setIfInBounds_toArray, List.set_cons_zero, List.set_cons_succ])
            | (refine Sched.sched_take (v := ?_) (by rfl) ?_ ?_
               rotate_left
               (focus (intro w' hSw; (try dsimp only at hSw); go_simp; (try with_reducible rfl); done))
               simp only [Act.put, List.setIfInBounds_toArray, List.set_cons_zero, List.set_cons_succ]))
          refine Sched.sched_nil ?_
          clear HLen HRngA HRngB HRr HEn HRe HBy HRb S1 S2 S3 S4 S5 S7
          have M9 := M.out.later HB9.out
          have hk9 := HKB.out _ HB9.out
          obtain ⟨SS, g1, g2, g3⟩ := M9.ex
          obtain ⟨a0, a1, a2, a3, a4, a5⟩ := facts6 hk9
          have z0 := (facts4 (HKR.out _ HB9.out)).1.1
          have HFD := fun W (hb : Below v9.heap.size v9 W) => Lib.hid (ref_find ra rc E (by omega) nm W ((HRow.out _ HB9.out).later hb))
          have y0 := blk_ext (HKR.out _ HB9.out) 0 _ rfl
          have y1 := blk_ext hk9 1 _ rfl
          have hne := Ext.one v9
          have HNE := fun y : Ext v9 => Lib.hid ((HNM y.w).out.mono (R' := fun e w' => e = .returned (.string nm) ∧ Below y.w.heap.size y.w w') fun e w' h => ⟨h.1, by rw [h.2]; exact Below.refl _ _⟩)
          have HFE := fun y : Ext v9 => Lib.hid ((HFD y.w y.ok).out.mono (R' := fun e w' => e = .returned (.int .i64 (Pk.whereS E nm)) ∧ Below y.w.heap.size y.w w') fun e w' h => ⟨h.1, by rw [h.2]; exact Below.refl _ _⟩)
          have MH := Lib.hid M9
          have HKB9 := Lib.hid hk9
          have HKR9 := Lib.hid (HKR.out _ HB9.out)
          have HR9 := Lib.hid (HRow.out _ HB9.out)
          clear HFD M9 hk9 g1 g2 g3 a0 a1 a2 a3 a4 a5 z0
          generalize hwh : Pk.whereS E nm = at0 at *
          go_wp2_with fail
          refine region_ext (w1 := v9) (by kernel_rfl) (by kernel_rfl) (Below.refl _ _) ?_
          repeat go_big_quiet_step ((first | (go_at_call 23; exact Ext.call _ (HNE _).out) | (go_at_call 22; exact Ext.call _ (HFE _).out)))
          refine wpQuiet_nil ?_
          rintro _ ⟨y, rfl⟩
          have M10 := MH.out.later y.ok
          have HKB10 := Lib.hid (HKB9.out.later y.ok)
          obtain ⟨a0, a1, a2, a3, a4, a5⟩ := facts6 HKB10.out
          have HKR10 := Lib.hid (HKR9.out.later y.ok)
          have HR10 := Lib.hid (HR9.out.later y.ok)
          have HRK := Lib.hid (mid_rank M10 nm (by omega))
          clear HNE HFE y0 y1 hne M10
          go_wp2_with fail
          refine (HNM _).out.mono ?_
          rintro e v10 ⟨rfl, rfl⟩
          go_wp2_with fail
          refine HRK.out.mono ?_
          rintro e v11 ⟨rfl, M11, k11, j11⟩
          have HKB11 := Lib.hid (k11 _ _ HKB10.out)
          clear a0 a1 a2 a3 a4 a5
          obtain ⟨a0, a1, a2, a3, a4, a5⟩ := facts6 HKB11.out
          have HR11 := Lib.hid (j11 _ _ _ HR10.out)
          have HSC := Lib.hid (mid_score M11 nm (by omega))
          clear HRK k11 j11 M11 HR10 HKB10
          go_wp2_with fail
          refine (HNM _).out.mono ?_
          rintro e v12 ⟨rfl, rfl⟩
          go_wp2_with fail
          refine HSC.out.mono ?_
          rintro e v13 ⟨rfl, M13, k13, j13⟩
          obtain ⟨S13, g1, g2, g3⟩ := M13.ex
          have HR13 := Lib.hid (j13 _ _ _ HR11.out)
          have HZ13 := Lib.hid (show BothZ w v13 s r (k + 1) le lm from ⟨isL, E, M13, HFIT.out⟩)
          clear HSC k13 j13 M13 a0 a1 a2 a3 a4 a5
          cases hq : whE E nm with
          | none =>
            rw [where_none hq] at hwh
            subst hwh
            have hsc : scE E nm = 0 := by unfold scE; rw [hq]
            rw [hsc]
            simp only [Option.isSome_none, Option.getD_none]
            clear hq hsc g1 g2 g3
            go_wp2_with fail
            exact ⟨⟨k + 1, by go_num, by omega, HZ13.out⟩, by simp [intOf]; omega⟩
          | some i =>
            obtain ⟨h1, h2, _⟩ := where_some HDI.out hq
            rw [h1] at hwh
            subst hwh
            obtain ⟨ra', rc', hkr, _, hrr⟩ := g2.ex
            obtain ⟨b2, o2, c2, e1, p1, p2⟩ := row_cells hrr (List.getElem?_eq_getElem h2)
            injection e1 with e1 _ e2
            subst e1
            have z0 := (facts4 hkr).1.1
            have hsc : scE E nm = E[i].2 := by unfold scE; rw [hq]; simp [List.getD_eq_getElem?_getD, h2]
            rw [hsc]
            have hi2 : (i : Int) < E.length := by omega
            generalize E[i] = x at *
            obtain ⟨xm', xs'⟩ := x
            simp only at p1 p2
            simp only [Option.isSome_some, Option.getD_some]
            clear hq hsc g1 g2 g3 hkr hrr h1
            go_wp2_with fail
            exact ⟨⟨k + 1, by go_num, by omega, HZ13.out⟩, by simp [intOf]; omega⟩))
    · have HM := Lib.hid hM
      have hno : ¬ ((k : Int) < l.length ∧ (k : Int) < 100) := by omega
      clear hM
      by_cases hl : (k : Int) < l.length
      · have hl2 : ¬ (k : Int) < 100 := fun h => hno ⟨hl, h⟩
        clear hno hlt
        go_wp2_with fail
        go_ret
        exact ⟨rfl, HM.out.below⟩
      · clear hno hlt
        go_wp2_with fail
        go_ret
        exact ⟨rfl, HM.out.below⟩
end Go.Proofs.YtpaphfofjfjdlaaGreat
