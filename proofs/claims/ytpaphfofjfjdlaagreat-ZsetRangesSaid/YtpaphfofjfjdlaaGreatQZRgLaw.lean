/- ZsetRanges: its walk. -/
import Derived.Test.YtpaphfofjfjdlaaGreatQZMade
import Derived.Test.YtpaphfofjfjdlaaGreatQZRefMem
import Derived.Test.YtpaphfofjfjdlaaGreatQZF
namespace Go.Proofs.YtpaphfofjfjdlaaGreat
open Go.RowKit Go.Shelf Sk
attribute [local go_sem] Oper.semAt_some

theorem mid_between {w0 W : World} {s r c : Nat} {le lm : Int} {isL isM : Bool} {E F : List En} (h : MidR w0 W s r c le lm isL E isM F) (f1 f3 t1 t3 : Int) (f2 t2 : Bool) : Calls Tryz.prog 27 #[.pointer (some ⟨s, 0, none⟩), .agg #[.int .i64 f1, .bool f2, .int .i64 f3], .agg #[.int .i64 t1, .bool t2, .int .i64 t3]] W
    fun e w' => e = .returned (.tuple #[.int .i64 (kF E f1 f2 f3), .int .i64 (max (kF E f1 f2 f3) (kT E t1 t2 t3) : Nat)]) ∧ Below W.heap.size W w' := by
  obtain ⟨S, h1, _⟩ := h.ex
  exact set_between h1 f1 f3 t1 t3 f2 t2
theorem mid_rbetween {w0 W : World} {s r c : Nat} {le lm : Int} {isL isM : Bool} {E F : List En} (h : MidR w0 W s r c le lm isL E isM F) (hs : SrtE F) (hF : F.length ≤ 100000) (f1 f3 t1 t3 : Int) (f2 t2 : Bool) : Calls Tryz.prog 28 #[.pointer (some ⟨r, 0, none⟩), .agg #[.int .i64 f1, .bool f2, .int .i64 f3], .agg #[.int .i64 t1, .bool t2, .int .i64 t3]] W
    fun e w' => e = .returned (.tuple #[.int .i64 (kF F f1 f2 f3), .int .i64 (max (kF F f1 f2 f3) (kT F t1 t2 t3) : Nat)]) ∧ Below W.heap.size W w' := by
  obtain ⟨S, h1, h2, _⟩ := h.ex
  exact ref_between h2 hs hF f1 f3 t1 t3 f2 t2
theorem mid_members {w0 W : World} {s r c : Nat} {le lm : Int} {isL isM : Bool} {E F : List En} (h : MidR w0 W s r c le lm isL E isM F) (a b : ByteArray) (oa ob : Bool) (ia ib : Int) : Calls Tryz.prog 29 #[.pointer (some ⟨s, 0, none⟩), .agg #[.string a, .bool oa, .int .i64 ia], .agg #[.string b, .bool ob, .int .i64 ib]] W
    fun e w' => ∃ v, e = .returned v ∧ Row w' W.heap.size v (E.filter (memP a oa ia b ob ib)) ∧ Below W.heap.size W w' := by
  obtain ⟨S, h1, _⟩ := h.ex
  exact (set_members h1 a b oa ob ia ib).mono fun _ _ ⟨v, he, ho, hb⟩ => ⟨v, he, own_row ho, hb⟩
theorem mid_rmembers {w0 W : World} {s r c : Nat} {le lm : Int} {isL isM : Bool} {E F : List En} (h : MidR w0 W s r c le lm isL E isM F) (hz : ∀ x ∈ F, x.1.size ≤ 64) (hF : F.length ≤ 10000) (a b : ByteArray) (ha : a.size ≤ 281474976710656) (hb : b.size ≤ 281474976710656) (oa ob : Bool) (ia ib : Int) : Calls Tryz.prog 30 #[.pointer (some ⟨r, 0, none⟩), .agg #[.string a, .bool oa, .int .i64 ia], .agg #[.string b, .bool ob, .int .i64 ib]] W
    fun e w' => ∃ v, e = .returned v ∧ Row w' W.heap.size v (F.filter (memP a oa ia b ob ib)) ∧ Below W.heap.size W w' := by
  obtain ⟨S, h1, h2, _⟩ := h.ex
  exact (ref_members h2 hz hF a b ha hb oa ob ia ib).mono fun _ _ ⟨v, he, ho, hb⟩ => ⟨v, he, own_row ho, hb⟩

set_option maxRecDepth 100000 in
set_option maxHeartbeats 4000000 in
theorem ranges_walk (en mn le lm : Int) (hle : min (max en 0) 200 = le) (hlm : min (max mn 0) 64 = lm) (sd : Nat) (hsd : sd < 4294967296) (a : Option Addr) (cap : Nat) (l : List Ac) (hn : l.length ≤ 9223372036854775807) (hu : ∀ x ∈ l, x.Fit)
    (f1 f3 t1 t3 : Int) (f2 t2 : Bool) (ea eb : ByteArray) (hea : ea.size ≤ 281474976710656) (heb : eb.size ≤ 281474976710656) (oa ob : Bool) (ia ib : Int) (w : World) (hA : Acts w a l) :
    Calls Tryz.prog 4 #[.agg #[.int .i64 en, .int .i64 mn], .int .u32 sd, .slice a l.length cap, .agg #[.int .i64 f1, .bool f2, .int .i64 f3], .agg #[.int .i64 t1, .bool t2, .int .i64 t3], .agg #[.string ea, .bool oa, .int .i64 ia], .agg #[.string eb, .bool ob, .int .i64 ib]] w fun e w' => e = .returned (.bool true) ∧ Below w.heap.size w w' := by
  have hb0 : Below w.heap.size w (((((w.alloc (.cells #[.int .i64 en, .int .i64 mn] 23)).alloc (.cells #[.int .i64 f1, .bool f2, .int .i64 f3] 51)).alloc (.cells #[.int .i64 t1, .bool t2, .int .i64 t3] 51)).alloc (.cells #[.string ea, .bool oa, .int .i64 ia] 53)).alloc (.cells #[.string eb, .bool ob, .int .i64 ib] 53)) :=
    (((((Below.refl w.heap.size w).alloc (Nat.le_refl _) _).alloc (by simp) _).alloc (by simp; omega) _).alloc (by simp; omega) _).alloc (by simp; omega) _
  have k0 := ((((Blk.new w 23 #[.int .i64 en, .int .i64 mn]).alloc (.cells #[.int .i64 f1, .bool f2, .int .i64 f3] 51)).alloc (.cells #[.int .i64 t1, .bool t2, .int .i64 t3] 51)).alloc (.cells #[.string ea, .bool oa, .int .i64 ia] 53)).alloc (.cells #[.string eb, .bool ob, .int .i64 ib] 53)
  have k1 := (((Blk.new (w.alloc (.cells #[.int .i64 en, .int .i64 mn] 23)) 51 #[.int .i64 f1, .bool f2, .int .i64 f3]).alloc (.cells #[.int .i64 t1, .bool t2, .int .i64 t3] 51)).alloc (.cells #[.string ea, .bool oa, .int .i64 ia] 53)).alloc (.cells #[.string eb, .bool ob, .int .i64 ib] 53)
  have k2 := ((Blk.new ((w.alloc (.cells #[.int .i64 en, .int .i64 mn] 23)).alloc (.cells #[.int .i64 f1, .bool f2, .int .i64 f3] 51)) 51 #[.int .i64 t1, .bool t2, .int .i64 t3]).alloc (.cells #[.string ea, .bool oa, .int .i64 ia] 53)).alloc (.cells #[.string eb, .bool ob, .int .i64 ib] 53)
  have k3 := (Blk.new (((w.alloc (.cells #[.int .i64 en, .int .i64 mn] 23)).alloc (.cells #[.int .i64 f1, .bool f2, .int .i64 f3] 51)).alloc (.cells #[.int .i64 t1, .bool t2, .int .i64 t3] 51)) 53 #[.string ea, .bool oa, .int .i64 ia]).alloc (.cells #[.string eb, .bool ob, .int .i64 ib] 53)
  have k4 := Blk.new ((((w.alloc (.cells #[.int .i64 en, .int .i64 mn] 23)).alloc (.cells #[.int .i64 f1, .bool f2, .int .i64 f3] 51)).alloc (.cells #[.int .i64 t1, .bool t2, .int .i64 t3] 51)).alloc (.cells #[.string ea, .bool oa, .int .i64 ia] 53)) 53 #[.string eb, .bool ob, .int .i64 ib]
  simp only [World.size_alloc] at k1 k2 k3 k4
  have HU := Lib.hid hu
  have HEA := Lib.hid hea
  have HEB := Lib.hid heb
  have HA := Lib.hid (fun W (hb : Below w.heap.size w W) => hA.later hb)
  have HS := fun W => Lib.hid (shown_any W)
  clear hu hA hea heb
  go_enter Tryz.func4, Tryz.ntmps4
  go_wp2_with fail
  generalize (((((w.alloc (.cells #[.int .i64 en, .int .i64 mn] 23)).alloc (.cells #[.int .i64 f1, .bool f2, .int .i64 f3] 51)).alloc (.cells #[.int .i64 t1, .bool t2, .int .i64 t3] 51)).alloc (.cells #[.string ea, .bool oa, .int .i64 ia] 53)).alloc (.cells #[.string eb, .bool ob, .int .i64 ib] 53)) = v0 at *
  refine (HS _).out.mono ?_
  rintro e w1 ⟨rfl, hb1⟩
  obtain ⟨d0, d1, _, _⟩ := facts2 (k0.later hb1)
  have K1 := Lib.hid (k1.later hb1)
  have K2 := Lib.hid (k2.later hb1)
  have K3 := Lib.hid (k3.later hb1)
  have K4 := Lib.hid (k4.later hb1)
  have HB1 := Lib.hid (hb0.trans (hb1.mono hb0.size))
  have HM := Lib.hid (made_any en mn le lm hle hlm sd hsd a cap l hn HU.out w1 (HA.out w1 HB1.out))
  clear hb0 hb1 k0 k1 k2 k3 k4 HS HA
  go_wp2_with fail
  refine HM.out.mono ?_
  rintro e w2 ⟨s, r, c, rfl, hcc, hz⟩
  have hb2 := hz.below
  obtain ⟨isL, E, hm, _⟩ := hz.ex
  have hg := hm.good
  have hlen : E.length ≤ 100 := by have := hg.len; omega
  obtain ⟨x0, x1, x2, _⟩ := facts3 (K1.out.later hb2)
  obtain ⟨y0, y1, y2, _⟩ := facts3 (K2.out.later hb2)
  have HMD := Lib.hid hm
  have HG := Lib.hid hg
  have HB2 := Lib.hid (HB1.out.trans (hb2.mono HB1.out.size))
  have K1' := Lib.hid (K1.out.later hb2)
  have K2' := Lib.hid (K2.out.later hb2)
  have K3' := Lib.hid (K3.out.later hb2)
  have K4' := Lib.hid (K4.out.later hb2)
  have H27 := Lib.hid (mid_between hm f1 f3 t1 t3 f2 t2)
  clear hz hb2 hm hg d0 d1 K1 K2 K3 K4 HM HB1
  go_wp2_with fail
  refine H27.out.mono ?_
  rintro e w3 ⟨rfl, hb3⟩
  have hm3 := HMD.out.later hb3
  obtain ⟨x0, x1, x2, _⟩ := facts3 (K1'.out.later hb3)
  obtain ⟨y0, y1, y2, _⟩ := facts3 (K2'.out.later hb3)
  have HM3 := Lib.hid hm3
  have HB3 := Lib.hid (HB2.out.trans (hb3.mono HB2.out.size))
  have K3 := Lib.hid (K3'.out.later hb3)
  have K4 := Lib.hid (K4'.out.later hb3)
  have H28 := Lib.hid (mid_rbetween hm3 HG.out.srt (by omega) f1 f3 t1 t3 f2 t2)
  generalize kF E f1 f2 f3 = A at *
  generalize max A (kT E t1 t2 t3) = B at *
  clear hm3 hb3 K1' K2' K3' K4' HMD H27 HB2
  go_wp2_with fail
  refine H28.out.mono ?_
  rintro e w4 ⟨rfl, hb4⟩
  have HM4 := fun W (hb : Below w4.heap.size w4 W) => Lib.hid ((HM3.out.later hb4).later hb)
  have HB4 := Lib.hid (HB3.out.trans (hb4.mono HB3.out.size))
  have HSW := Lib.hid (show ∀ W, Below w4.heap.size w4 W → W.cell? ⟨w.heap.size + 1 + 1 + 1, 0, none⟩ = some (.string ea) ∧ W.cell? ⟨w.heap.size + 1 + 1 + 1, 1, none⟩ = some (.bool oa) ∧ W.cell? ⟨w.heap.size + 1 + 1 + 1, 2, none⟩ = some (.int .i64 ia) ∧ W.cell? ⟨w.heap.size + 1 + 1 + 1 + 1, 0, none⟩ = some (.string eb) ∧ W.cell? ⟨w.heap.size + 1 + 1 + 1 + 1, 1, none⟩ = some (.bool ob) ∧ W.cell? ⟨w.heap.size + 1 + 1 + 1 + 1, 2, none⟩ = some (.int .i64 ib) from fun W hb => by
    obtain ⟨p0, p1, p2, _⟩ := facts3 ((K3.out.later hb4).later hb)
    obtain ⟨q0, q1, q2, _⟩ := facts3 ((K4.out.later hb4).later hb)
    exact ⟨p0, p1, p2, q0, q1, q2⟩)
  have S0 := HSW.out w4 (Below.refl _ _)
  clear hb4 x0 x1 x2 y0 y1 y2 H28 HM3 HB3 K3 K4
  go_wp2_with fail
  have HD0 := Lib.hid (show Below w4.heap.size w4 w4.drew from drewB w4 1)
  have S0 := HSW.out w4.drew HD0.out
  refine Sched.region_sched [(0, true), (1, true), (2, true), (3, true), (4, true), (5, true), (6, true), (7, true), (8, true), (9, true), (10, true), (11, true), (12, true), (13, true), (14, true), (16, true), (17, true), (18, true), (15, false), (19, false), (20, false), (21, true), (22, true)] (fun W => W.cell? ⟨w.heap.size + 1 + 1 + 1, 0, none⟩ = some (.string ea) ∧ W.cell? ⟨w.heap.size + 1 + 1 + 1, 1, none⟩ = some (.bool oa) ∧ W.cell? ⟨w.heap.size + 1 + 1 + 1, 2, none⟩ = some (.int .i64 ia) ∧ W.cell? ⟨w.heap.size + 1 + 1 + 1 + 1, 0, none⟩ = some (.string eb) ∧ W.cell? ⟨w.heap.size + 1 + 1 + 1 + 1, 1, none⟩ = some (.bool ob) ∧ W.cell? ⟨w.heap.size + 1 + 1 + 1 + 1, 2, none⟩ = some (.int .i64 ib)) (by kernel_rfl) (by kernel_rfl) rfl (by kernel_rfl) (fun _ _ _ d _ h => by cases d <;> exact h) S0 ?_
  intro L hL
  simp only [Sched.picks, List.getElem?_toArray, List.getElem?_cons_zero, List.getElem?_cons_succ] at hL
  subst hL
  repeat (first
    | (refine Sched.sched_take (v := ?_) (by rfl) ?_ ?_
       rotate_left
       (focus (intro w' hSw; (try dsimp only at hSw); go_simp; (try with_reducible rfl); done))
       simp only [Act.put, List.setIfInBounds_toArray, List.set_cons_zero, List.set_cons_succ]))
  refine Sched.sched_do (by rfl) fun K' hK => ?_
  go_simp
  have hm5 := (HM4 _ HD0.out).out
  go_at_call 29; refine (mid_members hm5 ea eb oa ob ia ib).mono ?_; rintro e w5 ⟨va, rfl, hva, hb5⟩
  have HVA := Lib.hid hva
  have HD1 := Lib.hid (HD0.out.trans (hb5.mono HD0.out.size))
  have S1 := HSW.out _ HD1.out
  clear hb5 hva hm5 S0
  refine hK _ _ S1 ?_
  clear hK K'
  repeat (first
    | (refine Sched.sched_take (v := ?_) (by rfl) ?_ ?_
       rotate_left
       (focus (intro w' hSw; (try dsimp only at hSw); go_simp; (try with_reducible rfl); done))
       simp only [Act.put, List.setIfInBounds_toArray, List.set_cons_zero, List.set_cons_succ]))
  refine Sched.sched_do (by rfl) fun K' hK => ?_
  go_simp
  have hm6 := (HM4 _ HD1.out).out
  go_at_call 30; refine (mid_rmembers hm6 (fun x hx => (HG.out.each x hx).1) (by omega) ea eb HEA.out HEB.out oa ob ia ib).mono ?_; rintro e w6 ⟨vb, rfl, hvb, hb6⟩
  have HS6 := Lib.hid (same_rows va vb _ (Nat.le_trans (List.length_filter_le _ _) (by omega)) w6 (HVA.out.later hb6) hvb)
  have HD2 := Lib.hid (HD1.out.trans (hb6.mono HD1.out.size))
  have S2 := HSW.out _ HD2.out
  clear hb6 hvb hm6 S1 HVA
  refine hK _ _ S2 ?_
  clear hK K'
  repeat (first
    | (refine Sched.sched_take (v := ?_) (by rfl) ?_ ?_
       rotate_left
       (focus (intro w' hSw; (try dsimp only at hSw); go_simp; (try with_reducible rfl); done))
       simp only [Act.put, List.setIfInBounds_toArray, List.set_cons_zero, List.set_cons_succ]))
  refine Sched.sched_do (by rfl) fun K' hK => ?_
  go_simp
  go_at_call 15; refine HS6.out.mono ?_; rintro e w7 ⟨rfl, hb7⟩
  have HD3 := Lib.hid (HB4.out.trans ((HD2.out.trans (hb7.mono HD2.out.size)).mono HB4.out.size))
  have S3 := HSW.out _ (HD2.out.trans (hb7.mono HD2.out.size))
  clear hb7 S2 HS6
  refine hK _ _ S3 ?_
  clear hK K'
  repeat (first
    | (refine Sched.sched_take (v := ?_) (by rfl) ?_ ?_
       rotate_left
       (focus (intro w' hSw; (try dsimp only at hSw); go_simp; (try with_reducible rfl); done))
       simp only [Act.put, List.setIfInBounds_toArray, List.set_cons_zero, List.set_cons_succ]))
  refine Sched.sched_nil ?_
  go_wp2_with fail
  go_ret
  exact ⟨rfl, HD3.out⟩
end Go.Proofs.YtpaphfofjfjdlaaGreat
