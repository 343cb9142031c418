/- Texts of one kind in one: DidP, DidA, DidB. -/
import Derived.Test.YtidiaomeahoapaaQ14
import Derived.Deep.RegionHeld
/- did: an act, on both. -/
namespace Go.Proofs.Ytidiaomeahoapaa
open Go.RowKit Go.Shelf
attribute [local go_sem] Oper.semAt_some

theorem ty_ne2 (q : Nat) : tyq q ≠ 30 ∧ tyq q ≠ 3 ∧ tyq q ≠ 34 := by unfold tyq; split <;> decide
theorem RefAt.far {S : Nat → Prop} {w w' : World} {r : Nat} {E : List Ent} {H : List Int} (h : RefAt w r E H) (hf : Far S w w') (hr : ¬ S r) (h32 : ∀ k c, Blk w k 32 c → ¬ S k) (h3 : ∀ k c, Blk w k 3 c → ¬ S k) : RefAt w' r E H := by
  obtain ⟨a, c, a', c', h1, h2, h4, h5, h6⟩ := h.ex
  have hb := hf.blk h1 hr
  have t1 : ∀ b off, a = some ⟨b, off, none⟩ → ∃ cur, Blk w b 32 cur := fun b off e => h.ty.1 b off E.length c (by rw [h1.cell, e]; rfl)
  have t2 : ∀ b off, a' = some ⟨b, off, none⟩ → ∃ cur, Blk w b 3 cur := fun b off e => h.ty.2 b off H.length c' (by rw [h1.cell, e]; rfl)
  refine ⟨⟨a, c, a', c', hb, h2, h4, h5.far hf (fun b off e => ?_), h6.far hf (fun b off e => ?_)⟩, fun b off n c1 h0 => ?_, fun b off n c1 h0 => ?_⟩
  · obtain ⟨cur, hk⟩ := t1 b off e
    exact h32 b cur hk
  · obtain ⟨cur, hk⟩ := t2 b off e
    exact h3 b cur hk
  · rw [hb.cell] at h0
    simp at h0
    obtain ⟨cur, hk⟩ := t1 b off h0.1
    exact ⟨cur, hf.blk hk (h32 b cur hk)⟩
  · rw [hb.cell] at h0
    simp at h0
    obtain ⟨cur, hk⟩ := t2 b off h0.1
    exact ⟨cur, hf.blk hk (h3 b cur hk)⟩
theorem RefM.act {w w' : World} {p r : Nat} {L : List Nd} {M N : List En} (hr : RefM w r N) (h : Ls w p L) (ha : Act1 w w' p L M) : RefM w' r N := by
  obtain ⟨a, c, a', c', h1, _⟩ := hr.ex
  exact RefAt.far hr ha.far (h.sk.not_ty h1 fun q => (ty_ne2 q).1) (fun k c hk => h.sk.not_ty hk fun q => (ty_ne q).2.2.2) (fun k c hk => h.sk.not_ty hk fun q => (ty_ne2 q).2.1)

/-- Both lists behind an act. -/
structure DidP (w w' : World) (p r : Nat) (L : List Nd) (M : List En) : Prop where
  ex : ∃ L', L'.map er = M ∧ Ls w' p L' ∧ ∀ k, isB (hd p :: L') k → isB (hd p :: L) k ∨ w.heap.size ≤ k
  ref : RefM w' r M
  far : Far (fun k => isB (hd p :: L) k ∨ k = r) w w'
theorem DidP.both {w w0 w1 w2 : World} {p r : Nat} {L : List Nd} {M N : List En} (hb : Below w.heap.size w w0) (ha : Act1 w0 w1 p L M) (hN : RefM w1 r N) (hr : RefM w2 r M) (hf : Far (fun k => k = r) w1 w2) : DidP w w2 p r L M := by
  obtain ⟨⟨L', h1, h2, h3⟩, hf1⟩ := ha.before hb
  obtain ⟨a, c, a', c', k1, _⟩ := hN.ex
  refine ⟨⟨L', h1, h2.far hf (fun k hk e => ?_), h3⟩, hr, (hf1.mono fun k hk => .inl hk).trans hf (fun k hk => .inl (.inr hk))⟩
  subst e
  exact h2.sk.not_ty k1 (fun q => (ty_ne2 q).1) hk
def effD (x : Ac) (M : List En) : List En :=
  if kd x < 4 then insE M (cut12 x.m) x.s x.l else if kd x < 6 then delE M (cut12 x.m) x.s else if kd x = 6 then M else cutE M x.f x.t


end Go.Proofs.Ytidiaomeahoapaa
/- did: an act, on both: kinds 0, 1. -/
namespace Go.Proofs.Ytidiaomeahoapaa
open Go.RowKit Go.Shelf
attribute [local go_sem] Oper.semAt_some

set_option maxRecDepth 100000 in
set_option maxHeartbeats 16000000 in
theorem did_0 {w : World} {p r : Nat} {L : List Nd} (h : Ls w p L) (hN : L.length ≤ 1000) (hz : Small (L.map er)) (hr : RefM w r (L.map er)) (x : Ac) (hx : x.Fit) (hK : kd x = 0) :
    Calls Try.prog 12 #[.pointer (some ⟨p, 0, none⟩), .pointer (some ⟨r, 0, none⟩), x.val] w fun e w' => e = .returned (.bool true) ∧ DidP w w' p r L (effD x (L.map er)) := by
  have hk := kd_wrap x
  have hk8 := kd_lt x
  have hm := hx.m
  unfold Ac.val effD
  obtain ⟨d, m, s, lv, f, t⟩ := x
  simp only at *
  generalize kd ⟨d, m, s, lv, f, t⟩ = K at *
  have HF := fun w => Lib.hid (few_any m hm s w)
  have hcs := cut12_size m
  generalize cut12 m = c at *
  have HI := fun W (hb : Below w.heap.size w W) => Lib.hid (insert_raw (h.later hb) (by omega) c hcs s lv)
  have HD := fun W (hb : Below w.heap.size w W) => Lib.hid (delete_act (h.later hb) (by omega) c s)
  have HS := fun W (hb : Below w.heap.size w W) => Lib.hid (seek_act (h.later hb) (by omega) c s)
  have HC := fun W (hb : Below w.heap.size w W) => Lib.hid (cut_act (h.later hb) (by omega) f t)
  have HRI := fun W (hr : RefM W r (L.map er)) => Lib.hid (refInsert_raw h.srt hN hz hr c hcs s lv)
  have HRD := fun W (hr : RefM W r (L.map er)) => Lib.hid (refDelete_raw h.srt hN hz hr c hcs s)
  have HRC := fun W (hr : RefM W r (L.map er)) => Lib.hid (refCut_raw hN hr f t)
  have HRS := fun (a : Option Addr) (cap : Nat) W (hE : Ents W a ((L.map er).map e2)) => Lib.hid (refSeek_any a cap ((L.map er).map e2) (by simp; omega) hz.e2 c hcs s W hE)
  simp only [cnt_M h.srt c s] at HRS
  have HLs := fun W (hb : Below w.heap.size w W) => Lib.hid (h.later hb)
  have HRM := fun W (hb : Below w.heap.size w W) => Lib.hid (show RefM W r (L.map er) from RefAt.later hr hb)
  have kA := Blk.new w 34 #[.int .i64 d, .string m, .int .i64 s, .int .i64 lv, .int .i64 f, .int .i64 t]
  have hbA := alloc_below w (Obj.cells #[.int .i64 d, .string m, .int .i64 s, .int .i64 lv, .int .i64 f, .int .i64 t] 34)
  have HA := Lib.hid kA
  have HB := Lib.hid hbA
  have HLN := Lib.hid (show ((L.map er).map e2).length ≤ 1000 by simpa using hN)
  clear hx hm hcs kA hbA h hN hz hr
  generalize L.map er = M at *
  clear hk8
  subst hK
  · simp only [show (0 < 4) = True by simp, if_true]
    clear HD HRD HS HRS HC HRC HLN
    generalize insR M c s lv = R at *
    generalize insE M c s lv = M2 at *
    replace hk : (IntKind.u64.wrap d).tmod 8 = 0 := hk
    go_enter Try.func12, Try.ntmps12
    go_wp2_with fail
    refine (HF _).out.mono ?_
    rintro e w1 ⟨rfl, hb⟩
    have hz1 := (HA.out.later hb).lt
    obtain ⟨e0, e1, e2, e3, e4, e5⟩ := facts6 (HA.out.later hb)
    have hbw := HB.out.trans (hb.mono HB.out.size)
    have hbx := hbw.trans ((alloc_below w1 (Obj.cells #[.string c, .int .i64 s] 32)).drew.mono hbw.size)
    have hby := hbw.trans ((alloc_below w1 (Obj.cells #[.string c, .int .i64 s] 32)).mono hbw.size)
    have KX := Lib.hid (((HA.out.later hb).alloc (Obj.cells #[.string c, .int .i64 s] 32)).drew)
    have KE := Lib.hid ((Blk.new w1 32 #[.string c, .int .i64 s]).drew)
    have LS := HLs _ hbx
    have RM := HRM _ hbx
    have HBX := Lib.hid hbx
    have HP := HI _ hbx
    have S1 : ((w1.alloc (.cells #[.string c, .int .i64 s] 32)).drew).cell? ⟨w1.heap.size, 0, none⟩ = some (.string c) ∧ ((w1.alloc (.cells #[.string c, .int .i64 s] 32)).drew).cell? ⟨w1.heap.size, 1, none⟩ = some (.int .i64 s) ∧ ((w1.alloc (.cells #[.string c, .int .i64 s] 32)).drew).cell? ⟨w.heap.size, 3, none⟩ = some (.int .i64 lv) := ⟨KE.out.cell 0, KE.out.cell 1, KX.out.cell 3⟩
    clear hb hbw hbx hby HI HF HLs HRM
    go_wp2_with fail
    go_region_held (fun W => W.cell? ⟨w1.heap.size, 0, none⟩ = some (.string c) ∧ W.cell? ⟨w1.heap.size, 1, none⟩ = some (.int .i64 s) ∧ W.cell? ⟨w.heap.size, 3, none⟩ = some (.int .i64 lv)) (first | exact S1 | exact S5 | assumption)
      (first
        | (go_at_call 27; refine HP.out.mono ?_; rintro e w5 ⟨rfl, ha⟩
           have HACT := Lib.hid ha
           have RM5 := Lib.hid (RM.out.act LS.out ha)
           have KE5 := Lib.hid (ha.far.blk KE.out (LS.out.sk.not_ty KE.out fun q => (ty_ne q).2.2.2))
           have KX5 := Lib.hid (ha.far.blk KX.out (LS.out.sk.not_ty KX.out fun q => (ty_ne2 q).2.2))
           have S5 : (w5).cell? ⟨w1.heap.size, 0, none⟩ = some (.string c) ∧ (w5).cell? ⟨w1.heap.size, 1, none⟩ = some (.int .i64 s) ∧ (w5).cell? ⟨w.heap.size, 3, none⟩ = some (.int .i64 lv) := ⟨KE5.out.cell 0, KE5.out.cell 1, KX5.out.cell 3⟩
           obtain ⟨ra5, rc5, ra5', rc5', rk5, _⟩ := RM5.out.ex
           have hneE : ∀ {c : Array Value}, ¬ Blk w5 r 32 c := fun h => absurd (h.ty rk5) (by decide)
           have hneX : ∀ {c : Array Value}, ¬ Blk w5 r 34 c := fun h => absurd (h.ty rk5) (by decide)
           have HQ := HRI _ RM5.out
           clear ha)
        | (go_at_call 31; refine HQ.out.mono ?_; rintro e w6 ⟨rfl, hr6, hf6⟩
           have S6 : (w6).cell? ⟨w1.heap.size, 0, none⟩ = some (.string c) ∧ (w6).cell? ⟨w1.heap.size, 1, none⟩ = some (.int .i64 s) ∧ (w6).cell? ⟨w.heap.size, 3, none⟩ = some (.int .i64 lv) := ⟨(hf6.blk KE5.out (fun e => hneE (e ▸ KE5.out))).cell 0, (hf6.blk KE5.out (fun e => hneE (e ▸ KE5.out))).cell 1, (hf6.blk KX5.out (fun e => hneX (e ▸ KX5.out))).cell 3⟩
           have FIN := Lib.hid (DidP.both HBX.out HACT.out RM5.out hr6 hf6)
           clear hr6 hf6))
    all_goals (
      go_wp2_with fail
      go_returns
      exact ⟨by simp, FIN.out⟩)
set_option maxRecDepth 100000 in
set_option maxHeartbeats 16000000 in
theorem did_1 {w : World} {p r : Nat} {L : List Nd} (h : Ls w p L) (hN : L.length ≤ 1000) (hz : Small (L.map er)) (hr : RefM w r (L.map er)) (x : Ac) (hx : x.Fit) (hK : kd x = 1) :
    Calls Try.prog 12 #[.pointer (some ⟨p, 0, none⟩), .pointer (some ⟨r, 0, none⟩), x.val] w fun e w' => e = .returned (.bool true) ∧ DidP w w' p r L (effD x (L.map er)) := by
  have hk := kd_wrap x
  have hk8 := kd_lt x
  have hm := hx.m
  unfold Ac.val effD
  obtain ⟨d, m, s, lv, f, t⟩ := x
  simp only at *
  generalize kd ⟨d, m, s, lv, f, t⟩ = K at *
  have HF := fun w => Lib.hid (few_any m hm s w)
  have hcs := cut12_size m
  generalize cut12 m = c at *
  have HI := fun W (hb : Below w.heap.size w W) => Lib.hid (insert_raw (h.later hb) (by omega) c hcs s lv)
  have HD := fun W (hb : Below w.heap.size w W) => Lib.hid (delete_act (h.later hb) (by omega) c s)
  have HS := fun W (hb : Below w.heap.size w W) => Lib.hid (seek_act (h.later hb) (by omega) c s)
  have HC := fun W (hb : Below w.heap.size w W) => Lib.hid (cut_act (h.later hb) (by omega) f t)
  have HRI := fun W (hr : RefM W r (L.map er)) => Lib.hid (refInsert_raw h.srt hN hz hr c hcs s lv)
  have HRD := fun W (hr : RefM W r (L.map er)) => Lib.hid (refDelete_raw h.srt hN hz hr c hcs s)
  have HRC := fun W (hr : RefM W r (L.map er)) => Lib.hid (refCut_raw hN hr f t)
  have HRS := fun (a : Option Addr) (cap : Nat) W (hE : Ents W a ((L.map er).map e2)) => Lib.hid (refSeek_any a cap ((L.map er).map e2) (by simp; omega) hz.e2 c hcs s W hE)
  simp only [cnt_M h.srt c s] at HRS
  have HLs := fun W (hb : Below w.heap.size w W) => Lib.hid (h.later hb)
  have HRM := fun W (hb : Below w.heap.size w W) => Lib.hid (show RefM W r (L.map er) from RefAt.later hr hb)
  have kA := Blk.new w 34 #[.int .i64 d, .string m, .int .i64 s, .int .i64 lv, .int .i64 f, .int .i64 t]
  have hbA := alloc_below w (Obj.cells #[.int .i64 d, .string m, .int .i64 s, .int .i64 lv, .int .i64 f, .int .i64 t] 34)
  have HA := Lib.hid kA
  have HB := Lib.hid hbA
  have HLN := Lib.hid (show ((L.map er).map e2).length ≤ 1000 by simpa using hN)
  clear hx hm hcs kA hbA h hN hz hr
  generalize L.map er = M at *
  clear hk8
  subst hK
  · simp only [show (1 < 4) = True by simp, if_true]
    clear HD HRD HS HRS HC HRC HLN
    generalize insR M c s lv = R at *
    generalize insE M c s lv = M2 at *
    replace hk : (IntKind.u64.wrap d).tmod 8 = 1 := hk
    go_enter Try.func12, Try.ntmps12
    go_wp2_with fail
    refine (HF _).out.mono ?_
    rintro e w1 ⟨rfl, hb⟩
    have hz1 := (HA.out.later hb).lt
    obtain ⟨e0, e1, e2, e3, e4, e5⟩ := facts6 (HA.out.later hb)
    have hbw := HB.out.trans (hb.mono HB.out.size)
    have hbx := hbw.trans ((alloc_below w1 (Obj.cells #[.string c, .int .i64 s] 32)).drew.mono hbw.size)
    have hby := hbw.trans ((alloc_below w1 (Obj.cells #[.string c, .int .i64 s] 32)).mono hbw.size)
    have KX := Lib.hid (((HA.out.later hb).alloc (Obj.cells #[.string c, .int .i64 s] 32)).drew)
    have KE := Lib.hid ((Blk.new w1 32 #[.string c, .int .i64 s]).drew)
    have LS := HLs _ hbx
    have RM := HRM _ hbx
    have HBX := Lib.hid hbx
    have HP := HI _ hbx
    have S1 : ((w1.alloc (.cells #[.string c, .int .i64 s] 32)).drew).cell? ⟨w1.heap.size, 0, none⟩ = some (.string c) ∧ ((w1.alloc (.cells #[.string c, .int .i64 s] 32)).drew).cell? ⟨w1.heap.size, 1, none⟩ = some (.int .i64 s) ∧ ((w1.alloc (.cells #[.string c, .int .i64 s] 32)).drew).cell? ⟨w.heap.size, 3, none⟩ = some (.int .i64 lv) := ⟨KE.out.cell 0, KE.out.cell 1, KX.out.cell 3⟩
    clear hb hbw hbx hby HI HF HLs HRM
    go_wp2_with fail
    go_region_held (fun W => W.cell? ⟨w1.heap.size, 0, none⟩ = some (.string c) ∧ W.cell? ⟨w1.heap.size, 1, none⟩ = some (.int .i64 s) ∧ W.cell? ⟨w.heap.size, 3, none⟩ = some (.int .i64 lv)) (first | exact S1 | exact S5 | assumption)
      (first
        | (go_at_call 27; refine HP.out.mono ?_; rintro e w5 ⟨rfl, ha⟩
           have HACT := Lib.hid ha
           have RM5 := Lib.hid (RM.out.act LS.out ha)
           have KE5 := Lib.hid (ha.far.blk KE.out (LS.out.sk.not_ty KE.out fun q => (ty_ne q).2.2.2))
           have KX5 := Lib.hid (ha.far.blk KX.out (LS.out.sk.not_ty KX.out fun q => (ty_ne2 q).2.2))
           have S5 : (w5).cell? ⟨w1.heap.size, 0, none⟩ = some (.string c) ∧ (w5).cell? ⟨w1.heap.size, 1, none⟩ = some (.int .i64 s) ∧ (w5).cell? ⟨w.heap.size, 3, none⟩ = some (.int .i64 lv) := ⟨KE5.out.cell 0, KE5.out.cell 1, KX5.out.cell 3⟩
           obtain ⟨ra5, rc5, ra5', rc5', rk5, _⟩ := RM5.out.ex
           have hneE : ∀ {c : Array Value}, ¬ Blk w5 r 32 c := fun h => absurd (h.ty rk5) (by decide)
           have hneX : ∀ {c : Array Value}, ¬ Blk w5 r 34 c := fun h => absurd (h.ty rk5) (by decide)
           have HQ := HRI _ RM5.out
           clear ha)
        | (go_at_call 31; refine HQ.out.mono ?_; rintro e w6 ⟨rfl, hr6, hf6⟩
           have S6 : (w6).cell? ⟨w1.heap.size, 0, none⟩ = some (.string c) ∧ (w6).cell? ⟨w1.heap.size, 1, none⟩ = some (.int .i64 s) ∧ (w6).cell? ⟨w.heap.size, 3, none⟩ = some (.int .i64 lv) := ⟨(hf6.blk KE5.out (fun e => hneE (e ▸ KE5.out))).cell 0, (hf6.blk KE5.out (fun e => hneE (e ▸ KE5.out))).cell 1, (hf6.blk KX5.out (fun e => hneX (e ▸ KX5.out))).cell 3⟩
           have FIN := Lib.hid (DidP.both HBX.out HACT.out RM5.out hr6 hf6)
           clear hr6 hf6))
    all_goals (
      go_wp2_with fail
      go_returns
      exact ⟨by simp, FIN.out⟩)
end Go.Proofs.Ytidiaomeahoapaa
/- did: an act, on both: kinds 2, 3. -/
namespace Go.Proofs.Ytidiaomeahoapaa
open Go.RowKit Go.Shelf
attribute [local go_sem] Oper.semAt_some

set_option maxRecDepth 100000 in
set_option maxHeartbeats 16000000 in
theorem did_2 {w : World} {p r : Nat} {L : List Nd} (h : Ls w p L) (hN : L.length ≤ 1000) (hz : Small (L.map er)) (hr : RefM w r (L.map er)) (x : Ac) (hx : x.Fit) (hK : kd x = 2) :
    Calls Try.prog 12 #[.pointer (some ⟨p, 0, none⟩), .pointer (some ⟨r, 0, none⟩), x.val] w fun e w' => e = .returned (.bool true) ∧ DidP w w' p r L (effD x (L.map er)) := by
  have hk := kd_wrap x
  have hk8 := kd_lt x
  have hm := hx.m
  unfold Ac.val effD
  obtain ⟨d, m, s, lv, f, t⟩ := x
  simp only at *
  generalize kd ⟨d, m, s, lv, f, t⟩ = K at *
  have HF := fun w => Lib.hid (few_any m hm s w)
  have hcs := cut12_size m
  generalize cut12 m = c at *
  have HI := fun W (hb : Below w.heap.size w W) => Lib.hid (insert_raw (h.later hb) (by omega) c hcs s lv)
  have HD := fun W (hb : Below w.heap.size w W) => Lib.hid (delete_act (h.later hb) (by omega) c s)
  have HS := fun W (hb : Below w.heap.size w W) => Lib.hid (seek_act (h.later hb) (by omega) c s)
  have HC := fun W (hb : Below w.heap.size w W) => Lib.hid (cut_act (h.later hb) (by omega) f t)
  have HRI := fun W (hr : RefM W r (L.map er)) => Lib.hid (refInsert_raw h.srt hN hz hr c hcs s lv)
  have HRD := fun W (hr : RefM W r (L.map er)) => Lib.hid (refDelete_raw h.srt hN hz hr c hcs s)
  have HRC := fun W (hr : RefM W r (L.map er)) => Lib.hid (refCut_raw hN hr f t)
  have HRS := fun (a : Option Addr) (cap : Nat) W (hE : Ents W a ((L.map er).map e2)) => Lib.hid (refSeek_any a cap ((L.map er).map e2) (by simp; omega) hz.e2 c hcs s W hE)
  simp only [cnt_M h.srt c s] at HRS
  have HLs := fun W (hb : Below w.heap.size w W) => Lib.hid (h.later hb)
  have HRM := fun W (hb : Below w.heap.size w W) => Lib.hid (show RefM W r (L.map er) from RefAt.later hr hb)
  have kA := Blk.new w 34 #[.int .i64 d, .string m, .int .i64 s, .int .i64 lv, .int .i64 f, .int .i64 t]
  have hbA := alloc_below w (Obj.cells #[.int .i64 d, .string m, .int .i64 s, .int .i64 lv, .int .i64 f, .int .i64 t] 34)
  have HA := Lib.hid kA
  have HB := Lib.hid hbA
  have HLN := Lib.hid (show ((L.map er).map e2).length ≤ 1000 by simpa using hN)
  clear hx hm hcs kA hbA h hN hz hr
  generalize L.map er = M at *
  clear hk8
  subst hK
  · simp only [show (2 < 4) = True by simp, if_true]
    clear HD HRD HS HRS HC HRC HLN
    generalize insR M c s lv = R at *
    generalize insE M c s lv = M2 at *
    replace hk : (IntKind.u64.wrap d).tmod 8 = 2 := hk
    go_enter Try.func12, Try.ntmps12
    go_wp2_with fail
    refine (HF _).out.mono ?_
    rintro e w1 ⟨rfl, hb⟩
    have hz1 := (HA.out.later hb).lt
    obtain ⟨e0, e1, e2, e3, e4, e5⟩ := facts6 (HA.out.later hb)
    have hbw := HB.out.trans (hb.mono HB.out.size)
    have hbx := hbw.trans ((alloc_below w1 (Obj.cells #[.string c, .int .i64 s] 32)).drew.mono hbw.size)
    have hby := hbw.trans ((alloc_below w1 (Obj.cells #[.string c, .int .i64 s] 32)).mono hbw.size)
    have KX := Lib.hid (((HA.out.later hb).alloc (Obj.cells #[.string c, .int .i64 s] 32)).drew)
    have KE := Lib.hid ((Blk.new w1 32 #[.string c, .int .i64 s]).drew)
    have LS := HLs _ hbx
    have RM := HRM _ hbx
    have HBX := Lib.hid hbx
    have HP := HI _ hbx
    have S1 : ((w1.alloc (.cells #[.string c, .int .i64 s] 32)).drew).cell? ⟨w1.heap.size, 0, none⟩ = some (.string c) ∧ ((w1.alloc (.cells #[.string c, .int .i64 s] 32)).drew).cell? ⟨w1.heap.size, 1, none⟩ = some (.int .i64 s) ∧ ((w1.alloc (.cells #[.string c, .int .i64 s] 32)).drew).cell? ⟨w.heap.size, 3, none⟩ = some (.int .i64 lv) := ⟨KE.out.cell 0, KE.out.cell 1, KX.out.cell 3⟩
    clear hb hbw hbx hby HI HF HLs HRM
    go_wp2_with fail
    go_region_held (fun W => W.cell? ⟨w1.heap.size, 0, none⟩ = some (.string c) ∧ W.cell? ⟨w1.heap.size, 1, none⟩ = some (.int .i64 s) ∧ W.cell? ⟨w.heap.size, 3, none⟩ = some (.int .i64 lv)) (first | exact S1 | exact S5 | assumption)
      (first
        | (go_at_call 27; refine HP.out.mono ?_; rintro e w5 ⟨rfl, ha⟩
           have HACT := Lib.hid ha
           have RM5 := Lib.hid (RM.out.act LS.out ha)
           have KE5 := Lib.hid (ha.far.blk KE.out (LS.out.sk.not_ty KE.out fun q => (ty_ne q).2.2.2))
           have KX5 := Lib.hid (ha.far.blk KX.out (LS.out.sk.not_ty KX.out fun q => (ty_ne2 q).2.2))
           have S5 : (w5).cell? ⟨w1.heap.size, 0, none⟩ = some (.string c) ∧ (w5).cell? ⟨w1.heap.size, 1, none⟩ = some (.int .i64 s) ∧ (w5).cell? ⟨w.heap.size, 3, none⟩ = some (.int .i64 lv) := ⟨KE5.out.cell 0, KE5.out.cell 1, KX5.out.cell 3⟩
           obtain ⟨ra5, rc5, ra5', rc5', rk5, _⟩ := RM5.out.ex
           have hneE : ∀ {c : Array Value}, ¬ Blk w5 r 32 c := fun h => absurd (h.ty rk5) (by decide)
           have hneX : ∀ {c : Array Value}, ¬ Blk w5 r 34 c := fun h => absurd (h.ty rk5) (by decide)
           have HQ := HRI _ RM5.out
           clear ha)
        | (go_at_call 31; refine HQ.out.mono ?_; rintro e w6 ⟨rfl, hr6, hf6⟩
           have S6 : (w6).cell? ⟨w1.heap.size, 0, none⟩ = some (.string c) ∧ (w6).cell? ⟨w1.heap.size, 1, none⟩ = some (.int .i64 s) ∧ (w6).cell? ⟨w.heap.size, 3, none⟩ = some (.int .i64 lv) := ⟨(hf6.blk KE5.out (fun e => hneE (e ▸ KE5.out))).cell 0, (hf6.blk KE5.out (fun e => hneE (e ▸ KE5.out))).cell 1, (hf6.blk KX5.out (fun e => hneX (e ▸ KX5.out))).cell 3⟩
           have FIN := Lib.hid (DidP.both HBX.out HACT.out RM5.out hr6 hf6)
           clear hr6 hf6))
    all_goals (
      go_wp2_with fail
      go_returns
      exact ⟨by simp, FIN.out⟩)
set_option maxRecDepth 100000 in
set_option maxHeartbeats 16000000 in
theorem did_3 {w : World} {p r : Nat} {L : List Nd} (h : Ls w p L) (hN : L.length ≤ 1000) (hz : Small (L.map er)) (hr : RefM w r (L.map er)) (x : Ac) (hx : x.Fit) (hK : kd x = 3) :
    Calls Try.prog 12 #[.pointer (some ⟨p, 0, none⟩), .pointer (some ⟨r, 0, none⟩), x.val] w fun e w' => e = .returned (.bool true) ∧ DidP w w' p r L (effD x (L.map er)) := by
  have hk := kd_wrap x
  have hk8 := kd_lt x
  have hm := hx.m
  unfold Ac.val effD
  obtain ⟨d, m, s, lv, f, t⟩ := x
  simp only at *
  generalize kd ⟨d, m, s, lv, f, t⟩ = K at *
  have HF := fun w => Lib.hid (few_any m hm s w)
  have hcs := cut12_size m
  generalize cut12 m = c at *
  have HI := fun W (hb : Below w.heap.size w W) => Lib.hid (insert_raw (h.later hb) (by omega) c hcs s lv)
  have HD := fun W (hb : Below w.heap.size w W) => Lib.hid (delete_act (h.later hb) (by omega) c s)
  have HS := fun W (hb : Below w.heap.size w W) => Lib.hid (seek_act (h.later hb) (by omega) c s)
  have HC := fun W (hb : Below w.heap.size w W) => Lib.hid (cut_act (h.later hb) (by omega) f t)
  have HRI := fun W (hr : RefM W r (L.map er)) => Lib.hid (refInsert_raw h.srt hN hz hr c hcs s lv)
  have HRD := fun W (hr : RefM W r (L.map er)) => Lib.hid (refDelete_raw h.srt hN hz hr c hcs s)
  have HRC := fun W (hr : RefM W r (L.map er)) => Lib.hid (refCut_raw hN hr f t)
  have HRS := fun (a : Option Addr) (cap : Nat) W (hE : Ents W a ((L.map er).map e2)) => Lib.hid (refSeek_any a cap ((L.map er).map e2) (by simp; omega) hz.e2 c hcs s W hE)
  simp only [cnt_M h.srt c s] at HRS
  have HLs := fun W (hb : Below w.heap.size w W) => Lib.hid (h.later hb)
  have HRM := fun W (hb : Below w.heap.size w W) => Lib.hid (show RefM W r (L.map er) from RefAt.later hr hb)
  have kA := Blk.new w 34 #[.int .i64 d, .string m, .int .i64 s, .int .i64 lv, .int .i64 f, .int .i64 t]
  have hbA := alloc_below w (Obj.cells #[.int .i64 d, .string m, .int .i64 s, .int .i64 lv, .int .i64 f, .int .i64 t] 34)
  have HA := Lib.hid kA
  have HB := Lib.hid hbA
  have HLN := Lib.hid (show ((L.map er).map e2).length ≤ 1000 by simpa using hN)
  clear hx hm hcs kA hbA h hN hz hr
  generalize L.map er = M at *
  clear hk8
  subst hK
  · simp only [show (3 < 4) = True by simp, if_true]
    clear HD HRD HS HRS HC HRC HLN
    generalize insR M c s lv = R at *
    generalize insE M c s lv = M2 at *
    replace hk : (IntKind.u64.wrap d).tmod 8 = 3 := hk
    go_enter Try.func12, Try.ntmps12
    go_wp2_with fail
    refine (HF _).out.mono ?_
    rintro e w1 ⟨rfl, hb⟩
    have hz1 := (HA.out.later hb).lt
    obtain ⟨e0, e1, e2, e3, e4, e5⟩ := facts6 (HA.out.later hb)
    have hbw := HB.out.trans (hb.mono HB.out.size)
    have hbx := hbw.trans ((alloc_below w1 (Obj.cells #[.string c, .int .i64 s] 32)).drew.mono hbw.size)
    have hby := hbw.trans ((alloc_below w1 (Obj.cells #[.string c, .int .i64 s] 32)).mono hbw.size)
    have KX := Lib.hid (((HA.out.later hb).alloc (Obj.cells #[.string c, .int .i64 s] 32)).drew)
    have KE := Lib.hid ((Blk.new w1 32 #[.string c, .int .i64 s]).drew)
    have LS := HLs _ hbx
    have RM := HRM _ hbx
    have HBX := Lib.hid hbx
    have HP := HI _ hbx
    have S1 : ((w1.alloc (.cells #[.string c, .int .i64 s] 32)).drew).cell? ⟨w1.heap.size, 0, none⟩ = some (.string c) ∧ ((w1.alloc (.cells #[.string c, .int .i64 s] 32)).drew).cell? ⟨w1.heap.size, 1, none⟩ = some (.int .i64 s) ∧ ((w1.alloc (.cells #[.string c, .int .i64 s] 32)).drew).cell? ⟨w.heap.size, 3, none⟩ = some (.int .i64 lv) := ⟨KE.out.cell 0, KE.out.cell 1, KX.out.cell 3⟩
    clear hb hbw hbx hby HI HF HLs HRM
    go_wp2_with fail
    go_region_held (fun W => W.cell? ⟨w1.heap.size, 0, none⟩ = some (.string c) ∧ W.cell? ⟨w1.heap.size, 1, none⟩ = some (.int .i64 s) ∧ W.cell? ⟨w.heap.size, 3, none⟩ = some (.int .i64 lv)) (first | exact S1 | exact S5 | assumption)
      (first
        | (go_at_call 27; refine HP.out.mono ?_; rintro e w5 ⟨rfl, ha⟩
           have HACT := Lib.hid ha
           have RM5 := Lib.hid (RM.out.act LS.out ha)
           have KE5 := Lib.hid (ha.far.blk KE.out (LS.out.sk.not_ty KE.out fun q => (ty_ne q).2.2.2))
           have KX5 := Lib.hid (ha.far.blk KX.out (LS.out.sk.not_ty KX.out fun q => (ty_ne2 q).2.2))
           have S5 : (w5).cell? ⟨w1.heap.size, 0, none⟩ = some (.string c) ∧ (w5).cell? ⟨w1.heap.size, 1, none⟩ = some (.int .i64 s) ∧ (w5).cell? ⟨w.heap.size, 3, none⟩ = some (.int .i64 lv) := ⟨KE5.out.cell 0, KE5.out.cell 1, KX5.out.cell 3⟩
           obtain ⟨ra5, rc5, ra5', rc5', rk5, _⟩ := RM5.out.ex
           have hneE : ∀ {c : Array Value}, ¬ Blk w5 r 32 c := fun h => absurd (h.ty rk5) (by decide)
           have hneX : ∀ {c : Array Value}, ¬ Blk w5 r 34 c := fun h => absurd (h.ty rk5) (by decide)
           have HQ := HRI _ RM5.out
           clear ha)
        | (go_at_call 31; refine HQ.out.mono ?_; rintro e w6 ⟨rfl, hr6, hf6⟩
           have S6 : (w6).cell? ⟨w1.heap.size, 0, none⟩ = some (.string c) ∧ (w6).cell? ⟨w1.heap.size, 1, none⟩ = some (.int .i64 s) ∧ (w6).cell? ⟨w.heap.size, 3, none⟩ = some (.int .i64 lv) := ⟨(hf6.blk KE5.out (fun e => hneE (e ▸ KE5.out))).cell 0, (hf6.blk KE5.out (fun e => hneE (e ▸ KE5.out))).cell 1, (hf6.blk KX5.out (fun e => hneX (e ▸ KX5.out))).cell 3⟩
           have FIN := Lib.hid (DidP.both HBX.out HACT.out RM5.out hr6 hf6)
           clear hr6 hf6))
    all_goals (
      go_wp2_with fail
      go_returns
      exact ⟨by simp, FIN.out⟩)
end Go.Proofs.Ytidiaomeahoapaa
