/- Texts of one kind in one: DidC, DidD, DidE. -/
import Derived.Test.YtidiaomeahoapaaQ15
/- did: an act, on both: kinds 4, 5. -/
namespace Go.Proofs.Ytidiaomeahoapaa
open Go.RowKit Go.Shelf
attribute [local go_sem] Oper.semAt_some

set_option maxRecDepth 100000 in
set_option maxHeartbeats 16000000 in
theorem did_4 {w : World} {p r : Nat} {L : List Nd} (h : Ls w p L) (hN : L.length ≤ 1000) (hz : Small (L.map er)) (hr : RefM w r (L.map er)) (x : Ac) (hx : x.Fit) (hK : kd x = 4) :
    Calls Try.prog 12 #[.pointer (some ⟨p, 0, none⟩), .pointer (some ⟨r, 0, none⟩), x.val] w fun e w' => e = .returned (.bool true) ∧ DidP w w' p r L (effD x (L.map er)) := by
  have hk := kd_wrap x
  have hk8 := kd_lt x
  have hm := hx.m
  unfold Ac.val effD
  obtain ⟨d, m, s, lv, f, t⟩ := x
  simp only at *
  generalize kd ⟨d, m, s, lv, f, t⟩ = K at *
  have HF := fun w => Lib.hid (few_any m hm s w)
  have hcs := cut12_size m
  generalize cut12 m = c at *
  have HI := fun W (hb : Below w.heap.size w W) => Lib.hid (insert_raw (h.later hb) (by omega) c hcs s lv)
  have HD := fun W (hb : Below w.heap.size w W) => Lib.hid (delete_act (h.later hb) (by omega) c s)
  have HS := fun W (hb : Below w.heap.size w W) => Lib.hid (seek_act (h.later hb) (by omega) c s)
  have HC := fun W (hb : Below w.heap.size w W) => Lib.hid (cut_act (h.later hb) (by omega) f t)
  have HRI := fun W (hr : RefM W r (L.map er)) => Lib.hid (refInsert_raw h.srt hN hz hr c hcs s lv)
  have HRD := fun W (hr : RefM W r (L.map er)) => Lib.hid (refDelete_raw h.srt hN hz hr c hcs s)
  have HRC := fun W (hr : RefM W r (L.map er)) => Lib.hid (refCut_raw hN hr f t)
  have HRS := fun (a : Option Addr) (cap : Nat) W (hE : Ents W a ((L.map er).map e2)) => Lib.hid (refSeek_any a cap ((L.map er).map e2) (by simp; omega) hz.e2 c hcs s W hE)
  simp only [cnt_M h.srt c s] at HRS
  have HLs := fun W (hb : Below w.heap.size w W) => Lib.hid (h.later hb)
  have HRM := fun W (hb : Below w.heap.size w W) => Lib.hid (show RefM W r (L.map er) from RefAt.later hr hb)
  have kA := Blk.new w 34 #[.int .i64 d, .string m, .int .i64 s, .int .i64 lv, .int .i64 f, .int .i64 t]
  have hbA := alloc_below w (Obj.cells #[.int .i64 d, .string m, .int .i64 s, .int .i64 lv, .int .i64 f, .int .i64 t] 34)
  have HA := Lib.hid kA
  have HB := Lib.hid hbA
  have HLN := Lib.hid (show ((L.map er).map e2).length ≤ 1000 by simpa using hN)
  clear hx hm hcs kA hbA h hN hz hr
  generalize L.map er = M at *
  clear hk8
  subst hK
  · simp only [show (4 < 4) = False by simp, show (4 < 6) = True by simp, if_true, if_false]
    clear HI HRI HS HRS HC HRC HLN
    unfold delE at *
    generalize (if hasM M c s = true then cutM M (posM M c s) (posM M c s + 1) else M) = M2 at *
    generalize hasM M c s = bb at *
    replace hk : (IntKind.u64.wrap d).tmod 8 = 4 := hk
    go_enter Try.func12, Try.ntmps12
    go_wp2_with fail
    refine (HF _).out.mono ?_
    rintro e w1 ⟨rfl, hb⟩
    have hz1 := (HA.out.later hb).lt
    obtain ⟨e0, e1, e2, e3, e4, e5⟩ := facts6 (HA.out.later hb)
    have hbw := HB.out.trans (hb.mono HB.out.size)
    have hbx := hbw.trans ((alloc_below w1 (Obj.cells #[.string c, .int .i64 s] 32)).drew.mono hbw.size)
    have hby := hbw.trans ((alloc_below w1 (Obj.cells #[.string c, .int .i64 s] 32)).mono hbw.size)
    have KX := Lib.hid (((HA.out.later hb).alloc (Obj.cells #[.string c, .int .i64 s] 32)).drew)
    have KE := Lib.hid ((Blk.new w1 32 #[.string c, .int .i64 s]).drew)
    have LS := HLs _ hbx
    have RM := HRM _ hbx
    have HBX := Lib.hid hbx
    have HP := HD _ hbx
    have S1 : ((w1.alloc (.cells #[.string c, .int .i64 s] 32)).drew).cell? ⟨w1.heap.size, 0, none⟩ = some (.string c) ∧ ((w1.alloc (.cells #[.string c, .int .i64 s] 32)).drew).cell? ⟨w1.heap.size, 1, none⟩ = some (.int .i64 s) := ⟨KE.out.cell 0, KE.out.cell 1⟩
    clear hb hbw hbx hby HD HF HLs HRM
    go_wp2_with fail
    go_region_held (fun W => W.cell? ⟨w1.heap.size, 0, none⟩ = some (.string c) ∧ W.cell? ⟨w1.heap.size, 1, none⟩ = some (.int .i64 s)) (first | exact S1 | exact S5 | assumption)
      (first
        | (go_at_call 28; refine HP.out.mono ?_; rintro e w5 ⟨rfl, ha⟩
           have HACT := Lib.hid ha
           have RM5 := Lib.hid (RM.out.act LS.out ha)
           have KE5 := Lib.hid (ha.far.blk KE.out (LS.out.sk.not_ty KE.out fun q => (ty_ne q).2.2.2))
           have KX5 := Lib.hid (ha.far.blk KX.out (LS.out.sk.not_ty KX.out fun q => (ty_ne2 q).2.2))
           have S5 : (w5).cell? ⟨w1.heap.size, 0, none⟩ = some (.string c) ∧ (w5).cell? ⟨w1.heap.size, 1, none⟩ = some (.int .i64 s) := ⟨KE5.out.cell 0, KE5.out.cell 1⟩
           obtain ⟨ra5, rc5, ra5', rc5', rk5, _⟩ := RM5.out.ex
           have hneE : ∀ {c : Array Value}, ¬ Blk w5 r 32 c := fun h => absurd (h.ty rk5) (by decide)
           have hneX : ∀ {c : Array Value}, ¬ Blk w5 r 34 c := fun h => absurd (h.ty rk5) (by decide)
           have HQ := HRD _ RM5.out
           clear ha)
        | (go_at_call 32; refine HQ.out.mono ?_; rintro e w6 ⟨rfl, hr6, hf6⟩
           have S6 : (w6).cell? ⟨w1.heap.size, 0, none⟩ = some (.string c) ∧ (w6).cell? ⟨w1.heap.size, 1, none⟩ = some (.int .i64 s) := ⟨(hf6.blk KE5.out (fun e => hneE (e ▸ KE5.out))).cell 0, (hf6.blk KE5.out (fun e => hneE (e ▸ KE5.out))).cell 1⟩
           have FIN := Lib.hid (DidP.both HBX.out HACT.out RM5.out hr6 hf6)
           clear hr6 hf6))
    all_goals (
      go_wp2_with fail
      go_returns
      exact ⟨by cases bb <;> rfl, FIN.out⟩)
set_option maxRecDepth 100000 in
set_option maxHeartbeats 16000000 in
theorem did_5 {w : World} {p r : Nat} {L : List Nd} (h : Ls w p L) (hN : L.length ≤ 1000) (hz : Small (L.map er)) (hr : RefM w r (L.map er)) (x : Ac) (hx : x.Fit) (hK : kd x = 5) :
    Calls Try.prog 12 #[.pointer (some ⟨p, 0, none⟩), .pointer (some ⟨r, 0, none⟩), x.val] w fun e w' => e = .returned (.bool true) ∧ DidP w w' p r L (effD x (L.map er)) := by
  have hk := kd_wrap x
  have hk8 := kd_lt x
  have hm := hx.m
  unfold Ac.val effD
  obtain ⟨d, m, s, lv, f, t⟩ := x
  simp only at *
  generalize kd ⟨d, m, s, lv, f, t⟩ = K at *
  have HF := fun w => Lib.hid (few_any m hm s w)
  have hcs := cut12_size m
  generalize cut12 m = c at *
  have HI := fun W (hb : Below w.heap.size w W) => Lib.hid (insert_raw (h.later hb) (by omega) c hcs s lv)
  have HD := fun W (hb : Below w.heap.size w W) => Lib.hid (delete_act (h.later hb) (by omega) c s)
  have HS := fun W (hb : Below w.heap.size w W) => Lib.hid (seek_act (h.later hb) (by omega) c s)
  have HC := fun W (hb : Below w.heap.size w W) => Lib.hid (cut_act (h.later hb) (by omega) f t)
  have HRI := fun W (hr : RefM W r (L.map er)) => Lib.hid (refInsert_raw h.srt hN hz hr c hcs s lv)
  have HRD := fun W (hr : RefM W r (L.map er)) => Lib.hid (refDelete_raw h.srt hN hz hr c hcs s)
  have HRC := fun W (hr : RefM W r (L.map er)) => Lib.hid (refCut_raw hN hr f t)
  have HRS := fun (a : Option Addr) (cap : Nat) W (hE : Ents W a ((L.map er).map e2)) => Lib.hid (refSeek_any a cap ((L.map er).map e2) (by simp; omega) hz.e2 c hcs s W hE)
  simp only [cnt_M h.srt c s] at HRS
  have HLs := fun W (hb : Below w.heap.size w W) => Lib.hid (h.later hb)
  have HRM := fun W (hb : Below w.heap.size w W) => Lib.hid (show RefM W r (L.map er) from RefAt.later hr hb)
  have kA := Blk.new w 34 #[.int .i64 d, .string m, .int .i64 s, .int .i64 lv, .int .i64 f, .int .i64 t]
  have hbA := alloc_below w (Obj.cells #[.int .i64 d, .string m, .int .i64 s, .int .i64 lv, .int .i64 f, .int .i64 t] 34)
  have HA := Lib.hid kA
  have HB := Lib.hid hbA
  have HLN := Lib.hid (show ((L.map er).map e2).length ≤ 1000 by simpa using hN)
  clear hx hm hcs kA hbA h hN hz hr
  generalize L.map er = M at *
  clear hk8
  subst hK
  · simp only [show (5 < 4) = False by simp, show (5 < 6) = True by simp, if_true, if_false]
    clear HI HRI HS HRS HC HRC HLN
    unfold delE at *
    generalize (if hasM M c s = true then cutM M (posM M c s) (posM M c s + 1) else M) = M2 at *
    generalize hasM M c s = bb at *
    replace hk : (IntKind.u64.wrap d).tmod 8 = 5 := hk
    go_enter Try.func12, Try.ntmps12
    go_wp2_with fail
    refine (HF _).out.mono ?_
    rintro e w1 ⟨rfl, hb⟩
    have hz1 := (HA.out.later hb).lt
    obtain ⟨e0, e1, e2, e3, e4, e5⟩ := facts6 (HA.out.later hb)
    have hbw := HB.out.trans (hb.mono HB.out.size)
    have hbx := hbw.trans ((alloc_below w1 (Obj.cells #[.string c, .int .i64 s] 32)).drew.mono hbw.size)
    have hby := hbw.trans ((alloc_below w1 (Obj.cells #[.string c, .int .i64 s] 32)).mono hbw.size)
    have KX := Lib.hid (((HA.out.later hb).alloc (Obj.cells #[.string c, .int .i64 s] 32)).drew)
    have KE := Lib.hid ((Blk.new w1 32 #[.string c, .int .i64 s]).drew)
    have LS := HLs _ hbx
    have RM := HRM _ hbx
    have HBX := Lib.hid hbx
    have HP := HD _ hbx
    have S1 : ((w1.alloc (.cells #[.string c, .int .i64 s] 32)).drew).cell? ⟨w1.heap.size, 0, none⟩ = some (.string c) ∧ ((w1.alloc (.cells #[.string c, .int .i64 s] 32)).drew).cell? ⟨w1.heap.size, 1, none⟩ = some (.int .i64 s) := ⟨KE.out.cell 0, KE.out.cell 1⟩
    clear hb hbw hbx hby HD HF HLs HRM
    go_wp2_with fail
    go_region_held (fun W => W.cell? ⟨w1.heap.size, 0, none⟩ = some (.string c) ∧ W.cell? ⟨w1.heap.size, 1, none⟩ = some (.int .i64 s)) (first | exact S1 | exact S5 | assumption)
      (first
        | (go_at_call 28; refine HP.out.mono ?_; rintro e w5 ⟨rfl, ha⟩
           have HACT := Lib.hid ha
           have RM5 := Lib.hid (RM.out.act LS.out ha)
           have KE5 := Lib.hid (ha.far.blk KE.out (LS.out.sk.not_ty KE.out fun q => (ty_ne q).2.2.2))
           have KX5 := Lib.hid (ha.far.blk KX.out (LS.out.sk.not_ty KX.out fun q => (ty_ne2 q).2.2))
           have S5 : (w5).cell? ⟨w1.heap.size, 0, none⟩ = some (.string c) ∧ (w5).cell? ⟨w1.heap.size, 1, none⟩ = some (.int .i64 s) := ⟨KE5.out.cell 0, KE5.out.cell 1⟩
           obtain ⟨ra5, rc5, ra5', rc5', rk5, _⟩ := RM5.out.ex
           have hneE : ∀ {c : Array Value}, ¬ Blk w5 r 32 c := fun h => absurd (h.ty rk5) (by decide)
           have hneX : ∀ {c : Array Value}, ¬ Blk w5 r 34 c := fun h => absurd (h.ty rk5) (by decide)
           have HQ := HRD _ RM5.out
           clear ha)
        | (go_at_call 32; refine HQ.out.mono ?_; rintro e w6 ⟨rfl, hr6, hf6⟩
           have S6 : (w6).cell? ⟨w1.heap.size, 0, none⟩ = some (.string c) ∧ (w6).cell? ⟨w1.heap.size, 1, none⟩ = some (.int .i64 s) := ⟨(hf6.blk KE5.out (fun e => hneE (e ▸ KE5.out))).cell 0, (hf6.blk KE5.out (fun e => hneE (e ▸ KE5.out))).cell 1⟩
           have FIN := Lib.hid (DidP.both HBX.out HACT.out RM5.out hr6 hf6)
           clear hr6 hf6))
    all_goals (
      go_wp2_with fail
      go_returns
      exact ⟨by cases bb <;> rfl, FIN.out⟩)
end Go.Proofs.Ytidiaomeahoapaa
/- did: an act, on both: kinds 6, 7. -/
namespace Go.Proofs.Ytidiaomeahoapaa
open Go.RowKit Go.Shelf
attribute [local go_sem] Oper.semAt_some

set_option maxRecDepth 100000 in
set_option maxHeartbeats 16000000 in
theorem did_7 {w : World} {p r : Nat} {L : List Nd} (h : Ls w p L) (hN : L.length ≤ 1000) (hz : Small (L.map er)) (hr : RefM w r (L.map er)) (x : Ac) (hx : x.Fit) (hK : kd x = 7) :
    Calls Try.prog 12 #[.pointer (some ⟨p, 0, none⟩), .pointer (some ⟨r, 0, none⟩), x.val] w fun e w' => e = .returned (.bool true) ∧ DidP w w' p r L (effD x (L.map er)) := by
  have hk := kd_wrap x
  have hk8 := kd_lt x
  have hm := hx.m
  unfold Ac.val effD
  obtain ⟨d, m, s, lv, f, t⟩ := x
  simp only at *
  generalize kd ⟨d, m, s, lv, f, t⟩ = K at *
  have HF := fun w => Lib.hid (few_any m hm s w)
  have hcs := cut12_size m
  generalize cut12 m = c at *
  have HI := fun W (hb : Below w.heap.size w W) => Lib.hid (insert_raw (h.later hb) (by omega) c hcs s lv)
  have HD := fun W (hb : Below w.heap.size w W) => Lib.hid (delete_act (h.later hb) (by omega) c s)
  have HS := fun W (hb : Below w.heap.size w W) => Lib.hid (seek_act (h.later hb) (by omega) c s)
  have HC := fun W (hb : Below w.heap.size w W) => Lib.hid (cut_act (h.later hb) (by omega) f t)
  have HRI := fun W (hr : RefM W r (L.map er)) => Lib.hid (refInsert_raw h.srt hN hz hr c hcs s lv)
  have HRD := fun W (hr : RefM W r (L.map er)) => Lib.hid (refDelete_raw h.srt hN hz hr c hcs s)
  have HRC := fun W (hr : RefM W r (L.map er)) => Lib.hid (refCut_raw hN hr f t)
  have HRS := fun (a : Option Addr) (cap : Nat) W (hE : Ents W a ((L.map er).map e2)) => Lib.hid (refSeek_any a cap ((L.map er).map e2) (by simp; omega) hz.e2 c hcs s W hE)
  simp only [cnt_M h.srt c s] at HRS
  have HLs := fun W (hb : Below w.heap.size w W) => Lib.hid (h.later hb)
  have HRM := fun W (hb : Below w.heap.size w W) => Lib.hid (show RefM W r (L.map er) from RefAt.later hr hb)
  have kA := Blk.new w 34 #[.int .i64 d, .string m, .int .i64 s, .int .i64 lv, .int .i64 f, .int .i64 t]
  have hbA := alloc_below w (Obj.cells #[.int .i64 d, .string m, .int .i64 s, .int .i64 lv, .int .i64 f, .int .i64 t] 34)
  have HA := Lib.hid kA
  have HB := Lib.hid hbA
  have HLN := Lib.hid (show ((L.map er).map e2).length ≤ 1000 by simpa using hN)
  clear hx hm hcs kA hbA h hN hz hr
  generalize L.map er = M at *
  clear hk8
  subst hK
  · simp only [show (7 < 4) = False by simp, show (7 < 6) = False by simp, show (7 = 6) = False by simp, if_false]
    clear HI HRI HD HRD HS HRS HLN
    unfold cutR cutE at *
    generalize (if from0 f < to0 t M.length then (to0 t M.length : Int) - from0 f else 0) = R at *
    generalize (if from0 f < to0 t M.length then cutM M (from0 f) (to0 t M.length) else M) = M2 at *
    replace hk : (IntKind.u64.wrap d).tmod 8 = 7 := hk
    go_enter Try.func12, Try.ntmps12
    go_wp2_with fail
    refine (HF _).out.mono ?_
    rintro e w1 ⟨rfl, hb⟩
    have hz1 := (HA.out.later hb).lt
    obtain ⟨e0, e1, e2, e3, e4, e5⟩ := facts6 (HA.out.later hb)
    have hbw := HB.out.trans (hb.mono HB.out.size)
    have hbx := hbw.trans ((alloc_below w1 (Obj.cells #[.string c, .int .i64 s] 32)).drew.mono hbw.size)
    have hby := hbw.trans ((alloc_below w1 (Obj.cells #[.string c, .int .i64 s] 32)).mono hbw.size)
    have KX := Lib.hid (((HA.out.later hb).alloc (Obj.cells #[.string c, .int .i64 s] 32)).drew)
    have KE := Lib.hid ((Blk.new w1 32 #[.string c, .int .i64 s]).drew)
    have LS := HLs _ hbx
    have RM := HRM _ hbx
    have HBX := Lib.hid hbx
    have HP := HC _ hbx
    have S1 : ((w1.alloc (.cells #[.string c, .int .i64 s] 32)).drew).cell? ⟨w.heap.size, 4, none⟩ = some (.int .i64 f) ∧ ((w1.alloc (.cells #[.string c, .int .i64 s] 32)).drew).cell? ⟨w.heap.size, 5, none⟩ = some (.int .i64 t) := ⟨KX.out.cell 4, KX.out.cell 5⟩
    clear hb hbw hbx hby HC HF HLs HRM
    go_wp2_with fail
    go_region_held (fun W => W.cell? ⟨w.heap.size, 4, none⟩ = some (.int .i64 f) ∧ W.cell? ⟨w.heap.size, 5, none⟩ = some (.int .i64 t)) (first | exact S1 | exact S5 | assumption)
      (first
        | (go_at_call 29; refine HP.out.mono ?_; rintro e w5 ⟨rfl, ha⟩
           have HACT := Lib.hid ha
           have RM5 := Lib.hid (RM.out.act LS.out ha)
           have KE5 := Lib.hid (ha.far.blk KE.out (LS.out.sk.not_ty KE.out fun q => (ty_ne q).2.2.2))
           have KX5 := Lib.hid (ha.far.blk KX.out (LS.out.sk.not_ty KX.out fun q => (ty_ne2 q).2.2))
           have S5 : (w5).cell? ⟨w.heap.size, 4, none⟩ = some (.int .i64 f) ∧ (w5).cell? ⟨w.heap.size, 5, none⟩ = some (.int .i64 t) := ⟨KX5.out.cell 4, KX5.out.cell 5⟩
           obtain ⟨ra5, rc5, ra5', rc5', rk5, _⟩ := RM5.out.ex
           have hneE : ∀ {c : Array Value}, ¬ Blk w5 r 32 c := fun h => absurd (h.ty rk5) (by decide)
           have hneX : ∀ {c : Array Value}, ¬ Blk w5 r 34 c := fun h => absurd (h.ty rk5) (by decide)
           have HQ := HRC _ RM5.out
           clear ha)
        | (go_at_call 34; refine HQ.out.mono ?_; rintro e w6 ⟨rfl, hr6, hf6⟩
           have S6 : (w6).cell? ⟨w.heap.size, 4, none⟩ = some (.int .i64 f) ∧ (w6).cell? ⟨w.heap.size, 5, none⟩ = some (.int .i64 t) := ⟨(hf6.blk KX5.out (fun e => hneX (e ▸ KX5.out))).cell 4, (hf6.blk KX5.out (fun e => hneX (e ▸ KX5.out))).cell 5⟩
           have FIN := Lib.hid (DidP.both HBX.out HACT.out RM5.out hr6 hf6)
           clear hr6 hf6))
    all_goals (
      go_wp2_with fail
      go_returns
      exact ⟨by simp, FIN.out⟩)
end Go.Proofs.Ytidiaomeahoapaa
/- did: an act, on both: kinds 6, 7. -/
namespace Go.Proofs.Ytidiaomeahoapaa
open Go.RowKit Go.Shelf
attribute [local go_sem] Oper.semAt_some

set_option maxRecDepth 100000 in
set_option maxHeartbeats 16000000 in
theorem did_6 {w : World} {p r : Nat} {L : List Nd} (h : Ls w p L) (hN : L.length ≤ 1000) (hz : Small (L.map er)) (hr : RefM w r (L.map er)) (x : Ac) (hx : x.Fit) (hK : kd x = 6) :
    Calls Try.prog 12 #[.pointer (some ⟨p, 0, none⟩), .pointer (some ⟨r, 0, none⟩), x.val] w fun e w' => e = .returned (.bool true) ∧ DidP w w' p r L (effD x (L.map er)) := by
  have hk := kd_wrap x
  have hk8 := kd_lt x
  have hm := hx.m
  unfold Ac.val effD
  obtain ⟨d, m, s, lv, f, t⟩ := x
  simp only at *
  generalize kd ⟨d, m, s, lv, f, t⟩ = K at *
  have HF := fun w => Lib.hid (few_any m hm s w)
  have hcs := cut12_size m
  generalize cut12 m = c at *
  have HI := fun W (hb : Below w.heap.size w W) => Lib.hid (insert_raw (h.later hb) (by omega) c hcs s lv)
  have HD := fun W (hb : Below w.heap.size w W) => Lib.hid (delete_act (h.later hb) (by omega) c s)
  have HS := fun W (hb : Below w.heap.size w W) => Lib.hid (seek_act (h.later hb) (by omega) c s)
  have HC := fun W (hb : Below w.heap.size w W) => Lib.hid (cut_act (h.later hb) (by omega) f t)
  have HRI := fun W (hr : RefM W r (L.map er)) => Lib.hid (refInsert_raw h.srt hN hz hr c hcs s lv)
  have HRD := fun W (hr : RefM W r (L.map er)) => Lib.hid (refDelete_raw h.srt hN hz hr c hcs s)
  have HRC := fun W (hr : RefM W r (L.map er)) => Lib.hid (refCut_raw hN hr f t)
  have HRS := fun (a : Option Addr) (cap : Nat) W (hE : Ents W a ((L.map er).map e2)) => Lib.hid (refSeek_any a cap ((L.map er).map e2) (by simp; omega) hz.e2 c hcs s W hE)
  simp only [cnt_M h.srt c s] at HRS
  have HLs := fun W (hb : Below w.heap.size w W) => Lib.hid (h.later hb)
  have HRM := fun W (hb : Below w.heap.size w W) => Lib.hid (show RefM W r (L.map er) from RefAt.later hr hb)
  have kA := Blk.new w 34 #[.int .i64 d, .string m, .int .i64 s, .int .i64 lv, .int .i64 f, .int .i64 t]
  have hbA := alloc_below w (Obj.cells #[.int .i64 d, .string m, .int .i64 s, .int .i64 lv, .int .i64 f, .int .i64 t] 34)
  have HA := Lib.hid kA
  have HB := Lib.hid hbA
  have HLN := Lib.hid (show ((L.map er).map e2).length ≤ 1000 by simpa using hN)
  clear hx hm hcs kA hbA h hN hz hr
  generalize L.map er = M at *
  clear hk8
  subst hK
  · simp only [show (6 < 4) = False by simp, show (6 < 6) = False by simp, if_true, if_false]
    clear HI HRI HD HRD HC HRC
    generalize hP : posM M c s = R at *
    generalize hasM M c s = bb at *
    clear hP
    replace hk : (IntKind.u64.wrap d).tmod 8 = 6 := hk
    go_enter Try.func12, Try.ntmps12
    go_wp2_with fail
    refine (HF _).out.mono ?_
    rintro e w1 ⟨rfl, hb⟩
    have hz1 := (HA.out.later hb).lt
    obtain ⟨e0, e1, e2, e3, e4, e5⟩ := facts6 (HA.out.later hb)
    have hbw := HB.out.trans (hb.mono HB.out.size)
    have hbx := hbw.trans ((alloc_below w1 (Obj.cells #[.string c, .int .i64 s] 32)).drew.mono hbw.size)
    have hby := hbw.trans ((alloc_below w1 (Obj.cells #[.string c, .int .i64 s] 32)).mono hbw.size)
    have KX := Lib.hid (((HA.out.later hb).alloc (Obj.cells #[.string c, .int .i64 s] 32)).drew)
    have KE := Lib.hid ((Blk.new w1 32 #[.string c, .int .i64 s]).drew)
    have LS := HLs _ hbx
    have RM := HRM _ hbx
    have HBX := Lib.hid hbx
    have HP := HS _ hby
    have KE0 := Lib.hid (Blk.new w1 32 #[.string c, .int .i64 s])
    have LS0 := HLs _ hby
    have RM0 := HRM _ hby
    have HBY := Lib.hid hby
    clear hb hbw hbx hby HS HF HLs HRM KX KE LS RM HBX
    go_wp2_with fail
    refine HP.out.mono ?_
    rintro e w5 ⟨rfl, ha⟩
    have HACT := Lib.hid ha
    have RM5 := Lib.hid (RM0.out.act LS0.out ha)
    have KE5 := Lib.hid (ha.far.blk KE0.out (LS0.out.sk.not_ty KE0.out fun q => (ty_ne q).2.2.2))
    obtain ⟨a, cap, a', cap', kR, hc1, hc2, hfE, hfI⟩ := RM5.out.ex
    obtain ⟨r0, r1, _, _⟩ := facts2 kR
    obtain ⟨g0, g1, _, _⟩ := facts2 KE5.out
    have HQ := HRS a cap w5.drew (hfE.later (drewB w5 1)).ents
    simp only [List.length_map] at r0 HQ
    generalize M.length = nM at r0 HQ
    clear ha HP hfE hfI hc1 hc2 kR HRS e0 e1 e2 e3 e4 e5
    go_wp2_with fail
    have S5 : w5.drew.cell? ⟨r, 0, none⟩ = some (.slice a nM cap) ∧ w5.drew.cell? ⟨w1.heap.size, 0, none⟩ = some (.string c) ∧ w5.drew.cell? ⟨w1.heap.size, 1, none⟩ = some (.int .i64 s) := ⟨r0, g0, g1⟩
    have SK : ∀ w6, Below w5.drew.heap.size w5.drew w6 → w6.cell? ⟨r, 0, none⟩ = some (.slice a nM cap) ∧ w6.cell? ⟨w1.heap.size, 0, none⟩ = some (.string c) ∧ w6.cell? ⟨w1.heap.size, 1, none⟩ = some (.int .i64 s) := fun w6 hb6 =>
      ⟨(hb6.cell (World.block_lt_of_cell? _ _ S5.1)).trans S5.1, (hb6.cell (World.block_lt_of_cell? _ _ S5.2.1)).trans S5.2.1, (hb6.cell (World.block_lt_of_cell? _ _ S5.2.2)).trans S5.2.2⟩
    have SK := Lib.hid SK
    clear r0 r1 g0 g1
    go_region_held (fun W => W.cell? ⟨r, 0, none⟩ = some (.slice a nM cap) ∧ W.cell? ⟨w1.heap.size, 0, none⟩ = some (.string c) ∧ W.cell? ⟨w1.heap.size, 1, none⟩ = some (.int .i64 s)) (first | exact S5 | exact S6)
      ((go_at_call 33; refine HQ.out.mono ?_; rintro e w6 ⟨rfl, hb6⟩; have S6 := SK.out _ hb6))
    all_goals (
      have hb7 := (drewB w5 1).trans hb6
      have FIN := Lib.hid (DidP.both HBY.out HACT.out RM5.out (RefAt.later RM5.out hb7) (Far.of_below hb7))
      clear hb6 hb7 S5 S6 SK
      cases bb <;> (
        go_wp2_with fail
        go_returns
        exact ⟨by simp, FIN.out⟩))
end Go.Proofs.Ytidiaomeahoapaa
