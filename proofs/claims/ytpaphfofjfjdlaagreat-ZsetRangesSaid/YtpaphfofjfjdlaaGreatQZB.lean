/- Texts of one kind in one: ZPut, ZPCut, ZList. -/
import Derived.Test.YtpaphfofjfjdlaaGreatQZA
import Derived.Deep.RegionHeld
import Derived.Test.YtpaphfofjfjdlaaGreatQDcE
/- A set's entries as a pack: putting in, taking out. -/
namespace Go.Proofs.YtpaphfofjfjdlaaGreat
open Go.RowKit Go.Shelf Sk
attribute [local go_sem] Oper.semAt_some

theorem valid_sub {E E' : List En} (h : ValidE E) (hs : E'.Sublist E) : ValidE E' := ⟨Nat.le_trans hs.length_le h.many, fun e he => h.each e (hs.subset he)⟩
theorem valid_rm {E : List En} (h : ValidE E) (m : ByteArray) : ValidE (rmE E m) := valid_sub h List.filter_sublist
theorem valid_put {E : List En} (h : ValidE E) (m : ByteArray) (s : Int) (hl : E.length < 200) (hm : m.size ≤ 64) (hs : Pk.scoreOk s) : ValidE (putE E m s) :=
  ⟨by rw [putE_len]; omega, fun e he => by
    rcases mem_putE.1 he with rfl | he
    · exact ⟨hm, hs⟩
    · exact h.each e he⟩
/-- A pack's text is written. -/
theorem PackAt.write {W : World} {b : Nat} {E E' : List En} (h : PackAt W b E) (ho : ValidE E') : PackAt (W.setCell ⟨b, 0, none⟩ (.string (Pk.packB E'))) b E' :=
  ⟨h.blk.set 0 _, ho⟩
theorem far_set {S : Nat → Prop} (W : World) (b o : Nat) (v : Value) (hb : S b) : Far S W (W.setCell ⟨b, o, none⟩ v) := (Far.refl S W).set ⟨b, o, none⟩ v (.inl hb)

variable {w : World} {b : Nat} {E : List En}
theorem p_delete (h : PackAt w b E) (hd : Dist E) (m : ByteArray) (s : Int) : Calls Tryz.prog 139 #[.pointer (some ⟨b, 0, none⟩), .agg #[.string m, .int .i64 s]] w fun e w' =>
    e = .returned (.bool (hasE E m)) ∧ PackAt w' b (rmE E m) ∧ Far (fun k => k = b) w w' := by
  have hb0 := alloc_below w (.cells #[.string m, .int .i64 s] 48)
  have hF := fun W => Pk.find_any (Pk.packB E) m (valid_size h.ok) W
  have hD := fun W => Pk.delete_any (Pk.packB E) (valid_size h.ok) (Pk.whereS E m) W
  rw [hasE_wh]
  have hfo := (h.later hb0)
  have hv := valid_rm h.ok m
  rw [Pk.ents_packB h.ok] at hF
  unfold Pk.delR at hD
  rw [Pk.right_packB h.ok, Pk.ents_packB h.ok] at hD
  rw [where_wh] at hF hD
  have kE := Blk.new w 48 #[.string m, .int .i64 s]
  have HP := fun W (hb : Below (w.alloc (.cells #[.string m, .int .i64 s] 48)).heap.size (w.alloc (.cells #[.string m, .int .i64 s] 48)) W) => Lib.hid (hfo.later hb)
  have HSW := Lib.hid (fun W (hb : Below (w.alloc (.cells #[.string m, .int .i64 s] 48)).heap.size (w.alloc (.cells #[.string m, .int .i64 s] 48)) W) =>
    show W.cell? ⟨b, 0, none⟩ = some (.string (Pk.packB E)) ∧ W.cell? ⟨w.heap.size, 0, none⟩ = some (.string m) from ⟨(facts1 (hfo.later hb).blk).1, (facts2 (kE.later hb)).1⟩)
  have HB0 := Lib.hid hb0
  cases hq : whE E m with
  | none =>
    rw [rmE_none (whE_none hq)]
    rw [hq] at hF hD
    simp only [show ((-1 : Int) < 0) = True by simp, true_or, if_true] at hD
    have HF := fun W => Lib.hid (hF W)
    have HD := fun W => Lib.hid (hD W)
    obtain ⟨e0, _⟩ := facts1 hfo.blk
    clear hF hD hfo h hb0 hq hv kE e0
    go_enter Tryz.func139, Tryz.ntmps139
    go_wp2_with fail
    have hb1 := drewB (w.alloc (.cells #[.string m, .int .i64 s] 48)) 1
    have S0 := HSW.out _ hb1
    have HB1 := Lib.hid hb1
    clear hb1
    go_region_held (fun W => W.cell? ⟨b, 0, none⟩ = some (.string (Pk.packB E)) ∧ W.cell? ⟨w.heap.size, 0, none⟩ = some (.string m)) (first | exact S0 | exact S1 | exact S2)
      (first
        | (go_at_call 148; refine (HF _).out.mono ?_; rintro e w1 ⟨rfl, hb⟩
           have HB2 := Lib.hid (HB1.out.trans (hb.mono HB1.out.size))
           have S1 := HSW.out _ HB2.out
           clear hb HF)
        | (go_at_call 147; refine (HD _).out.mono ?_; rintro e w2 ⟨rfl, hb⟩
           have HB3 := Lib.hid (HB2.out.trans (hb.mono HB2.out.size))
           have S2 := HSW.out _ HB3.out
           clear hb HD))
    all_goals (
      go_wp2_with fail
      go_ret
      exact ⟨rfl, (HP _ HB3.out).out, (Far.of_below HB0.out).then_below HB3.out⟩)
  | some i =>
    obtain ⟨s0, hs0⟩ := whE_some hq
    have hi := (List.getElem?_eq_some_iff.1 hs0).1
    rw [hq] at hF hD
    have h9 : ¬ ((i : Int) < 0 ∨ (E.length : Int) ≤ i) := by omega
    have hrm := rmE_at hd hs0
    simp only at hrm
    simp only [if_true, if_neg h9, Int.toNat_natCast, ← hrm] at hD
    have HF := fun W => Lib.hid (hF W)
    have HD := fun W => Lib.hid (hD W)
    have HV := Lib.hid hv
    have hbb := hfo.blk.lt
    clear hF hD hfo h hb0 hq hv kE hs0 hi h9 hrm
    generalize rmE E m = E' at *
    go_enter Tryz.func139, Tryz.ntmps139
    go_wp2_with fail
    have hb1 := drewB (w.alloc (.cells #[.string m, .int .i64 s] 48)) 1
    have S0 := HSW.out _ hb1
    have HB1 := Lib.hid hb1
    clear hb1
    go_region_held (fun W => W.cell? ⟨b, 0, none⟩ = some (.string (Pk.packB E)) ∧ W.cell? ⟨w.heap.size, 0, none⟩ = some (.string m)) (first | exact S0 | exact S1 | exact S2)
      (first
        | (go_at_call 148; refine (HF _).out.mono ?_; rintro e w1 ⟨rfl, hb⟩
           have HB2 := Lib.hid (HB1.out.trans (hb.mono HB1.out.size))
           have S1 := HSW.out _ HB2.out
           clear hb HF)
        | (go_at_call 147; refine (HD _).out.mono ?_; rintro e w2 ⟨rfl, hb⟩
           have HB3 := Lib.hid (HB2.out.trans (hb.mono HB2.out.size))
           have S2 := HSW.out _ HB3.out
           clear hb HD))
    all_goals (
      have HP3 := HP _ HB3.out
      obtain ⟨e0, f0⟩ := facts1 HP3.out.blk
      go_wp2_with fail
      go_ret
      exact ⟨rfl, HP3.out.write HV.out, ((Far.of_below HB0.out).then_below HB3.out).trans (far_set (S := fun k => k = b) _ b 0 _ rfl) (fun k hk => .inl hk)⟩)

set_option maxHeartbeats 400000 in
theorem put_less (m : ByteArray) (s : Int) (q : Nat) (hs : SrtE E) (kq : Blk w q 48 #[.string m, .int .i64 s]) : Ask w 149 #[.pointer (some ⟨q, 0, none⟩)] E (posE E m s) := by
  refine ⟨enters_of Tryz.func149 (by kernel_rfl) rfl, posE_le _ _ _, fun W hb i x hx => ?_⟩
  have hl := posE_spec hs m s i x hx
  have HL := fun W => Lib.hid (less_any x.1 m x.2 s W)
  have hle : Sk.lessE x.1 x.2 m s = decide (i < posE E m s) := hl
  rw [hle] at HL
  obtain ⟨g0, g1, _, _⟩ := facts2 ((kq.later hb).alloc (.cells #[.string x.1, .int .i64 x.2] 48))
  obtain ⟨e0, e1, _, _⟩ := facts2 (Blk.new W 48 #[.string x.1, .int .i64 x.2])
  have HB := Lib.hid (alloc_below W (.cells #[.string x.1, .int .i64 x.2] 48))
  clear hl hle hx hs kq hb
  generalize decide (i < posE E m s) = bb at *
  show Calls Tryz.prog 149 #[.agg #[.string x.1, .int .i64 x.2], .pointer (some ⟨q, 0, none⟩)] W _
  go_enter Tryz.func149, Tryz.ntmps149
  go_wp2_with (go_at_call 96; refine (HL _).out.mono ?_; rintro e w1 ⟨rfl, hb1⟩)
  go_ret
  exact ⟨rfl, HB.out.trans (hb1.mono HB.out.size)⟩

set_option maxHeartbeats 2000000 in
theorem p_put (h : PackAt w b E) (hsE : SrtE E) (hl : E.length < 200) (lv : Int) (v : Value) (m : ByteArray) (hm : m.size ≤ 64) (s : Int) (hs : Pk.scoreOk s) (hr : Row w 0 v [(m, s)]) (hx : ∀ k cur, Blk w k 48 cur → k ≠ b) :
    Calls Tryz.prog 142 #[.pointer (some ⟨b, 0, none⟩), .int .i64 lv, v] w fun e w' => e = .returned (.tuple #[]) ∧ PackAt w' b (putE E m s) ∧ Far (fun k => k = b) w w' := by
  have hcell : ∀ W, Far (fun k => k = b) w W → ∃ q off c, v = .slice (some ⟨q, off, none⟩) 1 c ∧ W.cell? ⟨q, off, none⟩ = some (.string m) ∧ W.cell? ⟨q, off + 1, none⟩ = some (.int .i64 s) := fun W hf => by
    obtain ⟨q, off, c, cur, h1, _, kq, c0, c1⟩ := (hr.far hf (fun k cur _ hk e => hx k cur hk e)).at' 0 (m, s) rfl
    exact ⟨q, off, c, h1, by simpa using c0, by simpa using c1⟩
  obtain ⟨q, off, c, rfl, _, _⟩ := hcell w (Far.refl _ _)
  have HC := fun W hf => Lib.hid (hcell W hf)
  have HS := Lib.hid hsE
  have HH := Lib.hid h
  have HPUT := Lib.hid (valid_put h.ok m s hl hm hs)
  have hins : Pk.insR (Pk.packB E) (posE E m s) (m, s) = (Pk.packB (putE E m s), 0) := by
    unfold Pk.insR
    have h1 : ¬ E.length = 200 := by omega
    have h2 := posE_le E m s
    have h3 : ¬ ((posE E m s : Int) < 0 ∨ (E.length : Int) < (posE E m s : Int) ∨ 64 < m.size) := by omega
    rw [Pk.right_packB h.ok, Pk.ents_packB h.ok, if_pos rfl, if_neg h1, if_neg h3, Int.toNat_natCast]
    unfold putE
    rw [List.append_assoc]
    rfl
  have hple := posE_le E m s
  have HI := fun W => Lib.hid (Pk.insert_any (Pk.packB E) (valid_size h.ok) (posE E m s) (by omega) (m, s) (by simp; omega) W)
  rw [hins] at HI
  simp only at HI
  clear hcell hsE h hins hr hx hs hple
  go_enter Tryz.func142, Tryz.ntmps142
  go_wp2
  go_loopw [11] (fun i wr => ∃ (k : Nat), i = .int .i64 k ∧ k ≤ 1 ∧ PackAt wr b (if k = 0 then E else putE E m s) ∧ Far (fun k => k = b) w wr) (fun i _ => 1 - (intOf i).toNat)
  case atStart => exact ⟨0, rfl, by omega, HH.out, Far.refl _ _⟩
  case round =>
    obtain ⟨k, rfl, hk, hp, hf⟩ := hrel
    by_cases h0 : k = 0
    · subst h0
      rw [if_pos rfl] at hp
      obtain ⟨q', off', c', e1, g0, g1⟩ := (HC wr hf).out
      injection e1 with e1 _ e2
      injection e1 with e1
      injection e1 with e1 e3 _
      subst e1; subst e2; subst e3
      have hb1 := alloc_below wr (.cells #[.string m, .int .i64 s] 48)
      have kE := Blk.new wr 48 #[.string m, .int .i64 s]
      have HL := Lib.hid (p_lead (hp.later hb1) (put_less m s wr.heap.size HS.out kE))
      have HSW := Lib.hid (fun W (hb : Below (wr.alloc (.cells #[.string m, .int .i64 s] 48)).heap.size (wr.alloc (.cells #[.string m, .int .i64 s] 48)) W) =>
        show W.cell? ⟨b, 0, none⟩ = some (.string (Pk.packB E)) ∧ W.cell? ⟨wr.heap.size, 0, none⟩ = some (.string m) ∧ W.cell? ⟨wr.heap.size, 1, none⟩ = some (.int .i64 s) from ⟨(facts1 ((hp.later hb1).later hb).blk).1, (facts2 (kE.later hb)).1, (facts2 (kE.later hb)).2.1⟩)
      have HP := fun W (hb : Below (wr.alloc (.cells #[.string m, .int .i64 s] 48)).heap.size (wr.alloc (.cells #[.string m, .int .i64 s] 48)) W) => Lib.hid ((hp.later hb1).later hb)
      have HF := Lib.hid (hf.then_below hb1)
      clear hp hf hb1 kE hk HC
      go_wp2_with fail
      refine HL.out.mono ?_
      rintro e w1 ⟨rfl, hb⟩
      have HB1 := Lib.hid (show Below (wr.alloc (.cells #[.string m, .int .i64 s] 48)).heap.size (wr.alloc (.cells #[.string m, .int .i64 s] 48)) w1.drew from hb.trans ((drewB w1 1).mono hb.size))
      obtain ⟨a0, S0⟩ := HSW.out w1.drew HB1.out
      clear hb HL g0 g1
      go_wp2_with fail
      obtain ⟨a1, a2⟩ := S0
      go_region_with (first
        | (go_at_call 150; refine (HI _).out.mono ?_; rintro e w2 ⟨rfl, hb⟩
           have HB2 := Lib.hid (HB1.out.trans (hb.mono HB1.out.size))
           have HP2 := HP _ HB2.out
           obtain ⟨g0, g1⟩ := facts1 HP2.out.blk
           clear hb HI a1 a2 a0))
      all_goals (
        go_wp2_with fail
        refine ⟨⟨1, by go_num, by omega, HP2.out.write HPUT.out, (HF.out.then_below HB2.out).trans (far_set (S := fun k => k = b) _ b 0 _ rfl) (fun k hk => .inl hk)⟩, by simp [intOf]⟩)
    · have h1 : k = 1 := by omega
      subst h1
      have HPF := Lib.hid (And.intro hp hf)
      clear hp hf
      go_wp2_with fail
      go_returns
      exact ⟨rfl, HPF.out⟩
end Go.Proofs.YtpaphfofjfjdlaaGreat
/- A set's entries as a pack: cutting out. -/
namespace Go.Proofs.YtpaphfofjfjdlaaGreat
open Go.RowKit Go.Shelf Sk
attribute [local go_sem] Oper.semAt_some

theorem rmAll_snoc (E l : List En) (k : Nat) (x : En) (h : l[k]? = some x) : rmAll E (l.take (k + 1)) = rmE (rmAll E (l.take k)) x.1 := by
  obtain ⟨hk, rfl⟩ := List.getElem?_eq_some_iff.1 h
  unfold rmAll
  rw [List.take_succ_eq_append_getElem hk, List.foldl_append]
  rfl
theorem dist_rmAll {l : List En} : ∀ {E : List En}, Dist E → Dist (rmAll E l) := by
  induction l with
  | nil => intro E h; exact h
  | cons x l ih => intro E h; exact ih (dist_rmE h x.1)
theorem row_cells {W : World} {n0 : Nat} {v : Value} {l : List En} (h : Row W n0 v l) {k : Nat} {x : En} (hx : l[k]? = some x) : ∃ b off c, v = .slice (some ⟨b, off, none⟩) l.length c ∧ W.cell? ⟨b, off + k * 2, none⟩ = some (.string x.1) ∧ W.cell? ⟨b, off + k * 2 + 1, none⟩ = some (.int .i64 x.2) := by
  obtain ⟨b, off, c, cur, h1, _, _, h2, h3⟩ := h.at' k x hx
  exact ⟨b, off, c, h1, h2, h3⟩
variable {w : World} {b : Nat} {E : List En}
set_option maxHeartbeats 1000000 in
theorem p_cut (h : PackAt w b E) (hd : Dist E) (f t : Int) : Calls Tryz.prog 138 #[.pointer (some ⟨b, 0, none⟩), .int .i64 f, .int .i64 t] w fun e w' =>
    e = .returned (.int .i64 (subE E f t).length) ∧ PackAt w' b (cutE E f t) ∧ Far (fun k => k = b) w w' := by
  have HR := Lib.hid (p_range h f t)
  have hN : (subE E f t).length ≤ 200 := by rw [subE_len]; have := h.ok.many; unfold t0; omega
  have HCUT := Lib.hid (rmAll_cut hd f t)
  have HH := Lib.hid h
  have HD := Lib.hid hd
  clear h hd
  generalize subE E f t = l at *
  go_enter Tryz.func138, Tryz.ntmps138
  go_wp2_with fail
  refine HR.out.mono ?_
  rintro e w1 ⟨r, rfl, hr, hb⟩
  obtain ⟨a, c, rfl⟩ := hr.form
  have hp1 := HH.out.later hb
  have HF1 := Lib.hid (show Far (fun k => k = b) w w1 from Far.of_below hb)
  have HP1 := Lib.hid hp1
  have HROW := Lib.hid (fun W (hf : Far (fun k => k = b) w1 W) => hr.far hf (fun k cur _ hk e => by subst e; exact absurd (hk.ty hp1.blk) (by decide)))
  clear hb hp1 hr HR HH
  go_wp2_with fail
  go_loopw [16] (fun i wr => ∃ (k : Nat), i = .int .i64 k ∧ k ≤ l.length ∧ PackAt wr b (rmAll E (l.take k)) ∧ Far (fun k => k = b) w1 wr) (fun i _ => l.length - (intOf i).toNat)
  case atStart => exact ⟨0, rfl, by omega, HP1.out, Far.refl _ _⟩
  case round =>
    obtain ⟨k, rfl, hk, hp, hf⟩ := hrel
    by_cases hlt : k < l.length
    · have hx : l[k]? = some l[k] := List.getElem?_eq_getElem hlt
      generalize l[k] = x at *
      obtain ⟨q, off, c', e1, g0, g1⟩ := row_cells (HROW.out wr hf) hx
      injection e1 with e1 _ e2
      subst e1
      have HSN := Lib.hid (rmAll_snoc E l k x hx)
      have hb1 := alloc_below wr (.cells #[.string x.1, .int .i64 x.2] 48)
      have HDL := Lib.hid (p_delete (hp.later hb1) (dist_rmAll HD.out) x.1 x.2)
      have HF := Lib.hid (hf.then_below hb1)
      have hk2 : (k : Int) < l.length := by omega
      clear hp hf hb1 hx e2
      go_wp2_with fail
      refine HDL.out.mono ?_
      rintro e w2 ⟨rfl, hp2, hf2⟩
      have HP2 := Lib.hid hp2
      have HF2 := Lib.hid (HF.out.trans hf2 (fun k hk => .inl hk))
      clear hp2 hf2 HDL g0 g1
      go_wp2_with fail
      exact ⟨⟨k + 1, by go_num, hlt, HSN.out ▸ HP2.out, HF2.out⟩, by simp [intOf]; omega⟩
    · obtain rfl : k = l.length := by omega
      rw [List.take_length, HCUT.out] at hp
      have HP2 := Lib.hid hp
      have HF2 := Lib.hid (HF1.out.trans hf (fun k hk => .inl hk))
      clear hp hf
      go_wp2_with fail
      go_ret
      exact ⟨rfl, HP2.out, HF2.out⟩
end Go.Proofs.YtpaphfofjfjdlaaGreat
/- A set's entries as a list by levels and a dict. -/
namespace Go.Proofs.YtpaphfofjfjdlaaGreat
open Go.RowKit Go.Shelf Sk
attribute [local go_sem] Oper.semAt_some

theorem toDc {S : Nat → Prop} {W W' : World} (h : Far S W W') : Dc.Far S W W' := ⟨h.os, h.tape, h.output, h.size, h.block⟩
theorem ofDc {S : Nat → Prop} {W W' : World} (h : Dc.Far S W W') : Far S W W' := ⟨h.os, h.tape, h.output, h.size, h.block⟩

def en (x : Nd) : En := (x.m, x.s)
theorem pos_en (L : List Nd) (m : ByteArray) (s : Int) : pos L m s = posE (L.map en) m s := by
  unfold pos posE
  rw [List.takeWhile_map, List.length_map]
  rfl
theorem srt_en {L : List Nd} (h : Srt L) : SrtE (L.map en) := by unfold SrtE; rw [List.pairwise_map]; exact h
theorem has_en {L : List Nd} (hs : Srt L) (m : ByteArray) (s : Int) : has L m s = true ↔ (m, s) ∈ L.map en := by
  constructor
  · intro h
    unfold has at h
    split at h
    · rename_i x hx
      have := of_decide_eq_true h
      exact List.mem_map.2 ⟨x, List.mem_of_getElem? hx, by unfold en; rw [this.1, this.2]⟩
    · cases h
  · intro h
    obtain ⟨i, hi⟩ := List.mem_iff_getElem?.1 h
    have hp := pos_selfE (srt_en hs) hi
    simp only at hp
    rw [List.getElem?_map] at hi
    obtain ⟨x, hx, he⟩ := Option.map_eq_some_iff.1 hi
    unfold has
    rw [pos_en, hp, hx]
    unfold en at he
    injection he with h1 h2
    simp [h1, h2]
theorem put_en (L : List Nd) (x : Nd) : (putL L x).map en = putE (L.map en) x.m x.s := by
  unfold putL putE
  rw [pos_en, List.map_append, List.map_cons, List.map_take, List.map_drop]
  rfl

/-- A list and a dict in memory. -/
structure LAt (W : World) (l p q : Nat) (D : Nat → Prop) (sd : Nat) (L : List Nd) (m : ByteArray → Option Int) (n : Dc.Sh) : Prop where
  blk : Blk W l 120 #[.pointer (some ⟨p, 0, none⟩), .pointer (some ⟨q, 0, none⟩)]
  ls : Ls W p L
  is : Dc.Is W q D sd m n
  sd : sd < 4294967296
variable {w w' : World} {l p q sd : Nat} {D : Nat → Prop} {L : List Nd} {m : ByteArray → Option Int} {n : Dc.Sh}
theorem LAt.d_ty (h : LAt w l p q D sd L m n) {k : Nat} (hk : D k) : ∃ t c, (t = 140 ∨ t = 159 ∨ t = 158) ∧ Blk w k t c := h.is.cells k hk
theorem LAt.d_node (h : LAt w l p q D sd L m n) {k : Nat} (hk : D k) : ¬ isB (hd p :: L) k := by
  obtain ⟨t, c, ht, hb⟩ := h.d_ty hk
  exact h.ls.sk.not_ty hb fun q e => by unfold tyq at e; rcases ht with rfl | rfl | rfl <;> (split at e <;> exact absurd e (by decide))
theorem LAt.d_l (h : LAt w l p q D sd L m n) {k : Nat} (hk : D k) : k ≠ l := by
  obtain ⟨t, c, ht, hb⟩ := h.d_ty hk
  rintro rfl
  have := hb.ty h.blk
  rcases ht with rfl | rfl | rfl <;> exact absurd this (by decide)
theorem LAt.l_node (h : LAt w l p q D sd L m n) : ¬ isB (hd p :: L) l := h.ls.sk.not_ty h.blk fun q e => by unfold tyq at e; split at e <;> exact absurd e (by decide)
/-- All its blocks. -/
def LOwn (l p : Nat) (L : List Nd) (D : Nat → Prop) (k : Nat) : Prop := k = l ∨ isB (hd p :: L) k ∨ D k
theorem LAt.own_lt (h : LAt w l p q D sd L m n) {k : Nat} (hk : LOwn l p L D k) : k < w.heap.size := by
  rcases hk with rfl | hk | hk
  · exact h.blk.lt
  · exact h.ls.sk.lt hk
  · exact h.is.lt k hk
/-- Its blocks are of these types. -/
theorem LAt.own_ty (h : LAt w l p q D sd L m n) {k t : Nat} {c : Array Value} (hk : LOwn l p L D k) (hb : Blk w k t c) (ht : t ≠ 120 ∧ t ≠ 133 ∧ t ≠ 135 ∧ t ≠ 140 ∧ t ≠ 158 ∧ t ≠ 159) : False := by
  rcases hk with rfl | hk | hk
  · exact ht.1 (hb.ty h.blk)
  · exact h.ls.sk.not_ty hb (fun q e => by unfold tyq at e; split at e; exact ht.2.2.1 e.symm; exact ht.2.1 e.symm) hk
  · obtain ⟨t', c', ht', hb'⟩ := h.d_ty hk
    have := hb.ty hb'
    subst this
    rcases ht' with e | e | e
    · exact ht.2.2.2.1 e
    · exact ht.2.2.2.2.2 e
    · exact ht.2.2.2.2.1 e
theorem LAt.far {S : Nat → Prop} (h : LAt w l p q D sd L m n) (hf : Far S w w') (hS : ∀ k, LOwn l p L D k → ¬ S k) : LAt w' l p q D sd L m n :=
  ⟨hf.blk h.blk (hS l (.inl rfl)), h.ls.far hf (fun k hk => hS k (.inr (.inl hk))), h.is.far (toDc hf) (fun k hk => hS k (.inr (.inr hk))), h.sd⟩
theorem LAt.later (h : LAt w l p q D sd L m n) (hb : Below w.heap.size w w') : LAt w' l p q D sd L m n := h.far (S := fun _ => False) (Far.of_below hb) (fun _ _ h => h)

/-- The dict has turned. -/
theorem LAt.dict (h : LAt w l p q D sd L m n) {m2 : ByteArray → Option Int} {n2 : Dc.Sh} (hn : Dc.IsNow D w q sd m2 n2 w') : LAt w' l p q (Dc.grow Dc.tyI D w w') sd L m2 n2 :=
  ⟨(ofDc hn.2).blk h.blk (fun hk => h.d_l hk rfl), h.ls.far (ofDc hn.2) (fun _ hk hd => h.d_node hd hk), hn.1, h.sd⟩
theorem grow_new {W W' : World} {S : Nat → Prop} {k : Nat} (h : Dc.grow Dc.tyI S W W' k) : S k ∨ W.heap.size ≤ k := h.1

theorem entsF_range (p : Nat) (L : List Nd) (a k : Nat) (h : a + k ≤ L.length) : entsF (hd p :: L) (List.range' (a + 1) k) = ((L.map en).drop a).take k := by
  unfold entsF
  apply List.ext_getElem?
  intro i
  rw [List.getElem?_map, List.getElem?_take]
  by_cases hi : i < k
  · rw [if_pos hi, List.getElem?_drop, List.getElem?_map]
    have h1 : (List.range' (a + 1) k)[i]? = some (a + 1 + i) := by
      rw [List.getElem?_eq_getElem (by simpa using hi)]; simp
    have h2 : L[a + i]? = some L[a + i] := List.getElem?_eq_getElem (by omega)
    rw [h1, h2]
    simp only [Option.map_some]
    rw [show a + 1 + i = (a + i) + 1 by omega, List.getElem?_cons_succ, h2]
    rfl
  · rw [if_neg hi, List.getElem?_eq_none (by simpa using hi)]; rfl
theorem l_range (h : Ls w p L) (hN : L.length ≤ 100000) (f t : Int) : Calls Tryz.prog 160 #[.pointer (some ⟨p, 0, none⟩), .int .i64 f, .int .i64 t] w fun e w' => ∃ r, e = .returned r ∧ Row w' w.heap.size r (subE (L.map en) f t) ∧ Below w.heap.size w w' := by
  unfold subE
  rw [List.length_map]
  by_cases hab : f0 f < t0 t L.length
  · have := range_any p L rfl w h.sk (by simp; omega) rfl f t (f0 f) (t0 t L.length) (by unfold f0; omega) (by unfold f0 t0 at *; omega) hab
    have hle : f0 f + (t0 t L.length - f0 f) ≤ L.length := by unfold t0 at *; omega
    rw [entsF_range p L _ _ hle] at this
    exact this.mono fun e w' ⟨r, h1, h2, h3⟩ => ⟨r, h1, own_row h2, h3⟩
  · refine (range_none p L rfl w h.sk f t (by unfold f0 t0 at hab; omega)).mono ?_
    rintro e w' ⟨rfl, hb⟩
    refine ⟨_, rfl, ?_, hb⟩
    rw [show t0 t L.length - f0 f = 0 by omega, List.take_zero]
    exact Row.nil _ _

theorem l_score (h : LAt w l p q D sd L m n) (hn : n.n ≤ 1000000) (key : ByteArray) (hk : key.size ≤ 281474976710656) : Calls Tryz.prog 164 #[.pointer (some ⟨l, 0, none⟩), .string key] w fun e w' =>
    e = .returned (.tuple #[.int .i64 ((m key).getD 0), .bool (m key).isSome]) ∧ Dc.IsNow D w q sd m n.step1 w' := by
  have HG := Lib.hid (Dc.get_is h.sd h.is hn key hk)
  obtain ⟨e0, e1, _, _⟩ := facts2 h.blk
  clear h hk hn
  generalize (m key).getD 0 = x at *
  generalize (m key).isSome = y at *
  go_enter Tryz.func164, Tryz.ntmps164
  go_wp2_with (go_at_call 171; refine HG.out.mono ?_; rintro e w1 ⟨rfl, hd⟩)
  go_ret2
  exact ⟨rfl, hd⟩
theorem map_get {E : List En} (hm : MapOf m E) (key : ByteArray) : match whE E key with
    | none => m key = none
    | some i => ∃ v, m key = some v ∧ E[i]? = some (key, v) := by
  cases h : whE E key with
  | none =>
    cases h2 : m key with
    | none => rfl
    | some v => exact absurd rfl (whE_none h _ ((hm key v).1 h2))
  | some i =>
    obtain ⟨v, hv⟩ := whE_some h
    exact ⟨v, (hm key v).2 (List.mem_of_getElem? hv), hv⟩
theorem l_rank (h : LAt w l p q D sd L m n) (hn : n.n ≤ 1000000) (hN : L.length ≤ 100000) (hm : MapOf m (L.map en)) (key : ByteArray) (hk : key.size ≤ 281474976710656) : Calls Tryz.prog 162 #[.pointer (some ⟨l, 0, none⟩), .string key] w fun e w' =>
    e = .returned (.tuple #[.int .i64 ((whE (L.map en) key).getD 0 : Nat), .bool (whE (L.map en) key).isSome]) ∧ Dc.IsNow D w q sd m n.step1 w' := by
  have HS := Lib.hid (l_score h hn key hk)
  have hmg := map_get hm key
  cases hq : whE (L.map en) key with
  | none =>
    rw [hq] at hmg
    simp only at hmg
    rw [hmg] at HS
    clear h hk hn hN hm hq hmg
    go_enter Tryz.func162, Tryz.ntmps162
    go_wp2_with (go_at_call 164; refine HS.out.mono ?_; rintro e w1 ⟨rfl, hd⟩)
    go_ret2
    exact ⟨rfl, hd⟩
  | some i =>
    rw [hq] at hmg
    obtain ⟨v, hv, hi⟩ := hmg
    rw [hv] at HS
    have hps := pos_selfE (srt_en h.ls.srt) hi
    simp only at hps
    have hhas : has L key v = true := (has_en h.ls.srt key v).2 (List.mem_of_getElem? hi)
    have HK := fun w1 (hd : Dc.IsNow D w q sd m n.step1 w1) => Lib.hid (seek_ls (h.dict hd).ls hN key v)
    rw [pos_en, hps, hhas] at HK
    have HB := fun w1 (hd : Dc.IsNow D w q sd m n.step1 w1) => Lib.hid (facts2 (h.dict hd).blk)
    clear h hk hn hN hm hq hi hv hps hhas
    go_enter Tryz.func162, Tryz.ntmps162
    go_wp2_with fail
    refine HS.out.mono ?_
    rintro e w1 ⟨rfl, hd⟩
    have HK1 := HK w1 hd
    obtain ⟨e0, e1, _, _⟩ := (HB w1 hd).out
    have HD := Lib.hid hd
    clear hd HK HB HS
    go_wp2_with (go_at_call 168; refine HK1.out.mono ?_; rintro e w2 ⟨rfl, hb⟩)
    go_ret2
    exact ⟨by simp, HD.out.later hb⟩
end Go.Proofs.YtpaphfofjfjdlaaGreat
