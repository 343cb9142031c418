/- Texts of one kind in one: ZSet, ZFit, ZFitP. -/
import Derived.Test.YtpaphfofjfjdlaaGreatQZC
import Derived.Deep.RegionHeld
/- A set: what it tells. -/
namespace Go.Proofs.YtpaphfofjfjdlaaGreat
open Go.RowKit Go.Shelf Sk
attribute [local go_sem] Oper.semAt_some

theorem facts4 {W : World} {b : Nat} {t : TypeId} {c0 c1 c2 c3 : Value} (h : Blk W b t #[c0, c1, c2, c3]) : (W.cell? ⟨b, 0, none⟩ = some c0 ∧ W.cell? ⟨b, 1, none⟩ = some c1 ∧ W.cell? ⟨b, 2, none⟩ = some c2 ∧ W.cell? ⟨b, 3, none⟩ = some c3) ∧ W.frozen? ⟨b, 0, none⟩ = false :=
  ⟨⟨h.cell 0, h.cell 1, h.cell 2, h.cell 3⟩, h.free 0⟩
abbrev SetC (form : Value) (le lm : Int) (sd : Nat) : Array Value := #[form, .int .i64 le, .int .i64 lm, .int .u32 sd]
/-- What all sets keep. -/
structure Good (le lm : Int) (c : Nat) (E : List En) : Prop where
  le : 0 ≤ le ∧ le ≤ 200
  lm : 0 ≤ lm ∧ lm ≤ 64
  srt : SrtE E
  dist : Dist E
  each : ∀ e ∈ E, e.1.size ≤ 64 ∧ Pk.scoreOk e.2
  len : E.length ≤ c
  cap : c ≤ 10000
/-- A set that is a pack. -/
structure PSet (W : World) (s b : Nat) (le lm : Int) (sd c : Nat) (E : List En) : Prop where
  blk : Blk W s 79 (SetC (.iface 73 (.pointer (some ⟨b, 0, none⟩))) le lm sd)
  pk : PackAt W b E
  few : (E.length : Int) ≤ le
  good : Good le lm c E
  sd : sd < 4294967296
/-- A set that is a list. -/
structure LSet (W : World) (s l p q : Nat) (D : Nat → Prop) (L : List Nd) (m : ByteArray → Option Int) (n : Dc.Sh) (le lm : Int) (sd c : Nat) (E : List En) : Prop where
  blk : Blk W s 79 (SetC (.iface 106 (.pointer (some ⟨l, 0, none⟩))) le lm sd)
  li : LAt W l p q D sd L m n
  en : L.map en = E
  map : MapOf m E
  n : n.n ≤ c
  good : Good le lm c E

variable {w w' w1 w2 : World} {s b l p q sd c : Nat} {D : Nat → Prop} {L : List Nd} {m : ByteArray → Option Int} {n : Dc.Sh} {le lm : Int} {E : List En}
theorem PSet.later (h : PSet w s b le lm sd c E) (hb : Below w.heap.size w w') : PSet w' s b le lm sd c E := ⟨h.blk.later hb, h.pk.later hb, h.few, h.good, h.sd⟩
theorem LSet.later (h : LSet w s l p q D L m n le lm sd c E) (hb : Below w.heap.size w w') : LSet w' s l p q D L m n le lm sd c E := ⟨h.blk.later hb, h.li.later hb, h.en, h.map, h.n, h.good⟩
theorem LSet.len (h : LSet w s l p q D L m n le lm sd c E) : L.length = E.length := by rw [← h.en, List.length_map]
theorem LSet.lenN (h : LSet w s l p q D L m n le lm sd c E) : L.length ≤ 100000 := by
  have h1 := h.len
  have h2 := h.good.len
  have h3 := h.good.cap
  omega

theorem now_s {v : Value} (hb : Blk w s 79 (SetC v le lm sd)) : Calls Tryz.prog 39 #[.pointer (some ⟨s, 0, none⟩)] w fun e w' => e = .returned v ∧ w' = w := by
  obtain ⟨⟨e0, _⟩, _⟩ := facts4 hb
  clear hb
  go_enter Tryz.func39, Tryz.ntmps39
  go_wp2
  go_ret
  exact ⟨rfl, rfl⟩
theorem ps_len (h : PSet w s b le lm sd c E) : Calls Tryz.prog 14 #[.pointer (some ⟨s, 0, none⟩)] w fun e w' => e = .returned (.int .i64 E.length) ∧ Below w.heap.size w w' := by
  have HN := Lib.hid (now_s h.blk)
  have HL := Lib.hid (p_len h.pk)
  clear h
  go_enter Tryz.func14, Tryz.ntmps14
  go_wp2_with fail
  refine HN.out.mono ?_
  rintro e w1 ⟨rfl, rfl⟩
  go_wp2_with fail
  refine HL.out.mono ?_
  rintro e w1 ⟨rfl, hb⟩
  go_wp2_with fail
  go_ret
  exact ⟨rfl, hb⟩
set_option maxRecDepth 100000 in
theorem ls_len (h : LSet w s l p q D L m n le lm sd c E) : Calls Tryz.prog 14 #[.pointer (some ⟨s, 0, none⟩)] w fun e w' => e = .returned (.int .i64 E.length) ∧ Below w.heap.size w w' := by
  have HN := Lib.hid (now_s h.blk)
  have HL := Lib.hid (len_any p L rfl h.li.ls.sk)
  obtain ⟨e0, e1, _, _⟩ := facts2 h.li.blk
  rw [← h.len]
  have hme := meth_len e0
  clear h e0 e1
  go_enter Tryz.func14, Tryz.ntmps14
  go_wp2_with fail
  refine HN.out.mono ?_
  rintro e w1 ⟨rfl, rfl⟩
  go_wp2_with fail
  refine HL.out.mono ?_
  rintro e w1 ⟨rfl, rfl⟩
  go_wp2_with fail
  go_ret
  exact ⟨rfl, Below.refl _ _⟩
end Go.Proofs.YtpaphfofjfjdlaaGreat
/- A set: its form, whether there is room, what makes a list of it. -/
namespace Go.Proofs.YtpaphfofjfjdlaaGreat
open Go.RowKit Go.Shelf Sk
attribute [local go_sem] Oper.semAt_some

variable {w w' w1 w2 : World} {s b l p q sd c : Nat} {D : Nat → Prop} {L : List Nd} {m : ByteArray → Option Int} {n : Dc.Sh} {le lm : Int} {E : List En}
theorem assert_p (u : Value) (W : World) : (Instr.typeAssert (.iface 73 u) 77 73 true).run Tryz.prog W = .ok (.tuple #[u, .bool true]) W := by kernel_rfl
theorem assert_l (u : Value) (W : World) : (Instr.typeAssert (.iface 106 u) 77 73 true).run Tryz.prog W = .ok (.tuple #[.pointer none, .bool false]) W := by kernel_rfl
theorem small_p (hb : Blk w s 79 (SetC (.iface 73 (.pointer (some ⟨b, 0, none⟩))) le lm sd)) : Calls Tryz.prog 40 #[.pointer (some ⟨s, 0, none⟩)] w fun e w' => e = .returned (.tuple #[.pointer (some ⟨b, 0, none⟩), .bool true]) ∧ w' = w := by
  obtain ⟨⟨e0, _⟩, _⟩ := facts4 hb
  have ha := assert_p
  clear hb
  go_enter Tryz.func40, Tryz.ntmps40
  go_wp2
  go_ret2
  exact ⟨rfl, rfl⟩
theorem small_l (hb : Blk w s 79 (SetC (.iface 106 (.pointer (some ⟨l, 0, none⟩))) le lm sd)) : Calls Tryz.prog 40 #[.pointer (some ⟨s, 0, none⟩)] w fun e w' => e = .returned (.tuple #[.pointer none, .bool false]) ∧ w' = w := by
  obtain ⟨⟨e0, _⟩, _⟩ := facts4 hb
  have ha := assert_l
  clear hb
  go_enter Tryz.func40, Tryz.ntmps40
  go_wp2
  go_ret2
  exact ⟨rfl, rfl⟩
theorem enc_p (hb : Blk w s 79 (SetC (.iface 73 (.pointer (some ⟨b, 0, none⟩))) le lm sd)) : Calls Tryz.prog 18 #[.pointer (some ⟨s, 0, none⟩)] w fun e w' => e = .returned (.string ⟨#[108, 105, 115, 116, 112, 97, 99, 107]⟩) ∧ w' = w := by
  have HS := Lib.hid (small_p hb)
  clear hb
  go_enter Tryz.func18, Tryz.ntmps18
  go_wp2_with (go_at_call 40; refine HS.out.mono ?_; rintro e w1 ⟨rfl, rfl⟩)
  go_ret
  exact ⟨rfl, rfl⟩
theorem enc_l (hb : Blk w s 79 (SetC (.iface 106 (.pointer (some ⟨l, 0, none⟩))) le lm sd)) : Calls Tryz.prog 18 #[.pointer (some ⟨s, 0, none⟩)] w fun e w' => e = .returned (.string ⟨#[115, 107, 105, 112, 108, 105, 115, 116]⟩) ∧ w' = w := by
  have HS := Lib.hid (small_l hb)
  clear hb
  go_enter Tryz.func18, Tryz.ntmps18
  go_wp2_with (go_at_call 40; refine HS.out.mono ?_; rintro e w1 ⟨rfl, rfl⟩)
  go_ret
  exact ⟨rfl, rfl⟩
theorem bytes_p (h : PSet w s b le lm sd c E) : Calls Tryz.prog 20 #[.pointer (some ⟨s, 0, none⟩)] w fun e w' => e = .returned (.int .i64 (Pk.packB E).size) ∧ w' = w := by
  obtain ⟨⟨e0, _⟩, _⟩ := facts4 h.blk
  have HB := Lib.hid (p_bytes h.pk)
  clear h
  go_enter Tryz.func20, Tryz.ntmps20
  go_wp2_with fail
  refine HB.out.mono ?_
  rintro e w1 ⟨rfl, rfl⟩
  go_wp2_with fail
  go_ret
  exact ⟨rfl, rfl⟩
theorem full_p (h : PSet w s b le lm sd c E) (m : ByteArray) : Calls Tryz.prog 49 #[.pointer (some ⟨s, 0, none⟩), .string m] w fun e w' => e = .returned (.bool false) ∧ Below w.heap.size w w' := by
  obtain ⟨⟨e0, _⟩, _⟩ := facts4 h.blk
  have HL := Lib.hid (p_len h.pk)
  have h1 : (E.length : Int) < 400 := by have := h.pk.ok.many; omega
  clear h
  go_enter Tryz.func49, Tryz.ntmps49
  go_wp2_with fail
  refine HL.out.mono ?_
  rintro e w1 ⟨rfl, hb⟩
  go_wp2_with fail
  go_ret
  exact ⟨rfl, hb⟩
set_option maxRecDepth 100000 in
theorem full_l (h : LSet w s l p q D L m n le lm sd c E) (h4 : E.length < 400) (k : ByteArray) : Calls Tryz.prog 49 #[.pointer (some ⟨s, 0, none⟩), .string k] w fun e w' => e = .returned (.bool false) ∧ Below w.heap.size w w' := by
  obtain ⟨⟨e0, _⟩, _⟩ := facts4 h.blk
  have HL := Lib.hid (len_any p L rfl h.li.ls.sk)
  rw [h.len] at HL
  have hme := meth_len (facts2 h.li.blk).1
  have h1 : (E.length : Int) < 400 := by omega
  clear h
  go_enter Tryz.func49, Tryz.ntmps49
  go_wp2_with fail
  refine HL.out.mono ?_
  rintro e w1 ⟨rfl, rfl⟩
  go_wp2_with fail
  go_ret
  exact ⟨rfl, Below.refl _ _⟩
theorem fit_l (hb : Blk w s 79 (SetC (.iface 106 (.pointer (some ⟨l, 0, none⟩))) le lm sd)) (k : ByteArray) : Calls Tryz.prog 50 #[.pointer (some ⟨s, 0, none⟩), .string k] w fun e w' => e = .returned (.tuple #[]) ∧ Below w.heap.size w w' := by
  have HS := Lib.hid (small_l hb)
  clear hb
  go_enter Tryz.func50, Tryz.ntmps50
  go_wp2_with (go_at_call 40; refine HS.out.mono ?_; rintro e w1 ⟨rfl, rfl⟩)
  go_quiet (fail)
  go_wp2_with fail
  go_returns
  exact ⟨rfl, drewB _ _⟩
end Go.Proofs.YtpaphfofjfjdlaaGreat
/- A pack that a new member is too much for becomes a list. -/
namespace Go.Proofs.YtpaphfofjfjdlaaGreat
open Go.RowKit Go.Shelf Sk
attribute [local go_sem] Oper.semAt_some

theorem puts_map {xs : List En} : ∀ {m : ByteArray → Option Int} {E : List En}, MapOf m E → Dist xs → (∀ x ∈ xs, ∀ y ∈ E, y.1 ≠ x.1) → MapOf (putsI m xs) (putAll E xs) := by
  induction xs with
  | nil => intro m E h _ _; exact h
  | cons x xs ih =>
    intro m E h hd hno
    have hd2 := List.pairwise_cons.1 hd
    show MapOf (putsI (putI m x.1 x.2) xs) (putAll (putE E x.1 x.2) xs)
    have h1 := h.put x.1 x.2
    unfold addE at h1
    rw [rmE_none fun y hy => hno x (List.mem_cons_self ..) y hy] at h1
    refine ih h1 hd2.2 fun z hz y hy => ?_
    rcases mem_putE.1 hy with rfl | hy
    · exact hd2.1 z hz
    · exact hno z (List.mem_cons_of_mem _ hz) y hy
theorem tw_all {α : Type} (P : α → Bool) : ∀ l : List α, (∀ y ∈ l, P y = true) → l.takeWhile P = l
  | [], _ => rfl
  | x :: l, h => by rw [List.takeWhile_cons_of_pos (h x (List.mem_cons_self ..)), tw_all P l fun y hy => h y (List.mem_cons_of_mem _ hy)]
theorem putAll_sorted {E : List En} (hs : SrtE E) : ∀ k, k ≤ E.length → putAll [] (E.take k) = E.take k := by
  intro k
  induction k with
  | zero => intro _; simp [putAll]
  | succ k ih =>
    intro hk
    have hx : E[k]? = some E[k] := List.getElem?_eq_getElem (by omega)
    rw [putAll_snoc [] E k _ hx, ih (by omega)]
    have hp : posE (E.take k) E[k].1 E[k].2 = k := by
      unfold posE
      have : ∀ y ∈ E.take k, lessE y.1 y.2 E[k].1 E[k].2 = true := fun y hy => by
        obtain ⟨i, hi⟩ := List.mem_iff_getElem?.1 hy
        have hil := (List.getElem?_eq_some_iff.1 hi).1
        rw [List.length_take] at hil
        rw [List.getElem?_take_of_lt (by omega)] at hi
        obtain ⟨h1, h2⟩ := List.getElem?_eq_some_iff.1 hi
        have := List.pairwise_iff_getElem.1 hs i k h1 (by omega) (by omega)
        rw [h2] at this
        exact this
      rw [tw_all _ _ this, List.length_take]
      omega
    unfold putE
    rw [hp, List.take_take, Nat.min_self, List.drop_of_length_le (by simp; omega), List.take_succ_eq_append_getElem (by omega)]
theorem putAll_self {E : List En} (hs : SrtE E) : putAll [] E = E := by
  have := putAll_sorted hs E.length (Nat.le_refl _)
  rwa [List.take_length] at this
theorem set_other {W : World} {s o o' : Nat} {v u : Value} (h : W.cell? ⟨s, o, none⟩ = some u) (hne : o ≠ o') : (W.setCell ⟨s, o', none⟩ v).cell? ⟨s, o, none⟩ = some u := by
  rw [World.cell?_setCell_other _ _ _ _ (fun e => hne (by injection e with _ e2 _; exact e2.symm))]; exact h

variable {w w' w1 w2 : World} {s b l p q sd c : Nat} {D : Nat → Prop} {L : List Nd} {m : ByteArray → Option Int} {n : Dc.Sh} {le lm : Int} {E : List En}
theorem fit_no (h : PSet w s b le lm sd c E) (k : ByteArray) (h1 : (E.length : Int) < le) (h2 : (k.size : Int) ≤ lm) : Calls Tryz.prog 50 #[.pointer (some ⟨s, 0, none⟩), .string k] w fun e w' => e = .returned (.tuple #[]) ∧ Below w.heap.size w w' := by
  have HS := Lib.hid (small_p h.blk)
  have HL := fun W (hb : Below w.heap.size w W) => Lib.hid (p_len (h.pk.later hb))
  have HSW := Lib.hid (fun W (hb : Below w.heap.size w W) => show W.cell? ⟨s, 1, none⟩ = some (.int .i64 le) ∧ W.cell? ⟨s, 2, none⟩ = some (.int .i64 lm) from ⟨(facts4 (h.blk.later hb)).1.2.1, (facts4 (h.blk.later hb)).1.2.2.1⟩)
  have g1 : decide (le ≤ (E.length : Int)) = false := decide_eq_false (by omega)
  have g2 : decide (lm < (k.size : Int)) = false := decide_eq_false (by omega)
  clear h h1 h2
  go_enter Tryz.func50, Tryz.ntmps50
  go_wp2_with (go_at_call 40; refine HS.out.mono ?_; rintro e w1 ⟨rfl, rfl⟩)
  have HB1 := Lib.hid (drewB w1 1)
  have HL1 := HL w1.drew HB1.out
  have S0 := HSW.out w1.drew HB1.out
  clear HL HS
  go_region_held (fun W => W.cell? ⟨s, 1, none⟩ = some (.int .i64 le) ∧ W.cell? ⟨s, 2, none⟩ = some (.int .i64 lm)) (first | exact S0 | exact S1)
    (first
      | (go_at_call 61; refine HL1.out.mono ?_; rintro e w2 ⟨rfl, hb⟩
         have HB2 := Lib.hid (HB1.out.trans (hb.mono HB1.out.size))
         have S1 := HSW.out _ HB2.out
         clear hb HL1))
  all_goals (
    clear S1
    go_wp2_with fail
    go_returns
    exact ⟨rfl, HB2.out⟩)
set_option maxHeartbeats 2000000 in
theorem fit_yes (h : PSet w s b le lm sd c E) (k : ByteArray) (h1 : le ≤ (E.length : Int) ∨ lm < (k.size : Int)) : Calls Tryz.prog 50 #[.pointer (some ⟨s, 0, none⟩), .string k] w fun e w' => e = .returned (.tuple #[]) ∧
    ∃ l p q D L m n, LSet w' s l p q D L m n le lm sd c E ∧ (∀ k, LOwn l p L D k → w.heap.size ≤ k) ∧ Far (fun k => k = s) w w' := by
  have HS := Lib.hid (small_p h.blk)
  have HL := fun W (hb : Below w.heap.size w W) => Lib.hid (p_len (h.pk.later hb))
  have HE := fun W (hb : Below w.heap.size w W) => Lib.hid (p_entries (h.pk.later hb))
  have HSW := Lib.hid (fun W (hb : Below w.heap.size w W) => show W.cell? ⟨s, 1, none⟩ = some (.int .i64 le) ∧ W.cell? ⟨s, 2, none⟩ = some (.int .i64 lm) from ⟨(facts4 (h.blk.later hb)).1.2.1, (facts4 (h.blk.later hb)).1.2.2.1⟩)
  have HSV := Lib.hid (fun W (hb : Below w.heap.size w W) => show W.cell? ⟨s, 3, none⟩ = some (.int .u32 sd) ∧ W.frozen? ⟨s, 0, none⟩ = false from ⟨(facts4 (h.blk.later hb)).1.2.2.2, (facts4 (h.blk.later hb)).2⟩)
  have HBK := Lib.hid (fun W (hb : Below w.heap.size w W) => h.blk.later hb)
  have hEl := h.good.len
  have hEc := h.good.cap
  have HNEW := fun W v (hr : Row W 0 v E) => Lib.hid (l_new (w := W) (sd := sd) v E h.sd hr h.good.dist (fun x hx => by have := (h.good.each x hx).1; omega) (by omega))
  have HG := Lib.hid h.good
  have HME := Lib.hid (show MapOf (putsI (fun _ => none) E) E by
    have := puts_map (xs := E) (m := fun _ => none) (E := []) (fun k v => by simp) h.good.dist (fun _ _ y hy => by cases hy)
    rwa [putAll_self h.good.srt] at this)
  have HPE := Lib.hid (putAll_self h.good.srt)
  have hsz := h.blk.lt
  have hcase : (decide (le ≤ (E.length : Int)) = true) ∨ (decide (le ≤ (E.length : Int)) = false ∧ decide (lm < (k.size : Int)) = true) := by
    by_cases h3 : le ≤ (E.length : Int)
    · exact .inl (decide_eq_true h3)
    · exact .inr ⟨decide_eq_false h3, decide_eq_true (by omega)⟩
  clear h h1
  go_enter Tryz.func50, Tryz.ntmps50
  go_wp2_with (go_at_call 40; refine HS.out.mono ?_; rintro e w1 ⟨rfl, rfl⟩)
  clear HS hEl hEc
  have q1 := fun y : Ext w1 => (HSW.out y.w y.ok).1
  have q2 := fun y : Ext w1 => (HSW.out y.w y.ok).2
  have HLE := fun y : Ext w1 => HL y.w y.ok
  have hne := Ext.one w1
  clear HSW HL
  rcases hcase with g1 | ⟨g1, g2⟩
  all_goals (
    refine region_ext (w1 := w1) (by kernel_rfl) (by kernel_rfl) (Below.refl _ _) ?_
    repeat go_big_quiet_step ((go_at_call 61; exact Ext.call _ (HLE _).out))
    refine wpQuiet_nil ?_
    rintro _ ⟨y, rfl⟩
    have HB2 := Lib.hid y.ok
    clear q1 q2 HLE hne
    obtain ⟨w2, hok⟩ := y
    (
      go_wp2_with fail
      have HB3 := Lib.hid (HB2.out.trans ((drewB w2 1).mono HB2.out.size))
      have HE1 := HE w2.drew HB3.out
      have S2 := HSV.out w2.drew HB3.out
      go_region_held (fun W => W.cell? ⟨s, 3, none⟩ = some (.int .u32 sd) ∧ W.frozen? ⟨s, 0, none⟩ = false) (first | exact S2 | exact S3 | exact S4 | exact S5)
        (first
          | (go_at_call 63; refine HE1.out.mono ?_; rintro e w3 ⟨r, rfl, ho, hb⟩
             have HB4 := Lib.hid (HB3.out.trans (hb.mono HB3.out.size))
             have S3 := HSV.out _ HB4.out
             have HN1 := HNEW w3 r ((own_row ho).mono (Nat.zero_le _))
             clear hb HE1 ho HNEW)
          | (go_at_call 62; refine HN1.out.mono ?_; rintro e w4 ⟨l, p, q, D, L, m, n, rfl, he4, hm4, h4, hn4, hb, hown⟩
             have HB5 := Lib.hid (HB4.out.trans (hb.mono HB4.out.size))
             have S4 := HSV.out _ HB5.out
             have G0 := (facts4 (HBK.out _ HB5.out)).1.1
             have G1 := S4.2
             have S5 : (w4.setCell ⟨s, 0, none⟩ (.iface 106 (.pointer (some ⟨l, 0, none⟩)))).cell? ⟨s, 3, none⟩ = some (.int .u32 sd) ∧ (w4.setCell ⟨s, 0, none⟩ (.iface 106 (.pointer (some ⟨l, 0, none⟩)))).frozen? ⟨s, 0, none⟩ = false := by
               have hk := (HBK.out _ HB5.out).set 0 (.iface 106 (.pointer (some ⟨l, 0, none⟩)))
               exact ⟨set_other S4.1 (by decide), hk.free 0⟩
             have HFIN := Lib.hid (show ∃ l' p q D L m n, LSet (w4.setCell ⟨s, 0, none⟩ (.iface 106 (.pointer (some ⟨l, 0, none⟩)))) s l' p q D L m n le lm sd c E ∧ (∀ k, LOwn l' p L D k → w1.heap.size ≤ k) ∧ Far (fun k => k = s) w1 (w4.setCell ⟨s, 0, none⟩ (.iface 106 (.pointer (some ⟨l, 0, none⟩)))) from by
               have hk := (HBK.out _ HB5.out).set 0 (.iface 106 (.pointer (some ⟨l, 0, none⟩)))
               have hge : ∀ k, LOwn l p L D k → w1.heap.size ≤ k := fun k hk => Nat.le_trans HB4.out.size (hown k hk)
               have hfs := far_set (S := fun k => k = s) w4 s 0 (.iface 106 (.pointer (some ⟨l, 0, none⟩))) rfl
               exact ⟨l, p, q, D, L, m, n, ⟨hk, h4.far hfs (fun k hk2 e => by have := hge k hk2; omega), he4.trans HPE.out, by rw [hm4]; exact HME.out, Nat.le_trans hn4 HG.out.len, HG.out⟩, hge, (Far.of_below HB5.out).trans hfs (fun k hk => .inl hk)⟩)
             clear he4 hm4 h4 hn4 hb hown HN1))
      all_goals (
        clear S5 G0 G1
        go_wp2_with fail
        go_returns
        exact ⟨rfl, HFIN.out⟩)))
end Go.Proofs.YtpaphfofjfjdlaaGreat
