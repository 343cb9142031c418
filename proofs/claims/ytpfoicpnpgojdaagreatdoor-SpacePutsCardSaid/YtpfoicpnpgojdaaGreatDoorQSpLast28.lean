/- Texts of one kind in one: SpLast, ZSame, PkRefIns. -/
import Derived.Test.YtpfoicpnpgojdaaGreatDoorQSpMade27
import Derived.Test.YtpfoicpnpgojdaaGreatDoorQZOps18
import Derived.BigQuiet
import Derived.Test.YtpfoicpnpgojdaaGreatDoorQPkBytes09
import Derived.Deep.RegionLaw
import Derived.Test.YtpfoicpnpgojdaaGreatDoorQDcMem12
import Derived.Deep.DrawnRows
/- A space's calls: Use, Put, Tidy. -/
namespace Go.Proofs.YtpfoicpnpgojdaaGreatDoor
open Go.RowKit Go.Shelf Sk
attribute [local go_sem] Oper.semAt_some

section
variable {w w' w1 w2 : World} {p c sd : Nat} {S : Nat → Prop} {en mn : Int} {L L' : List Th} {t : Th}
/-- A key's use; noughts if it is not there. -/
def useI (I : List It) (k : ByteArray) : Int × Int := match getI I k with
  | none => (0, 0)
  | some x => (x.uc, x.ua)
theorem getI_at (hk : Keys (itl L)) (ht : t ∈ L) : getI (itl L) t.key = some t.toIt := getI_of hk (List.mem_map.2 ⟨t, ht, rfl⟩)
theorem getI_no {k : ByteArray} (h : tmap L k = none) : getI (itl L) k = none := by
  have := getI_tmap L k
  rw [h] at this
  cases hg : getI (itl L) k with
  | none => rfl
  | some x => rw [hg] at this; cases this
set_option maxRecDepth 100000 in
theorem st_Use (h : SpSt w p en mn sd c L S) (k : ByteArray) (hk : k.size ≤ 281474976710656) :
    Calls Tryz.prog 22 #[.pointer (some ⟨p, 0, none⟩), .string k] w fun e w' => e = .returned (.tuple #[.agg #[.int .i64 (useI (itl L) k).1, .int .i64 (useI (itl L) k).2], .bool (tmap L k).isSome]) ∧ SpNow w p en mn sd c S L w' := by
  have hb0 := alloc_below w (.cells #[.int .i64 0, .int .i64 0] 48)
  have HF := Lib.hid (st_find (h.later hb0) k hk)
  have hkeys := h.keys
  have k0 := Blk.new w 48 #[.int .i64 0, .int .i64 0]
  have hno : ¬ S w.heap.size := fun hs => by have := h.lt hs; omega
  have HFIN := Lib.hid (fun w1 (g : SpNow (w.alloc (.cells #[.int .i64 0, .int .i64 0] 48)) p en mn sd c S L w1) (v1 v2 : Value) => show Blk w1 w.heap.size 48 #[.int .i64 0, .int .i64 0] ∧ SpNow w p en mn sd c S L ((w1.setCell ⟨w.heap.size, 0, none⟩ v1).setCell ⟨w.heap.size, 1, none⟩ v2) from by
    obtain ⟨S', g1, g2, g3⟩ := g
    have hn : ¬ S' w.heap.size := fun h => (g2 _ h).elim hno fun h => by simp at h; omega
    have hf : Far (fun j => j = w.heap.size) w1 ((w1.setCell ⟨w.heap.size, 0, none⟩ v1).setCell ⟨w.heap.size, 1, none⟩ v2) := ((Far.refl (fun j => j = w.heap.size) w1).set ⟨w.heap.size, 0, none⟩ _ (.inl rfl)).set ⟨w.heap.size, 1, none⟩ _ (.inl rfl)
    exact ⟨g3.blk k0 hno, S', g1.far hf fun j hj e => by subst e; exact hn hj, fun j hj => (g2 j hj).imp_right (Nat.le_trans hb0.size),
      ((((Far.of_below (S := S) hb0).trans g3 fun j hj => .inl hj).set ⟨w.heap.size, 0, none⟩ v1 (.inr (Nat.le_refl _))).set ⟨w.heap.size, 1, none⟩ v2 (.inr (Nat.le_refl _)))⟩)
  clear h hb0 k0 hno
  cases hm : tmap L k with
  | none =>
    rw [hm] at HF
    have e1 : useI (itl L) k = (0, 0) := by unfold useI; rw [getI_no hm]
    rw [e1]
    clear hm e1 hkeys
    go_enter Tryz.func22, Tryz.ntmps22
    go_wp2_with fail
    refine HF.out.mono ?_
    rintro e w1 ⟨rfl, g⟩
    have hfin := HFIN.out w1 g (.int .i64 0) (.int .i64 0)
    obtain ⟨b0, b1, b2, b3⟩ := facts2 hfin.1
    have HE := Lib.hid hfin.2
    clear g hfin HF HFIN
    go_wp2
    exact bodyPost_ret (v := .tuple #[.agg #[.int .i64 0, .int .i64 0], .bool false]) (by simp [results, Tryz.results22, go_sem, b0, b1]) rfl ⟨rfl, HE.out⟩
  | some a =>
    rw [hm] at HF
    obtain ⟨t, ht, rfl, rfl⟩ := tmap_some hm
    have e1 : useI (itl L) t.key = (t.uc, t.ua) := by unfold useI; rw [getI_at hkeys ht]
    rw [e1]
    clear hm e1 hkeys
    go_enter Tryz.func22, Tryz.ntmps22
    go_wp2_with fail
    refine HF.out.mono ?_
    rintro e w1 ⟨rfl, g⟩
    have hfin := HFIN.out w1 g (.int .i64 t.uc) (.int .i64 t.ua)
    have hq := g.th ht
    have c2 := hq.cell 2
    have c3 := hq.cell 3
    simp [thC] at c2 c3
    obtain ⟨b0, b1, b2, b3⟩ := facts2 hfin.1
    have HE := Lib.hid hfin.2
    clear g hfin hq HF HFIN ht
    go_wp2
    exact bodyPost_ret (v := .tuple #[.agg #[.int .i64 t.uc, .int .i64 t.ua], .bool true]) (by simp [results, Tryz.results22, go_sem, b0, b1]) rfl ⟨rfl, HE.out⟩
/-- Whether a key's set is empty. -/
def emptyI (I : List It) (k : ByteArray) : Bool := match getI I k with
  | none => false
  | some x => x.E.isEmpty
set_option maxRecDepth 100000 in
theorem st_Tidy (h : SpSt w p en mn sd c L S) (k : ByteArray) (hk : k.size ≤ 281474976710656) :
    Calls Tryz.prog 34 #[.pointer (some ⟨p, 0, none⟩), .string k] w fun e w' => e = .returned (.bool (emptyI (itl L) k)) ∧ SpNow w p en mn sd c S (if emptyI (itl L) k then remT L k else L) w' := by
  have HF := Lib.hid (st_find h k hk)
  have HD := Lib.hid (fun W S1 (g : SpSt W p en mn sd c L S1) => st_Delete g k hk)
  have hkeys := h.keys
  clear h
  cases hm : tmap L k with
  | none =>
    rw [hm] at HF
    have e1 : emptyI (itl L) k = false := by unfold emptyI; rw [getI_no hm]
    rw [e1]
    clear hm HD hkeys e1
    go_enter Tryz.func34, Tryz.ntmps34
    go_wp2_with fail
    refine HF.out.mono ?_
    rintro e w1 ⟨rfl, h1⟩
    have H1 := Lib.hid h1
    clear h1 HF
    go_wp2
    go_ret
    exact ⟨rfl, H1.out⟩
  | some a =>
    rw [hm] at HF HD
    obtain ⟨t, ht, rfl, rfl⟩ := tmap_some hm
    have e1 : emptyI (itl L) t.key = t.E.isEmpty := by unfold emptyI; rw [getI_at hkeys ht]
    rw [e1]
    clear hm hkeys e1
    cases hemp : t.E with
    | nil =>
      go_enter Tryz.func34, Tryz.ntmps34
      go_wp2_with fail
      refine HF.out.mono ?_
      rintro e w1 ⟨rfl, S1, g1, g2, g3⟩
      have hq := (g1.th ht).1.cell 0
      simp [thC] at hq
      have HL := Lib.hid (set_len (g1.th ht).2)
      rw [hemp] at HL
      have HD1 := Lib.hid (fun W (hb : Below w1.heap.size w1 W) => HD.out W S1 (g1.later hb))
      have G := Lib.hid (And.intro g2 g3)
      clear g1 g2 g3 HF HD hemp ht
      go_wp2_with fail
      refine HL.out.mono ?_
      rintro e w2 ⟨rfl, hb⟩
      have HD2 := Lib.hid (HD1.out w2 hb)
      have HB := Lib.hid hb
      clear hb HD1 HL
      go_wp2_with fail
      refine HD2.out.mono ?_
      rintro e w3 ⟨rfl, S3, y1, y2, y3⟩
      have HE := Lib.hid (show SpNow w p en mn sd c S (remT L t.key) w3 from ⟨S3, y1, fun j hj => (y2 j hj).elim (fun h => G.out.1 j h) fun h => .inr (Nat.le_trans G.out.2.size (Nat.le_trans HB.out.size h)), (G.out.2.then_below HB.out).trans y3 fun j hj => G.out.1 j hj⟩)
      clear y1 y2 y3 HD2 HB G
      go_wp2
      go_ret
      exact ⟨rfl, HE.out⟩
    | cons x r =>
      go_enter Tryz.func34, Tryz.ntmps34
      go_wp2_with fail
      refine HF.out.mono ?_
      rintro e w1 ⟨rfl, S1, g1, g2, g3⟩
      have hq := (g1.th ht).1.cell 0
      simp [thC] at hq
      have HL := Lib.hid (set_len (g1.th ht).2)
      rw [hemp] at HL
      have G := Lib.hid (show SpNow w p en mn sd c S L w1 from ⟨S1, g1, g2, g3⟩)
      have hne : (((x :: r).length : Int) == 0) = false := by simp; omega
      generalize (x :: r).length = n at *
      clear g1 g2 g3 HF HD hemp ht
      go_wp2_with fail
      refine HL.out.mono ?_
      rintro e w2 ⟨rfl, hb⟩
      have HB := Lib.hid (G.out.later hb)
      clear hb HL
      go_wp2
      go_ret
      exact ⟨rfl, HB.out⟩

/-- What Put leaves. -/
def PutTo (en mn : Int) (L : List Th) (k : ByteArray) (l : List En) (now : Int) (L' : List Th) : Prop :=
  (madeE L k now ≠ 0 ∧ L' = L) ∨ (madeE L k now = 0 ∧ k.size ≤ 64 ∧ ∃ L1 t t', t ∈ L1 ∧ t.key = k ∧ ((t ∈ L ∧ L1 = L) ∨ (tmap L k = none ∧ 0 ≤ now ∧ L.length < 500 ∧ L1 = L ++ [t] ∧ t.toIt = ⟨k, 5, now, false, []⟩)) ∧ t'.q = t.q ∧ t'.toIt = t.toIt.with (filled en mn l).1 (filled en mn l).2 ∧ L' = repT L1 t')
set_option maxRecDepth 100000 in
set_option maxHeartbeats 1000000 in
theorem st_Put (h : SpSt w p en mn sd c L S) (hE : EnvE w) (hS0 : ¬ S 0) (hc : c ≤ 10000) (k : ByteArray) (hk : k.size ≤ 281474976710656) {n0 : Nat} {v : Value} {l : List En} (hl : l.length ≤ 300) (hlc : l.length ≤ c) (hs : ∀ e ∈ l, Pk.scoreOk e.2) (hr : Row w n0 v l) (hrS : ∀ W, Far S w W → Row W n0 v l) (now : Int) (hnow : Lf.I64 now) :
    Calls Tryz.prog 31 #[.pointer (some ⟨p, 0, none⟩), .string k, v, .int .i64 now] w fun e w' => ∃ L', e = .returned (.int .i64 (madeE L k now)) ∧ SpNow w p en mn sd c S L' w' ∧ PutTo en mn L k l now L' := by
  have HF := Lib.hid (st_made h hc k hk now hnow)
  have HEN := Lib.hid (fun L' w' (g : SpNow w p en mn sd c S L' w') => g.env hE hS0)
  have HNB := Lib.hid (fun n W (hW : EnvE W) => number_any n W hW)
  have HRS := Lib.hid hrS
  clear h hE hS0 hrS
  obtain ⟨a, cap, rfl⟩ := hr.form
  clear hr
  by_cases he : madeE L k now = 0
  · rw [he] at HF
    rw [show errV 0 = .nilIface from rfl] at HF
    have HM := Lib.hid he
    rw [he]
    clear he
    go_enter Tryz.func31, Tryz.ntmps31
    go_wp2_with fail
    refine HF.out.mono ?_
    rintro e w1 ⟨a1, L1, rfl, ⟨S1, g1, g2, g3⟩, hm⟩
    rcases hm with ⟨hm, _⟩ | ⟨_, hk64, t, ht, htk, rfl, hor⟩
    · exact absurd HM.out hm
    have HSET := Lib.hid (show Calls Tryz.prog 65 #[.pointer (some ⟨p, 0, none⟩), .slice a l.length cap] w1 fun e w' => ∃ s S, e = .returned (.pointer (some ⟨s, 0, none⟩)) ∧ SetIs w' s S (filled en mn l).1 (clampL en 200) (clampL mn 64) l.length (filled en mn l).2 ∧ (∀ k, S k → w1.heap.size ≤ k) ∧ Below w1.heap.size w1 w' from by
      obtain ⟨d, SD, rv, sh, g, _⟩ := g1
      exact set_any g.blk g.sd hl hs (HRS.out w1 g3))
    have HFIN := Lib.hid (fun w2 s T (hs2 : SetIs w2 s T (filled en mn l).1 (clampL en 200) (clampL mn 64) l.length (filled en mn l).2) (hT : ∀ k, T k → w1.heap.size ≤ k) (hb : Below w1.heap.size w1 w2) =>
      show Blk w2 t.q tyTh (thC t.s t.toIt) ∧ ∃ L', SpNow w p en mn sd c S L' (w2.setCell ⟨t.q, 0, none⟩ (.pointer (some ⟨s, 0, none⟩))) ∧ PutTo en mn L k l now L' from by
        have hq := (g1.th ht).1.later hb
        have hut : Lf.I64U (t.uc, t.ua) := by obtain ⟨d, SD, rv, sh, g, _⟩ := g1; exact g.use t ht
        have hf : Far (fun j => j = t.q) w1 (w2.setCell ⟨t.q, 0, none⟩ (.pointer (some ⟨s, 0, none⟩))) := (Far.of_below (S := fun j => j = t.q) hb).set ⟨t.q, 0, none⟩ _ (.inl rfl)
        have hf2 : Far (fun j => j = t.q) w2 (w2.setCell ⟨t.q, 0, none⟩ (.pointer (some ⟨s, 0, none⟩))) := (Far.refl (fun j => j = t.q) w2).set ⟨t.q, 0, none⟩ _ (.inl rfl)
        obtain ⟨S3, y1, y2, y3⟩ := g1.rep (t' := ⟨t.toIt.with (filled en mn l).1 (filled en mn l).2, t.q, s, T⟩) ht rfl rfl hf (fun j hj => .inl hj) (by
          have := hq.set 0 (.pointer (some ⟨s, 0, none⟩))
          simpa [thC, It.with] using this) ((hs2.far hf2 fun j hj e => by subst e; exact set_no hs2 hq (by decide) hj).more hlc hc) (fun j hj => .inr (hT j hj)) hut
        exact ⟨hq, _, ⟨S3, y1, fun j hj => (y2 j hj).elim (fun h => g2 j h) fun h => .inr (Nat.le_trans g3.size h), g3.trans y3 fun j hj => g2 j hj⟩, .inr ⟨HM.out, hk64, L1, t, ⟨t.toIt.with (filled en mn l).1 (filled en mn l).2, t.q, s, T⟩, ht, htk, hor, rfl, rfl, rfl⟩⟩)
    clear g1 g2 g3 HF HRS ht htk hor hk64 HM
    go_wp2_with fail
    refine HSET.out.mono ?_
    rintro e w2 ⟨s, T, rfl, hs2, hT, hb⟩
    obtain ⟨hq, L', h3, h4⟩ := HFIN.out w2 s T hs2 hT hb
    have c0 := hq.cell 0
    have f0 := hq.free 0
    simp [thC] at c0
    have HB := Lib.hid (HNB.out 0 _ (HEN.out _ _ h3))
    rw [show errV 0 = .nilIface from rfl] at HB
    have H3 := Lib.hid h3
    have H4 := Lib.hid h4
    clear hq h3 h4 hs2 hT hb HSET HFIN HNB HEN
    go_wp2_with fail
    refine HB.out.mono ?_
    rintro e w4 ⟨rfl, hb⟩
    have HB2 := Lib.hid (H3.out.later hb)
    clear hb HB
    go_wp2_with fail
    go_ret
    exact ⟨_, rfl, HB2.out, H4.out⟩
  · rw [errV_no he] at HF
    have HM := Lib.hid he
    have HN1 := Lib.hid (fun W (hW : EnvE W) => number_fault (madeE L k now) W hW)
    clear he
    unfold faultV at HF HN1
    generalize hg : madeE L k now = n at HF HN1 ⊢
    have HG := Lib.hid hg
    clear hg
    go_enter Tryz.func31, Tryz.ntmps31
    go_wp2_with fail
    refine HF.out.mono ?_
    rintro e w1 ⟨a1, L', rfl, h1, hm⟩
    obtain ⟨rfl, rfl⟩ : a1 = none ∧ L' = L := hm.elim (fun h => h.2) fun h => absurd h.1 HM.out
    have hen := HEN.out _ _ h1
    have HB := Lib.hid (HN1.out w1 hen)
    have H1 := Lib.hid h1
    clear h1 HF hen HNB HEN HN1 hm
    go_wp2_with fail
    refine HB.out.mono ?_
    rintro e w2 ⟨rfl, hb⟩
    have HB2 := Lib.hid (H1.out.later hb)
    clear hb HB
    go_wp2_with fail
    go_ret
    exact ⟨L', rfl, HB2.out, .inl ⟨HM.out, rfl⟩⟩
end
end Go.Proofs.YtpfoicpnpgojdaaGreatDoor
/- Two lists of entries that are the same. -/
namespace Go.Proofs.YtpfoicpnpgojdaaGreatDoor
open Go.RowKit Go.Shelf Sk
attribute [local go_sem] Oper.semAt_some

theorem neq_same (m : ByteArray) (s : Int) (W : World) : (binOp .neq 101 (.agg #[.string m, .int .i64 s]) (.agg #[.string m, .int .i64 s])).run Tryz.prog W = .ok (.bool false) W := by simp [go_sem]
set_option maxRecDepth 100000 in
set_option maxHeartbeats 4000000 in
theorem same_rows {n0 n1 : Nat} (v1 v2 : Value) (l : List En) (hl : l.length ≤ 1000000) (w : World) (h1 : Row w n0 v1 l) (h2 : Row w n1 v2 l) : Calls Tryz.prog 23 #[v1, v2] w fun e w' => e = .returned (.bool true) ∧ Below w.heap.size w w' := by
  obtain ⟨a1, c1, rfl⟩ := h1.form
  obtain ⟨a2, c2, rfl⟩ := h2.form
  have H1 := Lib.hid (fun W (hb : Below w.heap.size w W) => h1.later hb)
  have H2 := Lib.hid (fun W (hb : Below w.heap.size w W) => h2.later hb)
  clear h1 h2
  go_enter Tryz.func23, Tryz.ntmps23
  go_wp2
  go_loopw [5] (fun i wr => ∃ (k : Nat), i = .int .i64 k ∧ k ≤ l.length ∧ Below w.heap.size w wr) (fun i _ => l.length - (intOf i).toNat)
  case atStart => exact ⟨0, rfl, by omega, Below.refl _ _⟩
  case round =>
    obtain ⟨k, rfl, hk, hbr⟩ := hrel
    by_cases hlt : k < l.length
    · have hx : l[k]? = some l[k] := List.getElem?_eq_getElem hlt
      generalize l[k] = x at *
      obtain ⟨b1, o1, c1', e1, p1, q1⟩ := row_cells (H1.out wr hbr) hx
      obtain ⟨b2, o2, c2', e2, p2, q2⟩ := row_cells (H2.out wr hbr) hx
      injection e1 with e1 _ f1
      injection e2 with e2 _ f2
      subst e1 f1 e2 f2
      have hk2 : (k : Int) < l.length := by omega
      have hne := neq_same x.1 x.2
      have HBR := Lib.hid hbr
      clear hx hbr H1 H2
      go_wp2_with fail
      go_quiet (fail)
      go_wp2_with fail
      exact ⟨⟨k + 1, by go_num, hlt, HBR.out.trans ((drewB wr _).mono HBR.out.size)⟩, by simp [intOf]; omega⟩
    · obtain rfl : k = l.length := by omega
      go_wp2
      go_returns
      exact ⟨rfl, hbr⟩
end Go.Proofs.YtpfoicpnpgojdaaGreatDoor
/- The reference's Insert and Delete: parts of a list one behind the other. -/
namespace Go.Proofs.YtpfoicpnpgojdaaGreatDoor.Pk
open Go.RowKit Go.Shelf
attribute [local go_sem] Oper.semAt_some

theorem cellsE_nth (xs : List Ent) : ∀ (j : Nat) (u : Value), (cellsE xs)[j]? = some u → ∃ i, ∃ h : i < xs.length, (j = i * 2 ∧ u = .string xs[i].1) ∨ (j = i * 2 + 1 ∧ u = .int .i64 xs[i].2) := by
  induction xs with
  | nil => intro j u h; simp [cellsE] at h
  | cons e xs ih =>
    intro j u h
    rw [show cellsE (e :: xs) = .string e.1 :: .int .i64 e.2 :: cellsE xs from rfl] at h
    match j, h with
    | 0, h => exact ⟨0, by simp, .inl ⟨rfl, by simpa using h.symm⟩⟩
    | 1, h => exact ⟨0, by simp, .inr ⟨rfl, by simpa using h.symm⟩⟩
    | j + 2, h =>
      obtain ⟨i, hi, hx⟩ := ih j u (by simpa using h)
      refine ⟨i + 1, by simp; omega, ?_⟩
      simp only [List.getElem_cons_succ]
      rcases hx with ⟨h1, h2⟩ | ⟨h1, h2⟩
      · exact .inl ⟨by omega, h2⟩
      · exact .inr ⟨by omega, h2⟩
theorem cellsE_one (xs : List Ent) : ∀ u ∈ cellsE xs, u.oneCell' = true := by
  intro u hu
  obtain ⟨e, _, he⟩ := List.mem_flatMap.1 hu
  simp at he
  rcases he with rfl | rfl <;> rfl

theorem app_list {W : World} {n0 : Nat} {r : Value} {l xs : List Ent} {a : Option Addr} (hown : Own35 W n0 r l) (hE : Ents W a xs) (cap : Nat) (hl : l.length ≤ 1000000) (hx : xs.length ≤ 1000000) (hn : n0 ≤ W.heap.size) :
    ∃ v' W', (Builtin.append_ #[55, 55] 55 #[r, .slice a xs.length cap]).run Tryz.prog W = .ok v' W' ∧ Own35 W' n0 v' (l ++ xs) ∧ W.grownBy W' r.ownBlock := by
  obtain ⟨i0, hi0, hz0, hz1, hz2⟩ := info_parts info48
  have hlen : (l ++ xs).length = l.length + xs.length := List.length_append
  cases a with
  | none =>
    have h0 : xs = [] := by
      cases xs with
      | nil => rfl
      | cons e xs => obtain ⟨b, off, h, _⟩ := hE 0 (by simp); cases h
    subst h0
    refine ⟨r, W, ?_, by rw [List.append_nil]; exact hown, World.grownBy.refl W _⟩
    rcases hown.2 with ⟨rfl, hl0⟩ | ⟨g, c, cur, rfl, _, _, hc, _⟩
    · simp [Builtin.append_, run_underlying Tryz.underlying55, sizeOf, typeInfo, hi0, Builtin.lenOf, Builtin.firstCells]
    · simp [Builtin.append_, run_underlying Tryz.underlying55, sizeOf, typeInfo, hi0, Builtin.lenOf, Builtin.firstCells, hc, storeCells]
  | some ad =>
    obtain ⟨v', W', h1, h2, h3, _⟩ := run_append_own (P := Tryz.prog) W n0 55 55 101 i0 _ 2 24 Tryz.underlying55 hi0 hz0 hz1 hz2 rfl (by decide) r _ _ hown ad xs.length cap (cellsE xs) (cellsE_length xs)
      (fun j u hu => by
        obtain ⟨i, hi, hx⟩ := cellsE_nth xs j u hu
        obtain ⟨b, off, h, c0, c1⟩ := hE i hi
        cases h
        rcases hx with ⟨rfl, rfl⟩ | ⟨rfl, rfl⟩
        · rw [Addr.add_lit]; exact c0
        · rw [Addr.add_lit, ← Nat.add_assoc]; exact c1)
      (cellsE_one xs) (by unfold maxLen; omega) (by omega) hn
    refine ⟨v', W', h1, ?_, h3⟩
    unfold Own35
    rw [hlen, cellsE_append]
    exact h2

theorem Ents.take {W : World} {a : Option Addr} {l : List Ent} (h : Ents W a l) (k : Nat) : Ents W a (l.take k) := fun i hi => by
  have h2 : i < l.length := by simp at hi; omega
  simp only [List.getElem_take]
  exact h i h2
theorem Ents.drop {W : World} {a : Option Addr} {l : List Ent} (h : Ents W a l) (k cap : Nat) (hc : l.length ≤ cap) : Ents W (if cap = k then a else a.map (·.add (k * 2))) (l.drop k) := fun i hi => by
  have h2 : k + i < l.length := by simp at hi; omega
  obtain ⟨b, off, rfl, c0, c1⟩ := h (k + i) h2
  rw [if_neg (by omega)]
  refine ⟨b, off + k * 2, by simp [Addr.add_lit], ?_, ?_⟩
  · simp only [List.getElem_drop]
    rw [show off + k * 2 + i * 2 = off + (k + i) * 2 by omega]; exact c0
  · simp only [List.getElem_drop]
    rw [show off + k * 2 + i * 2 + 1 = off + (k + i) * 2 + 1 by omega]; exact c1

theorem step_app_list {ops : Array Oper} {o : Oper} {a : Act} {W : World} {K : Act → World → Prop} {Q : Exit → Act → World → Prop} {E : Prop} (hgd : o.guard = none) (s x : Operand)
    (ho : o.op = Op.call { callee := Callee.builtin Builtin.append, args := #[s, x], argTypes := #[55, 55] }) (hty : o.type = 55)
    {n0 : Nat} {r : Value} {l xs : List Ent} {ad : Option Addr} {m cap : Nat} (hs : a.eval s = r) (hx : a.eval x = .slice ad m cap) (hm : m = xs.length)
    (hown : Own35 W n0 r l) (hE : Ents W ad xs) (hl : l.length ≤ 1000000) (hxl : xs.length ≤ 1000000) (hn : n0 ≤ W.heap.size)
    (h : ∀ v' W', Own35 W' n0 v' (l ++ xs) → W.grownBy W' r.ownBlock → K (a.put o.dst v') W') : if Region.wanted o (yielded ops a.tmps) = true then Oper.wp Tryz.prog o a W K Q else E := by
  subst hm
  obtain ⟨v', W', hrun, h2, h3⟩ := app_list hown hE cap hl hxl hn
  exact Dc.step_append_ran hgd s x 55 55 ho hs hx (by rw [hty]; exact hrun) (h v' W' h2 h3)

theorem wpList_app_list {ops : Array Oper} {rest : List Oper} {o : Oper} {a : Act} {W : World} {Q : Exit → Act → World → Prop} (hgd : o.guard = none) (s x : Operand)
    (ho : o.op = Op.call { callee := Callee.builtin Builtin.append, args := #[s, x], argTypes := #[55, 55] }) (hty : o.type = 55)
    {n0 : Nat} {r : Value} {l xs : List Ent} {ad : Option Addr} {m cap : Nat} (hs : a.eval s = r) (hx : a.eval x = .slice ad m cap) (hm : m = xs.length)
    (hown : Own35 W n0 r l) (hE : Ents W ad xs) (hl : l.length ≤ 1000000) (hxl : xs.length ≤ 1000000) (hn : n0 ≤ W.heap.size)
    (h : ∀ v' W', Own35 W' n0 v' (l ++ xs) → W.grownBy W' r.ownBlock → wpList Tryz.prog ops Q rest (a.put o.dst v') W') : wpList Tryz.prog ops Q (o :: rest) a W := by
  subst hm
  obtain ⟨v', W', hrun, h2, h3⟩ := app_list hown hE cap hl hxl hn
  refine wpList_plain hgd fun K hK => ?_
  unfold Oper.wp
  simp [execOp, ho, resolve, invoke, builtin, hs, hx, hty, hrun, Result.andThen]
  exact hK _ _ (h v' W' h2 h3)

set_option maxRecDepth 100000 in
set_option maxHeartbeats 2000000 in
theorem refDelete_any (a : Option Addr) (cap : Nat) (l : List Ent) (hl : l.length ≤ 1000) (hc : l.length ≤ cap) (k : Nat) (hk : k < l.length) (w : World) (hE : Ents w a l) :
    Calls Tryz.prog 74 #[.slice a l.length cap, .int .i64 k] w fun e w' => ∃ r, e = .returned r ∧ Own35 w' w.heap.size r (l.take k ++ l.drop (k + 1)) ∧ Below w.heap.size w w' := by
  have hk0 : (0 : Int) ≤ k := by omega
  have hk1 : (k : Int) ≤ cap := by omega
  have hk2 : (k : Int) < l.length := by omega
  have hk3 : (k : Int) ≤ 1000 := by omega
  have ho0 : Own35 w w.heap.size (.slice none 0 0) [] := World.ownsRow_nil _ _ _ _
  have HE := Lib.hid hE
  have hd := HE.out.drop (k + 1) cap hc
  have hg1 : IntKind.i64.wrap ((k : Int) + 1) = (k : Int) + 1 := IntWalk.i64_in _ (by omega)
  have ht : (l.take k).length = k := by simp; omega
  have hdl : (l.drop (k + 1)).length = l.length - (k + 1) := List.length_drop
  have HT := Lib.hid ht
  have HD := Lib.hid hd
  have HDL := Lib.hid hdl
  clear ht hd hdl hE
  go_enter Tryz.func74, Tryz.ntmps74
  go_wp2_with (first
    | (at_builtin
       refine wpList_app_list rfl (.tmp 6) (.tmp 9) rfl rfl (n0 := w.heap.size) (r := .slice none 0 0) (l := []) (xs := l.take k) (ad := a) (m := k) rfl rfl HT.out.symm ho0 (HE.out.take k) (by simp) (by rw [HT.out]; omega) (Nat.le_refl _) ?_
       rintro v1 w1 ho1 hg1
       have hb1 : Below w.heap.size w w1 := (Below.refl _ _).grown hg1 (Nat.le_refl _) (by simp [Value.ownBlock])
       have HB1 := Lib.hid hb1
       have HO1 := Lib.hid ho1
       clear hb1 ho1 hg1)
    | (at_builtin
       refine wpList_app_list rfl (.tmp 11) (.tmp 15) rfl rfl (n0 := w.heap.size) (r := v1) (l := [] ++ l.take k) (xs := l.drop (k + 1)) (ad := if cap = k + 1 then a else a.map (fun x => x.add ((k + 1) * 2))) (m := l.length - (k + 1)) rfl rfl HDL.out.symm HO1.out (HD.out.below HB1.out) (by simp; omega) (by rw [HDL.out]; omega) HB1.out.size ?_
       rintro v2 w2 ho2 hg2
       have hb2 : Below w.heap.size w w2 := HB1.out.grown hg2 HB1.out.size (fun k e => (World.ownsRow.lt HO1.out k e).1)
       have HB2 := Lib.hid hb2
       have HO2 := Lib.hid ho2
       clear hb2 ho2 hg2))
  all_goals (
    go_ret
    exact ⟨_, rfl, HO2.out, HB2.out⟩)

theorem box_keep {W w1 : World} {b : Nat} {v u : Value} {t : TypeId} (hk : Blk W b t #[v, u]) (hg : W.grownBy w1 none) : w1.cell? ⟨b, 0, none⟩ = some v ∧ w1.cell? ⟨b, 1, none⟩ = some u ∧ b < w1.heap.size :=
  have hb : Below W.heap.size W w1 := (Below.refl _ _).grown hg (Nat.le_refl _) (fun _ h => nomatch h)
  have hl := hk.later hb
  ⟨hl.cell 0, hl.cell 1, hl.lt⟩
theorem ents_keep {W w1 : World} {x : Ent} {v u : Value} (hg : ((W.alloc (.cells #[v, u] 101)).alloc (.cells #[.string x.1, .int .i64 x.2] 101)).grownBy w1 none) : Ents w1 (some ⟨W.heap.size + 1, 0, none⟩) [x] := by
  have hb : Below ((W.alloc (.cells #[v, u] 101)).alloc (.cells #[.string x.1, .int .i64 x.2] 101)).heap.size ((W.alloc (.cells #[v, u] 101)).alloc (.cells #[.string x.1, .int .i64 x.2] 101)) w1 := (Below.refl _ _).grown hg (Nat.le_refl _) (fun _ h => nomatch h)
  have := (ents_one (W.alloc (.cells #[v, u] 101)) x).below hb
  simpa using this
theorem grown_drew {W w1 : World} {r : Option Nat} (hg : W.drew.grownBy w1 r) : W.grownBy w1 r := ⟨hg.os, hg.tape, hg.output, hg.size, hg.block⟩

set_option maxRecDepth 100000 in
set_option maxHeartbeats 4000000 in
theorem refInsert_any (a : Option Addr) (cap : Nat) (l : List Ent) (hl : l.length ≤ 1000) (hc : l.length ≤ cap) (k : Nat) (hk : k ≤ l.length) (x : Ent) (w : World) (hE : Ents w a l) :
    Calls Tryz.prog 108 #[.slice a l.length cap, .int .i64 k, .agg #[.string x.1, .int .i64 x.2]] w fun e w' => ∃ r, e = .returned r ∧ Own35 w' w.heap.size r (l.take k ++ [x] ++ l.drop k) ∧ Below w.heap.size w w' := by
  have hk0 : (0 : Int) ≤ k := by omega
  have hk1 : (k : Int) ≤ cap := by omega
  have hk2 : (k : Int) ≤ l.length := by omega
  have hk3 : (k : Int) ≤ 1000 := by omega
  have HE := Lib.hid hE
  have ht : (l.take k).length = k := by simp; omega
  have hdl : (l.drop k).length = l.length - k := List.length_drop
  have HT := Lib.hid ht
  have HD := Lib.hid (HE.out.drop k cap hc)
  have HDL := Lib.hid hdl
  clear ht hdl hE
  have hb0 := (Below.refl w.heap.size w).alloc (Nat.le_refl _) (Obj.cells #[Value.string x.1, Value.int IntKind.i64 x.2] 101)
  have B0 := Blk.new w 101 #[Value.string x.1, Value.int IntKind.i64 x.2]
  obtain ⟨f0, f1, f2, f3⟩ := facts2 B0
  have HB0 := Lib.hid hb0
  have HK0 := Lib.hid B0
  have hs0 : w.heap.size ≤ (w.alloc (Obj.cells #[Value.string x.1, Value.int IntKind.i64 x.2] 101)).heap.size := hb0.size
  clear hb0 B0
  go_enter Tryz.func108, Tryz.ntmps108
  go_wp2
  go_region_law (first
    | (refine step_app_list rfl (.tmp 8) (.tmp 11) rfl rfl (n0 := w.heap.size) (r := .slice none 0 0) (l := []) (xs := l.take k) (ad := a) (m := k) (by simp [Act.eval, Act.put]) (by simp [Act.eval, Act.put]; rfl) HT.out.symm (World.ownsRow_nil _ _ _ _) (by first | exact (HE.out.take k).below HB0.out.drew | exact (HE.out.take k).below (HB0.out.alloc HB0.out.size _).drew) (by simp) (by rw [HT.out]; omega) (by first | exact HB0.out.size | exact (HB0.out.alloc HB0.out.size _).size) ?_
       rintro v1 w1 ho1 hg1
       first
         | (obtain ⟨g0, g1, g2⟩ := box_keep HK0.out (grown_drew hg1)
            have HB1 := Lib.hid (HB0.out.grown (grown_drew hg1) HB0.out.size (fun _ h => nomatch h)))
         | (obtain ⟨g0, g1, g2⟩ := box_keep (HK0.out.alloc _) (grown_drew hg1)
            have HX1 := Lib.hid (ents_keep (grown_drew hg1))
            have HB1 := Lib.hid ((HB0.out.alloc HB0.out.size _).grown (grown_drew hg1) (HB0.out.alloc HB0.out.size _).size (fun _ h => nomatch h)))
       have HO1 := Lib.hid ho1
       clear ho1 hg1)
    | (refine step_app_list rfl (.tmp 12) (.tmp 14) rfl rfl (n0 := w.heap.size) (r := v1) (l := [] ++ l.take k) (xs := [x]) (m := 1) (ad := some ⟨w1.heap.size, 0, none⟩) (cap := 1) rfl rfl rfl (World.ownsRow.alloc HO1.out _) (ents_one _ x) (by simp; omega) (by simp) (HB1.out.alloc HB1.out.size _).size ?_
       rintro v2 w2 ho2 hg2
       have HO2 := Lib.hid ho2
       have HB2 := Lib.hid ((HB1.out.alloc HB1.out.size _).grown hg2 (HB1.out.alloc HB1.out.size _).size (fun k e => (World.ownsRow.lt HO1.out k e).1))
       clear ho2 hg2)
    | (refine step_app_list rfl (.tmp 12) (.tmp 14) rfl rfl (n0 := w.heap.size) (r := v1) (l := [] ++ l.take k) (xs := [x]) (m := 1) (ad := some ⟨w.heap.size + 1, 0, none⟩) (cap := 1) rfl rfl rfl HO1.out HX1.out (by simp; omega) (by simp) HB1.out.size ?_
       rintro v2 w2 ho2 hg2
       have HO2 := Lib.hid ho2
       have HB2 := Lib.hid (HB1.out.grown hg2 HB1.out.size (fun k e => (World.ownsRow.lt HO1.out k e).1))
       clear ho2 hg2))
  all_goals (
    go_wp2_with (
      at_builtin
      refine wpList_app_list rfl (.tmp 16) (.tmp 19) rfl rfl (n0 := w.heap.size) (r := v2) (l := [] ++ l.take k ++ [x]) (xs := l.drop k) (ad := if cap = k then a else a.map (fun x => x.add (k * 2))) (m := l.length - k) rfl rfl HDL.out.symm HO2.out (HD.out.below HB2.out) (by simp; omega) (by rw [HDL.out]; omega) HB2.out.size ?_
      rintro v3 w3 ho3 hg3
      have hb3 : Below w.heap.size w w3 := HB2.out.grown hg3 HB2.out.size (fun k e => (World.ownsRow.lt HO2.out k e).1)
      have HB3 := Lib.hid hb3
      have HO3 := Lib.hid ho3
      clear hb3 ho3 hg3)
    all_goals (
      go_ret
      have hfin := HO3.out
      rw [List.nil_append, List.append_assoc] at hfin
      exact ⟨_, rfl, hfin, HB3.out⟩))
end Go.Proofs.YtpfoicpnpgojdaaGreatDoor.Pk
