/- Texts of one kind in one: RefIns, RefDel, RefSpans. -/
import Derived.Test.YtidiaomeahoapaaQ12
import Derived.Deep.RegionLaw
/- The reference's Insert. -/
namespace Go.Proofs.Ytidiaomeahoapaa
open Go.RowKit Go.Shelf
attribute [local go_sem] Oper.semAt_some
set_option linter.unusedSimpArgs false

theorem flat_one (W : World) (x : Ent) : Flat (W.alloc (.cells #[.string x.1, .int .i64 x.2] 32)) (some ⟨W.heap.size, 0, none⟩) (cellsE [x]) := fun j u hj => by
  refine ⟨_, 0, rfl, ?_⟩
  rw [(Blk.new W 32 #[.string x.1, .int .i64 x.2]).cell]
  match j, hj with
  | 0, hj => simpa [cellsE] using hj
  | 1, hj => simpa [cellsE] using hj
  | j + 2, hj => simp [cellsE] at hj
theorem flat_oneI (W : World) (x : Int) : Flat (W.alloc (.cells #[.int .i64 x] 3)) (some ⟨W.heap.size, 0, none⟩) (cellsI [x]) := fun j u hj => by
  refine ⟨_, 0, rfl, ?_⟩
  rw [(Blk.new W 3 #[.int .i64 x]).cell]
  match j, hj with
  | 0, hj => simpa [cellsI] using hj
  | j + 1, hj => simp [cellsI] at hj
theorem grown_drew {W w1 : World} {r : Option Nat} (hg : W.drew.grownBy w1 r) : W.grownBy w1 r := ⟨hg.os, hg.tape, hg.output, hg.size, hg.block⟩
theorem below_none {W w1 : World} {n k : Nat} {b : Nat} {t : TypeId} {c : Array Value} (hk : Blk W b t c) (hg : W.grownBy w1 (Value.slice none n k).ownBlock) : Below W.heap.size W w1 ∧ Blk w1 b t c := by
  have hb : Below W.heap.size W w1 := (Below.refl _ _).grown hg (Nat.le_refl _) (fun _ h => by simp [Value.ownBlock] at h)
  exact ⟨hb, hk.later hb⟩

set_option maxRecDepth 100000 in
set_option maxHeartbeats 8000000 in
theorem refInsert_new (r : Nat) (E : List Ent) (H : List Int) (hl : E.length ≤ 1000) (hH : H.length = E.length) (hz : ∀ z ∈ E, z.1.size ≤ 281474976710656) (m : ByteArray) (hm : m.size ≤ 281474976710656) (s : Int) (lv : Nat) (h0 : 0 < lv) (h32 : lv ≤ 32) (w : World) (hR : RefAt w r E H) (hno : anyE E m s = false) :
    Calls Try.prog 31 #[.pointer (some ⟨r, 0, none⟩), .agg #[.string m, .int .i64 s], .int .i64 lv] w fun e w' => e = .returned (.int .i64 0) ∧
      RefAt w' r (E.take (cntE E m s) ++ (m, s) :: E.drop (cntE E m s)) (H.take (cntE E m s) ++ (lv : Int) :: H.drop (cntE E m s)) ∧ Far (fun k => k = r) w w' := by
  obtain ⟨a, c, a', c', kR, hc, hc', hE, hI⟩ := hR.ex
  have hr := kR.lt
  have hFl : cntE E m s ≤ E.length := by have := cnt_le E E.length m s; rwa [List.take_of_length_le (Nat.le_refl _)] at this
  have HSk := fun W (hb : Below w.heap.size w W) => Lib.hid (refSeek_any a c E (by omega) hz m hm s W ((hE.later hb).ents))
  rw [hno] at HSk
  generalize cntE E m s = F at *
  have KE := fun W (hf : Far (fun k => k = r) w W) => flat_now kR hE (cellsE_ne E a a' _ _ c c') hf
  have KI := fun W (hf : Far (fun k => k = r) w W) => flat_now kR hI (cellsI_ne H a a' _ _ c c') hf
  have HE := fun W (hf : Far (fun k => k = r) w W) => Lib.hid (And.intro ((KE W hf).take (F * 2)) ((KE W hf).drop F 2 c E.length (cellsE_len E) hc))
  have HI := fun W (hf : Far (fun k => k = r) w W) => Lib.hid (And.intro ((KI W hf).take (F * 1)) ((KI W hf).drop F 1 c' H.length (cellsI_len H) hc'))
  simp only [← cellsE_take, ← cellsE_drop, ← cellsI_take, ← cellsI_drop] at HE HI
  simp only [Nat.mul_one] at HI
  have h1 : (0 : Int) ≤ F := by omega
  have h2 : (F : Int) ≤ c := by omega
  have h3 : (F : Int) ≤ c' := by omega
  have h4 : (F : Int) ≤ E.length := by omega
  have h5 : (F : Int) ≤ H.length := by omega
  have h6 : ¬ (lv : Int) < 1 := by omega
  have h7 : ¬ (32 : Int) < lv := by omega
  have L1 := Lib.hid (show (E.take F).length = F by simp; omega)
  have L2 := Lib.hid (show (H.take F).length = F by simp; omega)
  have L3 := Lib.hid (show (E.drop F).length = E.length - F from List.length_drop)
  have L4 := Lib.hid (show (H.drop F).length = H.length - F from List.length_drop)
  have L5 := Lib.hid (And.intro hl hH)
  have hb0 := alloc_below w (Obj.cells #[.string m, .int .i64 s] 32)
  have KB := Blk.new w 32 #[.string m, .int .i64 s]
  obtain ⟨b0, b1, _, _⟩ := facts2 KB
  obtain ⟨c0, c1, f0, f1⟩ := facts2 (kR.later hb0)
  have HB0 := Lib.hid hb0
  have HKB := Lib.hid KB
  have HKR := Lib.hid kR
  clear hE hI KE KI kR hR hl hH hc hc' hz hm hno hFl hb0 KB h0 h32
  go_enter Try.func31, Try.ntmps31
  go_wp2_with fail
  go_region_with ((go_at_call 33; refine (HSk _ (HB0.out.trans ((drewB _ 1).mono HB0.out.size))).out.mono ?_; rintro e w1 ⟨rfl, hb1⟩))
  all_goals (
    have hB1 := (HB0.out.trans ((drewB _ 1).mono HB0.out.size)).trans (hb1.mono (HB0.out.trans ((drewB _ 1).mono HB0.out.size)).size)
    have HB1 := Lib.hid hB1
    have HE1 := Lib.hid ((HKB.out.drew).later hb1)
    have HR1 := Lib.hid (HKR.out.later hB1)
    obtain ⟨p0, p1, _, _⟩ := facts2 HE1.out
    obtain ⟨q0, q1, _, _⟩ := facts2 HR1.out
    clear hb1 hB1 b0 b1 c0 c1 f0 f1 HSk
    go_wp2_with fail
    clear p0 p1 q0 q1
    obtain ⟨p0, p1, _, _⟩ := facts2 HE1.out
    obtain ⟨q0, q1, _, _⟩ := facts2 HR1.out
    obtain ⟨y0, y1, _, _⟩ := facts2 (HR1.out.alloc (Obj.cells #[.string m, .int .i64 s] 32))
    go_region_law (first
      | (refine step_appcellsE rfl (.tmp 27) (.tmp 33) rfl rfl (n0 := w.heap.size) (r := .slice none 0 0) (l := []) (xs := E.take F) (ad := a) (m := F) (by simp [Act.eval, Act.put]) (by simp [Act.eval, Act.put]; rfl) L1.out.symm (World.ownsRow_nil _ _ _ _) (by first | exact (HE _ (Far.of_below HB1.out.drew)).out.1 | exact (HE _ (Far.of_below (HB1.out.alloc HB1.out.size _).drew)).out.1) (by simp) (by rw [L1.out]; have := L5.out; omega) (by first | exact HB1.out.size | exact (HB1.out.alloc HB1.out.size _).size) ?_
         rintro v1 w2 ho1 hg1
         first
           | (obtain ⟨hbx, HE2⟩ := below_none HE1.out (grown_drew hg1)
              have HB2 := Lib.hid (HB1.out.trans (hbx.mono HB1.out.size)))
           | (obtain ⟨hbx, HE2⟩ := below_none (HE1.out.alloc _) (grown_drew hg1)
              have HX2 := Lib.hid ((flat_one w1 (m, s)).later hbx)
              have HB2 := Lib.hid ((HB1.out.alloc HB1.out.size _).trans (hbx.mono (HB1.out.alloc HB1.out.size _).size)))
         obtain ⟨g0, g1, _, _⟩ := facts2 HE2
         have HO1 := Lib.hid ho1
         clear ho1 hg1 hbx)
      | (refine step_appcellsE rfl (.tmp 34) (.tmp 36) rfl rfl (n0 := w.heap.size) (r := v1) (l := [] ++ E.take F) (xs := [(m, s)]) (m := 1) (ad := some ⟨w2.heap.size, 0, none⟩) (cap := 1) rfl rfl rfl (World.ownsRow.alloc HO1.out _) (flat_one _ (m, s)) (by have hx := L1.out; have := L5.out; simp only [List.nil_append, List.length_append, List.length_cons, List.length_nil, hx]; omega) (by simp) (HB2.out.alloc HB2.out.size _).size ?_
         rintro v2 w3 ho2 hg2
         have HO2 := Lib.hid ho2
         have HB3 := Lib.hid ((HB2.out.alloc HB2.out.size _).grown hg2 (HB2.out.alloc HB2.out.size _).size (own_block HO1.out))
         clear ho2 hg2)
      | (refine step_appcellsE rfl (.tmp 34) (.tmp 36) rfl rfl (n0 := w.heap.size) (r := v1) (l := [] ++ E.take F) (xs := [(m, s)]) (m := 1) (ad := some ⟨w1.heap.size, 0, none⟩) (cap := 1) rfl rfl rfl HO1.out HX2.out (by have hx := L1.out; have := L5.out; simp only [List.nil_append, List.length_append, List.length_cons, List.length_nil, hx]; omega) (by simp) HB2.out.size ?_
         rintro v2 w3 ho2 hg2
         have HO2 := Lib.hid ho2
         have HB3 := Lib.hid (HB2.out.grown hg2 HB2.out.size (own_block HO1.out))
         clear ho2 hg2)))
  all_goals (
    have FA3 := Lib.hid (Far.of_below (S := fun k => k = r) HB3.out)
    have KA3 := Lib.hid (HKR.out.later HB3.out)
    obtain ⟨i0, i1, i2, i3⟩ := facts2 KA3.out
    clear p0 p1 q0 q1 y0 y1
    go_wp2_with (first
      | (at_builtin
         refine wpList_appcellsI rfl (.tmp 38) (.tmp 44) rfl rfl (n0 := w.heap.size) (r := .slice none 0 0) (l := []) (xs := H.take F) (ad := a') (m := F) rfl rfl L2.out.symm (World.ownsRow_nil _ _ _ _) (HI w3 FA3.out).out.1 (by simp) (by rw [L2.out]; have := L5.out; omega) FA3.out.size ?_
         rintro v3 w4 ho3 hg3
         have FA4 := Lib.hid (far_grown FA3.out hg3 (fun _ h => by simp [Value.ownBlock] at h))
         have KA4 := Lib.hid (blk_grown (n0 := w.heap.size) KA3.out hg3 (fun _ h => by simp [Value.ownBlock] at h) hr)
         have O2' := Lib.hid (own_kept2 HO2.out (World.ownsRow_nil w3 w.heap.size 3 1) (by decide) hg3)
         have O3 := Lib.hid ho3
         clear ho3 hg3 i0 i1 i2 i3)
      | (at_builtin
         refine wpList_appcellsI rfl (.tmp 45) (.tmp 47) rfl rfl (n0 := w.heap.size) (r := v3) (l := [] ++ H.take F) (xs := [(lv : Int)]) (ad := some ⟨w4.heap.size, 0, none⟩) (m := 1) (cap := 1) rfl rfl rfl (World.ownsRow.alloc O3.out _) (flat_oneI _ _) (by have hx := L2.out; have := L5.out; simp only [List.nil_append, List.length_append, List.length_cons, List.length_nil, hx]; omega) (by simp) (FA4.out.then_below (alloc_below w4 _)).size ?_
         rintro v4 w5 ho4 hg4
         have FA5 := Lib.hid (far_grown (FA4.out.then_below (alloc_below w4 _)) hg4 (own_block O3.out))
         have KA5 := Lib.hid (blk_grown (n0 := w.heap.size) (KA4.out.alloc _) hg4 (own_block O3.out) hr)
         obtain ⟨d0, d1, _, _⟩ := facts2 KA5.out
         have O2'' := Lib.hid (own_kept2 (World.ownsRow.alloc O2'.out _) (World.ownsRow.alloc O3.out _) (by decide) hg4)
         have O4 := Lib.hid ho4
         clear ho4 hg4)
      | (at_builtin
         refine wpList_appcellsE rfl (.tmp 50) (.tmp 56) rfl rfl (n0 := w.heap.size) (r := v2) (l := [] ++ E.take F ++ [(m, s)]) (xs := E.drop F) (ad := if c = F then a else a.map (fun x => x.add (F * 2))) (m := E.length - F) rfl rfl L3.out.symm O2''.out (HE w5 FA5.out).out.2 (by have hx := L1.out; have := L5.out; simp only [List.nil_append, List.length_append, List.length_cons, List.length_nil, hx]; omega) (by rw [L3.out]; have := L5.out; omega) FA5.out.size ?_
         rintro v5 w6 ho5 hg5
         obtain ⟨x5, n5, y5, rfl, N5⟩ := ho5.flat'
         have FA6 := Lib.hid ((far_grown FA5.out hg5 (own_block O2''.out)).set ⟨r, 0, none⟩ (.slice x5 n5 y5) (.inl rfl))
         have KA6' := Lib.hid (blk_grown (n0 := w.heap.size) KA5.out hg5 (own_block O2''.out) hr)
         obtain ⟨g0', g1', g2', g3'⟩ := facts2 KA6'.out
         have KA6 := Lib.hid (KA6'.out.set 0 (.slice x5 n5 y5))
         obtain ⟨i0, i1, i2, i3⟩ := facts2 KA6.out
         have O4' := Lib.hid (own_set (own_kept2 O4.out O2''.out (by decide) hg5) r 0 (.slice x5 n5 y5) hr)
         have O5 := Lib.hid (own_set ho5 r 0 (.slice x5 n5 y5) hr)
         clear ho5 hg5 d0 d1)
      | (at_builtin
         refine wpList_appcellsI rfl (.tmp 61) (.tmp 67) rfl rfl (n0 := w.heap.size) (r := v4) (l := [] ++ H.take F ++ [(lv : Int)]) (xs := H.drop F) (ad := if c' = F then a' else a'.map (fun x => x.add F)) (m := H.length - F) rfl rfl L4.out.symm O4'.out (HI _ FA6.out).out.2 (by have hx := L2.out; have := L5.out; simp only [List.nil_append, List.length_append, List.length_cons, List.length_nil, hx]; omega) (by rw [L4.out]; have := L5.out; omega) FA6.out.size ?_
         rintro v6 w7 ho6 hg6
         obtain ⟨x6, n6, y6, rfl, N6⟩ := ho6.flat'
         have FA7 := Lib.hid ((far_grown FA6.out hg6 (own_block O4'.out)).set ⟨r, 1, none⟩ (.slice x6 n6 y6) (.inl rfl))
         have KA7' := Lib.hid (blk_grown (n0 := w.heap.size) KA6.out hg6 (own_block O4'.out) hr)
         obtain ⟨j0, j1, j2, j3⟩ := facts2 KA7'.out
         have KA7 := Lib.hid (KA7'.out.set 1 (.slice x6 n6 y6))
         have O5' := Lib.hid (own_set (own_kept2 O5.out O4'.out (by decide) hg6) r 1 (.slice x6 n6 y6) hr)
         have O6 := Lib.hid (own_set ho6 r 1 (.slice x6 n6 y6) hr)
         clear ho6 hg6))
    all_goals (
      go_ret
      refine ⟨rfl, ?_, FA7.out⟩
      have q3 := O5'.out
      have q4 := O6.out
      rw [List.nil_append, List.append_assoc] at q3 q4
      exact RefAt.mk' KA7.out q3 q4))
end Go.Proofs.Ytidiaomeahoapaa
/- The reference's Delete, Levels, Range, Ints. -/
namespace Go.Proofs.Ytidiaomeahoapaa
open Go.RowKit Go.Shelf
attribute [local go_sem] Oper.semAt_some

theorem cnt_lt {E : List Ent} {m : ByteArray} {s : Int} (h : anyE E m s = true) : cntE E m s < E.length := by
  unfold anyE at h
  obtain ⟨z, hz, he⟩ := List.any_eq_true.1 h
  have he' : z.1 = m ∧ z.2 = s := of_decide_eq_true he
  unfold cntE
  rw [List.length_filter_lt_length_iff_exists]
  refine ⟨z, hz, ?_⟩
  rw [he'.1, he'.2, less_irr]
  decide

set_option maxRecDepth 100000 in
set_option maxHeartbeats 4000000 in
theorem refDelete_any (r : Nat) (E : List Ent) (H : List Int) (hl : E.length ≤ 1000) (hH : H.length = E.length) (hz : ∀ z ∈ E, z.1.size ≤ 281474976710656) (m : ByteArray) (hm : m.size ≤ 281474976710656) (s : Int) (w : World) (hR : RefAt w r E H) :
    Calls Try.prog 32 #[.pointer (some ⟨r, 0, none⟩), .agg #[.string m, .int .i64 s]] w fun e w' => e = .returned (.bool (anyE E m s)) ∧
      (anyE E m s = false → RefAt w' r E H) ∧ (anyE E m s = true → RefAt w' r (E.take (cntE E m s) ++ E.drop (cntE E m s + 1)) (H.take (cntE E m s) ++ H.drop (cntE E m s + 1))) ∧ Far (fun k => k = r) w w' := by
  obtain ⟨a, c, a', c', kR, hc, hc', hE, hI⟩ := hR.ex
  have HSk := fun W (hb : Below w.heap.size w W) => Lib.hid (refSeek_any a c E (by omega) hz m hm s W ((hE.later hb).ents))
  have HCut := fun W (hb : Below w.heap.size w W) (f t : Int) => Lib.hid (refCut_any r E H hl hH f t W (hR.later hb))
  have hlt := fun h => cnt_lt (E := E) (m := m) (s := s) h
  have hfr : anyE E m s = true → frN (cntE E m s) E.length = cntE E m s ∧ toN (cntE E m s) ((cntE E m s : Int) + 1) E.length = cntE E m s + 1 := fun h => by
    have := hlt h
    unfold toN frN
    omega
  have hle : cntE E m s ≤ E.length := by have := cnt_le E E.length m s; rwa [List.take_of_length_le (Nat.le_refl _)] at this
  have HFR := Lib.hid hfr
  have hb0 := alloc_below w (Obj.cells #[.string m, .int .i64 s] 32)
  have KB := Blk.new w 32 #[.string m, .int .i64 s]
  obtain ⟨b0, b1, _, _⟩ := facts2 KB
  obtain ⟨c0, c1, f0, f1⟩ := facts2 (kR.later hb0)
  have HB0 := Lib.hid hb0
  have HR := Lib.hid hR
  have hw : IntKind.i64.wrap ((cntE E m s : Int) + 1) = (cntE E m s : Int) + 1 := IntWalk.i64_in _ (by omega)
  clear hE hI kR hR hl hH hc hc' hz hm hb0 KB hlt hfr hle
  generalize cntE E m s = F at *
  generalize hbb : anyE E m s = bb at *
  clear hbb
  go_enter Try.func32, Try.ntmps32
  go_wp2_with fail
  go_region_with ((go_at_call 33; refine (HSk _ (HB0.out.trans ((drewB _ 1).mono HB0.out.size))).out.mono ?_; rintro e w1 ⟨rfl, hb1⟩))
  all_goals (
    have hB1 := (HB0.out.trans ((drewB _ 1).mono HB0.out.size)).trans (hb1.mono (HB0.out.trans ((drewB _ 1).mono HB0.out.size)).size)
    have HB1 := Lib.hid hB1
    have HC := HCut _ hB1 F ((F : Int) + 1)
    clear hb1 hB1 b0 b1 c0 c1 f0 f1 HSk HCut
    cases bb with
    | false =>
      go_wp2_with fail
      go_ret
      exact ⟨rfl, HR.out.later HB1.out, Far.of_below HB1.out⟩
    | true =>
      obtain ⟨hf1, hf2⟩ := HFR.out rfl
      rw [hf1, hf2] at HC
      have HC2 := Lib.hid HC.out
      clear hf1 hf2 HC
      go_wp2_with fail
      refine HC2.out.mono ?_
      rintro e w2 ⟨rfl, hr2, hf2⟩
      have HR2 := Lib.hid hr2
      have HF2 := Lib.hid ((Far.of_below HB1.out).trans hf2 (fun k hk => .inl hk))
      clear hr2 hf2 HC2
      go_wp2_with fail
      go_ret
      exact ⟨rfl, HR2.out, HF2.out⟩)

/-- The greatest of numbers, and 0. -/
def maxI (H : List Int) : Int := H.foldl max 0
theorem maxI_snoc (H : List Int) (k : Nat) (x : Int) (h : H[k]? = some x) : maxI (H.take (k + 1)) = max (maxI (H.take k)) x := by
  obtain ⟨hi, rfl⟩ := List.getElem?_eq_some_iff.1 h
  unfold maxI
  rw [List.take_succ_eq_append_getElem hi, List.foldl_append]
  rfl
theorem flat_int {W : World} {a : Option Addr} {l : List Int} (h : Flat W a (cellsI l)) {i : Nat} {n : Int} (hi : l[i]? = some n) : ∃ b off, a = some ⟨b, off, none⟩ ∧ W.cell? ⟨b, off + i, none⟩ = some (.int .i64 n) :=
  h i _ (by unfold cellsI; rw [List.getElem?_map, hi]; rfl)

set_option maxRecDepth 100000 in
set_option maxHeartbeats 4000000 in
theorem refLevels_any (r : Nat) (E : List Ent) (H : List Int) (hl : H.length ≤ 1000) (w : World) (hR : RefAt w r E H) :
    Calls Try.prog 16 #[.pointer (some ⟨r, 0, none⟩)] w fun e w' => e = .returned (.int .i64 (maxI H)) ∧ w' = w := by
  obtain ⟨a, c, a', c', kR, hc, hc', hE, hI⟩ := hR.ex
  obtain ⟨c0, c1, _, _⟩ := facts2 kR
  have HI := Lib.hid hI
  clear hE hI kR hR hc hc'
  go_enter Try.func16, Try.ntmps16
  go_wp2_with fail
  go_loopw [3, 4] (fun n i wr => ∃ (k : Nat), i = .int .i64 k ∧ n = .int .i64 (maxI (H.take k)) ∧ k ≤ H.length ∧ wr = w) (fun _ i _ => H.length - (intOf i).toNat)
  case atStart => exact ⟨0, rfl, rfl, by omega, rfl⟩
  case round =>
    obtain ⟨k, rfl, rfl, hk, rfl⟩ := hrel
    by_cases hlt : k < H.length
    · have hx : H[k]? = some H[k] := List.getElem?_eq_getElem hlt
      obtain ⟨b, off, rfl, p0⟩ := flat_int HI.out hx
      have HS := Lib.hid (maxI_snoc H k _ hx)
      generalize H[k] = x at *
      generalize maxI (H.take k) = M at *
      have hk2 : (k : Int) < H.length := by omega
      clear hx HI
      go_wp2_with fail
      exact ⟨⟨k + 1, by go_num, by rw [HS.out], hlt, trivial⟩, by simp [intOf]; omega⟩
    · obtain rfl : k = H.length := by omega
      rw [List.take_of_length_le (Nat.le_refl _)] at *
      go_wp2_with fail
      go_returns
      exact ⟨rfl, rfl⟩

set_option maxRecDepth 100000 in
set_option maxHeartbeats 4000000 in
theorem refInts_any (a1 a2 : Option Addr) (c1 c2 : Nat) (l : List Int) (hl : l.length ≤ 1000000) (w : World) (h1 : Flat w a1 (cellsI l)) (h2 : Flat w a2 (cellsI l)) :
    Calls Try.prog 20 #[.slice a1 l.length c1, .slice a2 l.length c2] w fun e w' => e = .returned (.bool true) ∧ Below w.heap.size w w' := by
  have H1 := Lib.hid h1
  have H2 := Lib.hid h2
  clear h1 h2
  go_enter Try.func20, Try.ntmps20
  go_wp2_with fail
  go_loopw [5] (fun i wr => ∃ (k : Nat), i = .int .i64 k ∧ k ≤ l.length ∧ Below w.heap.size w wr) (fun i _ => l.length - (intOf i).toNat)
  case atStart => exact ⟨0, rfl, by omega, Below.refl _ _⟩
  case round =>
    obtain ⟨k, rfl, hk, hbr⟩ := hrel
    by_cases hlt : k < l.length
    · have hx : l[k]? = some l[k] := List.getElem?_eq_getElem hlt
      obtain ⟨b, off, rfl, p0⟩ := flat_int (H1.out.later hbr) hx
      obtain ⟨b2, off2, rfl, p2⟩ := flat_int (H2.out.later hbr) hx
      generalize l[k] = x at *
      have hk2 : (k : Int) < l.length := by omega
      have HBR := Lib.hid hbr
      clear hx H1 H2 hbr
      go_wp2_with fail
      try (go_quiet (fail); go_wp2_with fail)
      refine ⟨⟨k + 1, by go_num, hlt, ?_⟩, by simp [intOf]; omega⟩
      first | exact HBR.out | exact HBR.out.trans ((drewB wr _).mono HBR.out.size)
    · obtain rfl : k = l.length := by omega
      go_wp2_with fail
      go_returns
      exact ⟨rfl, hbr⟩

set_option maxRecDepth 100000 in
set_option maxHeartbeats 4000000 in
theorem refRange_any (r : Nat) (E : List Ent) (H : List Int) (hl : E.length ≤ 1000) (f t : Int) (w : World) (hR : RefAt w r E H) :
    Calls Try.prog 19 #[.pointer (some ⟨r, 0, none⟩), .int .i64 f, .int .i64 t] w fun e w' => ∃ a c, e = .returned (.slice a (toN f t E.length - frN f E.length) c) ∧ Flat w a (cellsE ((E.drop (frN f E.length)).take (toN f t E.length - frN f E.length))) ∧ w' = w := by
  obtain ⟨a, c, a', c', kR, hc, hc', hE, hI⟩ := hR.ex
  obtain ⟨c0, c1, _, _⟩ := facts2 kR
  have hF : max 0 (min f (E.length : Int)) = (frN f E.length : Int) := by unfold frN; omega
  have hT : max (frN f E.length : Int) (min t (E.length : Int)) = (toN f t E.length : Int) := by unfold toN; omega
  have hFl := frN_le f E.length
  obtain ⟨hFT, hTl⟩ := toN_le f t E.length
  generalize frN f E.length = F at *
  generalize toN f t E.length = T at *
  have hfl := (hE.drop F 2 c E.length (cellsE_len E) hc).take ((T - F) * 2)
  rw [← cellsE_drop, ← cellsE_take] at hfl
  have HF := Lib.hid hfl
  have h1 : (0 : Int) ≤ F := by omega
  have h2 : (F : Int) ≤ T := by omega
  have h3 : (T : Int) ≤ c := by omega
  clear hE hI kR hR hc hc' hfl
  go_enter Try.func19, Try.ntmps19
  go_wp2_with fail
  all_goals (
    go_ret
    have hq := HF.out
    first
      | (rw [if_pos (by assumption : c = F)] at hq; exact ⟨_, (by simp), hq, rfl⟩)
      | (rw [if_neg (by assumption : ¬ c = F)] at hq; exact ⟨_, (by simp), hq, rfl⟩)
      | exact ⟨_, (by simp), hq, rfl⟩)
end Go.Proofs.Ytidiaomeahoapaa
/- The reference's Spans; Insert that does nothing. -/
namespace Go.Proofs.Ytidiaomeahoapaa
open Go.RowKit Go.Shelf
attribute [local go_sem] Oper.semAt_some

/-- The places of a level, told from 1, among the first k. -/
def spP (H : List Int) (v : Int) (k : Nat) : List Nat := ((List.range k).filter fun i => decide (v ≤ H[i]?.getD 0)).map (· + 1)
def lastOf : Nat → List Nat → Nat
  | q, [] => q
  | _, x :: l => lastOf x l
theorem lastOf_snoc : ∀ (l : List Nat) (q x : Nat), lastOf q (l ++ [x]) = x
  | [], _, _ => rfl
  | y :: l, _, x => lastOf_snoc l y x
theorem lastOf_le : ∀ (l : List Nat) (q k : Nat), q ≤ k → (∀ x ∈ l, x ≤ k) → lastOf q l ≤ k
  | [], _, _, h, _ => h
  | y :: l, _, k, _, h => lastOf_le l y k (h y (List.mem_cons_self ..)) (fun x hx => h x (List.mem_cons_of_mem _ hx))
def spL (H : List Int) (v : Int) (k : Nat) : Nat := lastOf 0 (spP H v k)
theorem spP_snoc (H : List Int) (v : Int) (k : Nat) (x : Int) (h : H[k]? = some x) : spP H v (k + 1) = if v ≤ x then spP H v k ++ [k + 1] else spP H v k := by
  unfold spP
  rw [List.range_succ, List.filter_append, List.map_append]
  by_cases hv : v ≤ x <;> simp [h, hv]
theorem spL_le (H : List Int) (v : Int) (k : Nat) : spL H v k ≤ k := lastOf_le _ _ _ (Nat.zero_le _) fun x h => by
  unfold spP at h
  obtain ⟨i, hi, e⟩ := List.mem_map.1 h
  have := List.mem_range.1 (List.mem_filter.1 hi).1
  omega
theorem diffs_snoc : ∀ (l : List Nat) (q x : Nat), diffs q (l ++ [x]) = diffs q l ++ [(x : Int) - (lastOf q l : Nat)]
  | [], _, _ => rfl
  | y :: l, q, x => by
    rw [List.cons_append]
    simp only [diffs, List.cons_append, lastOf]
    rw [diffs_snoc l y x]
theorem spP_len (H : List Int) (v : Int) (k : Nat) : (spP H v k).length ≤ k := by
  unfold spP
  rw [List.length_map]
  exact Nat.le_trans (List.length_filter_le _ _) (by simp)

set_option maxRecDepth 100000 in
set_option maxHeartbeats 4000000 in
theorem refSpans_in (r : Nat) (E : List Ent) (H : List Int) (hl : H.length ≤ 1000) (v : Int) (hv : 1 ≤ v) (hv2 : v ≤ 32) (w : World) (hR : RefAt w r E H) :
    Calls Try.prog 22 #[.pointer (some ⟨r, 0, none⟩), .int .i64 v] w fun e w' => ∃ u, e = .returned u ∧ Own3 w' w.heap.size u (diffs 0 (spP H v H.length)) ∧ Below w.heap.size w w' := by
  have HR := Lib.hid hR
  clear hR
  go_enter Try.func22, Try.ntmps22
  go_wp2_with fail
  go_loopw [5, 6, 7] (fun u q i wr => ∃ (k : Nat), i = .int .i64 k ∧ q = .int .i64 ((spL H v k : Int) - 1) ∧ Own3 wr w.heap.size u (diffs 0 (spP H v k)) ∧ k ≤ H.length ∧ Below w.heap.size w wr) (fun _ _ i _ => H.length - (intOf i).toNat)
  case atStart => exact ⟨0, rfl, rfl, World.ownsRow_nil _ _ _ _, by omega, Below.refl _ _⟩
  case round =>
    obtain ⟨k, rfl, rfl, ho, hk, hbr⟩ := hrel
    obtain ⟨a, c, a', c', kR, hc, hc', hE, hI⟩ := (HR.out.later hbr).ex
    obtain ⟨c0, c1, _, _⟩ := facts2 kR
    have HO := Lib.hid ho
    have HBR := Lib.hid hbr
    by_cases hlt : k < H.length
    · have hx : H[k]? = some H[k] := List.getElem?_eq_getElem hlt
      obtain ⟨b, off, rfl, p0⟩ := flat_int hI hx
      have hsn := spP_snoc H v k _ hx
      generalize H[k] = x at *
      have hk2 : (k : Int) < H.length := by omega
      have hle := spL_le H v k
      have hln : (diffs 0 (spP H v k)).length ≤ 1000 := by rw [diffs_len]; have := spP_len H v k; omega
      have hd := diffs_snoc (spP H v k) 0 (k + 1)
      have hsl : v ≤ x → spL H v (k + 1) = k + 1 := fun h => by
        unfold spL
        rw [hsn, if_pos h, lastOf_snoc]
      have hsl2 : ¬ v ≤ x → spL H v (k + 1) = spL H v k := fun h => by
        unfold spL
        rw [hsn, if_neg h]
      have HD := Lib.hid (show diffs 0 (spP H v k ++ [k + 1]) = diffs 0 (spP H v k) ++ [(k : Int) - ((spL H v k : Int) - 1)] by
        rw [hd]
        congr 2
        unfold spL
        omega)
      have HSN := Lib.hid hsn
      have HSL := Lib.hid (And.intro hsl hsl2)
      generalize spL H v k = q at *
      have hw : IntKind.i64.wrap ((k : Int) - ((q : Int) - 1)) = (k : Int) - ((q : Int) - 1) := IntWalk.i64_in _ (by omega)
      have HLN := Lib.hid hln
      clear hx ho hbr hE hI kR hc hc' hd hsl hsl2 hsn hln HR
      by_cases hvx : v ≤ x
      · go_wp2_with (at_builtin
                     refine wpList_appcellsI rfl (.tmp 34) (.tmp 38) rfl rfl (n0 := w.heap.size) (l := diffs 0 (spP H v k)) (xs := [(k : Int) - ((q : Int) - 1)]) (ad := some ⟨wr.heap.size, 0, none⟩) (m := 1) (cap := 1) rfl rfl rfl (World.ownsRow.alloc HO.out _) (flat_oneI _ _) (by have := HLN.out; omega) (by simp) (HBR.out.trans ((alloc_below wr _).mono HBR.out.size)).size ?_
                     rintro v' w' ho' hg'
                     have HO2 := Lib.hid ho'
                     have HB2 := Lib.hid ((HBR.out.trans ((alloc_below wr _).mono HBR.out.size)).grown hg' (HBR.out.trans ((alloc_below wr _).mono HBR.out.size)).size (own_block HO.out))
                     clear ho' hg')
        refine ⟨⟨k + 1, by go_num, ?_, ?_, hlt, HB2.out⟩, by simp [intOf]; omega⟩
        · rw [HSL.out.1 hvx]; congr 1; omega
        · rw [HSN.out, if_pos hvx, HD.out]; exact HO2.out
      · go_wp2_with fail
        refine ⟨⟨k + 1, by go_num, ?_, ?_, hlt, HBR.out⟩, by simp [intOf]; omega⟩
        · rw [HSL.out.2 hvx]
        · rw [HSN.out, if_neg hvx]; exact HO.out
    · obtain rfl : k = H.length := by omega
      clear ho hbr hE hI kR hc hc' HR
      go_wp2_with fail
      go_returns
      exact ⟨_, rfl, HO.out, HBR.out⟩
end Go.Proofs.Ytidiaomeahoapaa
