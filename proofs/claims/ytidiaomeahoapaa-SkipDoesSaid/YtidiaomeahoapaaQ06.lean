/- Texts of one kind in one: Cut, RowsOf, Spans. -/
import Derived.Test.YtidiaomeahoapaaQ05
import Derived.Deep.RegionHeld
import Derived.Laws.AppendOwn
/- leave, Cut, Delete. -/
namespace Go.Proofs.Ytidiaomeahoapaa
open Go.RowKit Go.Shelf
attribute [local go_sem] Oper.semAt_some

variable {F : List Nd} {n : Int}
set_option maxRecDepth 100000 in
set_option maxHeartbeats 4000000 in
theorem leave_any (p : Nat) (L : List Nd) (hF : F = hd p :: L) (w : World) (hw : Sk w F (lk0 F) (ah0 F) n) (hN : F.length ≤ 1000000) (f t : Nat) (ht : t < F.length) (hft : f ≤ t) :
    Calls Try.prog 44 #[.agg (wayA F f), .agg (wayA F t), .int .i64 ((t : Int) - f)] w fun e w' => e = .returned (.tuple #[]) ∧ Far (isB F) w w' ∧ Sk w' (remF F f t) (lk0 (remF F f t)) (ah0 (remF F f t)) n := by
  have hF0 : lev F 0 = 32 := by rw [hF]; rfl
  obtain ⟨x0, hx0⟩ : ∃ x0, F[f]? = some x0 := ⟨_, List.getElem?_eq_getElem (by omega)⟩
  have hlast : ∀ k, k < 32 → last F k f < F.length := fun k hk => by have := (last_spec F k (by omega) f).1; omega
  have hb1 : Below w.heap.size w (((w.alloc (.cells (wayA F f) 71)).alloc (.cells (wayA F t) 71)).alloc (.cells #[.int .i64 ((t : Int) - f)] 3)) := (((Below.refl _ _).alloc (Nat.le_refl _) _).alloc (by simp) _).alloc (by simp; omega) _
  have k1 : Blk (((w.alloc (.cells (wayA F f) 71)).alloc (.cells (wayA F t) 71)).alloc (.cells #[.int .i64 ((t : Int) - f)] 3)) w.heap.size 71 (wayA F f) := ((Blk.new _ _ _).alloc _).alloc _
  have k2 : Blk (((w.alloc (.cells (wayA F f) 71)).alloc (.cells (wayA F t) 71)).alloc (.cells #[.int .i64 ((t : Int) - f)] 3)) (w.heap.size + 1) 71 (wayA F t) := by
    have := (Blk.new (w.alloc (.cells (wayA F f) 71)) 71 (wayA F t)).alloc (Obj.cells #[.int .i64 ((t : Int) - f)] 3); simpa using this
  have k3 : Blk (((w.alloc (.cells (wayA F f) 71)).alloc (.cells (wayA F t) 71)).alloc (.cells #[.int .i64 ((t : Int) - f)] 3)) (w.heap.size + 1 + 1) 3 #[.int .i64 ((t : Int) - f)] := by
    have := Blk.new ((w.alloc (.cells (wayA F f) 71)).alloc (.cells (wayA F t) 71)) 3 #[.int .i64 ((t : Int) - f)]; simpa using this
  have HR := Lib.hid (relink_any (links_over (w0 := w) (wb := w.heap.size) (wf := w.heap.size + 1) (c := w.heap.size + 1 + 1) (n := n) hF0 hN ht hft) hlast (by omega) 32 _ (cinv0 hw hb1 k1 k2 k3))
  have HL := fun w3 (hJ : CInv w F f t w.heap.size (w.heap.size + 1) (w.heap.size + 1 + 1) n 32 w3) => Lib.hid (left hF0 ht hft hJ hx0)
  have hs1 := wayA_size F f
  have hs2 := wayA_size F t
  generalize wayA F f = WA at *
  generalize wayA F t = WB at *
  clear hb1 k1 k2 k3 hw hF hx0 hlast
  generalize hd' : (t : Int) - f = d at *
  clear hd'
  go_enter Try.func44, Try.ntmps44
  go_wp2_with fail
  refine HR.out.mono ?_
  rintro e w2 ⟨rfl, hJ⟩
  obtain ⟨q0, w4, T1, hf, hsk⟩ := (HL w2 hJ).out
  have T1 := Lib.hid T1
  have HFF := Lib.hid hf
  have HSK := Lib.hid hsk
  clear HR HL hJ hf hsk
  go_wp2_with fail
  refine T1.out.mono ?_
  rintro e w6 ⟨rfl, rfl⟩
  go_wp2_with fail
  go_returns
  exact ⟨rfl, HFF.out, HSK.out⟩

theorem range71 {W : World} {b : Nat} {cl : List Value} (h : Blk W b 71 cl.toArray) : W.rangeAt b 0 cl := fun j v hv => by
  rw [Nat.zero_add, h.cell]; simpa using hv

/-- Cut. -/
theorem cut_nil (f t : Int) (w : World) : Calls Try.prog 29 #[.pointer none, .int .i64 f, .int .i64 t] w fun e w' => e = .returned (.int .i64 0) ∧ w' = w := by
  have HP := fun w => Lib.hid (part_nil f t w)
  have h : (max f 0) ≥ (min t 0) := by omega
  generalize max f 0 = a at *
  generalize min t 0 = b at *
  go_enter Try.func29, Try.ntmps29
  go_wp2_with fail
  refine (HP _).out.mono ?_
  rintro e w1 ⟨rfl, rfl⟩
  go_wp2
  go_returns
  exact ⟨rfl, rfl⟩
theorem cut_none (p : Nat) (L : List Nd) (hF : F = hd p :: L) (w : World) (hw : Sk w F (lk0 F) (ah0 F) n) (f t : Int) (h : min t n ≤ max f 0) : Calls Try.prog 29 #[.pointer (some ⟨p, 0, none⟩), .int .i64 f, .int .i64 t] w fun e w' => e = .returned (.int .i64 0) ∧ w' = w := by
  have HP := Lib.hid (part_any p L hF hw f t)
  generalize max f 0 = a at *
  generalize min t n = b at *
  clear hw hF
  go_enter Try.func29, Try.ntmps29
  go_wp2_with fail
  refine HP.out.mono ?_
  rintro e w1 ⟨rfl, rfl⟩
  go_wp2
  go_returns
  exact ⟨rfl, rfl⟩

set_option maxRecDepth 100000 in
set_option maxHeartbeats 1000000 in
theorem cut_any (p : Nat) (L : List Nd) (hF : F = hd p :: L) (w : World) (hw : Sk w F (lk0 F) (ah0 F) n) (hN : F.length ≤ 1000000) (hn : n = L.length) (f t : Int) (a b : Nat) (ha : (a : Int) = max f 0) (hb : (b : Int) = min t n) (hab : a < b) :
    Calls Try.prog 29 #[.pointer (some ⟨p, 0, none⟩), .int .i64 f, .int .i64 t] w fun e w' => e = .returned (.int .i64 ((b : Int) - a)) ∧ Far (isB F) w w' ∧ Sk w' (remF F a b) (lk0 (remF F a b)) (ah0 (remF F a b)) (n - ((b : Int) - a)) := by
  have HP := Lib.hid (part_any p L hF hw f t)
  rw [← ha, ← hb] at HP
  have hFl : F.length = L.length + 1 := by rw [hF]; rfl
  have hbF : b < F.length := by omega
  have HT1 := Lib.hid (toPlace_any p L hF hw hN a (by omega))
  have HT2 := fun W (hb1 : Below w.heap.size w W) => Lib.hid (toPlace_any p L hF (hw.later hb1) hN b hbF)
  have HLV := fun W (hb1 : Below w.heap.size w W) => Lib.hid (leave_any p L hF W (hw.later hb1) hN a b hbF (by omega))
  have hF0 : F[0]? = some (hd p) := by rw [hF]; rfl
  have HF0 := Lib.hid hF0
  have HW := Lib.hid hw
  have hnn : n ≤ 1000000 := by omega
  have hn0 : 0 ≤ n := by omega
  have hbn : (b : Int) ≤ n := by omega
  have hab' : ¬ (b : Int) ≤ a := by omega
  have hsA := wayA_size F a
  have hsB := wayA_size F b
  have hoA := way_one F a
  clear hw hF hF0 ha hb hn hFl
  generalize wayA F a = WA at *
  generalize wayA F b = WB at *
  obtain ⟨cl⟩ := WA
  go_enter Try.func29, Try.ntmps29
  go_wp2_with fail
  refine HP.out.mono ?_
  rintro e w1 ⟨rfl, rfl⟩
  go_wp2_with fail
  rename_i Kk hKk
  refine HT1.out.mono ?_
  rintro e w2 ⟨rfl, hb2⟩
  refine hKk _ _ ?_
  refine wpList_plain rfl ?_
  intro K2 hK2
  refine wp_alloc71 rfl ?_
  refine hK2 _ _ ?_
  clear hK2 K2
  refine wpList_plain rfl ?_
  intro K2 hK2
  refine wp_store71 _ _ rfl _ rfl rfl (Blk.new _ _ _) zW_size hsA hoA ?_
  refine hK2 _ _ ?_
  clear hK2 K2
  have kW : Blk ((w2.alloc (.cells zW 71)).setRow w2.heap.size cl.toArray) w2.heap.size 71 cl.toArray := (Blk.new _ _ _).setRow _
  have hb4 : Below w2.heap.size w2 ((w2.alloc (.cells zW 71)).setRow w2.heap.size cl.toArray) := ⟨rfl, rfl, rfl, by rw [setRow_size]; simp, fun q hq => (setRow_other _ (Nat.ne_of_lt hq)).trans (((Below.refl w2.heap.size w2).alloc (Nat.le_refl _) _).block q hq)⟩
  have hb5 := hb2.trans (hb4.mono hb2.size)
  generalize (w2.alloc (.cells zW 71)).setRow w2.heap.size cl.toArray = w3 at *
  generalize w2.heap.size = wb at *
  have KW := Lib.hid kW
  have HB5 := Lib.hid hb5
  clear kW hb4 hb5 hb2 hKk Kk
  have hi71 : (Try.prog.info? 71).map (·.size) = some cl.length := by rw [size71]; simpa using hsA.symm
  have hu71 := under71
  have hR0 : w3.drew.rangeAt wb 0 cl := range71 KW.out.drew
  have hBD : Below w1.heap.size w1 w3.drew := HB5.out.drew
  have hwbF : ¬ isB F wb := (HW.out.later HB5.out).not_ty KW.out (fun q => (ty_ne q).2.2.1)
  have HT3 := HT2 _ hBD
  clear HT2
  have hwr : IntKind.i64.wrap ((b : Int) - a) = (b : Int) - a := IntWalk.i64_in _ (by omega)
  go_wp2_with fail
  change Code.wp _ _ _ { tmps := #[.pointer (some ⟨p, 0, none⟩), .int .i64 a, .int .i64 b, undef, undef, undef, .int .i64 0, .pointer (some ⟨wb, 0, none⟩), .tuple #[.int .i64 a, .int .i64 b], .pointer (some ⟨p, 0, none⟩), .int .i64 f, .int .i64 t, .tuple #[.int .i64 a, .int .i64 b], .int .i64 a, .int .i64 b, .int .i64 a, .int .i64 b, .bool (decide (b ≤ a)), .pointer (some ⟨p, 0, none⟩), .int .i64 a, .agg cl.toArray, undef, undef, undef, undef, undef, undef, undef, undef, undef, undef, undef, undef, undef, undef, undef, undef, undef, undef, undef, undef, undef], defers := [] } w3
  go_region_held (fun w' => w'.rangeAt wb 0 cl)
    (first | exact hR0 | exact hR5 | exact hR6)
    (first
      | (go_at_call 35; refine HT3.out.mono ?_; rintro e w5 ⟨rfl, hb6⟩; have hbw5 := hBD.trans (hb6.mono hBD.size); have hK5 := Lib.hid (KW.out.drew.later hb6); have hR5 := range71 hK5.out; have HLV5 := HLV _ hbw5)
      | (go_at_call 44; refine HLV5.out.mono ?_; rintro e w6 ⟨rfl, hf6, hsk6⟩; have hR6 := range71 (hf6.blk hK5.out hwbF)))
  have hx0' : (remF F a b)[0]? = some (hd p) := by rw [remF_le hbF (by omega) (Nat.zero_le _)]; exact HF0.out
  obtain ⟨A5, hA5, hN5⟩ := hsk6.node 0 (hd p) hx0'
  have n5 : w6.cell? ⟨p, 67, none⟩ = some (.int .i64 n) := (hA5.cell 67).trans (hN5.n rfl)
  have n6 : w6.frozen? ⟨p, 67, none⟩ = false := hA5.free 67
  have HSK := Lib.hid hsk6
  have HFF := Lib.hid hf6
  have HX0 := Lib.hid hx0'
  have HBW := Lib.hid hbw5
  clear hsk6 hf6 hA5 hN5 hx0' hR6 hR5 hR0 hbw5 hb6 HLV5 HLV HT3 hi71 hu71 hK5 hwbF
  go_wp2_with fail
  go_returns
  refine ⟨rfl, ?_, HSK.out.setN HX0.out _⟩
  exact ((Far.of_below HBW.out).trans HFF.out (fun q hq => .inl hq)).set ⟨p, 67, none⟩ _ (.inl (isB_at HF0.out))

/-- Delete. -/
theorem delete_nil (m : ByteArray) (s : Int) (w : World) : Calls Try.prog 28 #[.pointer none, .agg #[.string m, .int .i64 s]] w fun e w' => e = .returned (.bool false) ∧ Below w.heap.size w w' := by
  have HS := fun w => Lib.hid (seek_nil m s w)
  have hb1 : Below w.heap.size w (w.alloc (.cells #[.string m, .int .i64 s] 32)) := (Below.refl _ _).alloc (Nat.le_refl _) _
  have HB1 := Lib.hid hb1
  clear hb1
  go_enter Try.func28, Try.ntmps28
  go_wp2_with fail
  refine (HS _).out.mono ?_
  rintro e w1 ⟨rfl, hb⟩
  have HB := Lib.hid (HB1.out.trans (hb.mono HB1.out.size))
  clear hb
  go_wp2
  go_returns
  exact ⟨rfl, HB.out⟩
set_option maxRecDepth 100000 in
set_option maxHeartbeats 2000000 in
theorem delete_any (p : Nat) (L : List Nd) (hF : F = hd p :: L) (w : World) (hw : Sk w F (lk0 F) (ah0 F) n) (hN : F.length ≤ 1000000) (hn : n = L.length) (a : Nat) (ha : a < F.length) (m : ByteArray) (s : Int) (hq : ∀ q x, 0 < q → F[q]? = some x → lessE x.m x.s m s = decide (q ≤ a)) :
    Calls Try.prog 28 #[.pointer (some ⟨p, 0, none⟩), .agg #[.string m, .int .i64 s]] w fun e w' =>
      (entAt F (a + 1) m s = false → e = .returned (.bool false) ∧ Below w.heap.size w w') ∧
      (entAt F (a + 1) m s = true → e = .returned (.bool true) ∧ Far (isB F) w w' ∧ Sk w' (remF F a (a + 1)) (lk0 (remF F a (a + 1))) (ah0 (remF F a (a + 1))) (n - 1)) := by
  have hb1 : Below w.heap.size w (w.alloc (.cells #[.string m, .int .i64 s] 32)) := (Below.refl _ _).alloc (Nat.le_refl _) _
  have kE : Blk (w.alloc (.cells #[.string m, .int .i64 s] 32)) w.heap.size 32 #[.string m, .int .i64 s] := Blk.new _ _ _
  obtain ⟨e0, e1, _, _⟩ := facts2 kE
  have HS := Lib.hid (seek_any p L hF (hw.later hb1) hN m s a ha hq)
  have hFl : F.length = L.length + 1 := by rw [hF]; rfl
  have HC := fun W (hb : Below w.heap.size w W) (hh : entAt F (a + 1) m s = true) => Lib.hid (cut_any p L hF W (hw.later hb) hN hn a ((a : Int) + 1) a (a + 1) (by omega) (by
    unfold entAt at hh
    split at hh
    · rename_i x hx
      have := (List.getElem?_eq_some_iff.1 hx).1
      omega
    · cases hh) (by omega))
  obtain ⟨bb, hbb⟩ : ∃ bb, entAt F (a + 1) m s = bb := ⟨_, rfl⟩
  rw [hbb] at HS HC
  have HBB := Lib.hid hbb
  have HB1 := Lib.hid hb1
  have ha2 : (a : Int) ≤ 1000000 := by omega
  clear hb1 kE hw hF hq hbb hn hFl ha hN
  go_enter Try.func28, Try.ntmps28
  go_wp2_with fail
  refine HS.out.mono ?_
  rintro e w1 ⟨rfl, hb⟩
  have hbw := HB1.out.trans (hb.mono HB1.out.size)
  have HBW := Lib.hid hbw
  clear hb hbw
  cases bb with
  | false =>
    clear HC
    go_wp2_with fail
    go_returns
    refine ⟨fun _ => ⟨rfl, HBW.out⟩, fun h => ?_⟩
    rw [HBB.out] at h
    cases h
  | true =>
    have HC2 := HC w1 HBW.out rfl
    rw [show ((a + 1 : Nat) : Int) - a = 1 by omega] at HC2
    clear HC
    go_wp2_with fail
    refine HC2.out.mono ?_
    rintro e w2 ⟨rfl, hf, hsk⟩
    have HFF := Lib.hid hf
    have HSK := Lib.hid hsk
    clear hf hsk
    go_wp2_with fail
    go_returns
    refine ⟨fun h => ?_, fun _ => ⟨rfl, (Far.of_below HBW.out).trans HFF.out (fun q hq => .inl hq), HSK.out⟩⟩
    rw [HBB.out] at h
    cases h
end Go.Proofs.Ytidiaomeahoapaa
/- Lists of one's own in memory: entries, numbers; an append. -/
namespace Go.Proofs.Ytidiaomeahoapaa
open Go.RowKit Go.Shelf
attribute [local go_sem] Oper.semAt_some

/-- An entry. -/
abbrev Ent := ByteArray × Int
def cellsE (l : List Ent) : List Value := l.flatMap fun e => [.string e.1, .int .i64 e.2]
theorem cellsE_append (a b : List Ent) : cellsE (a ++ b) = cellsE a ++ cellsE b := by simp [cellsE]
def cellsI (l : List Int) : List Value := l.map fun i => .int .i64 i
/-- A list of entries in memory of one's own. -/
def Own32 (W : World) (n0 : Nat) (v : Value) (l : List Ent) : Prop := W.ownsRow n0 32 2 v l.length (cellsE l)
/-- A list of numbers in memory of one's own. -/
def Own3 (W : World) (n0 : Nat) (v : Value) (l : List Int) : Prop := W.ownsRow n0 3 1 v l.length (cellsI l)

section
variable {e : TypeId} {sz : Nat}
theorem own_gen {β : Type} (B n0 : Nat) (v : Value) (k : β → Nat) (xs : β → List Value) : OwnFrom B (fun s W => W.ownsRow n0 e sz v (k s) (xs s)) := fun s X Y row hs hg hr =>
  World.ownsRow.kept hs hg (by
    rcases hs.2 with ⟨rfl, _⟩ | ⟨g, cap, cur, rfl, _, hgb, _⟩
    · exact .inl rfl
    · refine .inr (fun e => ?_)
      obtain ⟨_, o, ho, hc⟩ := hr g e.symm
      rw [hgb] at ho; cases ho; cases hc)
theorem own_later {W W6 : World} {n0 k : Nat} {r : Value} {xs : List Value} (h : W.ownsRow n0 e sz r k xs) (hb : Below W.heap.size W W6) : W6.ownsRow n0 e sz r k xs := World.ownsRow.kept h (below_grown hb) (by
  rcases h.2 with ⟨rfl, _⟩ | ⟨g, cap, cur, rfl, _⟩
  · exact .inl rfl
  · exact .inr (by simp [Value.ownBlock]))
theorem own_set {W : World} {n0 k : Nat} {r : Value} {xs : List Value} (h : W.ownsRow n0 e sz r k xs) (b o : Nat) (v : Value) (hb : b < n0) : (W.setCell ⟨b, o, none⟩ v).ownsRow n0 e sz r k xs := by
  refine ⟨h.1, ?_⟩
  rcases h.2 with hn | ⟨g, cap, cur, rfl, h1, h2, h3⟩
  · exact .inl hn
  · exact .inr ⟨g, cap, cur, rfl, h1, (Below.heap_setCell _ _ _ _ (by show g ≠ b; omega)).trans h2, h3⟩
theorem own_mono {w : World} {base base' : Nat} {v : Value} {n : Nat} {xs : List Value} (h : w.ownsRow base e sz v n xs) (hb : base' ≤ base) : w.ownsRow base' e sz v n xs := by
  refine ⟨h.1, ?_⟩
  rcases h.2 with hn | ⟨g, cap, cur, rfl, hb', rest⟩
  · exact .inl hn
  · exact .inr ⟨g, cap, cur, rfl, Nat.le_trans hb hb', rest⟩
theorem own_aside {W W' : World} {n0 k N : Nat} {r : Value} {xs : List Value} (h : W.ownsRow n0 e sz r k xs) (ha : Aside N W W') (he : e ≠ 69) : W'.ownsRow n0 e sz r k xs := by
  refine ⟨h.1, ?_⟩
  rcases h.2 with hn | ⟨g, cap, cur, rfl, h1, h2, h3⟩
  · exact .inl hn
  · exact .inr ⟨g, cap, cur, rfl, h1, ha.block _ _ h2 (.inr fun c e2 => by simp at e2; exact he e2.2), h3⟩
/-- What an append leaves of other blocks. -/
theorem Blk.grown {W W7 : World} {b n0 k : Nat} {t : TypeId} {c : Array Value} {r : Value} {xs : List Value} {o : Obj} (h : Blk W b t c) (hg : (W.alloc o).grownBy W7 r.ownBlock) (ho : W.ownsRow n0 e sz r k xs) (ht : t ≠ e) : Blk W7 b t c :=
  (hg.block b (h.alloc o).lt (fun e2 => by
    rcases ho.2 with ⟨rfl, _⟩ | ⟨g, cap, cur, rfl, _, hgb, _⟩
    · simp [Value.ownBlock] at e2
    · simp [Value.ownBlock] at e2
      subst e2
      have := (show W.heap[b]? = _ from h).symm.trans hgb
      simp at this
      exact ht this.2)).trans (h.alloc o)
theorem app_end {w0 W W6 W7 : World} {o : Obj} {b n0 t k k' : Nat} {r v' : Value} {l l' : List Value} (h : Blk W b t #[r]) (ho : W.ownsRow n0 e sz r k l) (hb6 : Below W.heap.size W W6) (hgrow : (W6.alloc o).grownBy W7 r.ownBlock) (ho7 : W7.ownsRow n0 e sz v' k' l') (hbn : b < n0)
    (hB : Below w0.heap.size w0 W) (hw : w0.heap.size ≤ b) (ht : t ≠ e) (het : ¬ itT e) (htt : ¬ itT t) (B : Nat) (L : List Nat) :
    KeepsFrom B W (W7.setCell ⟨b, 0, none⟩ v') ∧ KeepC L W (W7.setCell ⟨b, 0, none⟩ v') ∧ Below w0.heap.size w0 (W7.setCell ⟨b, 0, none⟩ v') ∧ Blk (W7.setCell ⟨b, 0, none⟩ v') b t #[v'] ∧ (W7.setCell ⟨b, 0, none⟩ v').ownsRow n0 e sz v' k' l' := by
  have h7 := (h.later hb6).grown hgrow (own_later ho hb6) ht
  have hs6 := hb6.size
  have hsw := hB.size
  refine ⟨?_, ?_, ?_, h7.set 0 v', ?_⟩
  · refine (((KeepsFrom.of_grownBy (row := none) (below_grown hb6) (fun _ h => by cases h)).trans ((KeepsOthers.alloc _ _).from _)).trans ((KeepsOthers.of_grownBy hgrow fun j o ej hj => ?_).from B)).trans ((KeepsOthers.setCell _ _ _).from _)
    rcases (World.ownsRow.alloc (own_later ho hb6) _).2 with ⟨rfl, _⟩ | ⟨g, cap, cur, rfl, _, hgb, _⟩
    · simp [Value.ownBlock] at ej
    · obtain rfl : g = j := by simpa [Value.ownBlock] using ej
      rw [hgb] at hj; cases hj; rfl
  · refine (((KeepC.of_below hb6).trans (KeepC.of_below ((Below.refl _ _).alloc (Nat.le_refl _) _))).trans (KeepC.of_grownBy hgrow fun k c t ek hk => ?_)).trans (KeepC.of_grownBy (row := some b) (grownBy_setCell' _ _ _) fun k c t ek hk => ?_)
    · rcases (World.ownsRow.alloc (own_later ho hb6) o).2 with ⟨rfl, _⟩ | ⟨g, cap, cur, rfl, _, hgb, _⟩
      · simp [Value.ownBlock] at ek
      · obtain rfl : g = k := by simpa [Value.ownBlock] using ek
        rw [hgb] at hk; cases hk
        exact het
    · cases ek
      rw [show W7.heap[b]? = _ from h7] at hk; cases hk
      exact htt
  · refine (((hB.trans (hb6.mono hsw)).alloc (by omega) o).grown hgrow (by simp; omega) fun k ek => ?_).setCell (p := ⟨b, 0, none⟩) hw v'
    have := (World.ownsRow.lt ho k ek).1
    omega
  · exact own_set ho7 b 0 v' hbn
end

theorem info32 : (Try.prog.info? 32).map (fun i => (i.zero, i.size, i.bytes)) = some (some (.agg #[.string ⟨#[]⟩, .int .i64 0]), 2, 24) := by kernel_rfl
theorem info3 : (Try.prog.info? 3).map (fun i => (i.zero, i.size, i.bytes)) = some (some (.int .i64 0), 1, 8) := by kernel_rfl

theorem app_ent {W W6 : World} {n0 : Nat} {r : Value} {l : List Ent} (hown : Own32 W n0 r l) (hb : Below W.heap.size W W6) (e : Ent) (hl : l.length ≤ 1000000000) (hn : n0 ≤ W6.heap.size) :
    ∃ g cap W7, (Builtin.append_ #[27, 27] 27 #[r, .slice (some ⟨W6.heap.size, 0, none⟩) 1 1]).run Try.prog (W6.alloc (.cells #[.string e.1, .int .i64 e.2] 32)) = .ok (.slice (some ⟨g, 0, none⟩) (l.length + 1) cap) W7 ∧
      Own32 W7 n0 (.slice (some ⟨g, 0, none⟩) (l.length + 1) cap) (l ++ [e]) ∧ (W6.alloc (.cells #[.string e.1, .int .i64 e.2] 32)).grownBy W7 r.ownBlock := by
  obtain ⟨i0, hi0, hz0, hz1, hz2⟩ := info_parts info32
  obtain ⟨v', w', hrun, r1, r2, r3⟩ := run_append_own (P := Try.prog) (W6.alloc (.cells #[.string e.1, .int .i64 e.2] 32)) n0 27 27 32 i0 _ 2 24 Try.underlying27 hi0 hz0 hz1 hz2 rfl (by decide) r _ _ (World.ownsRow.alloc (own_later hown hb) _) ⟨W6.heap.size, 0, none⟩ 1 1 [.string e.1, .int .i64 e.2] rfl
    (fun j u hj => by
      have hB := Blk.new W6 32 #[.string e.1, .int .i64 e.2]
      match j, hj with
      | 0, hj => simp at hj; subst hj; exact hB.cell 0
      | 1, hj => simp at hj; subst hj; simp [Addr.add]
      | j + 2, hj => simp at hj)
    (by simp [Value.oneCell']) (by unfold maxLen; omega) (by omega) (by simp; omega)
  have r1' : Own32 w' n0 v' (l ++ [e]) := by
    unfold Own32
    rw [cellsE_append, List.length_append]
    exact r1
  rcases r1.2 with ⟨rfl, h0⟩ | ⟨g, cap, cur, rfl, _⟩
  · omega
  · exact ⟨g, cap, w', hrun, r1', r2⟩
theorem app_int {W W6 : World} {n0 : Nat} {r : Value} {l : List Int} (hown : Own3 W n0 r l) (hb : Below W.heap.size W W6) (e : Int) (hl : l.length ≤ 1000000000) (hn : n0 ≤ W6.heap.size) :
    ∃ g cap W7, (Builtin.append_ #[28, 28] 28 #[r, .slice (some ⟨W6.heap.size, 0, none⟩) 1 1]).run Try.prog (W6.alloc (.cells #[.int .i64 e] 3)) = .ok (.slice (some ⟨g, 0, none⟩) (l.length + 1) cap) W7 ∧
      Own3 W7 n0 (.slice (some ⟨g, 0, none⟩) (l.length + 1) cap) (l ++ [e]) ∧ (W6.alloc (.cells #[.int .i64 e] 3)).grownBy W7 r.ownBlock := by
  obtain ⟨i0, hi0, hz0, hz1, hz2⟩ := info_parts info3
  obtain ⟨v', w', hrun, r1, r2, r3⟩ := run_append_own (P := Try.prog) (W6.alloc (.cells #[.int .i64 e] 3)) n0 28 28 3 i0 _ 1 8 Try.underlying28 hi0 hz0 hz1 hz2 rfl (by decide) r _ _ (World.ownsRow.alloc (own_later hown hb) _) ⟨W6.heap.size, 0, none⟩ 1 1 [.int .i64 e] rfl
    (fun j u hj => by
      have hB := Blk.new W6 3 #[.int .i64 e]
      match j, hj with
      | 0, hj => simp at hj; subst hj; exact hB.cell 0
      | j + 1, hj => simp at hj)
    (by simp [Value.oneCell']) (by unfold maxLen; omega) (by omega) (by simp; omega)
  have r1' : Own3 w' n0 v' (l ++ [e]) := by
    unfold Own3 cellsI
    rw [List.map_append, List.length_append]
    exact r1
  rcases r1.2 with ⟨rfl, h0⟩ | ⟨g, cap, cur, rfl, _⟩
  · omega
  · exact ⟨g, cap, w', hrun, r1', r2⟩

theorem stepIn_append {F : Fence} {n : Nat} {P : Program} {ops : Array Oper} {o : Oper} {a : Act} {w w' : World} {K : Act → World → Prop} {Q : Exit → Act → World → Prop} {E : Prop} {v xv v' : Value} (hgd : o.guard = none) (s x : Operand) (t u : TypeId)
    (ho : o.op = Op.call { callee := Callee.builtin Builtin.append, args := #[s, x], argTypes := #[t, u] }) (hs : a.eval s = v) (hx : a.eval x = xv) (hrun : (Builtin.append_ #[t, u] o.type #[v, xv]).run P w = .ok v' w')
    (h : K (a.put o.dst v') w') : if Region.wanted o (yielded ops a.tmps) = true then Oper.wpIn F n P o a w K Q else E := by
  have hw : Region.wanted o (yielded ops a.tmps) = true := by simp [Region.wanted, hgd]
  rw [if_pos hw]
  unfold Oper.wpIn
  refine ⟨?_, ?_⟩
  · simp [Oper.about, ho, resolve, Target.leads, Sem.run_pure]
  · rw [Oper.semAt_plain F _ _ (by rw [ho]; intro c hc'; cases hc')]
    simp [execOp, ho, resolve, invoke, builtin, hs, hx, hrun, Result.andThen]
    exact h
end Go.Proofs.Ytidiaomeahoapaa
/- Spans. -/
namespace Go.Proofs.Ytidiaomeahoapaa
open Go.RowKit Go.Shelf
attribute [local go_sem] Oper.semAt_some

theorem spans_nil (v : Int) (w : World) : Calls Try.prog 21 #[.pointer none, .int .i64 v] w fun e w' => e = .returned (.slice none 0 0) ∧ w' = w := by
  go_enter Try.func21, Try.ntmps21
  go_wp2
  go_returns
  exact ⟨rfl, rfl⟩
theorem spans_out (p : Addr) (v : Int) (hv : v < 1 ∨ 32 < v) (w : World) : Calls Try.prog 21 #[.pointer (some p), .int .i64 v] w fun e w' => e = .returned (.slice none 0 0) ∧ w' = w := by
  by_cases h1 : v < 1
  · clear hv
    go_enter Try.func21, Try.ntmps21
    go_wp2
    go_returns
    exact ⟨rfl, rfl⟩
  · have h2 : 32 < v := by omega
    clear hv
    go_enter Try.func21, Try.ntmps21
    go_wp2
    go_returns
    exact ⟨rfl, rfl⟩

/-- The differences of places. -/
def diffs (q : Nat) : List Nat → List Int
  | [] => []
  | x :: r => ((x : Int) - q) :: diffs x r
theorem diffs_take (q : Nat) : ∀ (l : List Nat) (i x : Nat), l[i]? = some x → diffs q (l.take (i + 1)) = diffs q (l.take i) ++ [(x : Int) - ((q :: l)[i]?.getD 0)] := by
  intro l
  induction l generalizing q with
  | nil => intro i x h; simp at h
  | cons y l ih =>
    intro i x h
    cases i with
    | zero => simp at h; subst h; simp [diffs]
    | succ i =>
      have := ih y i x (by simpa using h)
      simp only [List.take_succ_cons, diffs, List.cons_append]
      rw [this]
      simp
theorem diffs_len (q : Nat) (l : List Nat) : (diffs q l).length = l.length := by
  induction l generalizing q with
  | nil => rfl
  | cons y l ih => simp [diffs, ih]

variable {F : List Nd} {ah : Nat → Value} {n : Int}
set_option maxRecDepth 100000 in
set_option maxHeartbeats 4000000 in
theorem spans_any (p : Nat) (L : List Nd) (hF : F = hd p :: L) (w : World) (hw : Sk w F (lk0 F) ah n) (hN : F.length ≤ 1000000) (k : Nat) (hk : k < 32) :
    Calls Try.prog 21 #[.pointer (some ⟨p, 0, none⟩), .int .i64 ((k : Int) + 1)] w fun e w' => ∃ r, e = .returned r ∧ Own3 w' w.heap.size r (diffs 0 (steps F k 0)) ∧ Below w.heap.size w w' := by
  have h32 : lev F 0 = 32 := by rw [hF]; rfl
  have had : adr F 0 = .pointer (some ⟨p, 0, none⟩) := by rw [hF]; rfl
  have hx0 : F[0]? = some (hd p) := by rw [hF]; rfl
  have hF0 : 0 < F.length := (List.getElem?_eq_some_iff.1 hx0).1
  have HST := fun w => Lib.hid (start_any p k w)
  refine (callsIn_wide (n := 6)).1 (callsIn_of_wp_marks Try.func21 rfl trivial ?_ rfl)
  refine wpIn_wide.2 ?_
  simp only [Try.ntmps21, List.size_toArray, List.length_cons, List.length_nil, Nat.reduceAdd, Nat.reduceSub, Array.replicate_succ, Array.replicate_zero, List.push_toArray, List.append_toArray, List.nil_append, List.cons_append]
  clear hF
  have hk1 : (k : Int) < 32 := by omega
  go_wp2_with fail
  refine (HST _).out.mono ?_
  rintro e w1 ⟨rfl, hb1⟩
  have kR := (Blk.new w 28 #[.slice none 0 0]).later hb1
  have hbw : Below w.heap.size w w1 := ((Below.refl _ _).alloc (Nat.le_refl _) _).trans (hb1.mono (by simp))
  have HR := Lib.hid kR
  have HBW := Lib.hid hbw
  clear hb1 kR hbw
  go_wp2_with fail
  have kA := Blk.new w1 69 #[.pointer (some ⟨p, 0, none⟩), .int .i64 (-1), .int .i64 k]
  have hb2 : Below w1.heap.size w1 (w1.alloc (.cells #[.pointer (some ⟨p, 0, none⟩), .int .i64 (-1), .int .i64 k] 69)) := (Below.refl _ _).alloc (Nat.le_refl _) _
  have kR2 := HR.out.later hb2
  have hB2 := HBW.out.trans (hb2.mono HBW.out.size)
  have hz1 := HBW.out.size
  have hzr := HR.out.lt
  have hsz2 : (w1.alloc (.cells #[.pointer (some ⟨p, 0, none⟩), .int .i64 (-1), .int .i64 k] 69)).heap.size = w1.heap.size + 1 := by simp
  generalize w1.alloc (.cells #[.pointer (some ⟨p, 0, none⟩), .int .i64 (-1), .int .i64 k] 69) = w2 at *
  have hS2 := hw.later hB2
  have hnB : ¬ isB F w1.heap.size := hS2.not_ty kA (fun q => (ty_ne q).1)
  have hseq := forth_any F ah n w2 k 0 (hd p) hk hx0 hk hN [w1.heap.size] hS2 (by simpa using hnB) (by simp [hsz2])
  unfold stp at hseq
  rw [had] at hseq
  have hlx : ∀ i x, (steps F k 0)[i]? = some x → 0 < x ∧ x < F.length := fun i x h => by have := mem_steps.1 (List.mem_of_getElem? h); exact ⟨this.1, this.2.1⟩
  have hsl : (steps F k 0).length ≤ F.length := by unfold steps; refine Nat.le_trans (List.length_filter_le _ _) (by simp)
  generalize hxs : steps F k 0 = xs at *
  refine (wpIn_wide (n := 6)).1 (range_f (gf := 38) (encs := encQ F k) (xs := xs) (L := [w1.heap.size]) rfl (enters_of Try.func38 (by kernel_rfl) rfl) hseq (fun _ _ => rfl)
    (fun i V => ∃ r, (i ≤ xs.length ∧ Blk V w1.heap.size 69 (boxQ F k ((0 :: xs)[i]?.getD 0)) ∧ Blk V w.heap.size 28 #[r]) ∧ Own3 V (w1.heap.size + 1) r (diffs 0 (xs.take i)) ∧ Below w.heap.size w V)
    (fun _ _ _ => False)
    ?hI (fun _ => own_pure _ _) ?hIa (fun _ _ _ _ _ _ h _ => h) ?h0 (fun _ x a' V => ∃ c, (c ≠ w1.heap.size ∧ w2.heap.size ≤ c ∧ a' = { tmps := #[.pointer (some ⟨p, 0, none⟩), .int .i64 ((k : Int) + 1), undef, undef, .slice none 0 0, .pointer (some ⟨w.heap.size, 0, none⟩), .pointer (some ⟨w1.heap.size, 0, none⟩), .pointer (some ⟨c, 0, none⟩), .pointer (some ⟨p, 0, none⟩), .bool false, .bool false, .int .i64 ((k : Int) + 1), .bool (decide ((k : Int) + 1 < 1)), .bool (decide ((k : Int) + 1 < 1)), .bool (decide ((k : Int) + 1 < 1)), .int .i64 ((k : Int) + 1), .bool (decide (32 < (k : Int) + 1)), .bool (decide ((k : Int) + 1 < 1) || decide (32 < (k : Int) + 1)), .pointer (some ⟨p, 0, none⟩), .int .i64 ((k : Int) + 1), .int .i64 k, .agg #[.pointer (some ⟨p, 0, none⟩), .int .i64 (-1), .int .i64 k], .agg #[.pointer (some ⟨p, 0, none⟩), .int .i64 (-1), .int .i64 k], .func (.func 38) #[.agg #[.pointer (some ⟨p, 0, none⟩), .int .i64 (-1), .int .i64 k]] #[], stp F k x, undef, undef, undef, undef, undef, undef, undef, undef, undef, undef], defers := [] }) ∧ Blk V c 69 (boxQ F k x)) ?hAx ?assign ?body ?done (fun _ _ _ _ _ h _ => h.elim))
  case hI => exact own_ex fun r => ((own_pure _ _).and ((own_blk _ _ _ _).and (own_blk _ _ _ _))).and ((own_gen _ _ _ _ _).and (own_below _ w hB2.size))
  case hIa =>
    rintro N hN2 i A B ⟨r, ⟨h1, h2, h3⟩, h4, h5⟩ hab
    exact ⟨r, ⟨h1, h2.aside hab (by omega), h3.aside hab (by omega)⟩, own_aside h4 hab (by decide), ((Far.of_below (S := fun _ => False) h5).aside hab (by omega)).below (fun _ h => h.elim) (Nat.le_refl _)⟩
  case h0 => exact ⟨_, ⟨Nat.zero_le _, by unfold boxQ; simp [had]; exact kA, kR2⟩, World.ownsRow_nil _ _ _ _, hB2⟩
  case hAx => exact fun i x a' => own_ex fun c => (own_pure _ _).and (own_blk _ _ _ _)
  case assign =>
    rintro l i x V K' hx' ⟨r, ⟨h1, h2, h3⟩, h4, h5⟩ hK
    obtain ⟨y, hy⟩ : ∃ y, F[x]? = some y := ⟨_, List.getElem?_eq_getElem (hlx i x hx').2⟩
    have hay := adr_some hy
    have HK3 := Lib.hid hK
    have HI := Lib.hid (And.intro h1 (And.intro h2 (And.intro h3 (And.intro h4 h5))))
    have hzV := h2.lt
    clear hK h1 h2 h3 h4 h5 hseq hx' hlx hS2 hnB kA kR2
    unfold encQ stp
    rw [hay]
    gi_wp2
    have hbV := (Below.refl V.heap.size V).alloc (Nat.le_refl _) (Obj.cells #[Value.pointer (some ⟨y.b, 0, none⟩), Value.int IntKind.i64 ((x : Int) - 1), Value.int IntKind.i64 k] 69)
    obtain ⟨h1, h2, h3, h4, h5⟩ := HI.out
    refine HK3.out _ _ (keeps_below hbV) (KeepC.of_below hbV) ⟨r, ⟨h1, h2.later hbV, h3.later hbV⟩, own_later h4 hbV, h5.trans (hbV.mono h5.size)⟩ ⟨V.heap.size, ⟨by omega, by omega, ?_⟩, ?_⟩
    · unfold stp; rw [hay]
    · unfold boxQ; rw [hay]; exact Blk.new _ _ _
  case body =>
    rintro l i x a' V hx' ⟨r, ⟨h1, h2, h3⟩, h4, h5⟩ ⟨c, ⟨hc1, hc2, rfl⟩, kc⟩
    have hil : i < xs.length := (List.getElem?_eq_some_iff.1 hx').1
    obtain ⟨y, hy⟩ : ∃ y, F[x]? = some y := ⟨_, List.getElem?_eq_getElem (hlx i x hx').2⟩
    have hay := adr_some hy
    have hxl := (hlx i x hx').2
    have hq : ((0 :: xs)[i]?.getD 0) < F.length := by
      cases i with
      | zero => simpa using hF0
      | succ j =>
        have : xs[j]? = some xs[j] := List.getElem?_eq_getElem (by omega)
        simp [this]
        exact (hlx j _ this).2
    have hdt := diffs_take 0 xs i x hx'
    generalize ((0 :: xs)[i]?.getD 0) = q at *
    obtain ⟨z, hz⟩ : ∃ z, F[q]? = some z := ⟨_, List.getElem?_eq_getElem hq⟩
    have haz := adr_some hz
    obtain ⟨g, cap, W7, hrun, hown7, hgrow⟩ := app_int h4 (Below.refl _ _) ((x : Int) - 1 - ((q : Int) - 1)) (by rw [diffs_len]; simp; omega) (by have := h2.lt; omega)
    have hdl : (diffs 0 (xs.take i)).length = i := by rw [diffs_len]; simp; omega
    rw [hdl] at hrun hown7
    obtain ⟨e0, e1⟩ := facts1 h3
    have kc' := kc
    have h2' := h2
    unfold boxQ at kc' h2'
    rw [hay] at kc'
    rw [haz] at h2'
    obtain ⟨f0, f1, f2, f3, f4, f5⟩ := facts3 kc'
    obtain ⟨d0, d1, d2, d3, d4, d5⟩ := facts3 h2'
    have hc7 := kc'.grown hgrow h4 (by decide)
    have hA7 := h2'.grown hgrow h4 (by decide)
    have hR7 := h3.grown hgrow h4 (by decide)
    obtain ⟨t0, t1⟩ := facts1 hR7
    obtain ⟨u0, u1, u2, u3, u4, u5⟩ := facts3 hc7
    obtain ⟨v0, v1, v2, v3, v4, v5⟩ := facts3 hA7
    have HSUB := Lib.hid (show (x : Int) - 1 - ((q : Int) - 1) = (x : Int) - q by omega)
    have HH := Lib.hid (And.intro h2 (And.intro h3 (And.intro h4 h5)))
    have HO := Lib.hid hown7
    have HG := Lib.hid hgrow
    have HA7 := Lib.hid hA7
    have HDT := Lib.hid hdt
    have HX := Lib.hid hx'
    clear h2 h3 h4 h5 hown7 hgrow hc7 hA7 hR7 hseq hdt kc kc' h2' hlx hx' hy hz hS2 hnB kA kR2
    gi_wp2_with (refine wpListIn_step fun K hK => ?_; refine stepIn_append rfl _ _ 28 28 rfl rfl rfl hrun ?_; refine hK _ _ ?_; clear hK K)
    obtain ⟨g2, g3, g4, g5⟩ := HH.out
    obtain ⟨a1, a2, a3, a4, a5⟩ := app_end g3 g4 (Below.refl _ _) HG.out HO.out (by omega) g5 (Nat.le_refl _) (by decide) (by simp [itT]) (by simp [itT]) w2.heap.size [w1.heap.size]
    have kA8 := HA7.out.setOther 0 (.slice (some ⟨g, 0, none⟩) (i + 1) cap) (show w1.heap.size ≠ w.heap.size by omega)
    generalize W7.setCell ⟨w.heap.size, 0, none⟩ (.slice (some ⟨g, 0, none⟩) (i + 1) cap) = W8 at *
    refine ⟨?_, ?_, _, ⟨hil, ?_, Blk.setOther3 a4 (by omega) _ _ _ _ _ _⟩, ?_, ?_⟩
    · exact keeps_trans a1 (keeps_trans (keeps_set kA8 0 _) (keeps_trans (keeps_set (kA8.set 0 _) 1 _) (keeps_set ((kA8.set 0 _).set 1 _) 2 _)))
    · exact a2.trans ((KeepC.set _ _ _ _ (by simp)).trans ((KeepC.set _ _ _ _ (by simp)).trans (KeepC.set _ _ _ _ (by simp))))
    · have := ((kA8.set 0 (.pointer (some ⟨y.b, 0, none⟩))).set 1 (.int .i64 ((x : Int) - 1))).set 2 (.int .i64 k)
      rw [List.getElem?_cons_succ, HX.out, Option.getD_some]
      unfold boxQ
      rw [hay]
      exact this
    · rw [HDT.out, ← HSUB.out]
      refine own_set (own_set (own_set ?_ _ _ _ (Nat.lt_succ_self _)) _ _ _ (Nat.lt_succ_self _)) _ _ _ (Nat.lt_succ_self _)
      exact a5
    · exact (a3.setCell (p := ⟨w1.heap.size, 0, none⟩) hz1 _).setCell (p := ⟨w1.heap.size, 1, none⟩) hz1 _ |>.setCell (p := ⟨w1.heap.size, 2, none⟩) hz1 _
  case done =>
    rintro Dd V hD ⟨r, ⟨h1, h2, h3⟩, h4, h5⟩ hVD
    clear hseq
    rw [List.take_of_length_le (Nat.le_refl _)] at h4
    obtain ⟨g0, g1⟩ := facts1 h3
    have HK := Lib.hid hVD
    have HO := Lib.hid h4
    have H5 := Lib.hid h5
    clear h1 h2 h3 h4 h5 hVD
    simp only [Exit.inBlock, Exit.then]
    go_wp2
    have hfin : (V.putObj Dd (.deferred none)).ownsRow w.heap.size 3 1 r _ _ := own_mono (ownsRow_putObj HO.out _ HK.out rfl) (by omega)
    exact leave rfl HK.out (results_tmp rfl _ _ _) ⟨_, rfl, hxs ▸ hfin, below_put H5.out (by have := hB2.size; omega) _⟩
end Go.Proofs.Ytidiaomeahoapaa
