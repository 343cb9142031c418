/- leave, Cut, Delete. -/
import Derived.Test.YtidiaomeahoapaaRem
import Derived.Deep.RegionHeld
namespace Go.Proofs.Ytidiaomeahoapaa
open Go.RowKit Go.Shelf
attribute [local go_sem] Oper.semAt_some

variable {F : List Nd} {n : Int}
set_option maxRecDepth 100000 in
set_option maxHeartbeats 4000000 in
theorem leave_any (p : Nat) (L : List Nd) (hF : F = hd p :: L) (w : World) (hw : Sk w F (lk0 F) (ah0 F) n) (hN : F.length ≤ 1000000) (f t : Nat) (ht : t < F.length) (hft : f ≤ t) :
    Calls Try.prog 44 #[.agg (wayA F f), .agg (wayA F t), .int .i64 ((t : Int) - f)] w fun e w' => e = .returned (.tuple #[]) ∧ Far (isB F) w w' ∧ Sk w' (remF F f t) (lk0 (remF F f t)) (ah0 (remF F f t)) n := by
  have hF0 : lev F 0 = 32 := by rw [hF]; rfl
  obtain ⟨x0, hx0⟩ : ∃ x0, F[f]? = some x0 := ⟨_, List.getElem?_eq_getElem (by omega)⟩
  have hlast : ∀ k, k < 32 → last F k f < F.length := fun k hk => by have := (last_spec F k (by omega) f).1; omega
  have hb1 : Below w.heap.size w (((w.alloc (.cells (wayA F f) 71)).alloc (.cells (wayA F t) 71)).alloc (.cells #[.int .i64 ((t : Int) - f)] 3)) := (((Below.refl _ _).alloc (Nat.le_refl _) _).alloc (by simp) _).alloc (by simp; omega) _
  have k1 : Blk (((w.alloc (.cells (wayA F f) 71)).alloc (.cells (wayA F t) 71)).alloc (.cells #[.int .i64 ((t : Int) - f)] 3)) w.heap.size 71 (wayA F f) := ((Blk.new _ _ _).alloc _).alloc _
  have k2 : Blk (((w.alloc (.cells (wayA F f) 71)).alloc (.cells (wayA F t) 71)).alloc (.cells #[.int .i64 ((t : Int) - f)] 3)) (w.heap.size + 1) 71 (wayA F t) := by
    have := (Blk.new (w.alloc (.cells (wayA F f) 71)) 71 (wayA F t)).alloc (Obj.cells #[.int .i64 ((t : Int) - f)] 3); simpa using this
  have k3 : Blk (((w.alloc (.cells (wayA F f) 71)).alloc (.cells (wayA F t) 71)).alloc (.cells #[.int .i64 ((t : Int) - f)] 3)) (w.heap.size + 1 + 1) 3 #[.int .i64 ((t : Int) - f)] := by
    have := Blk.new ((w.alloc (.cells (wayA F f) 71)).alloc (.cells (wayA F t) 71)) 3 #[.int .i64 ((t : Int) - f)]; simpa using this
  have HR := Lib.hid (relink_any (links_over (w0 := w) (wb := w.heap.size) (wf := w.heap.size + 1) (c := w.heap.size + 1 + 1) (n := n) hF0 hN ht hft) hlast (by omega) 32 _ (cinv0 hw hb1 k1 k2 k3))
  have HL := fun w3 (hJ : CInv w F f t w.heap.size (w.heap.size + 1) (w.heap.size + 1 + 1) n 32 w3) => Lib.hid (left hF0 ht hft hJ hx0)
  have hs1 := wayA_size F f
  have hs2 := wayA_size F t
  generalize wayA F f = WA at *
  generalize wayA F t = WB at *
  clear hb1 k1 k2 k3 hw hF hx0 hlast
  generalize hd' : (t : Int) - f = d at *
  clear hd'
  go_enter Try.func44, Try.ntmps44
  go_wp2_with fail
  refine HR.out.mono ?_
  rintro e w2 ⟨rfl, hJ⟩
  obtain ⟨q0, w4, T1, hf, hsk⟩ := (HL w2 hJ).out
  have T1 := Lib.hid T1
  have HFF := Lib.hid hf
  have HSK := Lib.hid hsk
  clear HR HL hJ hf hsk
  go_wp2_with fail
  refine T1.out.mono ?_
  rintro e w6 ⟨rfl, rfl⟩
  go_wp2_with fail
  go_returns
  exact ⟨rfl, HFF.out, HSK.out⟩

theorem range71 {W : World} {b : Nat} {cl : List Value} (h : Blk W b 71 cl.toArray) : W.rangeAt b 0 cl := fun j v hv => by
  rw [Nat.zero_add, h.cell]; simpa using hv

/-- Cut. -/
theorem cut_nil (f t : Int) (w : World) : Calls Try.prog 29 #[.pointer none, .int .i64 f, .int .i64 t] w fun e w' => e = .returned (.int .i64 0) ∧ w' = w := by
  have HP := fun w => Lib.hid (part_nil f t w)
  have h : (max f 0) ≥ (min t 0) := by omega
  generalize max f 0 = a at *
  generalize min t 0 = b at *
  go_enter Try.func29, Try.ntmps29
  go_wp2_with fail
  refine (HP _).out.mono ?_
  rintro e w1 ⟨rfl, rfl⟩
  go_wp2
  go_returns
  exact ⟨rfl, rfl⟩
theorem cut_none (p : Nat) (L : List Nd) (hF : F = hd p :: L) (w : World) (hw : Sk w F (lk0 F) (ah0 F) n) (f t : Int) (h : min t n ≤ max f 0) : Calls Try.prog 29 #[.pointer (some ⟨p, 0, none⟩), .int .i64 f, .int .i64 t] w fun e w' => e = .returned (.int .i64 0) ∧ w' = w := by
  have HP := Lib.hid (part_any p L hF hw f t)
  generalize max f 0 = a at *
  generalize min t n = b at *
  clear hw hF
  go_enter Try.func29, Try.ntmps29
  go_wp2_with fail
  refine HP.out.mono ?_
  rintro e w1 ⟨rfl, rfl⟩
  go_wp2
  go_returns
  exact ⟨rfl, rfl⟩

set_option maxRecDepth 100000 in
set_option maxHeartbeats 1000000 in
theorem cut_any (p : Nat) (L : List Nd) (hF : F = hd p :: L) (w : World) (hw : Sk w F (lk0 F) (ah0 F) n) (hN : F.length ≤ 1000000) (hn : n = L.length) (f t : Int) (a b : Nat) (ha : (a : Int) = max f 0) (hb : (b : Int) = min t n) (hab : a < b) :
    Calls Try.prog 29 #[.pointer (some ⟨p, 0, none⟩), .int .i64 f, .int .i64 t] w fun e w' => e = .returned (.int .i64 ((b : Int) - a)) ∧ Far (isB F) w w' ∧ Sk w' (remF F a b) (lk0 (remF F a b)) (ah0 (remF F a b)) (n - ((b : Int) - a)) := by
  have HP := Lib.hid (part_any p L hF hw f t)
  rw [← ha, ← hb] at HP
  have hFl : F.length = L.length + 1 := by rw [hF]; rfl
  have hbF : b < F.length := by omega
  have HT1 := Lib.hid (toPlace_any p L hF hw hN a (by omega))
  have HT2 := fun W (hb1 : Below w.heap.size w W) => Lib.hid (toPlace_any p L hF (hw.later hb1) hN b hbF)
  have HLV := fun W (hb1 : Below w.heap.size w W) => Lib.hid (leave_any p L hF W (hw.later hb1) hN a b hbF (by omega))
  have hF0 : F[0]? = some (hd p) := by rw [hF]; rfl
  have HF0 := Lib.hid hF0
  have HW := Lib.hid hw
  have hnn : n ≤ 1000000 := by omega
  have hn0 : 0 ≤ n := by omega
  have hbn : (b : Int) ≤ n := by omega
  have hab' : ¬ (b : Int) ≤ a := by omega
  have hsA := wayA_size F a
  have hsB := wayA_size F b
  have hoA := way_one F a
  clear hw hF hF0 ha hb hn hFl
  generalize wayA F a = WA at *
  generalize wayA F b = WB at *
  obtain ⟨cl⟩ := WA
  go_enter Try.func29, Try.ntmps29
  go_wp2_with fail
  refine HP.out.mono ?_
  rintro e w1 ⟨rfl, rfl⟩
  go_wp2_with fail
  rename_i Kk hKk
  refine HT1.out.mono ?_
  rintro e w2 ⟨rfl, hb2⟩
  refine hKk _ _ ?_
  refine wpList_plain rfl ?_
  intro K2 hK2
  refine wp_alloc71 rfl ?_
  refine hK2 _ _ ?_
  clear hK2 K2
  refine wpList_plain rfl ?_
  intro K2 hK2
  refine wp_store71 _ _ rfl _ rfl rfl (Blk.new _ _ _) zW_size hsA hoA ?_
  refine hK2 _ _ ?_
  clear hK2 K2
  have kW : Blk ((w2.alloc (.cells zW 71)).setRow w2.heap.size cl.toArray) w2.heap.size 71 cl.toArray := (Blk.new _ _ _).setRow _
  have hb4 : Below w2.heap.size w2 ((w2.alloc (.cells zW 71)).setRow w2.heap.size cl.toArray) := ⟨rfl, rfl, rfl, by rw [setRow_size]; simp, fun q hq => (setRow_other _ (Nat.ne_of_lt hq)).trans (((Below.refl w2.heap.size w2).alloc (Nat.le_refl _) _).block q hq)⟩
  have hb5 := hb2.trans (hb4.mono hb2.size)
  generalize (w2.alloc (.cells zW 71)).setRow w2.heap.size cl.toArray = w3 at *
  generalize w2.heap.size = wb at *
  have KW := Lib.hid kW
  have HB5 := Lib.hid hb5
  clear kW hb4 hb5 hb2 hKk Kk
  have hi71 : (Try.prog.info? 71).map (·.size) = some cl.length := by rw [size71]; simpa using hsA.symm
  have hu71 := under71
  have hR0 : w3.drew.rangeAt wb 0 cl := range71 KW.out.drew
  have hBD : Below w1.heap.size w1 w3.drew := HB5.out.drew
  have hwbF : ¬ isB F wb := (HW.out.later HB5.out).not_ty KW.out (fun q => (ty_ne q).2.2.1)
  have HT3 := HT2 _ hBD
  clear HT2
  have hwr : IntKind.i64.wrap ((b : Int) - a) = (b : Int) - a := IntWalk.i64_in _ (by omega)
  go_wp2_with fail
  change Code.wp _ _ _ { tmps := #[.pointer (some ⟨p, 0, none⟩), .int .i64 a, .int .i64 b, undef, undef, undef, .int .i64 0, .pointer (some ⟨wb, 0, none⟩), .tuple #[.int .i64 a, .int .i64 b], .pointer (some ⟨p, 0, none⟩), .int .i64 f, .int .i64 t, .tuple #[.int .i64 a, .int .i64 b], .int .i64 a, .int .i64 b, .int .i64 a, .int .i64 b, .bool (decide (b ≤ a)), .pointer (some ⟨p, 0, none⟩), .int .i64 a, .agg cl.toArray, undef, undef, undef, undef, undef, undef, undef, undef, undef, undef, undef, undef, undef, undef, undef, undef, undef, undef, undef, undef, undef], defers := [] } w3
  go_region_held (fun w' => w'.rangeAt wb 0 cl)
    (first | exact hR0 | exact hR5 | exact hR6)
    (first
      | (go_at_call 35; refine HT3.out.mono ?_; rintro e w5 ⟨rfl, hb6⟩; have hbw5 := hBD.trans (hb6.mono hBD.size); have hK5 := Lib.hid (KW.out.drew.later hb6); have hR5 := range71 hK5.out; have HLV5 := HLV _ hbw5)
      | (go_at_call 44; refine HLV5.out.mono ?_; rintro e w6 ⟨rfl, hf6, hsk6⟩; have hR6 := range71 (hf6.blk hK5.out hwbF)))
  have hx0' : (remF F a b)[0]? = some (hd p) := by rw [remF_le hbF (by omega) (Nat.zero_le _)]; exact HF0.out
  obtain ⟨A5, hA5, hN5⟩ := hsk6.node 0 (hd p) hx0'
  have n5 : w6.cell? ⟨p, 67, none⟩ = some (.int .i64 n) := (hA5.cell 67).trans (hN5.n rfl)
  have n6 : w6.frozen? ⟨p, 67, none⟩ = false := hA5.free 67
  have HSK := Lib.hid hsk6
  have HFF := Lib.hid hf6
  have HX0 := Lib.hid hx0'
  have HBW := Lib.hid hbw5
  clear hsk6 hf6 hA5 hN5 hx0' hR6 hR5 hR0 hbw5 hb6 HLV5 HLV HT3 hi71 hu71 hK5 hwbF
  go_wp2_with fail
  go_returns
  refine ⟨rfl, ?_, HSK.out.setN HX0.out _⟩
  exact ((Far.of_below HBW.out).trans HFF.out (fun q hq => .inl hq)).set ⟨p, 67, none⟩ _ (.inl (isB_at HF0.out))

/-- Delete. -/
theorem delete_nil (m : ByteArray) (s : Int) (w : World) : Calls Try.prog 28 #[.pointer none, .agg #[.string m, .int .i64 s]] w fun e w' => e = .returned (.bool false) ∧ Below w.heap.size w w' := by
  have HS := fun w => Lib.hid (seek_nil m s w)
  have hb1 : Below w.heap.size w (w.alloc (.cells #[.string m, .int .i64 s] 32)) := (Below.refl _ _).alloc (Nat.le_refl _) _
  have HB1 := Lib.hid hb1
  clear hb1
  go_enter Try.func28, Try.ntmps28
  go_wp2_with fail
  refine (HS _).out.mono ?_
  rintro e w1 ⟨rfl, hb⟩
  have HB := Lib.hid (HB1.out.trans (hb.mono HB1.out.size))
  clear hb
  go_wp2
  go_returns
  exact ⟨rfl, HB.out⟩
set_option maxRecDepth 100000 in
set_option maxHeartbeats 2000000 in
theorem delete_any (p : Nat) (L : List Nd) (hF : F = hd p :: L) (w : World) (hw : Sk w F (lk0 F) (ah0 F) n) (hN : F.length ≤ 1000000) (hn : n = L.length) (a : Nat) (ha : a < F.length) (m : ByteArray) (s : Int) (hq : ∀ q x, 0 < q → F[q]? = some x → lessE x.m x.s m s = decide (q ≤ a)) :
    Calls Try.prog 28 #[.pointer (some ⟨p, 0, none⟩), .agg #[.string m, .int .i64 s]] w fun e w' =>
      (entAt F (a + 1) m s = false → e = .returned (.bool false) ∧ Below w.heap.size w w') ∧
      (entAt F (a + 1) m s = true → e = .returned (.bool true) ∧ Far (isB F) w w' ∧ Sk w' (remF F a (a + 1)) (lk0 (remF F a (a + 1))) (ah0 (remF F a (a + 1))) (n - 1)) := by
  have hb1 : Below w.heap.size w (w.alloc (.cells #[.string m, .int .i64 s] 32)) := (Below.refl _ _).alloc (Nat.le_refl _) _
  have kE : Blk (w.alloc (.cells #[.string m, .int .i64 s] 32)) w.heap.size 32 #[.string m, .int .i64 s] := Blk.new _ _ _
  obtain ⟨e0, e1, _, _⟩ := facts2 kE
  have HS := Lib.hid (seek_any p L hF (hw.later hb1) hN m s a ha hq)
  have hFl : F.length = L.length + 1 := by rw [hF]; rfl
  have HC := fun W (hb : Below w.heap.size w W) (hh : entAt F (a + 1) m s = true) => Lib.hid (cut_any p L hF W (hw.later hb) hN hn a ((a : Int) + 1) a (a + 1) (by omega) (by
    unfold entAt at hh
    split at hh
    · rename_i x hx
      have := (List.getElem?_eq_some_iff.1 hx).1
      omega
    · cases hh) (by omega))
  obtain ⟨bb, hbb⟩ : ∃ bb, entAt F (a + 1) m s = bb := ⟨_, rfl⟩
  rw [hbb] at HS HC
  have HBB := Lib.hid hbb
  have HB1 := Lib.hid hb1
  have ha2 : (a : Int) ≤ 1000000 := by omega
  clear hb1 kE hw hF hq hbb hn hFl ha hN
  go_enter Try.func28, Try.ntmps28
  go_wp2_with fail
  refine HS.out.mono ?_
  rintro e w1 ⟨rfl, hb⟩
  have hbw := HB1.out.trans (hb.mono HB1.out.size)
  have HBW := Lib.hid hbw
  clear hb hbw
  cases bb with
  | false =>
    clear HC
    go_wp2_with fail
    go_returns
    refine ⟨fun _ => ⟨rfl, HBW.out⟩, fun h => ?_⟩
    rw [HBB.out] at h
    cases h
  | true =>
    have HC2 := HC w1 HBW.out rfl
    rw [show ((a + 1 : Nat) : Int) - a = 1 by omega] at HC2
    clear HC
    go_wp2_with fail
    refine HC2.out.mono ?_
    rintro e w2 ⟨rfl, hf, hsk⟩
    have HFF := Lib.hid hf
    have HSK := Lib.hid hsk
    clear hf hsk
    go_wp2_with fail
    go_returns
    refine ⟨fun h => ?_, fun _ => ⟨rfl, (Far.of_below HBW.out).trans HFF.out (fun q hq => .inl hq), HSK.out⟩⟩
    rw [HBB.out] at h
    cases h
end Go.Proofs.Ytidiaomeahoapaa
