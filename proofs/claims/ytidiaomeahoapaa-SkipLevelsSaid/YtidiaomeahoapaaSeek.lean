/- The ways to places and to entries; Seek, At, Len. -/
import Derived.Test.YtidiaomeahoapaaAsk
namespace Go.Proofs.Ytidiaomeahoapaa
open Go.RowKit Go.Shelf
attribute [local go_sem] Oper.semAt_some

variable {w : World} {F : List Nd} {ah : Nat → Value} {n : Int}
set_option maxRecDepth 100000 in
set_option maxHeartbeats 2000000 in
theorem toPlace_any (p : Nat) (L : List Nd) (hF : F = hd p :: L) (hw : Sk w F (lk0 F) ah n) (hN : F.length ≤ 1000000) (a : Nat) (ha : a < F.length) :
    Calls Try.prog 35 #[.pointer (some ⟨p, 0, none⟩), .int .i64 a] w fun e w' => e = .returned (.agg (wayA F a)) ∧ Below w.heap.size w w' := by
  have hz := zero71
  have hzs := zW_size
  generalize zW = zw at *
  have hb1 : Below w.heap.size w ((w.alloc (.cells #[.int .i64 a] 3)).alloc (.cells zw 71)) := ((Below.refl _ _).alloc (Nat.le_refl _) _).alloc (by simp) _
  have kC : Blk ((w.alloc (.cells #[.int .i64 a] 3)).alloc (.cells zw 71)) w.heap.size 3 #[.int .i64 a] := (Blk.new _ _ _).alloc _
  have kR : Blk ((w.alloc (.cells #[.int .i64 a] 3)).alloc (.cells zw 71)) (w.heap.size + 1) 71 zw := by have := Blk.new (w.alloc (.cells #[.int .i64 a] 3)) 71 zw; simpa using this
  have hasks := asks_place (F := F) w.heap.size a kC a (fun q h1 h2 => by omega)
  have HD := Lib.hid (down_any p L F hF ah n _ (hw.later hb1) hN a ha 47 _ hasks)
  have HB1 := Lib.hid hb1
  have HR := Lib.hid kR
  have hw1 := wayA_size F a
  have hw2 := way_one F a
  generalize wayA F a = WA at *
  clear hb1 kC kR hasks hw hF
  go_enter Try.func35, Try.ntmps35
  go_wp2_with fail
  rename_i Kk hKk
  refine HD.out.mono ?_
  rintro e w2 ⟨rfl, hb2⟩
  have k2 := HR.out.later hb2
  have hb3 := HB1.out.trans (hb2.mono HB1.out.size)
  clear hb2
  refine hKk _ _ ?_
  refine wpList_plain rfl ?_
  intro K2 hK2
  refine wp_store71 _ _ rfl _ rfl rfl k2 hzs hw1 hw2 ?_
  refine hK2 _ _ ?_
  have k3 := k2.setRow WA
  go_wp2_with fail
  refine bodyPost_ret (results_cell Try.results35 (b := ⟨w.heap.size + 1, 0, none⟩) rfl (loadVar71 k3 hw1)) rfl ?_
  refine ⟨rfl, hb3.os, hb3.tape, hb3.output, by rw [setRow_size]; exact hb3.size, fun q hq => (setRow_other _ (by omega)).trans (hb3.block q hq)⟩

set_option maxRecDepth 100000 in
set_option maxHeartbeats 2000000 in
theorem toEntry_any (p : Nat) (L : List Nd) (hF : F = hd p :: L) (hw : Sk w F (lk0 F) ah n) (hN : F.length ≤ 1000000) (m : ByteArray) (s : Int) (a : Nat) (ha : a < F.length) (hq : ∀ q x, 0 < q → F[q]? = some x → lessE x.m x.s m s = decide (q ≤ a)) :
    Calls Try.prog 40 #[.pointer (some ⟨p, 0, none⟩), .agg #[.string m, .int .i64 s]] w fun e w' => e = .returned (.agg (wayA F a)) ∧ Below w.heap.size w w' := by
  have hz := zero71
  have hzs := zW_size
  generalize zW = zw at *
  have hb1 : Below w.heap.size w ((w.alloc (.cells #[.string m, .int .i64 s] 32)).alloc (.cells zw 71)) := ((Below.refl _ _).alloc (Nat.le_refl _) _).alloc (by simp) _
  have kC : Blk ((w.alloc (.cells #[.string m, .int .i64 s] 32)).alloc (.cells zw 71)) w.heap.size 32 #[.string m, .int .i64 s] := (Blk.new _ _ _).alloc _
  have kR : Blk ((w.alloc (.cells #[.string m, .int .i64 s] 32)).alloc (.cells zw 71)) (w.heap.size + 1) 71 zw := by have := Blk.new (w.alloc (.cells #[.string m, .int .i64 s] 32)) 71 zw; simpa using this
  have hasks := asks_entry (F := F) w.heap.size m s kC (hw.later hb1) a hq
  have HD := Lib.hid (down_any p L F hF ah n _ (hw.later hb1) hN a ha 48 _ hasks)
  have HB1 := Lib.hid hb1
  have HR := Lib.hid kR
  have hw1 := wayA_size F a
  have hw2 := way_one F a
  generalize wayA F a = WA at *
  clear hb1 kC kR hasks hw hF hq
  go_enter Try.func40, Try.ntmps40
  go_wp2_with fail
  rename_i Kk hKk
  refine HD.out.mono ?_
  rintro e w2 ⟨rfl, hb2⟩
  have k2 := HR.out.later hb2
  have hb3 := HB1.out.trans (hb2.mono HB1.out.size)
  clear hb2
  refine hKk _ _ ?_
  refine wpList_plain rfl ?_
  intro K2 hK2
  refine wp_store71 _ _ rfl _ rfl rfl k2 hzs hw1 hw2 ?_
  refine hK2 _ _ ?_
  have k3 := k2.setRow WA
  go_wp2_with fail
  refine bodyPost_ret (results_cell Try.results40 (b := ⟨w.heap.size + 1, 0, none⟩) rfl (loadVar71 k3 hw1)) rfl ?_
  refine ⟨rfl, hb3.os, hb3.tape, hb3.output, by rw [setRow_size]; exact hb3.size, fun q hq => (setRow_other _ (by omega)).trans (hb3.block q hq)⟩

/-- Len. -/
theorem len_nil (w : World) : Calls Try.prog 14 #[.pointer none] w fun e w' => e = .returned (.int .i64 0) ∧ w' = w := by
  go_enter Try.func14, Try.ntmps14
  go_wp2
  go_ret
  exact ⟨rfl, rfl⟩
theorem len_any (p : Nat) (L : List Nd) (hF : F = hd p :: L) (hw : Sk w F (lk0 F) ah n) : Calls Try.prog 14 #[.pointer (some ⟨p, 0, none⟩)] w fun e w' => e = .returned (.int .i64 n) ∧ w' = w := by
  obtain ⟨A, hA, hN⟩ := hw.node 0 (hd p) (by rw [hF]; rfl)
  have e0 := (hA.cell 67).trans (hN.n rfl)
  have e1 : w.cell? ⟨p, 67, none⟩ = some (.int .i64 n) := e0
  clear hA hN hw hF e0
  go_enter Try.func14, Try.ntmps14
  go_wp2
  go_ret
  exact ⟨rfl, rfl⟩
theorem part_nil (f t : Int) (w : World) : Calls Try.prog 37 #[.pointer none, .int .i64 f, .int .i64 t] w fun e w' => e = .returned (.tuple #[.int .i64 (max f 0), .int .i64 (min t 0)]) ∧ w' = w := by
  have HL := fun w => Lib.hid (len_nil w)
  go_enter Try.func37, Try.ntmps37
  go_wp2_with fail
  refine (HL _).out.mono ?_
  rintro e w1 ⟨rfl, rfl⟩
  go_wp2
  go_returns
  exact ⟨rfl, rfl⟩
theorem part_any (p : Nat) (L : List Nd) (hF : F = hd p :: L) (hw : Sk w F (lk0 F) ah n) (f t : Int) : Calls Try.prog 37 #[.pointer (some ⟨p, 0, none⟩), .int .i64 f, .int .i64 t] w fun e w' => e = .returned (.tuple #[.int .i64 (max f 0), .int .i64 (min t n)]) ∧ w' = w := by
  have HL := Lib.hid (len_any p L hF hw)
  clear hF hw
  go_enter Try.func37, Try.ntmps37
  go_wp2_with fail
  refine HL.out.mono ?_
  rintro e w1 ⟨rfl, rfl⟩
  go_wp2
  go_returns
  exact ⟨rfl, rfl⟩

theorem beq_toList {a b : ByteArray} (h : a.toList = b.toList) : a = b := by
  have h1 : a.data.toList = b.data.toList := by rw [← Lib.toList_data, ← Lib.toList_data]; exact h
  cases a; cases b
  simp at h1
  rw [h1]
theorem eq_ent (m m' : ByteArray) (s s' : Int) (b : Bool) (h : decide (m = m' ∧ s = s') = b) (W : World) :
    (binOp .eql 32 (.agg #[.string m, .int .i64 s]) (.agg #[.string m', .int .i64 s'])).run Try.prog W = .ok (.bool b) W := by
  by_cases h1 : s = s'
  · by_cases h2 : m = m'
    · rw [h1, h2] at h
      simp at h
      subst h
      rw [h1, h2]
      simp [go_sem]
    · have h3 : ¬ m.toList = m'.toList := fun e => h2 (beq_toList e)
      simp [h1, h2] at h
      subst h
      rw [h1]
      simp [go_sem, h3]
  · simp [h1] at h
    subst h
    simp [go_sem, h1]
/-- leads: does a step's link lead to an entry? -/
def entAt (F : List Nd) (q : Nat) (m : ByteArray) (s : Int) : Bool := match F[q]? with
  | some x => decide (x.m = m ∧ x.s = s)
  | none => false
set_option maxRecDepth 100000 in
set_option maxHeartbeats 2000000 in
theorem leads_any (hw : Sk w F (lk0 F) ah n) (k q : Nat) (hk : k < 32) (hq : q < F.length) (hl : k < lev F q) (m : ByteArray) (s : Int) : Calls Try.prog 41 #[.agg #[adr F q, .int .i64 ((q : Int) - 1), .int .i64 k], .agg #[.string m, .int .i64 s]] w fun e w' => e = .returned (.bool (entAt F (nxt F k q) m s)) ∧ Below w.heap.size w w' := by
  obtain ⟨x, hx⟩ : ∃ x, F[q]? = some x := ⟨_, List.getElem?_eq_getElem hq⟩
  obtain ⟨A, hA, hN⟩ := hw.node q x hx
  rw [lev_some hx] at hl
  obtain ⟨l1, _⟩ := hN.link k hl
  have c1 := (hA.cell (3 + k * 2)).trans l1
  unfold lk0 at c1
  simp only at c1
  have hax := adr_some hx
  have HLK := fun w => Lib.hid (link_any x.b ((q : Int) - 1) k hk w)
  have hb1 : Below w.heap.size w ((w.alloc (.cells #[.pointer (some ⟨x.b, 0, none⟩), .int .i64 ((q : Int) - 1), .int .i64 k] 69)).alloc (.cells #[.string m, .int .i64 s] 32)) := ((Below.refl _ _).alloc (Nat.le_refl _) _).alloc (by simp) _
  have kE : Blk ((w.alloc (.cells #[.pointer (some ⟨x.b, 0, none⟩), .int .i64 ((q : Int) - 1), .int .i64 k] 69)).alloc (.cells #[.string m, .int .i64 s] 32)) (w.heap.size + 1) 32 #[.string m, .int .i64 s] := by
    have := Blk.new (w.alloc (.cells #[.pointer (some ⟨x.b, 0, none⟩), .int .i64 ((q : Int) - 1), .int .i64 k] 69)) 32 #[.string m, .int .i64 s]; simpa using this
  have HB1 := Lib.hid hb1
  have HE := Lib.hid kE
  have HA := Lib.hid hA
  rw [hax]
  by_cases hlast : nxt F k q < F.length
  · obtain ⟨y, hy⟩ : ∃ y, F[nxt F k q]? = some y := ⟨_, List.getElem?_eq_getElem hlast⟩
    obtain ⟨B, hB, hNB⟩ := hw.node _ y hy
    have d0 := (hB.cell 0).trans hNB.m
    have d1 := (hB.cell 1).trans hNB.s
    have hv : entAt F (nxt F k q) m s = decide (y.m = m ∧ y.s = s) := by unfold entAt; rw [hy]
    have HV := Lib.hid hv
    have HBB := Lib.hid hB
    rw [adr_some hy] at c1
    clear hw hx hA hN hl l1 hb1 kE hy hB hNB hv hax
    go_enter Try.func41, Try.ntmps41
    go_wp2_with fail
    refine (HLK _).out.mono ?_
    rintro e w2 ⟨rfl, hb2⟩
    have hb3 := HB1.out.trans (hb2.mono HB1.out.size)
    have c1' := (hb3.cell (p := ⟨x.b, 3 + k * 2, none⟩) HA.out.lt).trans c1
    have d0' := (hb3.cell (p := ⟨y.b, 0, none⟩) HBB.out.lt).trans d0
    have d1' := (hb3.cell (p := ⟨y.b, 1, none⟩) HBB.out.lt).trans d1
    obtain ⟨e0, e1, _, _⟩ := facts2 (HE.out.later hb2)
    have HB3 := Lib.hid hb3
    have heq := eq_ent y.m m y.s s _ rfl
    generalize decide (y.m = m ∧ y.s = s) = bb at *
    clear hb2 hb3 c1 d0 d1
    go_wp2_with fail
    go_quiet (fail)
    go_wp2
    go_ret
    refine ⟨?_, HB3.out.trans ((drewB _ _).mono HB3.out.size)⟩
    rw [HV.out]
    rfl
  · have hv : entAt F (nxt F k q) m s = false := by unfold entAt; rw [List.getElem?_eq_none (by omega)]
    have HV := Lib.hid hv
    rw [adr_none (F := F) (q := nxt F k q) (by omega)] at c1
    clear hw hx hA hN hl l1 hb1 kE hv hax
    go_enter Try.func41, Try.ntmps41
    go_wp2_with fail
    refine (HLK _).out.mono ?_
    rintro e w2 ⟨rfl, hb2⟩
    have hb3 := HB1.out.trans (hb2.mono HB1.out.size)
    have c1' := (hb3.cell (p := ⟨x.b, 3 + k * 2, none⟩) HA.out.lt).trans c1
    have HB3 := Lib.hid hb3
    clear hb2 hb3 c1
    go_wp2_with fail
    go_quiet (fail)
    go_wp2
    go_ret
    refine ⟨?_, HB3.out.trans ((drewB _ _).mono HB3.out.size)⟩
    rw [HV.out]
    rfl
end Go.Proofs.Ytidiaomeahoapaa
