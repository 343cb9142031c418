/- Texts of one kind in one: SkAsk, SkSeek, SkAt, SkRelink, SkSplit, SkOver. -/
import Derived.Test.YtpfoicpnpgojdaaGreatDoorQShelf01
import Derived.Lib.MinMaxS
import Derived.BigQuiet
import Derived.Deep.RegionHeld
/- What a search asks: of places, of entries. -/
namespace Go.Proofs.YtpfoicpnpgojdaaGreatDoor.Sk
open Go.RowKit Go.Shelf
attribute [local go_sem] Oper.semAt_some

/-- A world in which all is as it was in w1, and more may lie. -/
structure Ext (w1 : World) where
  w : World
  ok : Below w1.heap.size w1 w
theorem Ext.cell {w1 : World} (x : Ext w1) {b o : Nat} {v : Value} (h : w1.cell? ⟨b, o, none⟩ = some v) : x.w.cell? ⟨b, o, none⟩ = some v :=
  (x.ok.cell (p := ⟨b, o, none⟩) (World.block_lt_of_cell? w1 ⟨b, o, none⟩ h)).trans h
theorem Ext.one (w1 : World) : Nonempty (Ext w1) := ⟨⟨w1, Below.refl _ _⟩⟩
theorem region_ext {P : Program} {id : Nat} {Q : Exit → Act → World → Prop} {a : Act} {w1 w : World} {l : List Oper} (hm : P.follows .mixedOrders = true) (hB : Region.lexB .any l.toArray = true) (hw : Below w1.heap.size w1 w)
    (h : wpQuiet P l.toArray (fun W => ∃ x : Ext w1, W = x.w) (fun a' => ∀ w', (∃ x : Ext w1, w' = x.w) → Q .normal a' w') l a) : (Code.region id l.toArray true).wp P Q a w := by
  exact wp_region_quiet (C := fun W => ∃ x : Ext w1, W = x.w) hm hB ⟨⟨w.drew, hw.drew⟩, rfl⟩ h
theorem Ext.call {P : Program} {f : FuncId} {args : Array Value} {w1 : World} (x : Ext w1) {v : Value} (h : Calls P f args x.w fun e w' => e = .returned v ∧ Below x.w.heap.size x.w w') :
    Calls P f args x.w fun e w'' => e = .returned v ∧ ∃ y : Ext w1, w'' = y.w :=
  h.mono fun _ w' ⟨he, hb⟩ => ⟨he, ⟨w', x.ok.trans (hb.mono x.ok.size)⟩, rfl⟩

theorem facts2 {W : World} {b : Nat} {t : TypeId} {c0 c1 : Value} (h : Blk W b t #[c0, c1]) : W.cell? ⟨b, 0, none⟩ = some c0 ∧ W.cell? ⟨b, 1, none⟩ = some c1 ∧ W.frozen? ⟨b, 0, none⟩ = false ∧ W.frozen? ⟨b, 1, none⟩ = false :=
  ⟨h.cell 0, h.cell 1, h.free 0, h.free 1⟩
/-- Is an entry ahead of another one? -/
def lessE (m : ByteArray) (s : Int) (m' : ByteArray) (s' : Int) : Bool := decide (s < s' ∨ s = s' ∧ m.data.toList < m'.data.toList)
theorem bl_eq (a b : ByteArray) : Op.bytesLess a.toList b.toList = decide (a.data.toList < b.data.toList) := by
  rw [Lib.toList_data, Lib.toList_data, bytesLess_eq]

set_option maxRecDepth 100000 in
theorem less_any (m m' : ByteArray) (s s' : Int) (w : World) : Calls Tryz.prog 218 #[.agg #[.string m, .int .i64 s], .agg #[.string m', .int .i64 s']] w fun e w' => e = .returned (.bool (lessE m s m' s')) ∧ Below w.heap.size w w' := by
  have hb : Below w.heap.size w ((w.alloc (.cells #[.string m, .int .i64 s] 101)).alloc (.cells #[.string m', .int .i64 s'] 101)) := ((Below.refl _ _).alloc (Nat.le_refl _) _).alloc (by simp) _
  have HB := Lib.hid hb
  clear hb
  by_cases h : s = s'
  · have e1 : (s == s') = true := by simpa using h
    have e2 : (s != s') = false := by simpa using h
    have H := Lib.hid h
    clear h
    go_enter Tryz.func218, Tryz.ntmps218
    go_wp2
    go_ret
    refine ⟨congrArg (fun b => Ending.returned (.bool b)) ?_, HB.out⟩
    rw [bl_eq]
    have := H.out
    subst this
    simp [lessE]
  · have e1 : (s == s') = false := by simpa using h
    have e2 : (s != s') = true := by simpa using h
    go_enter Tryz.func218, Tryz.ntmps218
    go_wp2
    go_ret
    refine ⟨congrArg (fun b => Ending.returned (.bool b)) ?_, HB.out⟩
    simp [lessE, h]

variable {w : World} {F : List Nd} {ah : Nat → Value} {n : Int}
set_option maxRecDepth 100000 in
theorem asks_place (c : Nat) (place : Int) (hc : Blk w c 3 #[.int .i64 place]) (a : Nat) (ha : ∀ q, 0 < q → q < F.length → (((q : Int) - 1 < place) ↔ q ≤ a)) : Asks w F a 311 #[.pointer (some ⟨c, 0, none⟩)] := by
  refine ⟨enters_of Tryz.func311 (by kernel_rfl) rfl, fun k q W hk h0 hq hb => ?_⟩
  have k1 := hc.later hb
  obtain ⟨e0, e1⟩ := facts1 k1
  have z1 := k1.lt
  obtain ⟨x, hx⟩ : ∃ x, F[q]? = some x := ⟨_, List.getElem?_eq_getElem hq⟩
  have hax := adr_some hx
  have hqa := Lib.hid (ha q h0 hq)
  unfold stp
  rw [hax]
  clear hc ha h0 hq hb k1 hx hax
  go_enter Tryz.func311, Tryz.ntmps311
  go_wp2
  go_ret
  refine ⟨congrArg (fun b => Ending.returned (.bool b)) ?_, (Below.refl _ _).alloc (Nat.le_refl _) _⟩
  rw [decide_eq_decide]
  exact hqa.out
set_option maxRecDepth 100000 in
set_option maxHeartbeats 2000000 in
theorem asks_entry (c : Nat) (m : ByteArray) (s : Int) (hc : Blk w c 101 #[.string m, .int .i64 s]) (hw : Sk w F (lk0 F) ah n) (a : Nat) (ha : ∀ q x, 0 < q → F[q]? = some x → lessE x.m x.s m s = decide (q ≤ a)) : Asks w F a 217 #[.pointer (some ⟨c, 0, none⟩)] := by
  refine ⟨enters_of Tryz.func217 (by kernel_rfl) rfl, fun k q W hk h0 hq hb => ?_⟩
  have k1 := hc.later hb
  have hS := hw.later hb
  obtain ⟨x, hx⟩ : ∃ x, F[q]? = some x := ⟨_, List.getElem?_eq_getElem hq⟩
  obtain ⟨A, hA, hN⟩ := hS.node q x hx
  have hax := adr_some hx
  have hqa := Lib.hid (ha q x h0 hx)
  unfold stp
  rw [hax]
  have HL := fun w => Lib.hid (less_any x.m m x.s s w)
  obtain ⟨w1, hw1⟩ : ∃ w1, w1 = W.alloc (.cells #[.pointer (some ⟨x.b, 0, none⟩), .int .i64 ((q : Int) - 1), .int .i64 k] 301) := ⟨_, rfl⟩
  have hb1 : Below W.heap.size W w1 := by rw [hw1]; exact (Below.refl _ _).alloc (Nat.le_refl _) _
  have kB : Blk w1 W.heap.size 301 #[.pointer (some ⟨x.b, 0, none⟩), .int .i64 ((q : Int) - 1), .int .i64 k] := by rw [hw1]; exact Blk.new _ _ _
  have q0 := fun y : Ext w1 => y.cell (facts3 kB).1
  have q1 := fun y : Ext w1 => y.cell ((hA.later hb1).cell 0 |>.trans hN.m)
  have q2 := fun y : Ext w1 => y.cell ((hA.later hb1).cell 1 |>.trans hN.s)
  have q3 := fun y : Ext w1 => y.cell (facts2 (k1.later hb1)).1
  have q4 := fun y : Ext w1 => y.cell (facts2 (k1.later hb1)).2.1
  have HW := Lib.hid hw1
  have HB1 := Lib.hid hb1
  have hne := Ext.one w1
  clear hc hw ha h0 hq hb k1 hS hx hA hN hax hw1 hb1 kB
  go_enter Tryz.func217, Tryz.ntmps217
  go_wp2_with fail
  rw [← HW.out]
  refine region_ext (w1 := w1) (by kernel_rfl) (by kernel_rfl) (Below.refl _ _) ?_
  iterate 8 go_big_quiet_step ((go_at_call 218; exact Ext.call _ (HL _).out))
  refine wpQuiet_nil ?_
  rintro _ ⟨y, rfl⟩
  go_wp2_with fail
  go_ret
  refine ⟨?_, HB1.out.trans (y.ok.mono HB1.out.size)⟩
  rw [← hqa.out]
  rfl
end Go.Proofs.YtpfoicpnpgojdaaGreatDoor.Sk
/- The ways to places and to entries; Seek, At, Len. -/
namespace Go.Proofs.YtpfoicpnpgojdaaGreatDoor.Sk
open Go.RowKit Go.Shelf
attribute [local go_sem] Oper.semAt_some

variable {w : World} {F : List Nd} {ah : Nat → Value} {n : Int}
set_option maxRecDepth 100000 in
set_option maxHeartbeats 2000000 in
theorem toPlace_any (p : Nat) (L : List Nd) (hF : F = hd p :: L) (hw : Sk w F (lk0 F) ah n) (hN : F.length ≤ 1000000) (a : Nat) (ha : a < F.length) :
    Calls Tryz.prog 305 #[.pointer (some ⟨p, 0, none⟩), .int .i64 a] w fun e w' => e = .returned (.agg (wayA F a)) ∧ Below w.heap.size w w' := by
  have hz := zero71
  have hzs := zW_size
  generalize zW = zw at *
  have hb1 : Below w.heap.size w ((w.alloc (.cells #[.int .i64 a] 3)).alloc (.cells zw 303)) := ((Below.refl _ _).alloc (Nat.le_refl _) _).alloc (by simp) _
  have kC : Blk ((w.alloc (.cells #[.int .i64 a] 3)).alloc (.cells zw 303)) w.heap.size 3 #[.int .i64 a] := (Blk.new _ _ _).alloc _
  have kR : Blk ((w.alloc (.cells #[.int .i64 a] 3)).alloc (.cells zw 303)) (w.heap.size + 1) 303 zw := by have := Blk.new (w.alloc (.cells #[.int .i64 a] 3)) 303 zw; simpa using this
  have hasks := asks_place (F := F) w.heap.size a kC a (fun q h1 h2 => by omega)
  have HD := Lib.hid (down_any p L F hF ah n _ (hw.later hb1) hN a ha 311 _ hasks)
  have HB1 := Lib.hid hb1
  have HR := Lib.hid kR
  have hw1 := wayA_size F a
  have hw2 := way_one F a
  generalize wayA F a = WA at *
  clear hb1 kC kR hasks hw hF
  go_enter Tryz.func305, Tryz.ntmps305
  go_wp2_with fail
  rename_i Kk hKk
  refine HD.out.mono ?_
  rintro e w2 ⟨rfl, hb2⟩
  have k2 := HR.out.later hb2
  have hb3 := HB1.out.trans (hb2.mono HB1.out.size)
  clear hb2
  refine hKk _ _ ?_
  refine wpList_plain rfl ?_
  intro K2 hK2
  refine wp_store71 _ _ rfl _ rfl rfl k2 hzs hw1 hw2 ?_
  refine hK2 _ _ ?_
  have k3 := k2.setRow WA
  go_wp2_with fail
  refine bodyPost_ret (results_cell Tryz.results305 (b := ⟨w.heap.size + 1, 0, none⟩) rfl (loadVar71 k3 hw1)) rfl ?_
  refine ⟨rfl, hb3.os, hb3.tape, hb3.output, by rw [setRow_size]; exact hb3.size, fun q hq => (setRow_other _ (by omega)).trans (hb3.block q hq)⟩

set_option maxRecDepth 100000 in
set_option maxHeartbeats 2000000 in
theorem toEntry_any (p : Nat) (L : List Nd) (hF : F = hd p :: L) (hw : Sk w F (lk0 F) ah n) (hN : F.length ≤ 1000000) (m : ByteArray) (s : Int) (a : Nat) (ha : a < F.length) (hq : ∀ q x, 0 < q → F[q]? = some x → lessE x.m x.s m s = decide (q ≤ a)) :
    Calls Tryz.prog 195 #[.pointer (some ⟨p, 0, none⟩), .agg #[.string m, .int .i64 s]] w fun e w' => e = .returned (.agg (wayA F a)) ∧ Below w.heap.size w w' := by
  have hz := zero71
  have hzs := zW_size
  generalize zW = zw at *
  have hb1 : Below w.heap.size w ((w.alloc (.cells #[.string m, .int .i64 s] 101)).alloc (.cells zw 303)) := ((Below.refl _ _).alloc (Nat.le_refl _) _).alloc (by simp) _
  have kC : Blk ((w.alloc (.cells #[.string m, .int .i64 s] 101)).alloc (.cells zw 303)) w.heap.size 101 #[.string m, .int .i64 s] := (Blk.new _ _ _).alloc _
  have kR : Blk ((w.alloc (.cells #[.string m, .int .i64 s] 101)).alloc (.cells zw 303)) (w.heap.size + 1) 303 zw := by have := Blk.new (w.alloc (.cells #[.string m, .int .i64 s] 101)) 303 zw; simpa using this
  have hasks := asks_entry (F := F) w.heap.size m s kC (hw.later hb1) a hq
  have HD := Lib.hid (down_any p L F hF ah n _ (hw.later hb1) hN a ha 217 _ hasks)
  have HB1 := Lib.hid hb1
  have HR := Lib.hid kR
  have hw1 := wayA_size F a
  have hw2 := way_one F a
  generalize wayA F a = WA at *
  clear hb1 kC kR hasks hw hF hq
  go_enter Tryz.func195, Tryz.ntmps195
  go_wp2_with fail
  rename_i Kk hKk
  refine HD.out.mono ?_
  rintro e w2 ⟨rfl, hb2⟩
  have k2 := HR.out.later hb2
  have hb3 := HB1.out.trans (hb2.mono HB1.out.size)
  clear hb2
  refine hKk _ _ ?_
  refine wpList_plain rfl ?_
  intro K2 hK2
  refine wp_store71 _ _ rfl _ rfl rfl k2 hzs hw1 hw2 ?_
  refine hK2 _ _ ?_
  have k3 := k2.setRow WA
  go_wp2_with fail
  refine bodyPost_ret (results_cell Tryz.results195 (b := ⟨w.heap.size + 1, 0, none⟩) rfl (loadVar71 k3 hw1)) rfl ?_
  refine ⟨rfl, hb3.os, hb3.tape, hb3.output, by rw [setRow_size]; exact hb3.size, fun q hq => (setRow_other _ (by omega)).trans (hb3.block q hq)⟩

/-- Len. -/
theorem len_nil (w : World) : Calls Tryz.prog 299 #[.pointer none] w fun e w' => e = .returned (.int .i64 0) ∧ w' = w := by
  go_enter Tryz.func299, Tryz.ntmps299
  go_wp2
  go_ret
  exact ⟨rfl, rfl⟩
theorem len_any (p : Nat) (L : List Nd) (hF : F = hd p :: L) (hw : Sk w F (lk0 F) ah n) : Calls Tryz.prog 299 #[.pointer (some ⟨p, 0, none⟩)] w fun e w' => e = .returned (.int .i64 n) ∧ w' = w := by
  obtain ⟨A, hA, hN⟩ := hw.node 0 (hd p) (by rw [hF]; rfl)
  have e0 := (hA.cell 67).trans (hN.n rfl)
  have e1 : w.cell? ⟨p, 67, none⟩ = some (.int .i64 n) := e0
  clear hA hN hw hF e0
  go_enter Tryz.func299, Tryz.ntmps299
  go_wp2
  go_ret
  exact ⟨rfl, rfl⟩
theorem part_nil (f t : Int) (w : World) : Calls Tryz.prog 309 #[.pointer none, .int .i64 f, .int .i64 t] w fun e w' => e = .returned (.tuple #[.int .i64 (max f 0), .int .i64 (min t 0)]) ∧ w' = w := by
  have HL := fun w => Lib.hid (len_nil w)
  go_enter Tryz.func309, Tryz.ntmps309
  go_wp2_with fail
  refine (HL _).out.mono ?_
  rintro e w1 ⟨rfl, rfl⟩
  go_wp2
  go_returns
  exact ⟨rfl, rfl⟩
theorem part_any (p : Nat) (L : List Nd) (hF : F = hd p :: L) (hw : Sk w F (lk0 F) ah n) (f t : Int) : Calls Tryz.prog 309 #[.pointer (some ⟨p, 0, none⟩), .int .i64 f, .int .i64 t] w fun e w' => e = .returned (.tuple #[.int .i64 (max f 0), .int .i64 (min t n)]) ∧ w' = w := by
  have HL := Lib.hid (len_any p L hF hw)
  clear hF hw
  go_enter Tryz.func309, Tryz.ntmps309
  go_wp2_with fail
  refine HL.out.mono ?_
  rintro e w1 ⟨rfl, rfl⟩
  go_wp2
  go_returns
  exact ⟨rfl, rfl⟩

theorem beq_toList {a b : ByteArray} (h : a.toList = b.toList) : a = b := by
  have h1 : a.data.toList = b.data.toList := by rw [← Lib.toList_data, ← Lib.toList_data]; exact h
  cases a; cases b
  simp at h1
  rw [h1]
theorem eq_ent (m m' : ByteArray) (s s' : Int) (b : Bool) (h : decide (m = m' ∧ s = s') = b) (W : World) :
    (binOp .eql 101 (.agg #[.string m, .int .i64 s]) (.agg #[.string m', .int .i64 s'])).run Tryz.prog W = .ok (.bool b) W := by
  by_cases h1 : s = s'
  · by_cases h2 : m = m'
    · rw [h1, h2] at h
      simp at h
      subst h
      rw [h1, h2]
      simp [go_sem]
    · have h3 : ¬ m.toList = m'.toList := fun e => h2 (beq_toList e)
      simp [h1, h2] at h
      subst h
      rw [h1]
      simp [go_sem, h3]
  · simp [h1] at h
    subst h
    simp [go_sem, h1]
/-- leads: does a step's link lead to an entry? -/
def entAt (F : List Nd) (q : Nat) (m : ByteArray) (s : Int) : Bool := match F[q]? with
  | some x => decide (x.m = m ∧ x.s = s)
  | none => false
set_option maxRecDepth 100000 in
set_option maxHeartbeats 2000000 in
theorem leads_any (hw : Sk w F (lk0 F) ah n) (k q : Nat) (hk : k < 32) (hq : q < F.length) (hl : k < lev F q) (m : ByteArray) (s : Int) : Calls Tryz.prog 196 #[.agg #[adr F q, .int .i64 ((q : Int) - 1), .int .i64 k], .agg #[.string m, .int .i64 s]] w fun e w' => e = .returned (.bool (entAt F (nxt F k q) m s)) ∧ Below w.heap.size w w' := by
  obtain ⟨x, hx⟩ : ∃ x, F[q]? = some x := ⟨_, List.getElem?_eq_getElem hq⟩
  obtain ⟨A, hA, hN⟩ := hw.node q x hx
  rw [lev_some hx] at hl
  obtain ⟨l1, _⟩ := hN.link k hl
  have c1 := (hA.cell (3 + k * 2)).trans l1
  unfold lk0 at c1
  simp only at c1
  have hax := adr_some hx
  have HLK := fun w => Lib.hid (link_any x.b ((q : Int) - 1) k hk w)
  have hb1 : Below w.heap.size w ((w.alloc (.cells #[.pointer (some ⟨x.b, 0, none⟩), .int .i64 ((q : Int) - 1), .int .i64 k] 301)).alloc (.cells #[.string m, .int .i64 s] 101)) := ((Below.refl _ _).alloc (Nat.le_refl _) _).alloc (by simp) _
  have kE : Blk ((w.alloc (.cells #[.pointer (some ⟨x.b, 0, none⟩), .int .i64 ((q : Int) - 1), .int .i64 k] 301)).alloc (.cells #[.string m, .int .i64 s] 101)) (w.heap.size + 1) 101 #[.string m, .int .i64 s] := by
    have := Blk.new (w.alloc (.cells #[.pointer (some ⟨x.b, 0, none⟩), .int .i64 ((q : Int) - 1), .int .i64 k] 301)) 101 #[.string m, .int .i64 s]; simpa using this
  have HB1 := Lib.hid hb1
  have HE := Lib.hid kE
  have HA := Lib.hid hA
  rw [hax]
  by_cases hlast : nxt F k q < F.length
  · obtain ⟨y, hy⟩ : ∃ y, F[nxt F k q]? = some y := ⟨_, List.getElem?_eq_getElem hlast⟩
    obtain ⟨B, hB, hNB⟩ := hw.node _ y hy
    have d0 := (hB.cell 0).trans hNB.m
    have d1 := (hB.cell 1).trans hNB.s
    have hv : entAt F (nxt F k q) m s = decide (y.m = m ∧ y.s = s) := by unfold entAt; rw [hy]
    have HV := Lib.hid hv
    have HBB := Lib.hid hB
    rw [adr_some hy] at c1
    clear hw hx hA hN hl l1 hb1 kE hy hB hNB hv hax
    go_enter Tryz.func196, Tryz.ntmps196
    go_wp2_with fail
    refine (HLK _).out.mono ?_
    rintro e w2 ⟨rfl, hb2⟩
    have hb3 := HB1.out.trans (hb2.mono HB1.out.size)
    have c1' := (hb3.cell (p := ⟨x.b, 3 + k * 2, none⟩) HA.out.lt).trans c1
    have d0' := (hb3.cell (p := ⟨y.b, 0, none⟩) HBB.out.lt).trans d0
    have d1' := (hb3.cell (p := ⟨y.b, 1, none⟩) HBB.out.lt).trans d1
    obtain ⟨e0, e1, _, _⟩ := facts2 (HE.out.later hb2)
    have HB3 := Lib.hid hb3
    have heq := eq_ent y.m m y.s s _ rfl
    generalize decide (y.m = m ∧ y.s = s) = bb at *
    clear hb2 hb3 c1 d0 d1
    go_wp2_with fail
    go_quiet (fail)
    go_wp2
    go_ret
    refine ⟨?_, HB3.out.trans ((drewB _ _).mono HB3.out.size)⟩
    rw [HV.out]
    rfl
  · have hv : entAt F (nxt F k q) m s = false := by unfold entAt; rw [List.getElem?_eq_none (by omega)]
    have HV := Lib.hid hv
    rw [adr_none (F := F) (q := nxt F k q) (by omega)] at c1
    clear hw hx hA hN hl l1 hb1 kE hv hax
    go_enter Tryz.func196, Tryz.ntmps196
    go_wp2_with fail
    refine (HLK _).out.mono ?_
    rintro e w2 ⟨rfl, hb2⟩
    have hb3 := HB1.out.trans (hb2.mono HB1.out.size)
    have c1' := (hb3.cell (p := ⟨x.b, 3 + k * 2, none⟩) HA.out.lt).trans c1
    have HB3 := Lib.hid hb3
    clear hb2 hb3 c1
    go_wp2_with fail
    go_quiet (fail)
    go_wp2
    go_ret
    refine ⟨?_, HB3.out.trans ((drewB _ _).mono HB3.out.size)⟩
    rw [HV.out]
    rfl
end Go.Proofs.YtpfoicpnpgojdaaGreatDoor.Sk
/- Seek, At. -/
namespace Go.Proofs.YtpfoicpnpgojdaaGreatDoor.Sk
open Go.RowKit Go.Shelf
attribute [local go_sem] Oper.semAt_some

theorem info148 : (Tryz.prog.info? 301).map (·.size) = some 3 := by kernel_rfl
theorem index71 (F : List Nd) (a : Nat) (W : World) : (Instr.index 303 (.agg (wayA F a)) (.int .i64 0)).run Tryz.prog W = .ok (.agg (boxQ F 0 (last F 0 a))) W := by
  have he : (wayA F a).extract 0 3 = boxQ F 0 (last F 0 a) := by
    apply Array.ext_getElem?
    intro i
    rw [Array.getElem?_extract]
    by_cases hi : i < 3
    · have := wayA_at F a 0 i (by decide) hi
      simp at this
      simp [hi, this, wayA_size]
    · rw [if_neg (by simp [wayA_size]; omega), Array.getElem?_eq_none (by simp [boxQ]; omega)]
  have h69 : ∀ w, (isAgg 301).run Tryz.prog w = .ok true w := fun w => by
    unfold isAgg
    rw [Sem.run_bind, run_underlying (show Tryz.prog.underlying 301 = some _ from Tryz.underlying301) w]
    rfl
  cases hq : Tryz.prog.info? 301 with
  | none => have := info148; simp [hq] at this
  | some i =>
    have hs : i.size = 3 := by have := info148; simpa [hq] using this
    unfold Instr.index
    simp [asIntOf, Sem.run_bind, run_underlying under71, part, h69, sizeOf, typeInfo, hq, hs, he]

variable {w : World} {F : List Nd} {ah : Nat → Value} {n : Int}
theorem lev_pos (hw : Sk w F (lk0 F) ah n) (i : Nat) (hi : i < F.length) : 0 < lev F i := by
  rw [lev_some (List.getElem?_eq_getElem hi)]
  exact (hw.lev i _ (List.getElem?_eq_getElem hi)).1
theorem nxt_zero (hp : ∀ i, i < F.length → 0 < lev F i) (q : Nat) (hq : q < F.length) : nxt F 0 q = q + 1 :=
  nxt_unique hq (by omega) (by omega) (fun i h1 h2 => by omega) (fun h => hp _ h)

theorem seek_nil (m : ByteArray) (s : Int) (w : World) : Calls Tryz.prog 308 #[.pointer none, .agg #[.string m, .int .i64 s]] w fun e w' => e = .returned (.tuple #[.int .i64 0, .bool false]) ∧ Below w.heap.size w w' := by
  go_enter Tryz.func308, Tryz.ntmps308
  go_wp2
  go_returns
  exact ⟨rfl, (Below.refl _ _).alloc (Nat.le_refl _) _⟩

set_option maxRecDepth 100000 in
set_option maxHeartbeats 2000000 in
theorem seek_any (p : Nat) (L : List Nd) (hF : F = hd p :: L) (hw : Sk w F (lk0 F) ah n) (hN : F.length ≤ 1000000) (m : ByteArray) (s : Int) (a : Nat) (ha : a < F.length) (hq : ∀ q x, 0 < q → F[q]? = some x → lessE x.m x.s m s = decide (q ≤ a)) :
    Calls Tryz.prog 308 #[.pointer (some ⟨p, 0, none⟩), .agg #[.string m, .int .i64 s]] w fun e w' => e = .returned (.tuple #[.int .i64 a, .bool (entAt F (a + 1) m s)]) ∧ Below w.heap.size w w' := by
  have hp := lev_pos hw
  have hla := last_zero F hp a ha
  have hnx := nxt_zero hp a ha
  have hix := index71 F a
  rw [hla] at hix
  have hb1 : Below w.heap.size w (w.alloc (.cells #[.string m, .int .i64 s] 101)) := (Below.refl _ _).alloc (Nat.le_refl _) _
  have kE : Blk (w.alloc (.cells #[.string m, .int .i64 s] 101)) w.heap.size 101 #[.string m, .int .i64 s] := Blk.new _ _ _
  have HT := Lib.hid (toEntry_any p L hF (hw.later hb1) hN m s a ha hq)
  obtain ⟨x, hx⟩ : ∃ x, F[a]? = some x := ⟨_, List.getElem?_eq_getElem ha⟩
  have hax := adr_some hx
  have HLD := fun (W : World) (hb : Below w.heap.size w W) => Lib.hid (leads_any (hw.later hb) 0 a (by decide) ha (hp a ha) m s)
  rw [hnx] at HLD
  unfold boxQ at hix
  have h00 : ((0 : Nat) : Int) = 0 := rfl
  simp only [hax, h00] at HLD hix
  clear h00
  have HB1 := Lib.hid hb1
  have HE := Lib.hid kE
  generalize wayA F a = WA at *
  generalize entAt F (a + 1) m s = bb at *
  have hN2 : (a : Int) ≤ 1000000 := by omega
  clear hb1 kE hw hF hq hp hla hnx hx hax ha hN
  go_enter Tryz.func308, Tryz.ntmps308
  go_wp2_with fail
  refine HT.out.mono ?_
  rintro e w2 ⟨rfl, hb2⟩
  have e0 := (facts2 (HE.out.later hb2)).1
  have e1 := (facts2 (HE.out.later hb2)).2.1
  have hb3 := HB1.out.trans (hb2.mono HB1.out.size)
  have hlt := (HE.out.later hb2).lt
  have kS := Blk.new w2 301 #[.pointer (some ⟨x.b, 0, none⟩), .int .i64 ((a : Int) - 1), .int .i64 0]
  have hb4 : Below w2.heap.size w2 (w2.alloc (.cells #[.pointer (some ⟨x.b, 0, none⟩), .int .i64 ((a : Int) - 1), .int .i64 0] 301)) := (Below.refl _ _).alloc (Nat.le_refl _) _
  have kE2 := (HE.out.later hb2).later hb4
  have hbw := hb3.trans (hb4.mono hb3.size)
  have HBW := Lib.hid hbw
  obtain ⟨w3, hw3⟩ : ∃ w3, w3 = w2.alloc (.cells #[.pointer (some ⟨x.b, 0, none⟩), .int .i64 ((a : Int) - 1), .int .i64 0] 301) := ⟨_, rfl⟩
  have HW3 := Lib.hid hw3
  rw [← hw3] at kS kE2 HBW
  have q0 := fun y : Ext w3 => y.cell (facts3 kS).1
  have q1 := fun y : Ext w3 => y.cell (facts3 kS).2.1
  have q2 := fun y : Ext w3 => y.cell (facts3 kS).2.2.1
  have q3 := fun y : Ext w3 => y.cell (facts2 kE2).1
  have q4 := fun y : Ext w3 => y.cell (facts2 kE2).2.1
  have HLD3 := fun y : Ext w3 => HLD y.w (HBW.out.trans (y.ok.mono HBW.out.size))
  have hne := Ext.one w3
  clear hb2 hb3 hb4 hbw hw3 kS kE2 HLD
  go_wp2_with fail
  rw [← HW3.out]
  refine region_ext (w1 := w3) (by kernel_rfl) (by kernel_rfl) (Below.refl _ _) ?_
  iterate 8 go_big_quiet_step ((go_at_call 196; exact Ext.call _ (HLD3 _).out))
  refine wpQuiet_nil ?_
  rintro _ ⟨y, rfl⟩
  go_wp2_with fail
  go_returns
  exact ⟨rfl, HBW.out.trans (y.ok.mono HBW.out.size)⟩

/-- At. -/
theorem zero32 (w : World) : (zeroValue 101).run Tryz.prog w = .ok (.agg #[.string ⟨#[]⟩, .int .i64 0]) w := (zero_of_info (n := 2) (by kernel_rfl)).1 w
set_option maxRecDepth 100000 in
theorem at_out (p : Option Addr) (v : Int) (w : World) (k : Int) (hl : ∀ w', Below w.heap.size w w' → Calls Tryz.prog 299 #[.pointer p] w' fun e w'' => e = .returned (.int .i64 k) ∧ w'' = w') (hv : v < 0 ∨ k ≤ v) :
    Calls Tryz.prog 296 #[.pointer p, .int .i64 v] w fun e w' => e = .returned (.tuple #[.agg #[.string ⟨#[]⟩, .int .i64 0], .bool false]) ∧ Below w.heap.size w w' := by
  have hb1 : Below w.heap.size w (w.alloc (.cells #[.string ⟨#[]⟩, .int .i64 0] 101)) := (Below.refl _ _).alloc (Nat.le_refl _) _
  have HL := Lib.hid (hl _ hb1)
  have HB := Lib.hid hb1
  clear hl hb1
  by_cases h0 : v < 0
  · clear hv
    go_enter Tryz.func296, Tryz.ntmps296
    go_wp2
    go_returns
    exact ⟨rfl, HB.out⟩
  · have hk : k ≤ v := by omega
    clear hv
    go_enter Tryz.func296, Tryz.ntmps296
    go_wp2_with fail
    refine HL.out.mono ?_
    rintro e w1 ⟨rfl, rfl⟩
    go_wp2
    go_returns
    exact ⟨rfl, HB.out⟩

set_option maxRecDepth 100000 in
set_option maxHeartbeats 2000000 in
theorem at_any (p : Nat) (L : List Nd) (hF : F = hd p :: L) (hw : Sk w F (lk0 F) ah n) (hn : n = L.length) (hN : F.length ≤ 1000000) (a : Nat) (x : Nd) (hx : L[a]? = some x) :
    Calls Tryz.prog 296 #[.pointer (some ⟨p, 0, none⟩), .int .i64 a] w fun e w' => e = .returned (.tuple #[.agg #[.string x.m, .int .i64 x.s], .bool true]) ∧ Below w.heap.size w w' := by
  have hp := lev_pos hw
  have haL : a < L.length := (List.getElem?_eq_some_iff.1 hx).1
  have hFl : F.length = L.length + 1 := by rw [hF]; rfl
  have ha : a < F.length := by omega
  have hla := last_zero F hp a ha
  have hnx := nxt_zero hp a ha
  have hix := index71 F a
  rw [hla] at hix
  have hb1 : Below w.heap.size w (w.alloc (.cells #[.string ⟨#[]⟩, .int .i64 0] 101)) := (Below.refl _ _).alloc (Nat.le_refl _) _
  have kR : Blk (w.alloc (.cells #[.string ⟨#[]⟩, .int .i64 0] 101)) w.heap.size 101 #[.string ⟨#[]⟩, .int .i64 0] := Blk.new _ _ _
  have HL := Lib.hid (len_any p L hF (hw.later hb1))
  have HT := Lib.hid (toPlace_any p L hF (hw.later hb1) hN a ha)
  obtain ⟨y, hy⟩ : ∃ y, F[a]? = some y := ⟨_, List.getElem?_eq_getElem ha⟩
  have hay := adr_some hy
  have hxF : F[a + 1]? = some x := by rw [hF]; simpa using hx
  obtain ⟨A, hA, hNA⟩ := hw.node _ y hy
  obtain ⟨B, hB, hNB⟩ := hw.node _ x hxF
  have c0 := (hA.cell 3).trans (hNA.link 0 (hw.lev _ _ hy).1).1
  unfold lk0 at c0
  rw [hnx, adr_some hxF] at c0
  have d0 := (hB.cell 0).trans hNB.m
  have d1 := (hB.cell 1).trans hNB.s
  have HLK := fun w => Lib.hid (link_any y.b ((a : Int) - 1) 0 (by decide) w)
  unfold boxQ at hix
  have h00 : ((0 : Nat) : Int) = 0 := rfl
  simp only [hay, h00] at HLK hix
  clear h00
  have HB1 := Lib.hid hb1
  have HR := Lib.hid kR
  have HA := Lib.hid hA
  have HB := Lib.hid hB
  have han : (a : Int) < n := by omega
  generalize wayA F a = WA at *
  clear hb1 kR hw hF hp hla hnx hx hy hay ha hN hFl haL hxF hA hNA hB hNB hn
  go_enter Tryz.func296, Tryz.ntmps296
  go_wp2_with fail
  refine HL.out.mono ?_
  rintro e w1 ⟨rfl, rfl⟩
  go_wp2_with fail
  refine HT.out.mono ?_
  rintro e w2 ⟨rfl, hb2⟩
  have hb3 := HB1.out.trans (hb2.mono HB1.out.size)
  have HB3 := Lib.hid hb3
  have kR2 := Lib.hid (HR.out.later hb2)
  clear hb2 hb3
  go_wp2_with fail
  refine (HLK _).out.mono ?_
  rintro e w3 ⟨rfl, hb2⟩
  have hb3 := HB3.out.trans (hb2.mono HB3.out.size)
  have c0' := (hb3.cell (p := ⟨y.b, 3, none⟩) HA.out.lt).trans c0
  have d0' := (hb3.cell (p := ⟨x.b, 0, none⟩) HB.out.lt).trans d0
  have d1' := (hb3.cell (p := ⟨x.b, 1, none⟩) HB.out.lt).trans d1
  obtain ⟨e0, e1, e2, e3⟩ := facts2 (kR2.out.later hb2)
  have HB4 := Lib.hid hb3
  have kR3 := Lib.hid (kR2.out.later hb2)
  clear hb2 hb3 c0 d0 d1
  go_wp2
  have g0 := (kR3.out.set 0 (.string x.m)).cell 0
  have g1 := ((kR3.out.set 0 (.string x.m)).set 1 (.int .i64 x.s)).cell 1
  simp at g0 g1
  refine bodyPost_ret (v := .tuple #[.agg #[.string x.m, .int .i64 x.s], .bool true]) (by simp [results, Tryz.results296, go_sem, g0, g1]) rfl ?_
  refine ⟨rfl, ?_⟩
  have hb4 := HB4.out
  exact ⟨hb4.os, hb4.tape, hb4.output, by simpa [World.setCell] using hb4.size, fun q hq => (Below.heap_setCell _ _ _ _ (Nat.ne_of_lt hq)).trans ((Below.heap_setCell _ _ _ _ (Nat.ne_of_lt hq)).trans (hb4.block q hq))⟩
end Go.Proofs.YtpfoicpnpgojdaaGreatDoor.Sk
/- relink: the links of levels are laid anew, each as a closure says. -/
namespace Go.Proofs.YtpfoicpnpgojdaaGreatDoor.Sk
open Go.RowKit Go.Shelf
attribute [local go_sem] Oper.semAt_some

/-- What a closure does with a level's link. -/
structure Links (F : List Nd) (a wb k0 N : Nat) (G : Nat) (caps : Array Value) (Inv : Nat → World → Prop) : Prop where
  enter : ∀ args w, (callFunc G args).run Tryz.prog w = .ok (.enter G args) w
  stable : ∀ k W W', Inv k W → Below W.heap.size W W' → Inv k W'
  way : ∀ k W, Inv k W → Blk W wb 303 (wayA F a)
  call : ∀ k W x, k0 ≤ k → k < k0 + N → Inv k W → F[last F k a]? = some x → Calls Tryz.prog G (#[.agg #[.pointer (some ⟨x.b, 0, none⟩), .int .i64 ((last F k a : Int) - 1), .int .i64 k]] ++ caps) W fun e w' =>
    ∃ nv ps u1 u2, e = .returned (.agg #[.pointer nv, .int .i64 ps]) ∧ w'.cell? ⟨x.b, 3 + k * 2, none⟩ = some u1 ∧ w'.cell? ⟨x.b, 3 + k * 2 + 1, none⟩ = some u2 ∧ w'.frozen? ⟨x.b, 3 + k * 2, none⟩ = false ∧ w'.frozen? ⟨x.b, 3 + k * 2 + 1, none⟩ = false ∧
      Inv (k + 1) ((w'.setCell ⟨x.b, 3 + k * 2, none⟩ (.pointer nv)).setCell ⟨x.b, 3 + k * 2 + 1, none⟩ (.int .i64 ps)) ∧ W.heap.size ≤ w'.heap.size

set_option maxRecDepth 100000 in
set_option maxHeartbeats 4000000 in
theorem relink_any {F : List Nd} {a wb k0 N : Nat} {G : Nat} {caps : Array Value} {Inv : Nat → World → Prop} (h : Links F a wb k0 N G caps Inv) (hF : ∀ k, k < 32 → last F k a < F.length) (hk : k0 + N ≤ 32) (cap : Nat) (w : World) (h0 : Inv k0 w) :
    Calls Tryz.prog 222 #[.func (.func G) #[] caps, .slice (some ⟨wb, k0 * 3, none⟩) N cap] w fun e w' => e = .returned (.tuple #[]) ∧ Inv (k0 + N) w' := by
  have HH := Lib.hid h
  have HFL := Lib.hid hF
  have henter := h.enter
  have HLK := fun b q k hk w => Lib.hid (link_any b q k hk w)
  have H0 := Lib.hid h0
  clear h hF h0
  have hN32 : (N : Int) ≤ 32 := by omega
  go_enter Tryz.func222, Tryz.ntmps222
  go_wp2
  go_loopw [8] (fun i wr => ∃ (k : Nat), i = .int .i64 k ∧ k ≤ N ∧ Inv (k0 + k) wr) (fun i _ => N - (intOf i).toNat)
  case atStart => exact ⟨0, rfl, by omega, H0.out⟩
  case round =>
    obtain ⟨k, rfl, hkN, hI⟩ := hrel
    by_cases hlt : k < N
    · have hwy := HH.out.way _ _ hI
      obtain ⟨c0, c1, c2⟩ := way_cells F a (k0 + k) (by omega)
      have e0 := (hwy.cell _).trans c0
      have e1 := (hwy.cell _).trans c1
      have e2 := (hwy.cell _).trans c2
      obtain ⟨x, hx⟩ : ∃ x, F[last F (k0 + k) a]? = some x := ⟨_, List.getElem?_eq_getElem (HFL.out _ (by omega))⟩
      rw [adr_some hx] at e0
      rw [show (k0 + k) * 3 = k0 * 3 + k * 3 by omega] at e0 e1 e2
      have HI := Lib.hid hI
      have HX := Lib.hid hx
      clear hI hx c0 c1 c2 hwy
      have HL2 := fun w => HLK x.b ((last F (k0 + k) a : Int) - 1) (k0 + k) (by omega) w
      have HC := fun (W : World) (hb : Below wr.heap.size wr W) => Lib.hid (HH.out.call (k0 + k) W x (by omega) (by omega) (HH.out.stable _ _ _ HI.out hb) HX.out)
      rw [Int.natCast_add] at HL2 HC
      have kb := Blk.new wr 301 #[.pointer (some ⟨x.b, 0, none⟩), .int .i64 ((last F (k0 + k) a : Int) - 1), .int .i64 ((k0 : Int) + k)]
      have hbw : Below wr.heap.size wr (wr.alloc (.cells #[.pointer (some ⟨x.b, 0, none⟩), .int .i64 ((last F (k0 + k) a : Int) - 1), .int .i64 ((k0 : Int) + k)] 301)) := (Below.refl _ _).alloc (Nat.le_refl _) _
      have KB := Lib.hid kb
      have HBW := Lib.hid hbw
      clear kb hbw HLK
      go_wp2_with fail
      go_region_with ((first
        | (go_at_call 219
           refine (HL2 _).out.mono ?_
           rintro e w2 ⟨rfl, hb2⟩
           have hb3 := HBW.out.trans (((drewB _ 1).trans hb2).mono HBW.out.size)
           have HCC := HC w2 hb3
           obtain ⟨f0, f1, f2, f3, f4, f5⟩ := facts3 (KB.out.later ((drewB _ 1).trans hb2))
           clear hb2)
        | (refine HCC.out.mono ?_
           rintro e w5 ⟨nv, ps, u1, u2, rfl, c1, c2, d1, d2, hI2, hz⟩
           have HI2 := Lib.hid hI2
           clear hI2)))
      all_goals (
        go_wp2
        exact ⟨⟨k + 1, by go_num, hlt, HI2.out⟩, by simp [intOf]; omega⟩)
    · obtain rfl : k = N := by omega
      go_wp2
      go_returns
      exact ⟨rfl, hI⟩
end Go.Proofs.YtpfoicpnpgojdaaGreatDoor.Sk
/- The closures that lay links: split, pass, over. -/
namespace Go.Proofs.YtpfoicpnpgojdaaGreatDoor.Sk
open Go.RowKit Go.Shelf
attribute [local go_sem] Oper.semAt_some

theorem size58 : (Tryz.prog.info? 272).map (·.size) = some 2 := by kernel_rfl
theorem loadVar58 {W : World} {b : Nat} {v0 v1 : Value} (h : Blk W b 272 #[v0, v1]) : (loadVar 272 ⟨b, 0, none⟩).run Tryz.prog W = .ok (.agg #[v0, v1]) W :=
  run_loadVar_row _ _ 272 272 #[v0, v1] (0, 0) _ h Tryz.underlying272 rfl size58
theorem below_set2 {w W : World} (h : Below w.heap.size w W) (b o1 o2 : Nat) (v1 v2 : Value) (hb : w.heap.size ≤ b) : Below w.heap.size w ((W.setCell ⟨b, o1, none⟩ v1).setCell ⟨b, o2, none⟩ v2) :=
  ⟨h.os, h.tape, h.output, by simpa [World.setCell] using h.size, fun q hq => (Below.heap_setCell _ _ _ _ (by show q ≠ b; omega)).trans ((Below.heap_setCell _ _ _ _ (by show q ≠ b; omega)).trans (h.block q hq))⟩

set_option maxRecDepth 100000 in
set_option maxHeartbeats 4000000 in
theorem pass_any (b t : Nat) (A : Array Value) (pl : Int) (k : Nat) (hk : k < 32) (o : Option Addr) (ps : Int) (w : World) (hA : Blk w b t A) (h0 : A[3 + k * 2]? = some (.pointer o)) (h1 : A[3 + k * 2 + 1]? = some (.int .i64 ps)) (hp : -2000000 ≤ ps ∧ ps ≤ 2000000) :
    Calls Tryz.prog 221 #[.agg #[.pointer (some ⟨b, 0, none⟩), .int .i64 pl, .int .i64 k]] w fun e w' => e = .returned (.agg #[.pointer o, .int .i64 (ps + 1)]) ∧ Below w.heap.size w w' := by
  have c0 := (hA.cell _).trans h0
  have c1 := (hA.cell _).trans h1
  have HLK := fun w => Lib.hid (link_any b pl k hk w)
  have HA := Lib.hid hA
  obtain ⟨p1, p2⟩ := hp
  have hb1 : Below w.heap.size w ((w.alloc (.cells #[.pointer (some ⟨b, 0, none⟩), .int .i64 pl, .int .i64 k] 301)).alloc (.cells #[.pointer none, .int .i64 0] 272)) := ((Below.refl _ _).alloc (Nat.le_refl _) _).alloc (by simp) _
  have kR : Blk ((w.alloc (.cells #[.pointer (some ⟨b, 0, none⟩), .int .i64 pl, .int .i64 k] 301)).alloc (.cells #[.pointer none, .int .i64 0] 272)) (w.heap.size + 1) 272 #[.pointer none, .int .i64 0] := by
    have := Blk.new (w.alloc (.cells #[.pointer (some ⟨b, 0, none⟩), .int .i64 pl, .int .i64 k] 301)) 272 #[.pointer none, .int .i64 0]; simpa using this
  have HB1 := Lib.hid hb1
  have HR := Lib.hid kR
  clear hb1 kR hA h0 h1
  go_enter Tryz.func221, Tryz.ntmps221
  go_wp2_with fail
  refine (HLK _).out.mono ?_
  rintro e w2 ⟨rfl, hb2⟩
  have hb3 := HB1.out.trans (hb2.mono HB1.out.size)
  have c0' := (hb3.cell (p := ⟨b, 3 + k * 2, none⟩) HA.out.lt).trans c0
  have c1' := (hb3.cell (p := ⟨b, 3 + k * 2 + 1, none⟩) HA.out.lt).trans c1
  have kR2 := HR.out.later hb2
  obtain ⟨e0, e1, e2, e3⟩ := facts2 kR2
  have z1 := kR2.lt
  have KR := Lib.hid kR2
  have HB3 := Lib.hid hb3
  clear hb2 hb3 c0 c1 kR2
  go_wp2_with fail
  have k5 := ((KR.out.set 0 (.pointer o)).set 1 (.int .i64 (ps + 1))).alloc (Obj.cells #[Value.pointer o, Value.int IntKind.i64 ps] 272)
  refine bodyPost_ret (results_cell Tryz.results221 (b := ⟨w.heap.size + 1, 0, none⟩) rfl (loadVar58 k5)) rfl ?_
  have h3 := HB3.out
  refine ⟨rfl, Below.alloc ?_ (by simpa [World.setCell] using h3.size) _⟩
  exact below_set2 h3 _ _ _ _ _ (by omega)

/-- What split's first line leans on. -/
abbrev SpS (b k s3 wb : Nat) (o : Option Addr) (ps pl pl0 : Int) (w : World) (w' : World) : Prop :=
  w'.cell? ⟨b, 3 + k * 2, none⟩ = some (.pointer o) ∧ w'.cell? ⟨b, 3 + k * 2 + 1, none⟩ = some (.int .i64 ps) ∧ w'.cell? ⟨s3, 0, none⟩ = some (.pointer (some ⟨b, 0, none⟩)) ∧ w'.cell? ⟨s3, 1, none⟩ = some (.int .i64 pl) ∧ w'.cell? ⟨s3, 2, none⟩ = some (.int .i64 k) ∧
    w'.cell? ⟨wb, 1, none⟩ = some (.int .i64 pl0) ∧ Below w.heap.size w w' ∧ w.heap.size ≤ w'.heap.size
theorem SpS.later {b k s3 wb : Nat} {o : Option Addr} {ps pl pl0 : Int} {w w' w5 : World} (h : SpS b k s3 wb o ps pl pl0 w w') (hb : Below w'.heap.size w' w5) : SpS b k s3 wb o ps pl pl0 w w5 := by
  obtain ⟨h1, h2, h3, h4, h5, h6, h7, h8⟩ := h
  have key : ∀ {a : Addr} {v : Value}, w'.cell? a = some v → w5.cell? a = some v := fun {a v} ha => (hb.cell (World.block_lt_of_cell? w' a ha)).trans ha
  exact ⟨key h1, key h2, key h3, key h4, key h5, key h6, h7.trans (hb.mono h8), Nat.le_trans h8 hb.size⟩

theorem far_set2 {S : Nat → Prop} {w W : World} (h : Far S w W) (b o1 o2 : Nat) (v1 v2 : Value) (hb : S b ∨ w.heap.size ≤ b) : Far S w ((W.setCell ⟨b, o1, none⟩ v1).setCell ⟨b, o2, none⟩ v2) :=
  (h.set ⟨b, o1, none⟩ v1 hb).set ⟨b, o2, none⟩ v2 hb
theorem newbox {w1 w5 : World} {c0 c1 : Value} (hb5 : Below (w1.drew.alloc (.cells #[c0, c1] 272)).heap.size (w1.drew.alloc (.cells #[c0, c1] 272)) w5) : w5.cell? ⟨w1.heap.size, 0, none⟩ = some c0 ∧ w5.cell? ⟨w1.heap.size, 1, none⟩ = some c1 ∧ w5.frozen? ⟨w1.heap.size, 0, none⟩ = false ∧ w5.frozen? ⟨w1.heap.size, 1, none⟩ = false :=
  facts2 ((Blk.new w1.drew 272 #[c0, c1]).later hb5)
theorem SpS.set2 {b k s3 wb : Nat} {o : Option Addr} {ps pl pl0 : Int} {w w' : World} {c : Nat} (h : SpS b k s3 wb o ps pl pl0 w w') (v0 v1 : Value) (h1 : b ≠ c) (h2 : s3 ≠ c) (h3 : wb ≠ c) (h4 : w.heap.size ≤ c) : SpS b k s3 wb o ps pl pl0 w ((w'.setCell ⟨c, 0, none⟩ v0).setCell ⟨c, 1, none⟩ v1) := by
  obtain ⟨t1, t2, t3, t4, t5, t6, t7, t8⟩ := h
  have key : ∀ (d i : Nat) (v : Value), d ≠ c → w'.cell? ⟨d, i, none⟩ = some v → ((w'.setCell ⟨c, 0, none⟩ v0).setCell ⟨c, 1, none⟩ v1).cell? ⟨d, i, none⟩ = some v := fun d i v hd hv => by
    have e : ((w'.setCell ⟨c, 0, none⟩ v0).setCell ⟨c, 1, none⟩ v1).heap[d]? = w'.heap[d]? := (Below.heap_setCell _ _ _ _ hd).trans (Below.heap_setCell _ _ _ _ hd)
    rw [← hv]
    unfold World.cell?
    simp only [e]
  exact ⟨key _ _ _ h1 t1, key _ _ _ h1 t2, key _ _ _ h2 t3, key _ _ _ h2 t4, key _ _ _ h2 t5, key _ _ _ h3 t6, below_set2 t7 _ _ _ _ _ h4, by simpa [World.setCell] using t8⟩

set_option maxRecDepth 100000 in
set_option maxHeartbeats 8000000 in
theorem split_any (b t : Nat) (A B WA : Array Value) (pl pl0 : Int) (k wb b6 nb : Nat) (hk : k < 32) (o : Option Addr) (ps : Int) (w : World) (hA : Blk w b t A) (h0 : A[3 + k * 2]? = some (.pointer o)) (h1 : A[3 + k * 2 + 1]? = some (.int .i64 ps)) (hp : -2000000 ≤ ps ∧ ps ≤ 2000000)
    (hW : Blk w wb 303 WA) (hpl : WA[1]? = some (.int .i64 pl0)) (hq : -2000000 ≤ pl ∧ pl ≤ 2000000) (hq0 : -2000000 ≤ pl0 ∧ pl0 ≤ 2000000) (h6 : Blk w b6 270 #[.pointer (some ⟨nb, 0, none⟩)]) (hnb : Blk w nb 275 B) (hB : B.size = 67) (_ : nb ≠ b) :
    Calls Tryz.prog 220 #[.agg #[.pointer (some ⟨b, 0, none⟩), .int .i64 pl, .int .i64 k], .pointer (some ⟨wb, 0, none⟩), .pointer (some ⟨b6, 0, none⟩)] w fun e w' => e = .returned (.agg #[.pointer (some ⟨nb, 0, none⟩), .int .i64 (pl0 - pl)]) ∧
      Far (fun q => q = nb) w w' ∧ Blk w' nb 275 ((B.setIfInBounds (3 + k * 2) (.pointer o)).setIfInBounds (3 + k * 2 + 1) (.int .i64 (ps - (pl0 - pl)))) := by
  have HLK := fun w => Lib.hid (link_any b pl k hk w)
  obtain ⟨w1, hw1⟩ : ∃ w1, w1 = (w.alloc (.cells #[.pointer (some ⟨b, 0, none⟩), .int .i64 pl, .int .i64 k] 301)).alloc (.cells #[.pointer none, .int .i64 0] 272) := ⟨_, rfl⟩
  have hb1 : Below w.heap.size w w1 := by rw [hw1]; exact ((Below.refl _ _).alloc (Nat.le_refl _) _).alloc (by simp) _
  have kS : Blk w1 w.heap.size 301 #[.pointer (some ⟨b, 0, none⟩), .int .i64 pl, .int .i64 k] := by rw [hw1]; exact (Blk.new _ _ _).alloc _
  have kR : Blk w1 (w.heap.size + 1) 272 #[.pointer none, .int .i64 0] := by
    rw [hw1]
    have := Blk.new (w.alloc (.cells #[.pointer (some ⟨b, 0, none⟩), .int .i64 pl, .int .i64 k] 301)) 272 #[.pointer none, .int .i64 0]; simpa using this
  have hS1 : SpS b k w.heap.size wb o ps pl pl0 w w1 :=
    ⟨((hA.later hb1).cell _).trans h0, ((hA.later hb1).cell _).trans h1, kS.cell 0, kS.cell 1, kS.cell 2, ((hW.later hb1).cell _).trans hpl, hb1, hb1.size⟩
  obtain ⟨hp1, hp2⟩ := hp
  obtain ⟨hq1, hq2⟩ := hq
  obtain ⟨hq3, hq4⟩ := hq0
  have hwr : IntKind.i64.wrap (pl0 - pl) = pl0 - pl := IntWalk.i64_in _ (by omega)
  have hwr2 : IntKind.i64.wrap (ps - (pl0 - pl)) = ps - (pl0 - pl) := IntWalk.i64_in _ (by omega)
  have HS1 := Lib.hid hS1
  have HR := Lib.hid kR
  have HW1 := Lib.hid hw1
  have HB := Lib.hid hb1
  have H6 := Lib.hid h6
  have HNB := Lib.hid hnb
  have hlt1 : b < w1.heap.size := Nat.lt_of_lt_of_le hA.lt hb1.size
  have hlt2 : wb < w1.heap.size := Nat.lt_of_lt_of_le hW.lt hb1.size
  have hlt3 := kS.lt
  clear kS kR hS1 hw1 hb1 h6 hnb hA h0 h1 hW hpl
  go_enter Tryz.func220, Tryz.ntmps220
  go_wp2_with fail
  rw [← HW1.out]
  have HS1D : SpS b k w.heap.size wb o ps pl pl0 w w1.drew := HS1.out.later (drewB _ 1)
  rename_i K1 hK1
  have HK1 := Lib.hid hK1
  clear hK1
  have hfin : ∀ (d : Nat) (W6 : World), SpS b k w.heap.size wb o ps pl pl0 w W6 → Blk W6 d 272 #[.pointer o, .int .i64 ps] → Below w1.heap.size w1 W6 → w1.heap.size ≤ d → K1 { tmps := #[.agg #[.pointer (some ⟨b, 0, none⟩), .int .i64 pl, .int .i64 k], .pointer (some ⟨wb, 0, none⟩), .pointer (some ⟨b6, 0, none⟩), .pointer (some ⟨w.heap.size, 0, none⟩), .pointer (some ⟨w.heap.size + 1, 0, none⟩), .pointer (some ⟨d, 0, none⟩), .int .i64 (pl0 - pl), .agg #[.pointer (some ⟨b, 0, none⟩), .int .i64 pl, .int .i64 k], .pointer (some ⟨b, 3 + k * 2, none⟩), .pointer (some ⟨b, 3 + k * 2, none⟩), .agg #[.pointer o, .int .i64 ps], .pointer (some ⟨wb, 0, none⟩), .pointer (some ⟨wb, 1, none⟩), .int .i64 pl0, .pointer (some ⟨w.heap.size, 1, none⟩), .int .i64 pl, .int .i64 (pl0 - pl), undef, undef, undef, undef, undef, undef, undef, undef, undef, undef, undef, undef, undef, undef, undef, undef], defers := [] } W6 := by
    rintro d W6 ⟨s1, s2, s3, s4, s5, s6, s7, s8⟩ kd hb6 hd
    refine HK1.out _ _ ?_
    obtain ⟨d0, d1, _, _⟩ := facts2 kd
    have hbw := HB.out.trans (hb6.mono HB.out.size)
    have k6 := H6.out.later hbw
    have e6 := (facts1 k6).1
    have kn := HNB.out.later hbw
    have n0 := kn.cell (3 + k * 2)
    have n1 := kn.cell (3 + k * 2 + 1)
    rw [Array.getElem?_eq_getElem (by omega)] at n0 n1
    have n2 := kn.free (3 + k * 2)
    have n3 := kn.free (3 + k * 2 + 1)
    have kR := Lib.hid (HR.out.later hb6)
    have r0 := (facts2 kR.out).1
    have r1 := (facts2 kR.out).2.1
    have r2 := (facts2 kR.out).2.2.1
    have r3 := (facts2 kR.out).2.2.2
    have hnd : nb < w.heap.size := HNB.out.lt
    have h6d : b6 < w.heap.size := H6.out.lt
    have hws := HB.out.size
    have HBW := Lib.hid hbw
    have HKN := Lib.hid (kn.set (3 + k * 2) (.pointer o) |>.set (3 + k * 2 + 1) (.int .i64 (ps - (pl0 - pl))))
    have HF7 := Lib.hid (far_set2 (S := fun q => q = nb) (Far.of_below hbw) nb (3 + k * 2) (3 + k * 2 + 1) (.pointer o) (.int .i64 (ps - (pl0 - pl))) (.inl rfl))
    have HR7 := Lib.hid (((kR.out.setOther (3 + k * 2) (.pointer o) (Nat.ne_of_gt (Nat.lt_of_lt_of_le hnd (Nat.le_succ _)))).setOther (3 + k * 2 + 1) (.int .i64 (ps - (pl0 - pl))) (Nat.ne_of_gt (Nat.lt_of_lt_of_le hnd (Nat.le_succ _)))))
    have hsz7 : ((W6.setCell ⟨nb, 3 + k * 2, none⟩ (.pointer o)).setCell ⟨nb, 3 + k * 2 + 1, none⟩ (.int .i64 (ps - (pl0 - pl)))).heap.size = W6.heap.size := by simp [World.setCell]
    clear hbw kn k6 kd hb6
    go_wp2_with fail
    go_region
    generalize (W6.setCell ⟨nb, 3 + k * 2, none⟩ (.pointer o)).setCell ⟨nb, 3 + k * 2 + 1, none⟩ (.int .i64 (ps - (pl0 - pl))) = W7 at *
    have hs7 : W7.drew.heap.size = W6.heap.size := hsz7
    have KN7 := Lib.hid (HKN.out.drew)
    have F7 := Lib.hid (HF7.out.then_below (drewB _ 1))
    have R7 := Lib.hid (HR7.out.drew)
    obtain ⟨t0, t1, t2, t3⟩ := facts2 R7.out
    have F7' : Far (fun q => q = nb) w W7.drew := F7.out
    have F8 := Lib.hid F7'
    have e8 := (facts1 (F7'.blk H6.out (fun e => absurd ((e ▸ H6.out : Blk w nb 270 _).ty HNB.out) (by decide)))).1
    clear F7' F7 HF7 HKN HR7 r0 r1 r2 r3 n0 n1 n2 n3 d0 d1 s1 s2 s3 s4 s5 s6 s7 s8 e6
    generalize W7.drew = W8 at *
    go_wp2_with fail
    have k9 := (R7.out.set 0 (.pointer (some ⟨nb, 0, none⟩))).set 1 (.int .i64 (pl0 - pl))
    refine bodyPost_ret (results_cell Tryz.results220 (b := ⟨w.heap.size + 1, 0, none⟩) rfl (loadVar58 k9)) rfl ?_
    exact ⟨rfl, far_set2 F8.out _ _ _ _ _ (.inr (Nat.le_succ _)), (KN7.out.setOther _ _ (by omega)).setOther _ _ (by omega)⟩
  go_region_held (fun w' => w'.cell? ⟨b, 3 + k * 2, none⟩ = some (.pointer o) ∧ w'.cell? ⟨b, 3 + k * 2 + 1, none⟩ = some (.int .i64 ps) ∧ w'.cell? ⟨w.heap.size, 0, none⟩ = some (.pointer (some ⟨b, 0, none⟩)) ∧ w'.cell? ⟨w.heap.size, 1, none⟩ = some (.int .i64 pl) ∧ w'.cell? ⟨w.heap.size, 2, none⟩ = some (.int .i64 k) ∧
    w'.cell? ⟨wb, 1, none⟩ = some (.int .i64 pl0) ∧ Below w.heap.size w w' ∧ w.heap.size ≤ w'.heap.size)
    (first
      | exact HS1D
      | exact S5
      | exact SpS.later S5 ((Below.refl _ _).alloc (Nat.le_refl _) _)
      | exact SpS.later HS1D ((Below.refl _ _).alloc (Nat.le_refl _) _)
      | (refine SpS.set2 S5 _ _ ?_ ?_ ?_ ?_ <;> omega))
    (first
      | (go_at_call 219; refine (HLK _).out.mono ?_; rintro e w5 ⟨rfl, hb5⟩; first
          | have S5 := SpS.later HS1D hb5
          | (have S5 := SpS.later (SpS.later HS1D ((Below.refl _ _).alloc (Nat.le_refl _) _)) hb5; obtain ⟨z0, z1, z2, z3⟩ := newbox hb5)))
  · exact hfin _ _ (SpS.later S5 ((Below.refl _ _).alloc (Nat.le_refl _) _)) (Blk.new _ _ _) (((drewB _ 1).trans hb5).trans ((Below.refl _ _).alloc (((drewB _ 1).trans hb5).size) _)) (((drewB _ 1).trans hb5).size)
  · have kd := (Blk.new w1.drew 272 #[.pointer none, .int .i64 0]).later hb5
    have hb6 : Below w1.heap.size w1 w5 := (((drewB _ 1).alloc (Nat.le_refl _) _).trans (hb5.mono (by simp)))
    refine hfin w1.heap.size _ (SpS.set2 S5 _ _ (Nat.ne_of_lt hlt1) (Nat.ne_of_lt hlt3) (Nat.ne_of_lt hlt2) (Nat.le_of_lt hlt3)) ((kd.set 0 _).set 1 _) ?_ (Nat.le_refl _)
    exact below_set2 hb6 _ _ _ _ _ (Nat.le_refl _)
end Go.Proofs.YtpfoicpnpgojdaaGreatDoor.Sk
/- The closure that lays links over what is left out. -/
namespace Go.Proofs.YtpfoicpnpgojdaaGreatDoor.Sk
open Go.RowKit Go.Shelf
attribute [local go_sem] Oper.semAt_some

set_option maxRecDepth 100000 in
set_option maxHeartbeats 4000000 in
theorem over_any (b yb ty : Nat) (A WF : Array Value) (pl plf nn : Int) (k wf c : Nat) (hk : k < 32) (o : Option Addr) (ps : Int) (w : World) (hA : Blk w yb ty A) (h0 : A[3 + k * 2]? = some (.pointer o)) (h1 : A[3 + k * 2 + 1]? = some (.int .i64 ps)) (hp : -2000000 ≤ ps ∧ ps ≤ 2000000)
    (hW : Blk w wf 303 WF) (hw0 : WF[k * 3]? = some (.pointer (some ⟨yb, 0, none⟩))) (hw1 : WF[k * 3 + 1]? = some (.int .i64 plf)) (hw2 : WF[k * 3 + 2]? = some (.int .i64 k)) (hq : -2000000 ≤ pl ∧ pl ≤ 2000000) (hq0 : -2000000 ≤ plf ∧ plf ≤ 2000000) (hc : Blk w c 3 #[.int .i64 nn]) (hn : 0 ≤ nn ∧ nn ≤ 2000000) :
    Calls Tryz.prog 317 #[.agg #[.pointer (some ⟨b, 0, none⟩), .int .i64 pl, .int .i64 k], .pointer (some ⟨wf, 0, none⟩), .pointer (some ⟨c, 0, none⟩)] w fun e w' => e = .returned (.agg #[.pointer o, .int .i64 (plf - pl + ps - nn)]) ∧ Below w.heap.size w w' := by
  obtain ⟨hp1, hp2⟩ := hp
  obtain ⟨hq1, hq2⟩ := hq
  obtain ⟨hq3, hq4⟩ := hq0
  obtain ⟨hn1, hn2⟩ := hn
  have HLK := fun w => Lib.hid (link_any yb plf k hk w)
  have hb1 : Below w.heap.size w ((w.alloc (.cells #[.pointer (some ⟨b, 0, none⟩), .int .i64 pl, .int .i64 k] 301)).alloc (.cells #[.pointer none, .int .i64 0] 272)) := ((Below.refl _ _).alloc (Nat.le_refl _) _).alloc (by simp) _
  have kR : Blk ((w.alloc (.cells #[.pointer (some ⟨b, 0, none⟩), .int .i64 pl, .int .i64 k] 301)).alloc (.cells #[.pointer none, .int .i64 0] 272)) (w.heap.size + 1) 272 #[.pointer none, .int .i64 0] := by
    have := Blk.new (w.alloc (.cells #[.pointer (some ⟨b, 0, none⟩), .int .i64 pl, .int .i64 k] 301)) 272 #[.pointer none, .int .i64 0]; simpa using this
  have kS : Blk ((w.alloc (.cells #[.pointer (some ⟨b, 0, none⟩), .int .i64 pl, .int .i64 k] 301)).alloc (.cells #[.pointer none, .int .i64 0] 272)) w.heap.size 301 #[.pointer (some ⟨b, 0, none⟩), .int .i64 pl, .int .i64 k] := (Blk.new _ _ _).alloc _
  have e0 := (hW.cell _).trans hw0
  have e1 := (hW.cell _).trans hw1
  have e2 := (hW.cell _).trans hw2
  have hlW := hW.lt
  have HA := Lib.hid hA
  have HC := Lib.hid hc
  have HB1 := Lib.hid hb1
  have HR := Lib.hid kR
  have HS := Lib.hid kS
  clear hb1 kR kS hA hW hw0 hw1 hw2 hc
  go_enter Tryz.func317, Tryz.ntmps317
  go_wp2_with fail
  refine (HLK _).out.mono ?_
  rintro e w2 ⟨rfl, hb2⟩
  have hba : Below ((w.alloc (.cells #[.pointer (some ⟨b, 0, none⟩), .int .i64 pl, .int .i64 k] 301)).alloc (.cells #[.pointer none, .int .i64 0] 272)).heap.size ((w.alloc (.cells #[.pointer (some ⟨b, 0, none⟩), .int .i64 pl, .int .i64 k] 301)).alloc (.cells #[.pointer none, .int .i64 0] 272)) w2 := ((Below.refl _ _).alloc (Nat.le_refl _) _).trans (hb2.mono (by simp))
  have hb3 := HB1.out.trans (hba.mono HB1.out.size)
  have c0 := ((HA.out.later hb3).cell _).trans h0
  have c1 := ((HA.out.later hb3).cell _).trans h1
  obtain ⟨g0, g1⟩ := facts1 (HC.out.later hb3)
  obtain ⟨r0, r1, r2, r3⟩ := facts2 (HR.out.later hba)
  have s1 := (facts3 (HS.out.later hba)).2.1
  have kB := (Blk.new ((w.alloc (.cells #[.pointer (some ⟨b, 0, none⟩), .int .i64 pl, .int .i64 k] 301)).alloc (.cells #[.pointer none, .int .i64 0] 272)) 301 #[.pointer (some ⟨yb, 0, none⟩), .int .i64 plf, .int .i64 k]).later hb2
  simp only [World.size_alloc] at kB
  have t1 := (facts3 kB).2.1
  have z1 := kB.lt
  have z2 := (HR.out.later hba).lt
  have z3 := (HC.out.later hb3).lt
  have z0 : w.heap.size < w2.heap.size := by omega
  have KR := Lib.hid (HR.out.later hba)
  have HB3 := Lib.hid hb3
  clear hb2 hb3 hba kB e0 e1 e2 h0 h1
  go_wp2_with fail
  have k5 := ((KR.out.set 0 (.pointer o)).set 1 (.int .i64 (plf - pl + ps - nn))).alloc (Obj.cells #[Value.pointer o, Value.int IntKind.i64 ps] 272)
  refine bodyPost_ret (results_cell Tryz.results317 (b := ⟨w.heap.size + 1, 0, none⟩) rfl (loadVar58 k5)) rfl ?_
  have h3 := HB3.out
  refine ⟨rfl, Below.alloc ?_ (by simpa [World.setCell] using h3.size) _⟩
  exact below_set2 h3 _ _ _ _ _ (by omega)
end Go.Proofs.YtpfoicpnpgojdaaGreatDoor.Sk
