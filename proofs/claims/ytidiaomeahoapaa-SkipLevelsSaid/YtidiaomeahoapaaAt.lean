/- Seek, At. -/
import Derived.Test.YtidiaomeahoapaaSeek
namespace Go.Proofs.Ytidiaomeahoapaa
open Go.RowKit Go.Shelf
attribute [local go_sem] Oper.semAt_some

theorem info69 : (Try.prog.info? 69).map (·.size) = some 3 := by kernel_rfl
theorem index71 (F : List Nd) (a : Nat) (W : World) : (Instr.index 71 (.agg (wayA F a)) (.int .i64 0)).run Try.prog W = .ok (.agg (boxQ F 0 (last F 0 a))) W := by
  have he : (wayA F a).extract 0 3 = boxQ F 0 (last F 0 a) := by
    apply Array.ext_getElem?
    intro i
    rw [Array.getElem?_extract]
    by_cases hi : i < 3
    · have := wayA_at F a 0 i (by decide) hi
      simp at this
      simp [hi, this, wayA_size]
    · rw [if_neg (by simp [wayA_size]; omega), Array.getElem?_eq_none (by simp [boxQ]; omega)]
  have h69 : ∀ w, (isAgg 69).run Try.prog w = .ok true w := fun w => by
    unfold isAgg
    rw [Sem.run_bind, run_underlying (show Try.prog.underlying 69 = some _ from Try.underlying69) w]
    rfl
  cases hq : Try.prog.info? 69 with
  | none => have := info69; simp [hq] at this
  | some i =>
    have hs : i.size = 3 := by have := info69; simpa [hq] using this
    unfold Instr.index
    simp [asIntOf, Sem.run_bind, run_underlying under71, part, h69, sizeOf, typeInfo, hq, hs, he]

variable {w : World} {F : List Nd} {ah : Nat → Value} {n : Int}
theorem lev_pos (hw : Sk w F (lk0 F) ah n) (i : Nat) (hi : i < F.length) : 0 < lev F i := by
  rw [lev_some (List.getElem?_eq_getElem hi)]
  exact (hw.lev i _ (List.getElem?_eq_getElem hi)).1
theorem nxt_zero (hp : ∀ i, i < F.length → 0 < lev F i) (q : Nat) (hq : q < F.length) : nxt F 0 q = q + 1 :=
  nxt_unique hq (by omega) (by omega) (fun i h1 h2 => by omega) (fun h => hp _ h)

theorem seek_nil (m : ByteArray) (s : Int) (w : World) : Calls Try.prog 25 #[.pointer none, .agg #[.string m, .int .i64 s]] w fun e w' => e = .returned (.tuple #[.int .i64 0, .bool false]) ∧ Below w.heap.size w w' := by
  go_enter Try.func25, Try.ntmps25
  go_wp2
  go_returns
  exact ⟨rfl, (Below.refl _ _).alloc (Nat.le_refl _) _⟩

set_option maxRecDepth 100000 in
set_option maxHeartbeats 2000000 in
theorem seek_any (p : Nat) (L : List Nd) (hF : F = hd p :: L) (hw : Sk w F (lk0 F) ah n) (hN : F.length ≤ 1000000) (m : ByteArray) (s : Int) (a : Nat) (ha : a < F.length) (hq : ∀ q x, 0 < q → F[q]? = some x → lessE x.m x.s m s = decide (q ≤ a)) :
    Calls Try.prog 25 #[.pointer (some ⟨p, 0, none⟩), .agg #[.string m, .int .i64 s]] w fun e w' => e = .returned (.tuple #[.int .i64 a, .bool (entAt F (a + 1) m s)]) ∧ Below w.heap.size w w' := by
  have hp := lev_pos hw
  have hla := last_zero F hp a ha
  have hnx := nxt_zero hp a ha
  have hix := index71 F a
  rw [hla] at hix
  have hb1 : Below w.heap.size w (w.alloc (.cells #[.string m, .int .i64 s] 32)) := (Below.refl _ _).alloc (Nat.le_refl _) _
  have kE : Blk (w.alloc (.cells #[.string m, .int .i64 s] 32)) w.heap.size 32 #[.string m, .int .i64 s] := Blk.new _ _ _
  have HT := Lib.hid (toEntry_any p L hF (hw.later hb1) hN m s a ha hq)
  obtain ⟨x, hx⟩ : ∃ x, F[a]? = some x := ⟨_, List.getElem?_eq_getElem ha⟩
  have hax := adr_some hx
  have HLD := fun (W : World) (hb : Below w.heap.size w W) => Lib.hid (leads_any (hw.later hb) 0 a (by decide) ha (hp a ha) m s)
  rw [hnx] at HLD
  unfold boxQ at hix
  have h00 : ((0 : Nat) : Int) = 0 := rfl
  simp only [hax, h00] at HLD hix
  clear h00
  have HB1 := Lib.hid hb1
  have HE := Lib.hid kE
  generalize wayA F a = WA at *
  generalize entAt F (a + 1) m s = bb at *
  have hN2 : (a : Int) ≤ 1000000 := by omega
  clear hb1 kE hw hF hq hp hla hnx hx hax ha hN
  go_enter Try.func25, Try.ntmps25
  go_wp2_with fail
  refine HT.out.mono ?_
  rintro e w2 ⟨rfl, hb2⟩
  have e0 := (facts2 (HE.out.later hb2)).1
  have e1 := (facts2 (HE.out.later hb2)).2.1
  have hb3 := HB1.out.trans (hb2.mono HB1.out.size)
  have hlt := (HE.out.later hb2).lt
  have kS := Blk.new w2 69 #[.pointer (some ⟨x.b, 0, none⟩), .int .i64 ((a : Int) - 1), .int .i64 0]
  have hb4 : Below w2.heap.size w2 (w2.alloc (.cells #[.pointer (some ⟨x.b, 0, none⟩), .int .i64 ((a : Int) - 1), .int .i64 0] 69)) := (Below.refl _ _).alloc (Nat.le_refl _) _
  have kE2 := (HE.out.later hb2).later hb4
  have hbw := hb3.trans (hb4.mono hb3.size)
  have HBW := Lib.hid hbw
  obtain ⟨w3, hw3⟩ : ∃ w3, w3 = w2.alloc (.cells #[.pointer (some ⟨x.b, 0, none⟩), .int .i64 ((a : Int) - 1), .int .i64 0] 69) := ⟨_, rfl⟩
  have HW3 := Lib.hid hw3
  rw [← hw3] at kS kE2 HBW
  have q0 := fun y : Ext w3 => y.cell (facts3 kS).1
  have q1 := fun y : Ext w3 => y.cell (facts3 kS).2.1
  have q2 := fun y : Ext w3 => y.cell (facts3 kS).2.2.1
  have q3 := fun y : Ext w3 => y.cell (facts2 kE2).1
  have q4 := fun y : Ext w3 => y.cell (facts2 kE2).2.1
  have HLD3 := fun y : Ext w3 => HLD y.w (HBW.out.trans (y.ok.mono HBW.out.size))
  have hne := Ext.one w3
  clear hb2 hb3 hb4 hbw hw3 kS kE2 HLD
  go_wp2_with fail
  rw [← HW3.out]
  refine region_ext (w1 := w3) (by kernel_rfl) (by kernel_rfl) (Below.refl _ _) ?_
  iterate 8 go_big_quiet_step ((go_at_call 41; exact Ext.call _ (HLD3 _).out))
  refine wpQuiet_nil ?_
  rintro _ ⟨y, rfl⟩
  go_wp2_with fail
  go_returns
  exact ⟨rfl, HBW.out.trans (y.ok.mono HBW.out.size)⟩

/-- At. -/
theorem zero32 (w : World) : (zeroValue 32).run Try.prog w = .ok (.agg #[.string ⟨#[]⟩, .int .i64 0]) w := (zero_of_info (n := 2) (by kernel_rfl)).1 w
set_option maxRecDepth 100000 in
theorem at_out (p : Option Addr) (v : Int) (w : World) (k : Int) (hl : ∀ w', Below w.heap.size w w' → Calls Try.prog 14 #[.pointer p] w' fun e w'' => e = .returned (.int .i64 k) ∧ w'' = w') (hv : v < 0 ∨ k ≤ v) :
    Calls Try.prog 13 #[.pointer p, .int .i64 v] w fun e w' => e = .returned (.tuple #[.agg #[.string ⟨#[]⟩, .int .i64 0], .bool false]) ∧ Below w.heap.size w w' := by
  have hb1 : Below w.heap.size w (w.alloc (.cells #[.string ⟨#[]⟩, .int .i64 0] 32)) := (Below.refl _ _).alloc (Nat.le_refl _) _
  have HL := Lib.hid (hl _ hb1)
  have HB := Lib.hid hb1
  clear hl hb1
  by_cases h0 : v < 0
  · clear hv
    go_enter Try.func13, Try.ntmps13
    go_wp2
    go_returns
    exact ⟨rfl, HB.out⟩
  · have hk : k ≤ v := by omega
    clear hv
    go_enter Try.func13, Try.ntmps13
    go_wp2_with fail
    refine HL.out.mono ?_
    rintro e w1 ⟨rfl, rfl⟩
    go_wp2
    go_returns
    exact ⟨rfl, HB.out⟩

set_option maxRecDepth 100000 in
set_option maxHeartbeats 2000000 in
theorem at_any (p : Nat) (L : List Nd) (hF : F = hd p :: L) (hw : Sk w F (lk0 F) ah n) (hn : n = L.length) (hN : F.length ≤ 1000000) (a : Nat) (x : Nd) (hx : L[a]? = some x) :
    Calls Try.prog 13 #[.pointer (some ⟨p, 0, none⟩), .int .i64 a] w fun e w' => e = .returned (.tuple #[.agg #[.string x.m, .int .i64 x.s], .bool true]) ∧ Below w.heap.size w w' := by
  have hp := lev_pos hw
  have haL : a < L.length := (List.getElem?_eq_some_iff.1 hx).1
  have hFl : F.length = L.length + 1 := by rw [hF]; rfl
  have ha : a < F.length := by omega
  have hla := last_zero F hp a ha
  have hnx := nxt_zero hp a ha
  have hix := index71 F a
  rw [hla] at hix
  have hb1 : Below w.heap.size w (w.alloc (.cells #[.string ⟨#[]⟩, .int .i64 0] 32)) := (Below.refl _ _).alloc (Nat.le_refl _) _
  have kR : Blk (w.alloc (.cells #[.string ⟨#[]⟩, .int .i64 0] 32)) w.heap.size 32 #[.string ⟨#[]⟩, .int .i64 0] := Blk.new _ _ _
  have HL := Lib.hid (len_any p L hF (hw.later hb1))
  have HT := Lib.hid (toPlace_any p L hF (hw.later hb1) hN a ha)
  obtain ⟨y, hy⟩ : ∃ y, F[a]? = some y := ⟨_, List.getElem?_eq_getElem ha⟩
  have hay := adr_some hy
  have hxF : F[a + 1]? = some x := by rw [hF]; simpa using hx
  obtain ⟨A, hA, hNA⟩ := hw.node _ y hy
  obtain ⟨B, hB, hNB⟩ := hw.node _ x hxF
  have c0 := (hA.cell 3).trans (hNA.link 0 (hw.lev _ _ hy).1).1
  unfold lk0 at c0
  rw [hnx, adr_some hxF] at c0
  have d0 := (hB.cell 0).trans hNB.m
  have d1 := (hB.cell 1).trans hNB.s
  have HLK := fun w => Lib.hid (link_any y.b ((a : Int) - 1) 0 (by decide) w)
  unfold boxQ at hix
  have h00 : ((0 : Nat) : Int) = 0 := rfl
  simp only [hay, h00] at HLK hix
  clear h00
  have HB1 := Lib.hid hb1
  have HR := Lib.hid kR
  have HA := Lib.hid hA
  have HB := Lib.hid hB
  have han : (a : Int) < n := by omega
  generalize wayA F a = WA at *
  clear hb1 kR hw hF hp hla hnx hx hy hay ha hN hFl haL hxF hA hNA hB hNB hn
  go_enter Try.func13, Try.ntmps13
  go_wp2_with fail
  refine HL.out.mono ?_
  rintro e w1 ⟨rfl, rfl⟩
  go_wp2_with fail
  refine HT.out.mono ?_
  rintro e w2 ⟨rfl, hb2⟩
  have hb3 := HB1.out.trans (hb2.mono HB1.out.size)
  have HB3 := Lib.hid hb3
  have kR2 := Lib.hid (HR.out.later hb2)
  clear hb2 hb3
  go_wp2_with fail
  refine (HLK _).out.mono ?_
  rintro e w3 ⟨rfl, hb2⟩
  have hb3 := HB3.out.trans (hb2.mono HB3.out.size)
  have c0' := (hb3.cell (p := ⟨y.b, 3, none⟩) HA.out.lt).trans c0
  have d0' := (hb3.cell (p := ⟨x.b, 0, none⟩) HB.out.lt).trans d0
  have d1' := (hb3.cell (p := ⟨x.b, 1, none⟩) HB.out.lt).trans d1
  obtain ⟨e0, e1, e2, e3⟩ := facts2 (kR2.out.later hb2)
  have HB4 := Lib.hid hb3
  have kR3 := Lib.hid (kR2.out.later hb2)
  clear hb2 hb3 c0 d0 d1
  go_wp2
  have g0 := (kR3.out.set 0 (.string x.m)).cell 0
  have g1 := ((kR3.out.set 0 (.string x.m)).set 1 (.int .i64 x.s)).cell 1
  simp at g0 g1
  refine bodyPost_ret (v := .tuple #[.agg #[.string x.m, .int .i64 x.s], .bool true]) (by simp [results, Try.results13, go_sem, g0, g1]) rfl ?_
  refine ⟨rfl, ?_⟩
  have hb4 := HB4.out
  exact ⟨hb4.os, hb4.tape, hb4.output, by simpa [World.setCell] using hb4.size, fun q hq => (Below.heap_setCell _ _ _ _ (Nat.ne_of_lt hq)).trans ((Below.heap_setCell _ _ _ _ (Nat.ne_of_lt hq)).trans (hb4.block q hq))⟩
end Go.Proofs.Ytidiaomeahoapaa
