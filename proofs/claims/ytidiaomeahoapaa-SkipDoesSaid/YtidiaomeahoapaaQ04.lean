/- Texts of one kind in one: Over, Ins, Join. -/
import Derived.Test.YtidiaomeahoapaaQ03
/- The closure that lays links over what is left out. -/
namespace Go.Proofs.Ytidiaomeahoapaa
open Go.RowKit Go.Shelf
attribute [local go_sem] Oper.semAt_some

set_option maxRecDepth 100000 in
set_option maxHeartbeats 4000000 in
theorem over_any (b yb ty : Nat) (A WF : Array Value) (pl plf nn : Int) (k wf c : Nat) (hk : k < 32) (o : Option Addr) (ps : Int) (w : World) (hA : Blk w yb ty A) (h0 : A[3 + k * 2]? = some (.pointer o)) (h1 : A[3 + k * 2 + 1]? = some (.int .i64 ps)) (hp : -2000000 ≤ ps ∧ ps ≤ 2000000)
    (hW : Blk w wf 71 WF) (hw0 : WF[k * 3]? = some (.pointer (some ⟨yb, 0, none⟩))) (hw1 : WF[k * 3 + 1]? = some (.int .i64 plf)) (hw2 : WF[k * 3 + 2]? = some (.int .i64 k)) (hq : -2000000 ≤ pl ∧ pl ≤ 2000000) (hq0 : -2000000 ≤ plf ∧ plf ≤ 2000000) (hc : Blk w c 3 #[.int .i64 nn]) (hn : 0 ≤ nn ∧ nn ≤ 2000000) :
    Calls Try.prog 55 #[.agg #[.pointer (some ⟨b, 0, none⟩), .int .i64 pl, .int .i64 k], .pointer (some ⟨wf, 0, none⟩), .pointer (some ⟨c, 0, none⟩)] w fun e w' => e = .returned (.agg #[.pointer o, .int .i64 (plf - pl + ps - nn)]) ∧ Below w.heap.size w w' := by
  obtain ⟨hp1, hp2⟩ := hp
  obtain ⟨hq1, hq2⟩ := hq
  obtain ⟨hq3, hq4⟩ := hq0
  obtain ⟨hn1, hn2⟩ := hn
  have HLK := fun w => Lib.hid (link_any yb plf k hk w)
  have hb1 : Below w.heap.size w ((w.alloc (.cells #[.pointer (some ⟨b, 0, none⟩), .int .i64 pl, .int .i64 k] 69)).alloc (.cells #[.pointer none, .int .i64 0] 58)) := ((Below.refl _ _).alloc (Nat.le_refl _) _).alloc (by simp) _
  have kR : Blk ((w.alloc (.cells #[.pointer (some ⟨b, 0, none⟩), .int .i64 pl, .int .i64 k] 69)).alloc (.cells #[.pointer none, .int .i64 0] 58)) (w.heap.size + 1) 58 #[.pointer none, .int .i64 0] := by
    have := Blk.new (w.alloc (.cells #[.pointer (some ⟨b, 0, none⟩), .int .i64 pl, .int .i64 k] 69)) 58 #[.pointer none, .int .i64 0]; simpa using this
  have kS : Blk ((w.alloc (.cells #[.pointer (some ⟨b, 0, none⟩), .int .i64 pl, .int .i64 k] 69)).alloc (.cells #[.pointer none, .int .i64 0] 58)) w.heap.size 69 #[.pointer (some ⟨b, 0, none⟩), .int .i64 pl, .int .i64 k] := (Blk.new _ _ _).alloc _
  have e0 := (hW.cell _).trans hw0
  have e1 := (hW.cell _).trans hw1
  have e2 := (hW.cell _).trans hw2
  have hlW := hW.lt
  have HA := Lib.hid hA
  have HC := Lib.hid hc
  have HB1 := Lib.hid hb1
  have HR := Lib.hid kR
  have HS := Lib.hid kS
  clear hb1 kR kS hA hW hw0 hw1 hw2 hc
  go_enter Try.func55, Try.ntmps55
  go_wp2_with fail
  refine (HLK _).out.mono ?_
  rintro e w2 ⟨rfl, hb2⟩
  have hba : Below ((w.alloc (.cells #[.pointer (some ⟨b, 0, none⟩), .int .i64 pl, .int .i64 k] 69)).alloc (.cells #[.pointer none, .int .i64 0] 58)).heap.size ((w.alloc (.cells #[.pointer (some ⟨b, 0, none⟩), .int .i64 pl, .int .i64 k] 69)).alloc (.cells #[.pointer none, .int .i64 0] 58)) w2 := ((Below.refl _ _).alloc (Nat.le_refl _) _).trans (hb2.mono (by simp))
  have hb3 := HB1.out.trans (hba.mono HB1.out.size)
  have c0 := ((HA.out.later hb3).cell _).trans h0
  have c1 := ((HA.out.later hb3).cell _).trans h1
  obtain ⟨g0, g1⟩ := facts1 (HC.out.later hb3)
  obtain ⟨r0, r1, r2, r3⟩ := facts2 (HR.out.later hba)
  have s1 := (facts3 (HS.out.later hba)).2.1
  have kB := (Blk.new ((w.alloc (.cells #[.pointer (some ⟨b, 0, none⟩), .int .i64 pl, .int .i64 k] 69)).alloc (.cells #[.pointer none, .int .i64 0] 58)) 69 #[.pointer (some ⟨yb, 0, none⟩), .int .i64 plf, .int .i64 k]).later hb2
  simp only [World.size_alloc] at kB
  have t1 := (facts3 kB).2.1
  have z1 := kB.lt
  have z2 := (HR.out.later hba).lt
  have z3 := (HC.out.later hb3).lt
  have z0 : w.heap.size < w2.heap.size := by omega
  have KR := Lib.hid (HR.out.later hba)
  have HB3 := Lib.hid hb3
  clear hb2 hb3 hba kB e0 e1 e2 h0 h1
  go_wp2_with fail
  have k5 := ((KR.out.set 0 (.pointer o)).set 1 (.int .i64 (plf - pl + ps - nn))).alloc (Obj.cells #[Value.pointer o, Value.int IntKind.i64 ps] 58)
  refine bodyPost_ret (results_cell Try.results55 (b := ⟨w.heap.size + 1, 0, none⟩) rfl (loadVar58 k5)) rfl ?_
  have h3 := HB3.out
  refine ⟨rfl, Below.alloc ?_ (by simpa [World.setCell] using h3.size) _⟩
  exact below_set2 h3 _ _ _ _ _ (by omega)
end Go.Proofs.Ytidiaomeahoapaa
/- A node put in: what its links, and those of the others, come to. -/
namespace Go.Proofs.Ytidiaomeahoapaa
open Go.RowKit Go.Shelf

def insF (F : List Nd) (a : Nat) (x : Nd) : List Nd := F.take (a + 1) ++ x :: F.drop (a + 1)
variable {F : List Nd} {a : Nat} {x : Nd}
theorem insF_len (h : a < F.length) : (insF F a x).length = F.length + 1 := by unfold insF; simp; omega
theorem insF_le (h : a < F.length) {i : Nat} (hi : i ≤ a) : (insF F a x)[i]? = F[i]? := by
  unfold insF; rw [List.getElem?_append_left (by simp; omega), List.getElem?_take_of_lt (by omega)]
theorem insF_at (h : a < F.length) : (insF F a x)[a + 1]? = some x := by
  unfold insF; rw [List.getElem?_append_right (by simp; omega)]; simp [Nat.min_eq_left (show a + 1 ≤ F.length by omega)]
theorem insF_gt (h : a < F.length) {i : Nat} (hi : a < i) : (insF F a x)[i + 1]? = F[i]? := by
  unfold insF
  rw [List.getElem?_append_right (by simp; omega), List.length_take, Nat.min_eq_left (show a + 1 ≤ F.length by omega), show i + 1 - (a + 1) = (i - (a + 1)) + 1 by omega, List.getElem?_cons_succ, List.getElem?_drop]
  congr 1; omega
theorem lev_le (h : a < F.length) {i : Nat} (hi : i ≤ a) : lev (insF F a x) i = lev F i := by unfold lev; rw [insF_le h hi]
theorem lev_at (h : a < F.length) : lev (insF F a x) (a + 1) = x.l := by unfold lev; rw [insF_at h]; rfl
theorem lev_gt (h : a < F.length) {i : Nat} (hi : a < i) : lev (insF F a x) (i + 1) = lev F i := by unfold lev; rw [insF_gt h hi]
theorem adr_le (h : a < F.length) {i : Nat} (hi : i ≤ a) : adr (insF F a x) i = adr F i := by unfold adr; rw [insF_le h hi]
theorem adr_at (h : a < F.length) : adr (insF F a x) (a + 1) = .pointer (some ⟨x.b, 0, none⟩) := by unfold adr; rw [insF_at h]; rfl
theorem adr_gt (h : a < F.length) {i : Nat} (hi : a < i) : adr (insF F a x) (i + 1) = adr F i := by unfold adr; rw [insF_gt h hi]

/-- From the last one ahead, of a level that the new one has: to the new one. -/
theorem nxt_new (h : a < F.length) {k q : Nat} (h0 : k < lev F 0) (hq : q = last F k a) (hk : k < x.l) : nxt (insF F a x) k q = a + 1 := by
  obtain ⟨l1, l2, l3⟩ := last_spec F k h0 a
  subst hq
  refine nxt_unique (by rw [insF_len h]; omega) (by omega) (by rw [insF_len h]; omega) (fun i h1 h2 => ?_) (fun _ => by rw [lev_at h]; exact hk)
  rw [lev_le h (by omega)]
  exact l3 i h1 (by omega)
theorem nxt_last (h : a < F.length) {k : Nat} (h0 : k < lev F 0) : a < nxt F k (last F k a) := by
  obtain ⟨l1, l2, l3⟩ := last_spec F k h0 a
  obtain ⟨n1, n2, n3, n4, _⟩ := nxt_spec F k (last F k a) (by omega)
  rcases Nat.lt_or_ge a (nxt F k (last F k a)) with e | e
  · exact e
  · have := l3 _ n1 e
    have := n4 (by omega)
    omega
/-- The others: one place on, if it lies behind. -/
theorem nxt_pass (h : a < F.length) {k q : Nat} (h0 : k < lev F 0) (hq : q = last F k a) (hk : ¬ k < x.l) : nxt (insF F a x) k q = nxt F k q + 1 := by
  obtain ⟨l1, l2, l3⟩ := last_spec F k h0 a
  have ha := nxt_last h h0
  subst hq
  obtain ⟨n1, n2, n3, n4, _⟩ := nxt_spec F k (last F k a) (by omega)
  refine nxt_unique (by rw [insF_len h]; omega) (by omega) (by rw [insF_len h]; omega) (fun i h1 h2 => ?_) (fun hl => ?_)
  · by_cases e : i ≤ a
    · rw [lev_le h e]; exact n3 i h1 (by omega)
    · by_cases e2 : i = a + 1
      · subst e2; rw [lev_at h]; omega
      · obtain ⟨j, rfl⟩ : ∃ j, i = j + 1 := ⟨i - 1, by omega⟩
        rw [lev_gt h (by omega)]; exact n3 j (by omega) (by omega)
  · rw [insF_len h] at hl
    rw [lev_gt h ha]
    exact n4 (by omega)
theorem nxt_front (h : a < F.length) {k q : Nat} (h0 : k < lev F 0) (hq : q ≤ a) (hkq : k < lev F q) (hne : q ≠ last F k a) : nxt (insF F a x) k q = nxt F k q ∧ nxt F k q ≤ a := by
  obtain ⟨l1, l2, l3⟩ := last_spec F k h0 a
  obtain ⟨n1, n2, n3, n4, _⟩ := nxt_spec F k q (by omega)
  have hql : q < last F k a := by
    rcases Nat.lt_trichotomy q (last F k a) with e | e | e
    · exact e
    · exact absurd e hne
    · have := l3 q e hq; omega
  have hle : nxt F k q ≤ last F k a := by
    rcases Nat.lt_or_ge (last F k a) (nxt F k q) with e | e
    · have := n3 _ hql e; omega
    · exact e
  refine ⟨nxt_unique (by rw [insF_len h]; omega) n1 (by rw [insF_len h]; omega) (fun i h1 h2 => ?_) (fun _ => ?_), by omega⟩
  · rw [lev_le h (by omega)]; exact n3 i h1 h2
  · rw [lev_le h (by omega)]; exact n4 (by omega)
theorem nxt_own (h : a < F.length) {k : Nat} (h0 : k < lev F 0) : nxt (insF F a x) k (a + 1) = nxt F k (last F k a) + 1 := by
  obtain ⟨l1, l2, l3⟩ := last_spec F k h0 a
  have ha := nxt_last h h0
  obtain ⟨n1, n2, n3, n4, _⟩ := nxt_spec F k (last F k a) (by omega)
  refine nxt_unique (by rw [insF_len h]; omega) (by omega) (by rw [insF_len h]; omega) (fun i h1 h2 => ?_) (fun hl => ?_)
  · obtain ⟨j, rfl⟩ : ∃ j, i = j + 1 := ⟨i - 1, by omega⟩
    rw [lev_gt h (by omega)]; exact n3 j (by omega) (by omega)
  · rw [insF_len h] at hl
    rw [lev_gt h ha]
    exact n4 (by omega)
theorem nxt_back (h : a < F.length) {k q : Nat} (hq : a < q) (hql : q < F.length) : nxt (insF F a x) k (q + 1) = nxt F k q + 1 := by
  obtain ⟨n1, n2, n3, n4, _⟩ := nxt_spec F k q hql
  refine nxt_unique (by rw [insF_len h]; omega) (by omega) (by rw [insF_len h]; omega) (fun i h1 h2 => ?_) (fun hl => ?_)
  · obtain ⟨j, rfl⟩ : ∃ j, i = j + 1 := ⟨i - 1, by omega⟩
    rw [lev_gt h (by omega)]; exact n3 j (by omega) (by omega)
  · rw [insF_len h] at hl
    rw [lev_gt h (by omega)]
    exact n4 (by omega)

/-- The links while k levels have been laid. -/
def lkJ (F : List Nd) (a l nb k : Nat) (q k' : Nat) : Value × Int :=
  if k' < k ∧ q = last F k' a then (if k' < l then (.pointer (some ⟨nb, 0, none⟩), (a : Int) - q) else ((lk0 F q k').1, (lk0 F q k').2 + 1)) else lk0 F q k'
theorem lkJ_zero (F : List Nd) (a l nb q k' : Nat) : lkJ F a l nb 0 q k' = lk0 F q k' := by unfold lkJ; rw [if_neg (by omega)]

/-- Behind all levels: the links of the list with the new one in it. -/
theorem lk_ins_le (h : a < F.length) (h32 : lev F 0 = 32) {k q : Nat} (hk : k < 32) (hq : q ≤ a) (hkq : k < lev F q) : lk0 (insF F a x) q k = lkJ F a x.l x.b 32 q k := by
  unfold lkJ
  by_cases e : q = last F k a
  · rw [if_pos ⟨hk, e⟩]
    by_cases e2 : k < x.l
    · rw [if_pos e2]
      unfold lk0
      rw [nxt_new h (by omega) e e2, adr_at h]
      refine congrArg _ ?_
      omega
    · rw [if_neg e2]
      unfold lk0
      have := nxt_last (k := k) h (by omega)
      rw [← e] at this
      rw [nxt_pass h (by omega) e e2, adr_gt h this]
      refine congrArg _ ?_
      show ((nxt F k q + 1 : Nat) : Int) - q - 1 = _
      omega
  · rw [if_neg (fun t => e t.2)]
    unfold lk0
    obtain ⟨e1, e2⟩ := nxt_front (x := x) h (by omega) hq hkq e
    rw [e1, adr_le h e2]
theorem lk_ins_at (h : a < F.length) (h32 : lev F 0 = 32) {k : Nat} (hk : k < 32) : lk0 (insF F a x) (a + 1) k = ((lk0 F (last F k a) k).1, (lk0 F (last F k a) k).2 - ((a : Int) - last F k a)) := by
  unfold lk0
  have := nxt_last (k := k) h (by omega)
  rw [nxt_own h (by omega), adr_gt h this]
  refine congrArg _ ?_
  show ((nxt F k (last F k a) + 1 : Nat) : Int) - ((a + 1 : Nat) : Int) - 1 = _
  omega
theorem lk_ins_gt (h : a < F.length) {k q : Nat} (hq : a < q) (hql : q < F.length) : lk0 (insF F a x) (q + 1) k = lk0 F q k := by
  unfold lk0
  obtain ⟨n1, _⟩ := nxt_spec F k q hql
  rw [nxt_back h hq hql, adr_gt h (by omega)]
  refine congrArg _ ?_
  show ((nxt F k q + 1 : Nat) : Int) - ((q + 1 : Nat) : Int) - 1 = _
  omega
theorem lkJ_gt {l nb k q k' : Nat} (hq : a < q) (h0 : k' < lev F 0) : lkJ F a l nb k q k' = lk0 F q k' := by
  unfold lkJ
  rw [if_neg (fun t => by have := (last_spec F k' h0 a).1; omega)]

/-! ### Memory -/
variable {W : World} {lk : Nat → Nat → Value × Int} {ah : Nat → Value} {n : Int}
theorem NodeA.set {A : Array Value} {q : Nat} {x : Nd} {lk lk' : Nat → Value × Int} {ah : Value} {n : Int} (h : NodeA A q x lk ah n) {k : Nat} (hk : k < 32) (v : Value) (u : Int) (h1 : lk' k = (v, u)) (h2 : ∀ k', k' ≠ k → lk' k' = lk k') :
    NodeA ((A.setIfInBounds (3 + k * 2) v).setIfInBounds (3 + k * 2 + 1) (.int .i64 u)) q x lk' ah n := by
  have hs : 67 ≤ A.size := by rw [h.size]; unfold szq; split <;> decide
  have far : ∀ i, i ≠ 3 + k * 2 → i ≠ 3 + k * 2 + 1 → ((A.setIfInBounds (3 + k * 2) v).setIfInBounds (3 + k * 2 + 1) (.int .i64 u))[i]? = A[i]? := fun i e1 e2 => by
    rw [Array.getElem?_setIfInBounds_ne (Ne.symm e2), Array.getElem?_setIfInBounds_ne (Ne.symm e1)]
  refine ⟨by simpa using h.size, (far 0 (by omega) (by omega)).trans h.m, (far 1 (by omega) (by omega)).trans h.s, (far 2 (by omega) (by omega)).trans h.a, fun k' hk' => ?_, fun hq => (far 67 (by omega) (by omega)).trans (h.n hq)⟩
  by_cases e : k' = k
  · subst e
    rw [h1]
    constructor
    · rw [Array.getElem?_setIfInBounds_ne (by omega), Array.getElem?_setIfInBounds_self_of_lt (by omega)]
    · rw [Array.getElem?_setIfInBounds_self_of_lt (by simp; omega)]
  · rw [h2 k' e]
    exact ⟨(far _ (by omega) (by omega)).trans (h.link k' hk').1, (far _ (by omega) (by omega)).trans (h.link k' hk').2⟩
theorem Sk.setLink (h : Sk W F lk ah n) {q k : Nat} {x : Nd} (hq : F[q]? = some x) (hk : k < 32) (v : Value) (u : Int) (lk' : Nat → Nat → Value × Int) (h1 : lk' q k = (v, u)) (h2 : ∀ q' k', q' ≠ q ∨ k' ≠ k → lk' q' k' = lk q' k') :
    Sk ((W.setCell ⟨x.b, 3 + k * 2, none⟩ v).setCell ⟨x.b, 3 + k * 2 + 1, none⟩ (.int .i64 u)) F lk' ah n := by
  refine ⟨fun q' x' hx' => ?_, h.inj, h.lev⟩
  obtain ⟨A, hA, hN⟩ := h.node q' x' hx'
  by_cases e : q' = q
  · subst e
    rw [hq] at hx'
    cases hx'
    exact ⟨_, (hA.set _ _).set _ _, hN.set hk v u h1 (fun k' hk' => h2 _ _ (.inr hk'))⟩
  · have hne : x'.b ≠ x.b := fun e2 => e (h.inj _ _ _ _ hx' hq e2)
    refine ⟨A, (hA.setOther _ _ hne).setOther _ _ hne, ?_⟩
    have : lk' q' = lk q' := funext fun k' => h2 _ _ (.inl e)
    rw [this]; exact hN
theorem NodeA.setAh {A : Array Value} {q : Nat} {x : Nd} {lk : Nat → Value × Int} {ah : Value} {n : Int} (h : NodeA A q x lk ah n) (v : Value) : NodeA (A.setIfInBounds 2 v) q x lk v n := by
  have hs : 67 ≤ A.size := by rw [h.size]; unfold szq; split <;> decide
  have far : ∀ i, i ≠ 2 → (A.setIfInBounds 2 v)[i]? = A[i]? := fun i e => Array.getElem?_setIfInBounds_ne (Ne.symm e)
  exact ⟨by simpa using h.size, (far 0 (by omega)).trans h.m, (far 1 (by omega)).trans h.s, Array.getElem?_setIfInBounds_self_of_lt (by omega), fun k' hk' => ⟨(far _ (by omega)).trans (h.link k' hk').1, (far _ (by omega)).trans (h.link k' hk').2⟩, fun hq => (far 67 (by omega)).trans (h.n hq)⟩
theorem Sk.setAh (h : Sk W F lk ah n) {q : Nat} {x : Nd} (hq : F[q]? = some x) (v : Value) (ah' : Nat → Value) (h1 : ah' q = v) (h2 : ∀ q', q' ≠ q → ah' q' = ah q') : Sk (W.setCell ⟨x.b, 2, none⟩ v) F lk ah' n := by
  refine ⟨fun q' x' hx' => ?_, h.inj, h.lev⟩
  obtain ⟨A, hA, hN⟩ := h.node q' x' hx'
  by_cases e : q' = q
  · subst e
    rw [hq] at hx'
    cases hx'
    exact ⟨_, hA.set _ _, by rw [h1]; exact hN.setAh v⟩
  · have hne : x'.b ≠ x.b := fun e2 => e (h.inj _ _ _ _ hx' hq e2)
    exact ⟨A, hA.setOther _ _ hne, by rw [h2 _ e]; exact hN⟩
theorem Sk.setN (h : Sk W F lk ah n) {x : Nd} (hq : F[0]? = some x) (n' : Int) : Sk (W.setCell ⟨x.b, 67, none⟩ (.int .i64 n')) F lk ah n' := by
  refine ⟨fun q' x' hx' => ?_, h.inj, h.lev⟩
  obtain ⟨A, hA, hN⟩ := h.node q' x' hx'
  have far : ∀ i, i ≠ 67 → (A.setIfInBounds 67 (.int .i64 n'))[i]? = A[i]? := fun i e => Array.getElem?_setIfInBounds_ne (Ne.symm e)
  have hl := (h.lev _ _ hx').2
  by_cases e : q' = 0
  · subst e
    rw [hq] at hx'
    cases hx'
    have hs := hN.size
    exact ⟨_, hA.set _ _, ⟨by simpa using hN.size, (far 0 (by omega)).trans hN.m, (far 1 (by omega)).trans hN.s, (far 2 (by omega)).trans hN.a, fun k' hk' => ⟨(far _ (by omega)).trans (hN.link k' hk').1, (far _ (by omega)).trans (hN.link k' hk').2⟩, fun _ => Array.getElem?_setIfInBounds_self_of_lt (by rw [hs]; decide)⟩⟩
  · have hne : x'.b ≠ x.b := fun e2 => e (h.inj _ _ _ _ hx' hq e2)
    exact ⟨A, hA.setOther _ _ hne, ⟨hN.size, hN.m, hN.s, hN.a, hN.link, fun e2 => absurd e2 e⟩⟩
/-- The nodes and one more. -/
theorem sk_insert (h : Sk W F lk ah n) (ha : a < F.length) {B : Array Value} (hB : Blk W x.b 61 B) (hx : 0 < x.l ∧ x.l ≤ 32) (lk' : Nat → Nat → Value × Int) (ah' : Nat → Value) (hN : NodeA B (a + 1) x (lk' (a + 1)) (ah' (a + 1)) n) (hfresh : ¬ isB F x.b)
    (h1 : ∀ q k, q ≤ a → k < lev F q → lk' q k = lk q k) (h2 : ∀ q k, a < q → q < F.length → k < lev F q → lk' (q + 1) k = lk q k) (h3 : ∀ q, q ≤ a → ah' q = ah q) (h4 : ∀ q, a < q → q < F.length → ah' (q + 1) = ah q) : Sk W (insF F a x) lk' ah' n := by
  have part : ∀ (q : Nat) (y : Nd), (insF F a x)[q]? = some y → (q ≤ a ∧ F[q]? = some y) ∨ (q = a + 1 ∧ y = x) ∨ (∃ i, q = i + 1 ∧ a < i ∧ F[i]? = some y) := fun q y hy => by
    rcases Nat.lt_trichotomy q (a + 1) with e | e | e
    · rw [insF_le ha (by omega)] at hy; exact .inl ⟨by omega, hy⟩
    · subst e; rw [insF_at ha] at hy; cases hy; exact .inr (.inl ⟨rfl, rfl⟩)
    · obtain ⟨i, rfl⟩ : ∃ i, q = i + 1 := ⟨q - 1, by omega⟩
      rw [insF_gt ha (by omega)] at hy; exact .inr (.inr ⟨i, rfl, by omega, hy⟩)
  refine ⟨fun q y hy => ?_, fun q q' y y' hy hy' hb => ?_, fun q y hy => ?_⟩
  · rcases part q y hy with ⟨e, hy'⟩ | ⟨rfl, rfl⟩ | ⟨i, rfl, e, hy'⟩
    · obtain ⟨A, hA, hNA⟩ := h.node q y hy'
      refine ⟨A, hA, hNA.size, hNA.m, hNA.s, by rw [h3 q e]; exact hNA.a, fun k hk => ?_, hNA.n⟩
      rw [h1 q k e (by rw [lev_some hy']; exact hk)]
      exact hNA.link k hk
    · exact ⟨B, by unfold tyq; rw [if_neg (by omega)]; exact hB, hN⟩
    · obtain ⟨A, hA, hNA⟩ := h.node i y hy'
      have hil := (List.getElem?_eq_some_iff.1 hy').1
      refine ⟨A, by unfold tyq at hA ⊢; rw [if_neg (by omega)] at hA ⊢; exact hA, by have := hNA.size; unfold szq at this ⊢; rw [if_neg (by omega)] at this ⊢; exact this, hNA.m, hNA.s, by rw [h4 i e hil]; exact hNA.a, fun k hk => ?_, fun e2 => by omega⟩
      rw [h2 i k e hil (by rw [lev_some hy']; exact hk)]
      exact hNA.link k hk
  · rcases part q y hy with ⟨e, hz⟩ | ⟨rfl, rfl⟩ | ⟨i, rfl, e, hz⟩ <;> rcases part q' y' hy' with ⟨e', hz'⟩ | ⟨rfl, rfl⟩ | ⟨i', rfl, e', hz'⟩
    · exact h.inj _ _ _ _ hz hz' hb
    · exact absurd (hb ▸ isB_at hz) hfresh
    · have := h.inj _ _ _ _ hz hz' hb; omega
    · exact absurd (hb ▸ isB_at hz') hfresh
    · rfl
    · exact absurd (hb ▸ isB_at hz') hfresh
    · have := h.inj _ _ _ _ hz hz' hb; omega
    · exact absurd (hb ▸ isB_at hz) hfresh
    · have := h.inj _ _ _ _ hz hz' hb; omega
  · rcases part q y hy with ⟨e, hz⟩ | ⟨rfl, rfl⟩ | ⟨i, rfl, e, hz⟩
    · exact h.lev _ _ hz
    · exact hx
    · exact h.lev _ _ hz
end Go.Proofs.Ytidiaomeahoapaa
/- join: an entry is put in where a way leads to. -/
namespace Go.Proofs.Ytidiaomeahoapaa
open Go.RowKit Go.Shelf
attribute [local go_sem] Oper.semAt_some

/-- What holds while the links are laid. -/
structure JInv (w0 : World) (F : List Nd) (a l nb wb b6 : Nat) (m : ByteArray) (s : Int) (ah : Nat → Value) (n : Int) (k : Nat) (W : World) : Prop where
  sk : Sk W F (lkJ F a l nb k) ah n
  new : ∃ B, Blk W nb 61 B ∧ B.size = 67 ∧ B[0]? = some (.string m) ∧ B[1]? = some (.int .i64 s) ∧ B[2]? = some (.pointer none) ∧
    ∀ k', k' < k → k' < l → B[3 + k' * 2]? = some (lk0 F (last F k' a) k').1 ∧ B[3 + k' * 2 + 1]? = some (.int .i64 ((lk0 F (last F k' a) k').2 - ((a : Int) - last F k' a)))
  way : Blk W wb 71 (wayA F a)
  box : Blk W b6 56 #[.pointer (some ⟨nb, 0, none⟩)]
  far : Far (fun q => isB F q ∨ q = nb) w0 W
  fresh : ¬ isB F nb

variable {w0 : World} {F : List Nd} {a l nb wb b6 : Nat} {m : ByteArray} {s : Int} {ah : Nat → Value} {n : Int} {k : Nat}
theorem JInv.later {W W' : World} (h : JInv w0 F a l nb wb b6 m s ah n k W) (hb : Below W.heap.size W W') : JInv w0 F a l nb wb b6 m s ah n k W' := by
  obtain ⟨h1, ⟨B, h2, h3⟩, h4, h5, h6, h7⟩ := h
  exact ⟨h1.later hb, ⟨B, h2.later hb, h3⟩, h4.later hb, h5.later hb, h6.then_below hb, h7⟩
theorem lk0_ptr (F : List Nd) (q k : Nat) : ∃ o, (lk0 F q k).1 = .pointer o := ⟨_, rfl⟩
theorem lk0_bound (F : List Nd) (hN : F.length ≤ 1000000) (q k : Nat) (hq : q < F.length) : -2000000 ≤ (lk0 F q k).2 ∧ (lk0 F q k).2 ≤ 2000000 := by
  obtain ⟨n1, n2, _⟩ := nxt_spec F k q hq
  unfold lk0
  exact ⟨by show _ ≤ (nxt F k q : Int) - q - 1; omega, by show (nxt F k q : Int) - q - 1 ≤ _; omega⟩
theorem lkJ_done (F : List Nd) (a l nb k : Nat) : lkJ F a l nb k (last F k a) k = lk0 F (last F k a) k := by unfold lkJ; rw [if_neg (by omega)]
theorem lkJ_step (F : List Nd) (a l nb k : Nat) (q' k' : Nat) (h : q' ≠ last F k a ∨ k' ≠ k) : lkJ F a l nb (k + 1) q' k' = lkJ F a l nb k q' k' := by
  unfold lkJ
  by_cases e : k' < k ∧ q' = last F k' a
  · rw [if_pos e, if_pos ⟨by omega, e.2⟩]
  · rw [if_neg e, if_neg]
    rintro ⟨h1, h2⟩
    by_cases e2 : k' = k
    · subst e2
      rcases h with h | h
      · exact h h2
      · exact h rfl
    · exact e ⟨by omega, h2⟩

/-- split serves the levels that the new node has. -/
theorem links_split (hF0 : lev F 0 = 32) (hp : ∀ i, i < F.length → 0 < lev F i) (hN : F.length ≤ 1000000) (ha : a < F.length) (hl : l ≤ 32) : Links F a wb 0 l 51 #[.pointer (some ⟨wb, 0, none⟩), .pointer (some ⟨b6, 0, none⟩)] (JInv w0 F a l nb wb b6 m s ah n) := by
  refine ⟨enters_of Try.func51 (by kernel_rfl) rfl, fun k W W' h hb => h.later hb, fun k W h => h.way, fun k W x _ hk h hx => ?_⟩
  obtain ⟨A, hA, hNA⟩ := h.sk.node _ x hx
  obtain ⟨B, hB, hBs, b0, b1, b2, hBl⟩ := h.new
  obtain ⟨l1, l2, l3⟩ := last_spec F k (by omega) a
  rw [lev_some hx] at l2
  obtain ⟨k1, k2⟩ := hNA.link k l2
  rw [lkJ_done] at k1 k2
  obtain ⟨o, ho⟩ := lk0_ptr F (last F k a) k
  rw [ho] at k1
  have hlb := lk0_bound F hN (last F k a) k (by omega)
  have hne : nb ≠ x.b := fun e => h.fresh (e ▸ isB_at hx)
  have w1 := (way_cells F a 0 (by decide)).2.1
  rw [last_zero F hp a ha] at w1
  refine (split_any x.b _ A B (wayA F a) ((last F k a : Int) - 1) ((a : Int) - 1) k wb b6 nb (by omega) o _ W hA k1 k2 hlb h.way w1 (by omega) (by omega) h.box hB hBs hne).mono ?_
  rintro e w' ⟨rfl, hf, hB'⟩
  have hA' := hf.blk hA (Ne.symm hne)
  have hs67 : 67 ≤ A.size := by rw [hNA.size]; unfold szq; split <;> decide
  have hsk := h.sk.far (S := fun q => q = nb) hf (fun q hq e => h.fresh (e ▸ hq))
  refine ⟨_, _, A[3 + k * 2], A[3 + k * 2 + 1], rfl, ?_, ?_, hA'.free _, hA'.free _, ⟨?_, ?_, ?_, ?_, ?_, h.fresh⟩, hf.size⟩
  · rw [hA'.cell]; exact Array.getElem?_eq_getElem _
  · rw [hA'.cell]; exact Array.getElem?_eq_getElem _
  · refine hsk.setLink hx (by omega) _ _ _ ?_ (fun q' k' hh => lkJ_step F a l nb k q' k' hh)
    unfold lkJ
    rw [if_pos ⟨by omega, rfl⟩, if_pos (by omega)]
    refine congrArg _ ?_
    omega
  · refine ⟨_, (hB'.setOther _ _ hne).setOther _ _ hne, by simpa using hBs, ?_, ?_, ?_, fun k' hk' hl' => ?_⟩
    · rw [Array.getElem?_setIfInBounds_ne (by omega), Array.getElem?_setIfInBounds_ne (by omega)]; exact b0
    · rw [Array.getElem?_setIfInBounds_ne (by omega), Array.getElem?_setIfInBounds_ne (by omega)]; exact b1
    · rw [Array.getElem?_setIfInBounds_ne (by omega), Array.getElem?_setIfInBounds_ne (by omega)]; exact b2
    · by_cases e : k' = k
      · subst e
        constructor
        · rw [Array.getElem?_setIfInBounds_ne (by omega), Array.getElem?_setIfInBounds_self_of_lt (by omega), ho]
        · rw [Array.getElem?_setIfInBounds_self_of_lt (by simp; omega)]
          refine congrArg (fun z => some (Value.int IntKind.i64 z)) ?_
          omega
      · obtain ⟨y1, y2⟩ := hBl k' (by omega) hl'
        exact ⟨by rw [Array.getElem?_setIfInBounds_ne (by omega), Array.getElem?_setIfInBounds_ne (by omega)]; exact y1, by rw [Array.getElem?_setIfInBounds_ne (by omega), Array.getElem?_setIfInBounds_ne (by omega)]; exact y2⟩
  · have hwx : wb ≠ x.b := fun e => absurd ((e ▸ h.way : Blk W x.b 71 _).ty hA) (fun e2 => (ty_ne _).2.2.1 e2.symm)
    have hwn : wb ≠ nb := fun e => absurd ((e ▸ h.way : Blk W nb 71 _).ty hB) (by decide)
    exact ((hf.blk h.way hwn).setOther _ _ hwx).setOther _ _ hwx
  · have hwx : b6 ≠ x.b := fun e => by
      have := (e ▸ h.box : Blk W x.b 56 _).ty hA
      unfold tyq at this; split at this <;> exact absurd this (by decide)
    have hwn : b6 ≠ nb := fun e => absurd ((e ▸ h.box : Blk W nb 56 _).ty hB) (by decide)
    exact ((hf.blk h.box hwn).setOther _ _ hwx).setOther _ _ hwx
  · exact far_set2 (h.far.trans (hf.mono (S1 := fun q => isB F q ∨ q = nb) (fun q e => .inr e)) (fun q e => .inl e)) _ _ _ _ _ (.inl (.inl (isB_at hx)))

/-- pass serves the others. -/
theorem links_pass (hF0 : lev F 0 = 32) (hN : F.length ≤ 1000000) (ha : a < F.length) (hl : l ≤ 32) : Links F a wb l (32 - l) 52 #[] (JInv w0 F a l nb wb b6 m s ah n) := by
  refine ⟨enters_of Try.func52 (by kernel_rfl) rfl, fun k W W' h hb => h.later hb, fun k W h => h.way, fun k W x hk0 hk h hx => ?_⟩
  obtain ⟨A, hA, hNA⟩ := h.sk.node _ x hx
  obtain ⟨B, hB, hBs, b0, b1, b2, hBl⟩ := h.new
  obtain ⟨l1, l2, l3⟩ := last_spec F k (by omega) a
  rw [lev_some hx] at l2
  obtain ⟨k1, k2⟩ := hNA.link k l2
  rw [lkJ_done] at k1 k2
  obtain ⟨o, ho⟩ := lk0_ptr F (last F k a) k
  rw [ho] at k1
  have hlb := lk0_bound F hN (last F k a) k (by omega)
  have hne : nb ≠ x.b := fun e => h.fresh (e ▸ isB_at hx)
  refine (pass_any x.b _ A ((last F k a : Int) - 1) k (by omega) o _ W hA k1 k2 hlb).mono ?_
  rintro e w' ⟨rfl, hb⟩
  have h' := h.later hb
  have hA' := hA.later hb
  have hB' := hB.later hb
  have hs67 : 67 ≤ A.size := by rw [hNA.size]; unfold szq; split <;> decide
  refine ⟨_, _, A[3 + k * 2], A[3 + k * 2 + 1], rfl, ?_, ?_, hA'.free _, hA'.free _, ⟨?_, ?_, ?_, ?_, ?_, h.fresh⟩, hb.size⟩
  · rw [hA'.cell]; exact Array.getElem?_eq_getElem _
  · rw [hA'.cell]; exact Array.getElem?_eq_getElem _
  · refine h'.sk.setLink hx (by omega) _ _ _ ?_ (fun q' k' hh => lkJ_step F a l nb k q' k' hh)
    unfold lkJ
    rw [if_pos ⟨by omega, rfl⟩, if_neg (by omega), ho]
  · exact ⟨B, (hB'.setOther _ _ hne).setOther _ _ hne, hBs, b0, b1, b2, fun k' hk' hl' => hBl k' (by omega) hl'⟩
  · have hwx : wb ≠ x.b := fun e => absurd ((e ▸ h.way : Blk W x.b 71 _).ty hA) (fun e2 => (ty_ne _).2.2.1 e2.symm)
    exact (h'.way.setOther _ _ hwx).setOther _ _ hwx
  · have hwx : b6 ≠ x.b := fun e => by
      have := (e ▸ h.box : Blk W x.b 56 _).ty hA
      unfold tyq at this; split at this <;> exact absurd this (by decide)
    exact (h'.box.setOther _ _ hwx).setOther _ _ hwx
  · exact far_set2 h'.far _ _ _ _ _ (.inl (.inl (isB_at hx)))
end Go.Proofs.Ytidiaomeahoapaa
