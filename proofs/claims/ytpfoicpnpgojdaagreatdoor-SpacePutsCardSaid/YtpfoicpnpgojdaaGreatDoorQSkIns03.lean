/- Texts of one kind in one: SkIns, SkJoin, SkPut, SkInsert. -/
import Derived.Test.YtpfoicpnpgojdaaGreatDoorQSkAsk02
/- A node put in: what its links, and those of the others, come to. -/
namespace Go.Proofs.YtpfoicpnpgojdaaGreatDoor.Sk
open Go.RowKit Go.Shelf

def insF (F : List Nd) (a : Nat) (x : Nd) : List Nd := F.take (a + 1) ++ x :: F.drop (a + 1)
variable {F : List Nd} {a : Nat} {x : Nd}
theorem insF_len (h : a < F.length) : (insF F a x).length = F.length + 1 := by unfold insF; simp; omega
theorem insF_le (h : a < F.length) {i : Nat} (hi : i ≤ a) : (insF F a x)[i]? = F[i]? := by
  unfold insF; rw [List.getElem?_append_left (by simp; omega), List.getElem?_take_of_lt (by omega)]
theorem insF_at (h : a < F.length) : (insF F a x)[a + 1]? = some x := by
  unfold insF; rw [List.getElem?_append_right (by simp; omega)]; simp [Nat.min_eq_left (show a + 1 ≤ F.length by omega)]
theorem insF_gt (h : a < F.length) {i : Nat} (hi : a < i) : (insF F a x)[i + 1]? = F[i]? := by
  unfold insF
  rw [List.getElem?_append_right (by simp; omega), List.length_take, Nat.min_eq_left (show a + 1 ≤ F.length by omega), show i + 1 - (a + 1) = (i - (a + 1)) + 1 by omega, List.getElem?_cons_succ, List.getElem?_drop]
  congr 1; omega
theorem lev_le (h : a < F.length) {i : Nat} (hi : i ≤ a) : lev (insF F a x) i = lev F i := by unfold lev; rw [insF_le h hi]
theorem lev_at (h : a < F.length) : lev (insF F a x) (a + 1) = x.l := by unfold lev; rw [insF_at h]; rfl
theorem lev_gt (h : a < F.length) {i : Nat} (hi : a < i) : lev (insF F a x) (i + 1) = lev F i := by unfold lev; rw [insF_gt h hi]
theorem adr_le (h : a < F.length) {i : Nat} (hi : i ≤ a) : adr (insF F a x) i = adr F i := by unfold adr; rw [insF_le h hi]
theorem adr_at (h : a < F.length) : adr (insF F a x) (a + 1) = .pointer (some ⟨x.b, 0, none⟩) := by unfold adr; rw [insF_at h]; rfl
theorem adr_gt (h : a < F.length) {i : Nat} (hi : a < i) : adr (insF F a x) (i + 1) = adr F i := by unfold adr; rw [insF_gt h hi]

/-- From the last one ahead, of a level that the new one has: to the new one. -/
theorem nxt_new (h : a < F.length) {k q : Nat} (h0 : k < lev F 0) (hq : q = last F k a) (hk : k < x.l) : nxt (insF F a x) k q = a + 1 := by
  obtain ⟨l1, l2, l3⟩ := last_spec F k h0 a
  subst hq
  refine nxt_unique (by rw [insF_len h]; omega) (by omega) (by rw [insF_len h]; omega) (fun i h1 h2 => ?_) (fun _ => by rw [lev_at h]; exact hk)
  rw [lev_le h (by omega)]
  exact l3 i h1 (by omega)
theorem nxt_last (h : a < F.length) {k : Nat} (h0 : k < lev F 0) : a < nxt F k (last F k a) := by
  obtain ⟨l1, l2, l3⟩ := last_spec F k h0 a
  obtain ⟨n1, n2, n3, n4, _⟩ := nxt_spec F k (last F k a) (by omega)
  rcases Nat.lt_or_ge a (nxt F k (last F k a)) with e | e
  · exact e
  · have := l3 _ n1 e
    have := n4 (by omega)
    omega
/-- The others: one place on, if it lies behind. -/
theorem nxt_pass (h : a < F.length) {k q : Nat} (h0 : k < lev F 0) (hq : q = last F k a) (hk : ¬ k < x.l) : nxt (insF F a x) k q = nxt F k q + 1 := by
  obtain ⟨l1, l2, l3⟩ := last_spec F k h0 a
  have ha := nxt_last h h0
  subst hq
  obtain ⟨n1, n2, n3, n4, _⟩ := nxt_spec F k (last F k a) (by omega)
  refine nxt_unique (by rw [insF_len h]; omega) (by omega) (by rw [insF_len h]; omega) (fun i h1 h2 => ?_) (fun hl => ?_)
  · by_cases e : i ≤ a
    · rw [lev_le h e]; exact n3 i h1 (by omega)
    · by_cases e2 : i = a + 1
      · subst e2; rw [lev_at h]; omega
      · obtain ⟨j, rfl⟩ : ∃ j, i = j + 1 := ⟨i - 1, by omega⟩
        rw [lev_gt h (by omega)]; exact n3 j (by omega) (by omega)
  · rw [insF_len h] at hl
    rw [lev_gt h ha]
    exact n4 (by omega)
theorem nxt_front (h : a < F.length) {k q : Nat} (h0 : k < lev F 0) (hq : q ≤ a) (hkq : k < lev F q) (hne : q ≠ last F k a) : nxt (insF F a x) k q = nxt F k q ∧ nxt F k q ≤ a := by
  obtain ⟨l1, l2, l3⟩ := last_spec F k h0 a
  obtain ⟨n1, n2, n3, n4, _⟩ := nxt_spec F k q (by omega)
  have hql : q < last F k a := by
    rcases Nat.lt_trichotomy q (last F k a) with e | e | e
    · exact e
    · exact absurd e hne
    · have := l3 q e hq; omega
  have hle : nxt F k q ≤ last F k a := by
    rcases Nat.lt_or_ge (last F k a) (nxt F k q) with e | e
    · have := n3 _ hql e; omega
    · exact e
  refine ⟨nxt_unique (by rw [insF_len h]; omega) n1 (by rw [insF_len h]; omega) (fun i h1 h2 => ?_) (fun _ => ?_), by omega⟩
  · rw [lev_le h (by omega)]; exact n3 i h1 h2
  · rw [lev_le h (by omega)]; exact n4 (by omega)
theorem nxt_own (h : a < F.length) {k : Nat} (h0 : k < lev F 0) : nxt (insF F a x) k (a + 1) = nxt F k (last F k a) + 1 := by
  obtain ⟨l1, l2, l3⟩ := last_spec F k h0 a
  have ha := nxt_last h h0
  obtain ⟨n1, n2, n3, n4, _⟩ := nxt_spec F k (last F k a) (by omega)
  refine nxt_unique (by rw [insF_len h]; omega) (by omega) (by rw [insF_len h]; omega) (fun i h1 h2 => ?_) (fun hl => ?_)
  · obtain ⟨j, rfl⟩ : ∃ j, i = j + 1 := ⟨i - 1, by omega⟩
    rw [lev_gt h (by omega)]; exact n3 j (by omega) (by omega)
  · rw [insF_len h] at hl
    rw [lev_gt h ha]
    exact n4 (by omega)
theorem nxt_back (h : a < F.length) {k q : Nat} (hq : a < q) (hql : q < F.length) : nxt (insF F a x) k (q + 1) = nxt F k q + 1 := by
  obtain ⟨n1, n2, n3, n4, _⟩ := nxt_spec F k q hql
  refine nxt_unique (by rw [insF_len h]; omega) (by omega) (by rw [insF_len h]; omega) (fun i h1 h2 => ?_) (fun hl => ?_)
  · obtain ⟨j, rfl⟩ : ∃ j, i = j + 1 := ⟨i - 1, by omega⟩
    rw [lev_gt h (by omega)]; exact n3 j (by omega) (by omega)
  · rw [insF_len h] at hl
    rw [lev_gt h (by omega)]
    exact n4 (by omega)

/-- The links while k levels have been laid. -/
def lkJ (F : List Nd) (a l nb k : Nat) (q k' : Nat) : Value × Int :=
  if k' < k ∧ q = last F k' a then (if k' < l then (.pointer (some ⟨nb, 0, none⟩), (a : Int) - q) else ((lk0 F q k').1, (lk0 F q k').2 + 1)) else lk0 F q k'
theorem lkJ_zero (F : List Nd) (a l nb q k' : Nat) : lkJ F a l nb 0 q k' = lk0 F q k' := by unfold lkJ; rw [if_neg (by omega)]

/-- Behind all levels: the links of the list with the new one in it. -/
theorem lk_ins_le (h : a < F.length) (h32 : lev F 0 = 32) {k q : Nat} (hk : k < 32) (hq : q ≤ a) (hkq : k < lev F q) : lk0 (insF F a x) q k = lkJ F a x.l x.b 32 q k := by
  unfold lkJ
  by_cases e : q = last F k a
  · rw [if_pos ⟨hk, e⟩]
    by_cases e2 : k < x.l
    · rw [if_pos e2]
      unfold lk0
      rw [nxt_new h (by omega) e e2, adr_at h]
      refine congrArg _ ?_
      omega
    · rw [if_neg e2]
      unfold lk0
      have := nxt_last (k := k) h (by omega)
      rw [← e] at this
      rw [nxt_pass h (by omega) e e2, adr_gt h this]
      refine congrArg _ ?_
      show ((nxt F k q + 1 : Nat) : Int) - q - 1 = _
      omega
  · rw [if_neg (fun t => e t.2)]
    unfold lk0
    obtain ⟨e1, e2⟩ := nxt_front (x := x) h (by omega) hq hkq e
    rw [e1, adr_le h e2]
theorem lk_ins_at (h : a < F.length) (h32 : lev F 0 = 32) {k : Nat} (hk : k < 32) : lk0 (insF F a x) (a + 1) k = ((lk0 F (last F k a) k).1, (lk0 F (last F k a) k).2 - ((a : Int) - last F k a)) := by
  unfold lk0
  have := nxt_last (k := k) h (by omega)
  rw [nxt_own h (by omega), adr_gt h this]
  refine congrArg _ ?_
  show ((nxt F k (last F k a) + 1 : Nat) : Int) - ((a + 1 : Nat) : Int) - 1 = _
  omega
theorem lk_ins_gt (h : a < F.length) {k q : Nat} (hq : a < q) (hql : q < F.length) : lk0 (insF F a x) (q + 1) k = lk0 F q k := by
  unfold lk0
  obtain ⟨n1, _⟩ := nxt_spec F k q hql
  rw [nxt_back h hq hql, adr_gt h (by omega)]
  refine congrArg _ ?_
  show ((nxt F k q + 1 : Nat) : Int) - ((q + 1 : Nat) : Int) - 1 = _
  omega
theorem lkJ_gt {l nb k q k' : Nat} (hq : a < q) (h0 : k' < lev F 0) : lkJ F a l nb k q k' = lk0 F q k' := by
  unfold lkJ
  rw [if_neg (fun t => by have := (last_spec F k' h0 a).1; omega)]

/-! ### Memory -/
variable {W : World} {lk : Nat → Nat → Value × Int} {ah : Nat → Value} {n : Int}
theorem NodeA.set {A : Array Value} {q : Nat} {x : Nd} {lk lk' : Nat → Value × Int} {ah : Value} {n : Int} (h : NodeA A q x lk ah n) {k : Nat} (hk : k < 32) (v : Value) (u : Int) (h1 : lk' k = (v, u)) (h2 : ∀ k', k' ≠ k → lk' k' = lk k') :
    NodeA ((A.setIfInBounds (3 + k * 2) v).setIfInBounds (3 + k * 2 + 1) (.int .i64 u)) q x lk' ah n := by
  have hs : 67 ≤ A.size := by rw [h.size]; unfold szq; split <;> decide
  have far : ∀ i, i ≠ 3 + k * 2 → i ≠ 3 + k * 2 + 1 → ((A.setIfInBounds (3 + k * 2) v).setIfInBounds (3 + k * 2 + 1) (.int .i64 u))[i]? = A[i]? := fun i e1 e2 => by
    rw [Array.getElem?_setIfInBounds_ne (Ne.symm e2), Array.getElem?_setIfInBounds_ne (Ne.symm e1)]
  refine ⟨by simpa using h.size, (far 0 (by omega) (by omega)).trans h.m, (far 1 (by omega) (by omega)).trans h.s, (far 2 (by omega) (by omega)).trans h.a, fun k' hk' => ?_, fun hq => (far 67 (by omega) (by omega)).trans (h.n hq)⟩
  by_cases e : k' = k
  · subst e
    rw [h1]
    constructor
    · rw [Array.getElem?_setIfInBounds_ne (by omega), Array.getElem?_setIfInBounds_self_of_lt (by omega)]
    · rw [Array.getElem?_setIfInBounds_self_of_lt (by simp; omega)]
  · rw [h2 k' e]
    exact ⟨(far _ (by omega) (by omega)).trans (h.link k' hk').1, (far _ (by omega) (by omega)).trans (h.link k' hk').2⟩
theorem Sk.setLink (h : Sk W F lk ah n) {q k : Nat} {x : Nd} (hq : F[q]? = some x) (hk : k < 32) (v : Value) (u : Int) (lk' : Nat → Nat → Value × Int) (h1 : lk' q k = (v, u)) (h2 : ∀ q' k', q' ≠ q ∨ k' ≠ k → lk' q' k' = lk q' k') :
    Sk ((W.setCell ⟨x.b, 3 + k * 2, none⟩ v).setCell ⟨x.b, 3 + k * 2 + 1, none⟩ (.int .i64 u)) F lk' ah n := by
  refine ⟨fun q' x' hx' => ?_, h.inj, h.lev⟩
  obtain ⟨A, hA, hN⟩ := h.node q' x' hx'
  by_cases e : q' = q
  · subst e
    rw [hq] at hx'
    cases hx'
    exact ⟨_, (hA.set _ _).set _ _, hN.set hk v u h1 (fun k' hk' => h2 _ _ (.inr hk'))⟩
  · have hne : x'.b ≠ x.b := fun e2 => e (h.inj _ _ _ _ hx' hq e2)
    refine ⟨A, (hA.setOther _ _ hne).setOther _ _ hne, ?_⟩
    have : lk' q' = lk q' := funext fun k' => h2 _ _ (.inl e)
    rw [this]; exact hN
theorem NodeA.setAh {A : Array Value} {q : Nat} {x : Nd} {lk : Nat → Value × Int} {ah : Value} {n : Int} (h : NodeA A q x lk ah n) (v : Value) : NodeA (A.setIfInBounds 2 v) q x lk v n := by
  have hs : 67 ≤ A.size := by rw [h.size]; unfold szq; split <;> decide
  have far : ∀ i, i ≠ 2 → (A.setIfInBounds 2 v)[i]? = A[i]? := fun i e => Array.getElem?_setIfInBounds_ne (Ne.symm e)
  exact ⟨by simpa using h.size, (far 0 (by omega)).trans h.m, (far 1 (by omega)).trans h.s, Array.getElem?_setIfInBounds_self_of_lt (by omega), fun k' hk' => ⟨(far _ (by omega)).trans (h.link k' hk').1, (far _ (by omega)).trans (h.link k' hk').2⟩, fun hq => (far 67 (by omega)).trans (h.n hq)⟩
theorem Sk.setAh (h : Sk W F lk ah n) {q : Nat} {x : Nd} (hq : F[q]? = some x) (v : Value) (ah' : Nat → Value) (h1 : ah' q = v) (h2 : ∀ q', q' ≠ q → ah' q' = ah q') : Sk (W.setCell ⟨x.b, 2, none⟩ v) F lk ah' n := by
  refine ⟨fun q' x' hx' => ?_, h.inj, h.lev⟩
  obtain ⟨A, hA, hN⟩ := h.node q' x' hx'
  by_cases e : q' = q
  · subst e
    rw [hq] at hx'
    cases hx'
    exact ⟨_, hA.set _ _, by rw [h1]; exact hN.setAh v⟩
  · have hne : x'.b ≠ x.b := fun e2 => e (h.inj _ _ _ _ hx' hq e2)
    exact ⟨A, hA.setOther _ _ hne, by rw [h2 _ e]; exact hN⟩
theorem Sk.setN (h : Sk W F lk ah n) {x : Nd} (hq : F[0]? = some x) (n' : Int) : Sk (W.setCell ⟨x.b, 67, none⟩ (.int .i64 n')) F lk ah n' := by
  refine ⟨fun q' x' hx' => ?_, h.inj, h.lev⟩
  obtain ⟨A, hA, hN⟩ := h.node q' x' hx'
  have far : ∀ i, i ≠ 67 → (A.setIfInBounds 67 (.int .i64 n'))[i]? = A[i]? := fun i e => Array.getElem?_setIfInBounds_ne (Ne.symm e)
  have hl := (h.lev _ _ hx').2
  by_cases e : q' = 0
  · subst e
    rw [hq] at hx'
    cases hx'
    have hs := hN.size
    exact ⟨_, hA.set _ _, ⟨by simpa using hN.size, (far 0 (by omega)).trans hN.m, (far 1 (by omega)).trans hN.s, (far 2 (by omega)).trans hN.a, fun k' hk' => ⟨(far _ (by omega)).trans (hN.link k' hk').1, (far _ (by omega)).trans (hN.link k' hk').2⟩, fun _ => Array.getElem?_setIfInBounds_self_of_lt (by rw [hs]; decide)⟩⟩
  · have hne : x'.b ≠ x.b := fun e2 => e (h.inj _ _ _ _ hx' hq e2)
    exact ⟨A, hA.setOther _ _ hne, ⟨hN.size, hN.m, hN.s, hN.a, hN.link, fun e2 => absurd e2 e⟩⟩
/-- The nodes and one more. -/
theorem sk_insert (h : Sk W F lk ah n) (ha : a < F.length) {B : Array Value} (hB : Blk W x.b 275 B) (hx : 0 < x.l ∧ x.l ≤ 32) (lk' : Nat → Nat → Value × Int) (ah' : Nat → Value) (hN : NodeA B (a + 1) x (lk' (a + 1)) (ah' (a + 1)) n) (hfresh : ¬ isB F x.b)
    (h1 : ∀ q k, q ≤ a → k < lev F q → lk' q k = lk q k) (h2 : ∀ q k, a < q → q < F.length → k < lev F q → lk' (q + 1) k = lk q k) (h3 : ∀ q, q ≤ a → ah' q = ah q) (h4 : ∀ q, a < q → q < F.length → ah' (q + 1) = ah q) : Sk W (insF F a x) lk' ah' n := by
  have part : ∀ (q : Nat) (y : Nd), (insF F a x)[q]? = some y → (q ≤ a ∧ F[q]? = some y) ∨ (q = a + 1 ∧ y = x) ∨ (∃ i, q = i + 1 ∧ a < i ∧ F[i]? = some y) := fun q y hy => by
    rcases Nat.lt_trichotomy q (a + 1) with e | e | e
    · rw [insF_le ha (by omega)] at hy; exact .inl ⟨by omega, hy⟩
    · subst e; rw [insF_at ha] at hy; cases hy; exact .inr (.inl ⟨rfl, rfl⟩)
    · obtain ⟨i, rfl⟩ : ∃ i, q = i + 1 := ⟨q - 1, by omega⟩
      rw [insF_gt ha (by omega)] at hy; exact .inr (.inr ⟨i, rfl, by omega, hy⟩)
  refine ⟨fun q y hy => ?_, fun q q' y y' hy hy' hb => ?_, fun q y hy => ?_⟩
  · rcases part q y hy with ⟨e, hy'⟩ | ⟨rfl, rfl⟩ | ⟨i, rfl, e, hy'⟩
    · obtain ⟨A, hA, hNA⟩ := h.node q y hy'
      refine ⟨A, hA, hNA.size, hNA.m, hNA.s, by rw [h3 q e]; exact hNA.a, fun k hk => ?_, hNA.n⟩
      rw [h1 q k e (by rw [lev_some hy']; exact hk)]
      exact hNA.link k hk
    · exact ⟨B, by unfold tyq; rw [if_neg (by omega)]; exact hB, hN⟩
    · obtain ⟨A, hA, hNA⟩ := h.node i y hy'
      have hil := (List.getElem?_eq_some_iff.1 hy').1
      refine ⟨A, by unfold tyq at hA ⊢; rw [if_neg (by omega)] at hA ⊢; exact hA, by have := hNA.size; unfold szq at this ⊢; rw [if_neg (by omega)] at this ⊢; exact this, hNA.m, hNA.s, by rw [h4 i e hil]; exact hNA.a, fun k hk => ?_, fun e2 => by omega⟩
      rw [h2 i k e hil (by rw [lev_some hy']; exact hk)]
      exact hNA.link k hk
  · rcases part q y hy with ⟨e, hz⟩ | ⟨rfl, rfl⟩ | ⟨i, rfl, e, hz⟩ <;> rcases part q' y' hy' with ⟨e', hz'⟩ | ⟨rfl, rfl⟩ | ⟨i', rfl, e', hz'⟩
    · exact h.inj _ _ _ _ hz hz' hb
    · exact absurd (hb ▸ isB_at hz) hfresh
    · have := h.inj _ _ _ _ hz hz' hb; omega
    · exact absurd (hb ▸ isB_at hz') hfresh
    · rfl
    · exact absurd (hb ▸ isB_at hz') hfresh
    · have := h.inj _ _ _ _ hz hz' hb; omega
    · exact absurd (hb ▸ isB_at hz) hfresh
    · have := h.inj _ _ _ _ hz hz' hb; omega
  · rcases part q y hy with ⟨e, hz⟩ | ⟨rfl, rfl⟩ | ⟨i, rfl, e, hz⟩
    · exact h.lev _ _ hz
    · exact hx
    · exact h.lev _ _ hz
end Go.Proofs.YtpfoicpnpgojdaaGreatDoor.Sk
/- join: an entry is put in where a way leads to. -/
namespace Go.Proofs.YtpfoicpnpgojdaaGreatDoor.Sk
open Go.RowKit Go.Shelf
attribute [local go_sem] Oper.semAt_some

/-- What holds while the links are laid. -/
structure JInv (w0 : World) (F : List Nd) (a l nb wb b6 : Nat) (m : ByteArray) (s : Int) (ah : Nat → Value) (n : Int) (k : Nat) (W : World) : Prop where
  sk : Sk W F (lkJ F a l nb k) ah n
  new : ∃ B, Blk W nb 275 B ∧ B.size = 67 ∧ B[0]? = some (.string m) ∧ B[1]? = some (.int .i64 s) ∧ B[2]? = some (.pointer none) ∧
    ∀ k', k' < k → k' < l → B[3 + k' * 2]? = some (lk0 F (last F k' a) k').1 ∧ B[3 + k' * 2 + 1]? = some (.int .i64 ((lk0 F (last F k' a) k').2 - ((a : Int) - last F k' a)))
  way : Blk W wb 303 (wayA F a)
  box : Blk W b6 270 #[.pointer (some ⟨nb, 0, none⟩)]
  far : Far (fun q => isB F q ∨ q = nb) w0 W
  fresh : ¬ isB F nb

variable {w0 : World} {F : List Nd} {a l nb wb b6 : Nat} {m : ByteArray} {s : Int} {ah : Nat → Value} {n : Int} {k : Nat}
theorem JInv.later {W W' : World} (h : JInv w0 F a l nb wb b6 m s ah n k W) (hb : Below W.heap.size W W') : JInv w0 F a l nb wb b6 m s ah n k W' := by
  obtain ⟨h1, ⟨B, h2, h3⟩, h4, h5, h6, h7⟩ := h
  exact ⟨h1.later hb, ⟨B, h2.later hb, h3⟩, h4.later hb, h5.later hb, h6.then_below hb, h7⟩
theorem lk0_ptr (F : List Nd) (q k : Nat) : ∃ o, (lk0 F q k).1 = .pointer o := ⟨_, rfl⟩
theorem lk0_bound (F : List Nd) (hN : F.length ≤ 1000000) (q k : Nat) (hq : q < F.length) : -2000000 ≤ (lk0 F q k).2 ∧ (lk0 F q k).2 ≤ 2000000 := by
  obtain ⟨n1, n2, _⟩ := nxt_spec F k q hq
  unfold lk0
  exact ⟨by show _ ≤ (nxt F k q : Int) - q - 1; omega, by show (nxt F k q : Int) - q - 1 ≤ _; omega⟩
theorem lkJ_done (F : List Nd) (a l nb k : Nat) : lkJ F a l nb k (last F k a) k = lk0 F (last F k a) k := by unfold lkJ; rw [if_neg (by omega)]
theorem lkJ_step (F : List Nd) (a l nb k : Nat) (q' k' : Nat) (h : q' ≠ last F k a ∨ k' ≠ k) : lkJ F a l nb (k + 1) q' k' = lkJ F a l nb k q' k' := by
  unfold lkJ
  by_cases e : k' < k ∧ q' = last F k' a
  · rw [if_pos e, if_pos ⟨by omega, e.2⟩]
  · rw [if_neg e, if_neg]
    rintro ⟨h1, h2⟩
    by_cases e2 : k' = k
    · subst e2
      rcases h with h | h
      · exact h h2
      · exact h rfl
    · exact e ⟨by omega, h2⟩

/-- split serves the levels that the new node has. -/
theorem links_split (hF0 : lev F 0 = 32) (hp : ∀ i, i < F.length → 0 < lev F i) (hN : F.length ≤ 1000000) (ha : a < F.length) (hl : l ≤ 32) : Links F a wb 0 l 220 #[.pointer (some ⟨wb, 0, none⟩), .pointer (some ⟨b6, 0, none⟩)] (JInv w0 F a l nb wb b6 m s ah n) := by
  refine ⟨enters_of Tryz.func220 (by kernel_rfl) rfl, fun k W W' h hb => h.later hb, fun k W h => h.way, fun k W x _ hk h hx => ?_⟩
  obtain ⟨A, hA, hNA⟩ := h.sk.node _ x hx
  obtain ⟨B, hB, hBs, b0, b1, b2, hBl⟩ := h.new
  obtain ⟨l1, l2, l3⟩ := last_spec F k (by omega) a
  rw [lev_some hx] at l2
  obtain ⟨k1, k2⟩ := hNA.link k l2
  rw [lkJ_done] at k1 k2
  obtain ⟨o, ho⟩ := lk0_ptr F (last F k a) k
  rw [ho] at k1
  have hlb := lk0_bound F hN (last F k a) k (by omega)
  have hne : nb ≠ x.b := fun e => h.fresh (e ▸ isB_at hx)
  have w1 := (way_cells F a 0 (by decide)).2.1
  rw [last_zero F hp a ha] at w1
  refine (split_any x.b _ A B (wayA F a) ((last F k a : Int) - 1) ((a : Int) - 1) k wb b6 nb (by omega) o _ W hA k1 k2 hlb h.way w1 (by omega) (by omega) h.box hB hBs hne).mono ?_
  rintro e w' ⟨rfl, hf, hB'⟩
  have hA' := hf.blk hA (Ne.symm hne)
  have hs67 : 67 ≤ A.size := by rw [hNA.size]; unfold szq; split <;> decide
  have hsk := h.sk.far (S := fun q => q = nb) hf (fun q hq e => h.fresh (e ▸ hq))
  refine ⟨_, _, A[3 + k * 2], A[3 + k * 2 + 1], rfl, ?_, ?_, hA'.free _, hA'.free _, ⟨?_, ?_, ?_, ?_, ?_, h.fresh⟩, hf.size⟩
  · rw [hA'.cell]; exact Array.getElem?_eq_getElem _
  · rw [hA'.cell]; exact Array.getElem?_eq_getElem _
  · refine hsk.setLink hx (by omega) _ _ _ ?_ (fun q' k' hh => lkJ_step F a l nb k q' k' hh)
    unfold lkJ
    rw [if_pos ⟨by omega, rfl⟩, if_pos (by omega)]
    refine congrArg _ ?_
    omega
  · refine ⟨_, (hB'.setOther _ _ hne).setOther _ _ hne, by simpa using hBs, ?_, ?_, ?_, fun k' hk' hl' => ?_⟩
    · rw [Array.getElem?_setIfInBounds_ne (by omega), Array.getElem?_setIfInBounds_ne (by omega)]; exact b0
    · rw [Array.getElem?_setIfInBounds_ne (by omega), Array.getElem?_setIfInBounds_ne (by omega)]; exact b1
    · rw [Array.getElem?_setIfInBounds_ne (by omega), Array.getElem?_setIfInBounds_ne (by omega)]; exact b2
    · by_cases e : k' = k
      · subst e
        constructor
        · rw [Array.getElem?_setIfInBounds_ne (by omega), Array.getElem?_setIfInBounds_self_of_lt (by omega), ho]
        · rw [Array.getElem?_setIfInBounds_self_of_lt (by simp; omega)]
          refine congrArg (fun z => some (Value.int IntKind.i64 z)) ?_
          omega
      · obtain ⟨y1, y2⟩ := hBl k' (by omega) hl'
        exact ⟨by rw [Array.getElem?_setIfInBounds_ne (by omega), Array.getElem?_setIfInBounds_ne (by omega)]; exact y1, by rw [Array.getElem?_setIfInBounds_ne (by omega), Array.getElem?_setIfInBounds_ne (by omega)]; exact y2⟩
  · have hwx : wb ≠ x.b := fun e => absurd ((e ▸ h.way : Blk W x.b 303 _).ty hA) (fun e2 => (ty_ne _).2.2.1 e2.symm)
    have hwn : wb ≠ nb := fun e => absurd ((e ▸ h.way : Blk W nb 303 _).ty hB) (by decide)
    exact ((hf.blk h.way hwn).setOther _ _ hwx).setOther _ _ hwx
  · have hwx : b6 ≠ x.b := fun e => by
      have := (e ▸ h.box : Blk W x.b 270 _).ty hA
      unfold tyq at this; split at this <;> exact absurd this (by decide)
    have hwn : b6 ≠ nb := fun e => absurd ((e ▸ h.box : Blk W nb 270 _).ty hB) (by decide)
    exact ((hf.blk h.box hwn).setOther _ _ hwx).setOther _ _ hwx
  · exact far_set2 (h.far.trans (hf.mono (S1 := fun q => isB F q ∨ q = nb) (fun q e => .inr e)) (fun q e => .inl e)) _ _ _ _ _ (.inl (.inl (isB_at hx)))

/-- pass serves the others. -/
theorem links_pass (hF0 : lev F 0 = 32) (hN : F.length ≤ 1000000) (ha : a < F.length) (hl : l ≤ 32) : Links F a wb l (32 - l) 221 #[] (JInv w0 F a l nb wb b6 m s ah n) := by
  refine ⟨enters_of Tryz.func221 (by kernel_rfl) rfl, fun k W W' h hb => h.later hb, fun k W h => h.way, fun k W x hk0 hk h hx => ?_⟩
  obtain ⟨A, hA, hNA⟩ := h.sk.node _ x hx
  obtain ⟨B, hB, hBs, b0, b1, b2, hBl⟩ := h.new
  obtain ⟨l1, l2, l3⟩ := last_spec F k (by omega) a
  rw [lev_some hx] at l2
  obtain ⟨k1, k2⟩ := hNA.link k l2
  rw [lkJ_done] at k1 k2
  obtain ⟨o, ho⟩ := lk0_ptr F (last F k a) k
  rw [ho] at k1
  have hlb := lk0_bound F hN (last F k a) k (by omega)
  have hne : nb ≠ x.b := fun e => h.fresh (e ▸ isB_at hx)
  refine (pass_any x.b _ A ((last F k a : Int) - 1) k (by omega) o _ W hA k1 k2 hlb).mono ?_
  rintro e w' ⟨rfl, hb⟩
  have h' := h.later hb
  have hA' := hA.later hb
  have hB' := hB.later hb
  have hs67 : 67 ≤ A.size := by rw [hNA.size]; unfold szq; split <;> decide
  refine ⟨_, _, A[3 + k * 2], A[3 + k * 2 + 1], rfl, ?_, ?_, hA'.free _, hA'.free _, ⟨?_, ?_, ?_, ?_, ?_, h.fresh⟩, hb.size⟩
  · rw [hA'.cell]; exact Array.getElem?_eq_getElem _
  · rw [hA'.cell]; exact Array.getElem?_eq_getElem _
  · refine h'.sk.setLink hx (by omega) _ _ _ ?_ (fun q' k' hh => lkJ_step F a l nb k q' k' hh)
    unfold lkJ
    rw [if_pos ⟨by omega, rfl⟩, if_neg (by omega), ho]
  · exact ⟨B, (hB'.setOther _ _ hne).setOther _ _ hne, hBs, b0, b1, b2, fun k' hk' hl' => hBl k' (by omega) hl'⟩
  · have hwx : wb ≠ x.b := fun e => absurd ((e ▸ h.way : Blk W x.b 303 _).ty hA) (fun e2 => (ty_ne _).2.2.1 e2.symm)
    exact (h'.way.setOther _ _ hwx).setOther _ _ hwx
  · have hwx : b6 ≠ x.b := fun e => by
      have := (e ▸ h.box : Blk W x.b 270 _).ty hA
      unfold tyq at this; split at this <;> exact absurd this (by decide)
    exact (h'.box.setOther _ _ hwx).setOther _ _ hwx
  · exact far_set2 h'.far _ _ _ _ _ (.inl (.inl (isB_at hx)))
end Go.Proofs.YtpfoicpnpgojdaaGreatDoor.Sk
/- join, walked. -/
namespace Go.Proofs.YtpfoicpnpgojdaaGreatDoor.Sk
open Go.RowKit Go.Shelf
attribute [local go_sem] Oper.semAt_some

theorem clone_any (s : ByteArray) (w : World) (hs : s.size ≤ 281474976710656) : Calls Tryz.prog 95 #[.string s] w fun e w' => e = .returned (.string s) ∧ Below w.heap.size w w' := by
  have HC := fun w => Lib.hid (Tryz.stringslite_Clone s w hs)
  clear hs
  go_enter Tryz.func95, Tryz.ntmps95
  go_wp2_with fail
  refine (HC _).out.mono ?_
  rintro e w1 ⟨rfl, hb⟩
  have HB := Lib.hid hb
  clear hb
  go_wp2_with fail
  go_ret
  exact ⟨rfl, HB.out⟩

def z61 : Array Value := #[.string ⟨#[]⟩, .int .i64 0, .pointer none] ++ ((List.range 32).flatMap fun _ => [Value.pointer none, .int .i64 0]).toArray
theorem info133 : (Tryz.prog.info? 275).map (fun i => (i.zero, i.size)) = some (some (.agg z61), 67) := by kernel_rfl
theorem zero61 (w : World) : (zeroValue 275).run Tryz.prog w = .ok (.agg z61) w := (zero_of_info info133).1 w

theorem Sk.congr {W : World} {F : List Nd} {lk : Nat → Nat → Value × Int} {ah ah' : Nat → Value} {n : Int} (h : Sk W F lk ah n) (he : ∀ q, q < F.length → ah' q = ah q) : Sk W F lk ah' n :=
  ⟨fun q x hx => by obtain ⟨A, hA, hN⟩ := h.node q x hx; exact ⟨A, hA, by rw [he q (List.getElem?_eq_some_iff.1 hx).1]; exact hN⟩, h.inj, h.lev⟩
theorem fin_sk {W1 : World} {F : List Nd} {a l nb : Nat} {m : ByteArray} {s : Int} {ah1 : Nat → Value} {n : Int} {B : Array Value} (hF0 : lev F 0 = 32) (ha : a < F.length) (hl : 0 < l ∧ l ≤ 32) (hsk : Sk W1 F (lkJ F a l nb 32) ah1 n) (hah : ∀ q, q < F.length → ah1 q = if q = a + 1 then .pointer (some ⟨nb, 0, none⟩) else ah0 F q)
    (hB : Blk W1 nb 275 B) (hBs : B.size = 67) (b0 : B[0]? = some (.string m)) (b1 : B[1]? = some (.int .i64 s)) (hBl : ∀ k', k' < 32 → k' < l → B[3 + k' * 2]? = some (lk0 F (last F k' a) k').1 ∧ B[3 + k' * 2 + 1]? = some (.int .i64 ((lk0 F (last F k' a) k').2 - ((a : Int) - last F k' a)))) (hfr : ¬ isB F nb) :
    Sk (W1.setCell ⟨nb, 2, none⟩ (adr F a)) (insF F a ⟨nb, m, s, l⟩) (lk0 (insF F a ⟨nb, m, s, l⟩)) (ah0 (insF F a ⟨nb, m, s, l⟩)) n := by
  have hle : ∀ q k, q < F.length → k < lev F q → k < 32 := fun q k hq hk => by
    have := (hsk.lev q _ (List.getElem?_eq_getElem hq)).2
    rw [lev_some (List.getElem?_eq_getElem hq)] at hk
    omega
  have far : ∀ i, i ≠ 2 → (B.setIfInBounds 2 (adr F a))[i]? = B[i]? := fun i e => Array.getElem?_setIfInBounds_ne (Ne.symm e)
  refine sk_insert (x := ⟨nb, m, s, l⟩) (hsk.setOther nb 2 (adr F a) hfr) ha (hB.set 2 (adr F a)) hl _ _ ?_ hfr (fun q k hq hk => ?_) (fun q k hq hq2 hk => ?_) (fun q hq => ?_) (fun q hq hq2 => ?_)
  · refine ⟨by simpa [szq] using hBs, (far 0 (by decide)).trans b0, (far 1 (by decide)).trans b1, ?_, fun k hk => ?_, fun e => absurd e (Nat.succ_ne_zero a)⟩
    · rw [Array.getElem?_setIfInBounds_self_of_lt (by omega)]
      unfold ah0
      rw [if_neg (Nat.succ_ne_zero a), Nat.add_sub_cancel, adr_le ha (Nat.le_refl _)]
    · have hk' : k < l := hk
      have hb := hBl k (by omega) hk'
      rw [lk_ins_at ha hF0 (by omega)]
      exact ⟨(far _ (by omega)).trans hb.1, (far _ (by omega)).trans hb.2⟩
  · exact lk_ins_le ha hF0 (hle q k (by omega) hk) hq hk
  · rw [lk_ins_gt ha hq hq2, lkJ_gt hq (by have := hle q k hq2 hk; omega)]
  · rw [hah q (by omega), if_neg (by omega)]
    unfold ah0
    by_cases e : q = 0
    · rw [if_pos e, if_pos e]
    · rw [if_neg e, if_neg e, adr_le ha (by omega)]
  · rw [hah q hq2]
    show (if q + 1 = 0 then _ else adr _ (q + 1 - 1)) = _
    rw [if_neg (by omega), Nat.add_sub_cancel]
    by_cases e : q = a + 1
    · subst e
      rw [if_pos rfl, adr_at ha]
    · rw [if_neg e]
      obtain ⟨i, rfl⟩ : ∃ i, q = i + 1 := ⟨q - 1, by omega⟩
      rw [adr_gt ha (by omega)]
      unfold ah0
      rw [if_neg (by omega), Nat.add_sub_cancel]

theorem jinv0 {w W : World} {F : List Nd} {a l nb wb b6 : Nat} {m : ByteArray} {s : Int} {n : Int} {B : Array Value} (hw : Sk w F (lk0 F) (ah0 F) n) (hb : Below w.heap.size w W) (hB : Blk W nb 275 B) (hBs : B.size = 67) (b0 : B[0]? = some (.string m)) (b1 : B[1]? = some (.int .i64 s)) (b2 : B[2]? = some (.pointer none))
    (hway : Blk W wb 303 (wayA F a)) (hbox : Blk W b6 270 #[.pointer (some ⟨nb, 0, none⟩)]) (hnb : w.heap.size ≤ nb) : JInv w F a l nb wb b6 m s (ah0 F) n 0 W := by
  have he : lkJ F a l nb 0 = lk0 F := by funext q k; exact lkJ_zero ..
  exact ⟨by rw [he]; exact hw.later hb, ⟨B, hB, hBs, b0, b1, b2, fun k' h => absurd h (Nat.not_lt_zero _)⟩, hway, hbox, Far.of_below hb, fun e => by have := hw.lt e; omega⟩

set_option maxRecDepth 100000 in
theorem relink_none (G : Nat) (caps : Array Value) (b : Addr) (cap : Nat) (w : World) : Calls Tryz.prog 222 #[.func (.func G) #[] caps, .slice (some b) 0 cap] w fun e w' => e = .returned (.tuple #[]) ∧ w' = w := by
  go_enter Tryz.func222, Tryz.ntmps222
  go_wp2
  go_loopw [8] (fun i wr => i = .int .i64 0 ∧ wr = w) (fun _ _ => 0)
  case atStart => exact ⟨rfl, rfl⟩
  case round =>
    obtain ⟨rfl, rfl⟩ := hrel
    go_wp2
    go_returns
    exact ⟨rfl, rfl⟩

/-- Behind all links: the two links back. -/
theorem joined {w0 w3 : World} {F : List Nd} {a l nb wb b6 : Nat} {m : ByteArray} {s : Int} {n : Int} {x0 : Nd} (hF0 : lev F 0 = 32) (ha : a < F.length) (hl : 0 < l ∧ l ≤ 32) (hJ : JInv w0 F a l nb wb b6 m s (ah0 F) n 32 w3) (hx0 : F[a]? = some x0) :
    w3.cell? ⟨b6, 0, none⟩ = some (.pointer (some ⟨nb, 0, none⟩)) ∧ w3.cell? ⟨wb, 0, none⟩ = some (.pointer (some ⟨x0.b, 0, none⟩)) ∧ ∃ w4, (Calls Tryz.prog 223 #[.pointer (some ⟨nb, 0, none⟩)] w3 fun e w' => e = .returned (.tuple #[]) ∧ w' = w4) ∧ w4.cell? ⟨wb, 0, none⟩ = some (.pointer (some ⟨x0.b, 0, none⟩)) ∧
      (Calls Tryz.prog 223 #[.pointer (some ⟨x0.b, 0, none⟩)] w4 fun e w' => e = .returned (.tuple #[]) ∧ w' = w4.setCell ⟨nb, 2, none⟩ (.pointer (some ⟨x0.b, 0, none⟩))) ∧
      Far (fun q => isB F q ∨ q = nb) w0 (w4.setCell ⟨nb, 2, none⟩ (.pointer (some ⟨x0.b, 0, none⟩))) ∧ Sk (w4.setCell ⟨nb, 2, none⟩ (.pointer (some ⟨x0.b, 0, none⟩))) (insF F a ⟨nb, m, s, l⟩) (lk0 (insF F a ⟨nb, m, s, l⟩)) (ah0 (insF F a ⟨nb, m, s, l⟩)) n := by
  obtain ⟨hsk, ⟨B, hB, hBs, b0, b1, b2, hBl⟩, hway, hbox, hfar, hfr⟩ := hJ
  have hp : ∀ i, i < F.length → 0 < lev F i := fun i hi => by rw [lev_some (List.getElem?_eq_getElem hi)]; exact (hsk.lev i _ (List.getElem?_eq_getElem hi)).1
  have hla := last_zero F hp a ha
  have hnx := nxt_zero hp a ha
  have hax := adr_some hx0
  have w0c := (way_cells F a 0 (by decide)).1
  rw [hla, hax] at w0c
  have hwb : ∀ q (x : Nd), F[q]? = some x → wb ≠ x.b := fun q x hq e => by
    obtain ⟨A, hA, _⟩ := hsk.node q x hq
    exact absurd ((e ▸ hway : Blk w3 x.b 303 _).ty hA) (fun e2 => (ty_ne _).2.2.1 e2.symm)
  have hB3 := (hBl 0 (by decide) hl.1).1
  rw [hla] at hB3
  have hB3 : B[3]? = some (adr F (a + 1)) := by unfold lk0 at hB3; rw [hnx] at hB3; exact hB3
  obtain ⟨A0, hA0, hN0⟩ := hsk.node a x0 hx0
  have hA3 := (hN0.link 0 (hsk.lev _ _ hx0).1).1
  have hA3 : A0[3]? = some (.pointer (some ⟨nb, 0, none⟩)) := by unfold lkJ at hA3; rw [if_pos ⟨by decide, hla.symm⟩, if_pos hl.1] at hA3; exact hA3
  have hnx0 : nb ≠ x0.b := fun e => hfr (e ▸ isB_at hx0)
  refine ⟨hbox.cell 0, (hway.cell _).trans w0c, ?_⟩
  by_cases hlast : a + 1 < F.length
  · obtain ⟨y, hy⟩ : ∃ y, F[a + 1]? = some y := ⟨_, List.getElem?_eq_getElem hlast⟩
    rw [adr_some hy] at hB3
    obtain ⟨A1, hA1, hN1⟩ := hsk.node _ y hy
    have hs1 : 67 ≤ A1.size := by rw [hN1.size]; unfold szq; split <;> decide
    have hny : nb ≠ y.b := fun e => hfr (e ▸ isB_at hy)
    have hxy : x0.b ≠ y.b := fun e => absurd (hsk.inj _ _ _ _ hx0 hy e) (by omega)
    have hsk4 := hsk.setAh hy (.pointer (some ⟨nb, 0, none⟩)) (fun q => if q = a + 1 then .pointer (some ⟨nb, 0, none⟩) else ah0 F q) (if_pos rfl) (fun q hq => if_neg hq)
    refine ⟨_, tie_some nb 275 y.b _ B A1 w3 hB hB3 hA1 (by omega), ((hway.setOther 2 _ (hwb _ y hy)).cell _).trans w0c, tie_some x0.b _ nb 275 A0 B _ (hA0.setOther 2 _ hxy) hA3 (hB.setOther 2 _ hny) (by omega), ?_, ?_⟩
    · exact (hfar.set ⟨y.b, 2, none⟩ _ (.inl (.inl (isB_at hy)))).set ⟨nb, 2, none⟩ _ (.inl (.inr rfl))
    · have := fin_sk hF0 ha hl hsk4 (fun q _ => rfl) (hB.setOther 2 _ hny) hBs b0 b1 hBl hfr
      rw [hax] at this
      exact this
  · rw [adr_none (by omega)] at hB3
    refine ⟨w3, tie_none nb 275 B w3 hB hB3, (hway.cell _).trans w0c, tie_some x0.b _ nb 275 A0 B _ hA0 hA3 hB (by omega), ?_, ?_⟩
    · exact hfar.set ⟨nb, 2, none⟩ _ (.inl (.inr rfl))
    · have := fin_sk (ah1 := ah0 F) hF0 ha hl hsk (fun q hq => by rw [if_neg (by omega)]) hB hBs b0 b1 hBl hfr
      rw [hax] at this
      exact this

variable {F : List Nd} {ah : Nat → Value} {n : Int}
set_option maxRecDepth 100000 in
set_option maxHeartbeats 4000000 in
theorem join_any (p : Nat) (L : List Nd) (hF : F = hd p :: L) (w : World) (hw : Sk w F (lk0 F) (ah0 F) n) (hN : F.length ≤ 1000000) (a : Nat) (ha : a < F.length) (m : ByteArray) (hm : m.size ≤ 281474976710656) (s : Int) (l : Nat) (hl : 0 < l ∧ l ≤ 32) :
    Calls Tryz.prog 197 #[.agg (wayA F a), .agg #[.string m, .int .i64 s], .int .i64 l] w fun e w' => e = .returned (.tuple #[]) ∧ ∃ nb, w.heap.size ≤ nb ∧ Far (fun q => isB F q ∨ q = nb) w w' ∧ Sk w' (insF F a ⟨nb, m, s, l⟩) (lk0 (insF F a ⟨nb, m, s, l⟩)) (ah0 (insF F a ⟨nb, m, s, l⟩)) n := by
  have hz := zero61
  have HC := fun w => Lib.hid (clone_any m w hm)
  have hw1 := wayA_size F a
  have HWA := Lib.hid (rfl : wayA F a = wayA F a)
  generalize hWA : wayA F a = WA at *
  have HWA2 := Lib.hid hWA
  clear hWA HWA
  have hzs : z61.size = 67 := by decide +kernel
  have hz2 : z61[2]? = some (.pointer none) := by rfl
  generalize hz61 : z61 = zz at *
  have HZ2 := Lib.hid hz2
  clear hz2
  have HZ := Lib.hid hz61
  have HW := Lib.hid hw
  clear hz61 hw
  have hl1 : (0 : Int) < l := by omega
  have hl2 : (l : Int) ≤ 32 := by omega
  go_enter Tryz.func197, Tryz.ntmps197
  go_wp2_with fail
  refine (HC _).out.mono ?_
  rintro e w1 ⟨rfl, hb1⟩
  have kW := ((Blk.new w 303 WA).alloc (Obj.cells #[.string m, .int .i64 s] 101)).later hb1
  have kE := (Blk.new (w.alloc (Obj.cells WA 303)) 101 #[.string m, .int .i64 s]).later hb1
  simp only [World.size_alloc] at kE
  have hbw : Below w.heap.size w w1 := (((Below.refl _ _).alloc (Nat.le_refl _) _).alloc (by simp) _).trans (hb1.mono (by simp; omega))
  obtain ⟨e0, e1, e2, e3⟩ := facts2 kE
  have KW := Lib.hid kW
  have KE := Lib.hid kE
  have HBW := Lib.hid hbw
  clear kW kE hbw hb1
  have hJ0 : JInv w F a l w1.heap.size w.heap.size (w1.heap.size + 1) m s (ah0 F) n 0 (((w1.setCell ⟨w.heap.size + 1, 0, none⟩ (.string m)).alloc (.cells ((zz.setIfInBounds 0 (.string m)).setIfInBounds 1 (.int .i64 s)) 275)).alloc (.cells #[.pointer (some ⟨w1.heap.size, 0, none⟩)] 270)) := by
    have hsz : (w1.setCell ⟨w.heap.size + 1, 0, none⟩ (.string m)).heap.size = w1.heap.size := by simp [World.setCell]
    have hnb := (Blk.new (w1.setCell ⟨w.heap.size + 1, 0, none⟩ (.string m)) 275 ((zz.setIfInBounds 0 (.string m)).setIfInBounds 1 (.int .i64 s))).alloc (Obj.cells #[.pointer (some ⟨w1.heap.size, 0, none⟩)] 270)
    have hb6 := Blk.new ((w1.setCell ⟨w.heap.size + 1, 0, none⟩ (.string m)).alloc (.cells ((zz.setIfInBounds 0 (.string m)).setIfInBounds 1 (.int .i64 s)) 275)) 270 #[.pointer (some ⟨w1.heap.size, 0, none⟩)]
    rw [World.size_alloc, hsz] at hb6
    rw [hsz] at hnb
    have hbw := HBW.out
    have hb' : Below w.heap.size w (w1.setCell ⟨w.heap.size + 1, 0, none⟩ (.string m)) := ⟨hbw.os, hbw.tape, hbw.output, by rw [hsz]; exact hbw.size, fun q hq => (Below.heap_setCell _ _ _ _ (by show q ≠ w.heap.size + 1; omega)).trans (hbw.block q hq)⟩
    refine jinv0 HW.out ((hb'.alloc hb'.size _).alloc (by rw [World.size_alloc]; exact Nat.le_succ_of_le hb'.size) _) hnb (by simpa using hzs) ?_ ?_ ?_ ?_ hb6 hbw.size
    · rw [Array.getElem?_setIfInBounds_ne (by decide), Array.getElem?_setIfInBounds_self_of_lt (by omega)]
    · rw [Array.getElem?_setIfInBounds_self_of_lt (by simp; omega)]
    · rw [Array.getElem?_setIfInBounds_ne (by decide), Array.getElem?_setIfInBounds_ne (by decide)]; exact HZ2.out
    · rw [HWA2.out]; exact ((KW.out.setOther 0 (.string m) (by omega)).alloc _).alloc _
  have hF0 : lev F 0 = 32 := by rw [hF]; rfl
  have hlast : ∀ k, k < 32 → last F k a < F.length := fun k hk => by have := (last_spec F k (by omega) a).1; omega
  have hp := lev_pos HW.out
  have HR1 := Lib.hid (relink_any (links_split (w0 := w) (wb := w.heap.size) (b6 := w1.heap.size + 1) (nb := w1.heap.size) (m := m) (s := s) (ah := ah0 F) (n := n) hF0 hp hN ha hl.2) hlast (by omega) 32 _ hJ0)
  have HR2 := fun W hW => Lib.hid (relink_any (links_pass (w0 := w) (wb := w.heap.size) (b6 := w1.heap.size + 1) (nb := w1.heap.size) (m := m) (s := s) (ah := ah0 F) (n := n) (l := l) hF0 hN ha hl.2) hlast (by omega) (32 - l) W hW)
  have hnb1 := HBW.out.size
  clear hJ0 KW KE HZ2 HC hp hlast
  go_wp2_with fail
  clear e0 e1 e2 e3 hz hzs
  refine HR1.out.mono ?_
  rintro e w2 ⟨rfl, hJ1⟩
  rw [Nat.zero_add] at hJ1
  have HR3 := Lib.hid (HR2 w2 hJ1).out
  have HN3 := Lib.hid (relink_none 221 #[] ⟨w.heap.size, 0, none⟩ 0 w2)
  clear HR1 HR2
  obtain ⟨x0, hx0⟩ : ∃ x0, F[a]? = some x0 := ⟨_, List.getElem?_eq_getElem ha⟩
  have HFIN := fun w3 (hJ : JInv w F a l w1.heap.size w.heap.size (w1.heap.size + 1) m s (ah0 F) n 32 w3) => Lib.hid (joined hF0 ha hl hJ hx0)
  have hpath : l = 32 ∨ l < 32 := by omega
  have HJ1 := Lib.hid hJ1
  clear hJ1 HW HWA2 hF hx0
  rcases hpath with rfl | hlt
  · clear HR3
    go_wp2_with fail
    refine HN3.out.mono ?_
    rintro e w3 ⟨rfl, rfl⟩
    obtain ⟨q0, q1, w4, T1, q2, q3⟩ := (HFIN _ HJ1.out).out
    have T1 := Lib.hid T1
    have q3 := Lib.hid q3
    clear HFIN HJ1 HN3
    go_wp2_with fail
    refine T1.out.mono ?_
    rintro e w5 ⟨rfl, rfl⟩
    obtain ⟨T2, hf⟩ := q3.out
    have T2 := Lib.hid T2
    have HF := Lib.hid hf
    clear hf q3 T1
    go_wp2_with fail
    refine T2.out.mono ?_
    rintro e w6 ⟨rfl, rfl⟩
    go_wp2_with fail
    go_returns
    exact ⟨rfl, w1.heap.size, hnb1, HF.out⟩
  · clear HN3
    have hne : ¬ ((l : Int) = 32) := by omega
    go_wp2_with fail
    refine HR3.out.mono ?_
    rintro e w3 ⟨rfl, hJ2⟩
    rw [show l + (32 - l) = 32 by omega] at hJ2
    obtain ⟨q0, q1, w4, T1, q2, q3⟩ := (HFIN _ hJ2).out
    have T1 := Lib.hid T1
    have q3 := Lib.hid q3
    clear HFIN HJ1 HR3 hJ2
    go_wp2_with fail
    refine T1.out.mono ?_
    rintro e w5 ⟨rfl, rfl⟩
    obtain ⟨T2, hf⟩ := q3.out
    have T2 := Lib.hid T2
    have HF := Lib.hid hf
    clear hf q3 T1
    go_wp2_with fail
    refine T2.out.mono ?_
    rintro e w6 ⟨rfl, rfl⟩
    go_wp2_with fail
    go_returns
    exact ⟨rfl, w1.heap.size, hnb1, HF.out⟩
end Go.Proofs.YtpfoicpnpgojdaaGreatDoor.Sk
/- Insert. -/
namespace Go.Proofs.YtpfoicpnpgojdaaGreatDoor.Sk
open Go.RowKit Go.Shelf
attribute [local go_sem] Oper.semAt_some

theorem wp_alloc71 {op : Oper} {a : Act} {w : World} {K : Act → World → Prop} {Q : Exit → Act → World → Prop} (ho : op.op = .alloc 303) (h : K (a.put op.dst (.pointer (some ⟨w.heap.size, 0, none⟩))) (w.alloc (.cells zW 303))) : op.wp Tryz.prog a w K Q := by
  unfold Oper.wp execOp
  simp [ho, go_sem]
  exact h

theorem insert_nil (m : ByteArray) (s : Int) (l : Int) (w : World) : Calls Tryz.prog 179 #[.pointer none, .agg #[.string m, .int .i64 s], .int .i64 l] w fun e w' => e = .returned (.int .i64 1) ∧ Below w.heap.size w w' := by
  go_enter Tryz.func179, Tryz.ntmps179
  go_wp2
  go_returns
  exact ⟨rfl, (Below.refl _ _).alloc (Nat.le_refl _) _⟩
theorem insert_level (p : Nat) (m : ByteArray) (s : Int) (l : Int) (hl : l < 1 ∨ 32 < l) (w : World) : Calls Tryz.prog 179 #[.pointer (some ⟨p, 0, none⟩), .agg #[.string m, .int .i64 s], .int .i64 l] w fun e w' => e = .returned (.int .i64 2) ∧ Below w.heap.size w w' := by
  by_cases h1 : l < 1
  · clear hl
    go_enter Tryz.func179, Tryz.ntmps179
    go_wp2
    go_returns
    exact ⟨rfl, (Below.refl _ _).alloc (Nat.le_refl _) _⟩
  · have h2 : 32 < l := by omega
    clear hl
    go_enter Tryz.func179, Tryz.ntmps179
    go_wp2
    go_returns
    exact ⟨rfl, (Below.refl _ _).alloc (Nat.le_refl _) _⟩

variable {F : List Nd} {n : Int}
set_option maxRecDepth 100000 in
set_option maxHeartbeats 4000000 in
theorem insert_any (p : Nat) (L : List Nd) (hF : F = hd p :: L) (w : World) (hw : Sk w F (lk0 F) (ah0 F) n) (hN : F.length ≤ 1000000) (hn : n = L.length) (a : Nat) (ha : a < F.length) (m : ByteArray) (hm : m.size ≤ 281474976710656) (s : Int) (l : Nat) (hl : 0 < l ∧ l ≤ 32) (hq : ∀ q x, 0 < q → F[q]? = some x → lessE x.m x.s m s = decide (q ≤ a)) :
    Calls Tryz.prog 179 #[.pointer (some ⟨p, 0, none⟩), .agg #[.string m, .int .i64 s], .int .i64 l] w fun e w' =>
      (entAt F (a + 1) m s = true → e = .returned (.int .i64 90) ∧ Below w.heap.size w w') ∧
      (entAt F (a + 1) m s = false → e = .returned (.int .i64 0) ∧ ∃ nb, w.heap.size ≤ nb ∧ Far (isB F) w w' ∧ Sk w' (insF F a ⟨nb, m, s, l⟩) (lk0 (insF F a ⟨nb, m, s, l⟩)) (ah0 (insF F a ⟨nb, m, s, l⟩)) (n + 1)) := by
  have hb1 : Below w.heap.size w (w.alloc (.cells #[.string m, .int .i64 s] 101)) := (Below.refl _ _).alloc (Nat.le_refl _) _
  have kE : Blk (w.alloc (.cells #[.string m, .int .i64 s] 101)) w.heap.size 101 #[.string m, .int .i64 s] := Blk.new _ _ _
  have HT := Lib.hid (toEntry_any p L hF (hw.later hb1) hN m s a ha hq)
  have HB1 := Lib.hid hb1
  have HE := Lib.hid kE
  have HW := Lib.hid hw
  have h1 : ¬ (l : Int) < 1 := by omega
  have h2 : ¬ 32 < (l : Int) := by omega
  have HF := Lib.hid hF
  have hF0 : F[0]? = some (hd p) := by rw [hF]; rfl
  have HF0 := Lib.hid hF0
  have hnn : n ≤ 1000000 := by
    have := congrArg List.length hF
    simp at this
    omega
  have hn0 : 0 ≤ n := by omega
  clear hb1 kE hw hq hF hF0 hn
  go_enter Tryz.func179, Tryz.ntmps179
  go_wp2_with fail
  rename_i Kk hKk
  refine HT.out.mono ?_
  rintro e w2 ⟨rfl, hb2⟩
  have hb3 := HB1.out.trans (hb2.mono HB1.out.size)
  have kE2 := HE.out.later hb2
  refine hKk _ _ ?_
  refine wpList_plain rfl ?_
  intro K2 hK2
  refine wp_alloc71 rfl ?_
  refine hK2 _ _ ?_
  clear hK2 K2
  refine wpList_plain rfl ?_
  intro K2 hK2
  refine wp_store71 _ _ rfl _ rfl rfl (Blk.new _ _ _) zW_size (wayA_size F a) (way_one F a) ?_
  refine hK2 _ _ ?_
  clear hK2 K2
  have kW : Blk ((w2.alloc (.cells zW 303)).setRow w2.heap.size (wayA F a)) w2.heap.size 303 (wayA F a) := (Blk.new _ _ _).setRow _
  have hb4 : Below w2.heap.size w2 ((w2.alloc (.cells zW 303)).setRow w2.heap.size (wayA F a)) := ⟨rfl, rfl, rfl, by rw [setRow_size]; simp, fun q hq => (setRow_other _ (Nat.ne_of_lt hq)).trans (((Below.refl w2.heap.size w2).alloc (Nat.le_refl _) _).block q hq)⟩
  have kE4 := kE2.later hb4
  have hb5 := hb3.trans (hb4.mono hb3.size)
  generalize (w2.alloc (.cells zW 303)).setRow w2.heap.size (wayA F a) = w3 at *
  generalize w2.heap.size = wb at *
  have hp := lev_pos HW.out
  have hla := last_zero F hp a ha
  have hnx := nxt_zero hp a ha
  obtain ⟨x0, hx0⟩ : ∃ x0, F[a]? = some x0 := ⟨_, List.getElem?_eq_getElem ha⟩
  have HLD := Lib.hid (leads_any (HW.out.later hb5) 0 a (by decide) ha (hp a ha) m s)
  obtain ⟨c0, c1, c2⟩ := way_cells F a 0 (by decide)
  rw [hnx, adr_some hx0] at HLD
  rw [hla] at c0 c1
  rw [adr_some hx0] at c0
  have c0 := (kW.cell _).trans c0
  have c1 := (kW.cell _).trans c1
  have c2 := (kW.cell _).trans c2
  simp only [Nat.zero_mul, Nat.zero_add] at c0 c1 c2
  obtain ⟨e0, e1, _, _⟩ := facts2 kE4
  have KW := Lib.hid kW
  have KE := Lib.hid kE4
  have HB5 := Lib.hid hb5
  clear HT HE kE2 hb2 hb3 hb4 hb5 kW kE4 hp hla hnx hx0 hKk Kk
  have hws := wayA_size F a
  have hw1 := way_one F a
  have HJN := fun W (hb : Below w.heap.size w W) => Lib.hid (join_any p L HF.out W (HW.out.later hb) hN a ha m hm s l hl)
  obtain ⟨A0, hA0, hN0⟩ := HW.out.node 0 (hd p) HF0.out
  have n0 := (hA0.cell 67).trans (hN0.n rfl)
  have HA0 := Lib.hid hA0
  obtain ⟨bb, hbb⟩ : ∃ bb, entAt F (a + 1) m s = bb := ⟨_, rfl⟩
  rw [hbb] at HLD
  have HBB := Lib.hid hbb
  clear hbb
  generalize wayA F a = WA at *
  clear hA0 hN0
  go_wp2_with fail
  rename_i K3 hK3 K2 hK2 K1 hK1
  have HK3 := Lib.hid hK3
  clear hK3
  refine HLD.out.mono ?_
  rintro e w4 ⟨rfl, hb6⟩
  have hbw := HB5.out.trans (hb6.mono HB5.out.size)
  have kW4 := KW.out.later hb6
  have kE4 := KE.out.later hb6
  obtain ⟨e0', e1', _, _⟩ := facts2 kE4
  have HBW := Lib.hid hbw
  have KW4 := Lib.hid kW4
  clear hb6 hbw kW4 kE4 c0 c1 c2 e0 e1
  cases bb with
  | true =>
    go_wp2_with fail
    go_returns
    refine ⟨fun _ => ⟨rfl, HBW.out⟩, fun h => ?_⟩
    rw [HBB.out] at h
    cases h
  | false =>
    go_wp2_with fail
    refine HK3.out _ _ ?_
    refine wp_seq_k fun K4 hK4 => wp_region_lit ?_
    refine wpList_plain rfl ?_
    intro K5 hK5
    refine wp_load71 _ rfl _ rfl KW4.out hws ?_
    refine hK5 _ _ ?_
    clear hK5 K5
    go_wp2_with fail
    refine (HJN _ HBW.out).out.mono ?_
    rintro e w5 ⟨rfl, nb, hnb, hf, hsk⟩
    have hx0' : (insF F a ⟨nb, m, s, l⟩)[0]? = some (hd p) := by rw [insF_le ha (Nat.zero_le _)]; exact HF0.out
    obtain ⟨A5, hA5, hN5⟩ := hsk.node 0 (hd p) hx0'
    have n5 : w5.cell? ⟨p, 67, none⟩ = some (.int .i64 n) := (hA5.cell 67).trans (hN5.n rfl)
    have n6 : w5.frozen? ⟨p, 67, none⟩ = false := hA5.free 67
    have HSK := Lib.hid hsk
    have HFF := Lib.hid hf
    have HX0 := Lib.hid hx0'
    clear hsk hf hA5 hN5 hx0'
    go_wp2_with fail
    go_returns
    refine ⟨fun h => ?_, fun _ => ⟨rfl, nb, ?_, ?_, HSK.out.setN HX0.out (n + 1)⟩⟩
    · rw [HBB.out] at h
      cases h
    · exact Nat.le_trans HBW.out.size hnb
    · have f1 : Far (isB F) w w5 := (Far.of_below HBW.out).trans (HFF.out) (fun q hq => by
        rcases hq with h | rfl
        · exact .inl h
        · exact .inr (Nat.le_trans HBW.out.size hnb))
      exact f1.set ⟨p, 67, none⟩ _ (.inl (isB_at HF0.out))
end Go.Proofs.YtpfoicpnpgojdaaGreatDoor.Sk
