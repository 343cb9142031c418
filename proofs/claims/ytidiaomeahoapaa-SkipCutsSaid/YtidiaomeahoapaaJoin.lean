/- join: an entry is put in where a way leads to. -/
import Derived.Test.YtidiaomeahoapaaIns
namespace Go.Proofs.Ytidiaomeahoapaa
open Go.RowKit Go.Shelf
attribute [local go_sem] Oper.semAt_some

/-- What holds while the links are laid. -/
structure JInv (w0 : World) (F : List Nd) (a l nb wb b6 : Nat) (m : ByteArray) (s : Int) (ah : Nat → Value) (n : Int) (k : Nat) (W : World) : Prop where
  sk : Sk W F (lkJ F a l nb k) ah n
  new : ∃ B, Blk W nb 61 B ∧ B.size = 67 ∧ B[0]? = some (.string m) ∧ B[1]? = some (.int .i64 s) ∧ B[2]? = some (.pointer none) ∧
    ∀ k', k' < k → k' < l → B[3 + k' * 2]? = some (lk0 F (last F k' a) k').1 ∧ B[3 + k' * 2 + 1]? = some (.int .i64 ((lk0 F (last F k' a) k').2 - ((a : Int) - last F k' a)))
  way : Blk W wb 71 (wayA F a)
  box : Blk W b6 56 #[.pointer (some ⟨nb, 0, none⟩)]
  far : Far (fun q => isB F q ∨ q = nb) w0 W
  fresh : ¬ isB F nb

variable {w0 : World} {F : List Nd} {a l nb wb b6 : Nat} {m : ByteArray} {s : Int} {ah : Nat → Value} {n : Int} {k : Nat}
theorem JInv.later {W W' : World} (h : JInv w0 F a l nb wb b6 m s ah n k W) (hb : Below W.heap.size W W') : JInv w0 F a l nb wb b6 m s ah n k W' := by
  obtain ⟨h1, ⟨B, h2, h3⟩, h4, h5, h6, h7⟩ := h
  exact ⟨h1.later hb, ⟨B, h2.later hb, h3⟩, h4.later hb, h5.later hb, h6.then_below hb, h7⟩
theorem lk0_ptr (F : List Nd) (q k : Nat) : ∃ o, (lk0 F q k).1 = .pointer o := ⟨_, rfl⟩
theorem lk0_bound (F : List Nd) (hN : F.length ≤ 1000000) (q k : Nat) (hq : q < F.length) : -2000000 ≤ (lk0 F q k).2 ∧ (lk0 F q k).2 ≤ 2000000 := by
  obtain ⟨n1, n2, _⟩ := nxt_spec F k q hq
  unfold lk0
  exact ⟨by show _ ≤ (nxt F k q : Int) - q - 1; omega, by show (nxt F k q : Int) - q - 1 ≤ _; omega⟩
theorem lkJ_done (F : List Nd) (a l nb k : Nat) : lkJ F a l nb k (last F k a) k = lk0 F (last F k a) k := by unfold lkJ; rw [if_neg (by omega)]
theorem lkJ_step (F : List Nd) (a l nb k : Nat) (q' k' : Nat) (h : q' ≠ last F k a ∨ k' ≠ k) : lkJ F a l nb (k + 1) q' k' = lkJ F a l nb k q' k' := by
  unfold lkJ
  by_cases e : k' < k ∧ q' = last F k' a
  · rw [if_pos e, if_pos ⟨by omega, e.2⟩]
  · rw [if_neg e, if_neg]
    rintro ⟨h1, h2⟩
    by_cases e2 : k' = k
    · subst e2
      rcases h with h | h
      · exact h h2
      · exact h rfl
    · exact e ⟨by omega, h2⟩

/-- split serves the levels that the new node has. -/
theorem links_split (hF0 : lev F 0 = 32) (hp : ∀ i, i < F.length → 0 < lev F i) (hN : F.length ≤ 1000000) (ha : a < F.length) (hl : l ≤ 32) : Links F a wb 0 l 51 #[.pointer (some ⟨wb, 0, none⟩), .pointer (some ⟨b6, 0, none⟩)] (JInv w0 F a l nb wb b6 m s ah n) := by
  refine ⟨enters_of Try.func51 (by kernel_rfl) rfl, fun k W W' h hb => h.later hb, fun k W h => h.way, fun k W x _ hk h hx => ?_⟩
  obtain ⟨A, hA, hNA⟩ := h.sk.node _ x hx
  obtain ⟨B, hB, hBs, b0, b1, b2, hBl⟩ := h.new
  obtain ⟨l1, l2, l3⟩ := last_spec F k (by omega) a
  rw [lev_some hx] at l2
  obtain ⟨k1, k2⟩ := hNA.link k l2
  rw [lkJ_done] at k1 k2
  obtain ⟨o, ho⟩ := lk0_ptr F (last F k a) k
  rw [ho] at k1
  have hlb := lk0_bound F hN (last F k a) k (by omega)
  have hne : nb ≠ x.b := fun e => h.fresh (e ▸ isB_at hx)
  have w1 := (way_cells F a 0 (by decide)).2.1
  rw [last_zero F hp a ha] at w1
  refine (split_any x.b _ A B (wayA F a) ((last F k a : Int) - 1) ((a : Int) - 1) k wb b6 nb (by omega) o _ W hA k1 k2 hlb h.way w1 (by omega) (by omega) h.box hB hBs hne).mono ?_
  rintro e w' ⟨rfl, hf, hB'⟩
  have hA' := hf.blk hA (Ne.symm hne)
  have hs67 : 67 ≤ A.size := by rw [hNA.size]; unfold szq; split <;> decide
  have hsk := h.sk.far (S := fun q => q = nb) hf (fun q hq e => h.fresh (e ▸ hq))
  refine ⟨_, _, A[3 + k * 2], A[3 + k * 2 + 1], rfl, ?_, ?_, hA'.free _, hA'.free _, ⟨?_, ?_, ?_, ?_, ?_, h.fresh⟩, hf.size⟩
  · rw [hA'.cell]; exact Array.getElem?_eq_getElem _
  · rw [hA'.cell]; exact Array.getElem?_eq_getElem _
  · refine hsk.setLink hx (by omega) _ _ _ ?_ (fun q' k' hh => lkJ_step F a l nb k q' k' hh)
    unfold lkJ
    rw [if_pos ⟨by omega, rfl⟩, if_pos (by omega)]
    refine congrArg _ ?_
    omega
  · refine ⟨_, (hB'.setOther _ _ hne).setOther _ _ hne, by simpa using hBs, ?_, ?_, ?_, fun k' hk' hl' => ?_⟩
    · rw [Array.getElem?_setIfInBounds_ne (by omega), Array.getElem?_setIfInBounds_ne (by omega)]; exact b0
    · rw [Array.getElem?_setIfInBounds_ne (by omega), Array.getElem?_setIfInBounds_ne (by omega)]; exact b1
    · rw [Array.getElem?_setIfInBounds_ne (by omega), Array.getElem?_setIfInBounds_ne (by omega)]; exact b2
    · by_cases e : k' = k
      · subst e
        constructor
        · rw [Array.getElem?_setIfInBounds_ne (by omega), Array.getElem?_setIfInBounds_self_of_lt (by omega), ho]
        · rw [Array.getElem?_setIfInBounds_self_of_lt (by simp; omega)]
          refine congrArg (fun z => some (Value.int IntKind.i64 z)) ?_
          omega
      · obtain ⟨y1, y2⟩ := hBl k' (by omega) hl'
        exact ⟨by rw [Array.getElem?_setIfInBounds_ne (by omega), Array.getElem?_setIfInBounds_ne (by omega)]; exact y1, by rw [Array.getElem?_setIfInBounds_ne (by omega), Array.getElem?_setIfInBounds_ne (by omega)]; exact y2⟩
  · have hwx : wb ≠ x.b := fun e => absurd ((e ▸ h.way : Blk W x.b 71 _).ty hA) (fun e2 => (ty_ne _).2.2.1 e2.symm)
    have hwn : wb ≠ nb := fun e => absurd ((e ▸ h.way : Blk W nb 71 _).ty hB) (by decide)
    exact ((hf.blk h.way hwn).setOther _ _ hwx).setOther _ _ hwx
  · have hwx : b6 ≠ x.b := fun e => by
      have := (e ▸ h.box : Blk W x.b 56 _).ty hA
      unfold tyq at this; split at this <;> exact absurd this (by decide)
    have hwn : b6 ≠ nb := fun e => absurd ((e ▸ h.box : Blk W nb 56 _).ty hB) (by decide)
    exact ((hf.blk h.box hwn).setOther _ _ hwx).setOther _ _ hwx
  · exact far_set2 (h.far.trans (hf.mono (S1 := fun q => isB F q ∨ q = nb) (fun q e => .inr e)) (fun q e => .inl e)) _ _ _ _ _ (.inl (.inl (isB_at hx)))

/-- pass serves the others. -/
theorem links_pass (hF0 : lev F 0 = 32) (hN : F.length ≤ 1000000) (ha : a < F.length) (hl : l ≤ 32) : Links F a wb l (32 - l) 52 #[] (JInv w0 F a l nb wb b6 m s ah n) := by
  refine ⟨enters_of Try.func52 (by kernel_rfl) rfl, fun k W W' h hb => h.later hb, fun k W h => h.way, fun k W x hk0 hk h hx => ?_⟩
  obtain ⟨A, hA, hNA⟩ := h.sk.node _ x hx
  obtain ⟨B, hB, hBs, b0, b1, b2, hBl⟩ := h.new
  obtain ⟨l1, l2, l3⟩ := last_spec F k (by omega) a
  rw [lev_some hx] at l2
  obtain ⟨k1, k2⟩ := hNA.link k l2
  rw [lkJ_done] at k1 k2
  obtain ⟨o, ho⟩ := lk0_ptr F (last F k a) k
  rw [ho] at k1
  have hlb := lk0_bound F hN (last F k a) k (by omega)
  have hne : nb ≠ x.b := fun e => h.fresh (e ▸ isB_at hx)
  refine (pass_any x.b _ A ((last F k a : Int) - 1) k (by omega) o _ W hA k1 k2 hlb).mono ?_
  rintro e w' ⟨rfl, hb⟩
  have h' := h.later hb
  have hA' := hA.later hb
  have hB' := hB.later hb
  have hs67 : 67 ≤ A.size := by rw [hNA.size]; unfold szq; split <;> decide
  refine ⟨_, _, A[3 + k * 2], A[3 + k * 2 + 1], rfl, ?_, ?_, hA'.free _, hA'.free _, ⟨?_, ?_, ?_, ?_, ?_, h.fresh⟩, hb.size⟩
  · rw [hA'.cell]; exact Array.getElem?_eq_getElem _
  · rw [hA'.cell]; exact Array.getElem?_eq_getElem _
  · refine h'.sk.setLink hx (by omega) _ _ _ ?_ (fun q' k' hh => lkJ_step F a l nb k q' k' hh)
    unfold lkJ
    rw [if_pos ⟨by omega, rfl⟩, if_neg (by omega), ho]
  · exact ⟨B, (hB'.setOther _ _ hne).setOther _ _ hne, hBs, b0, b1, b2, fun k' hk' hl' => hBl k' (by omega) hl'⟩
  · have hwx : wb ≠ x.b := fun e => absurd ((e ▸ h.way : Blk W x.b 71 _).ty hA) (fun e2 => (ty_ne _).2.2.1 e2.symm)
    exact (h'.way.setOther _ _ hwx).setOther _ _ hwx
  · have hwx : b6 ≠ x.b := fun e => by
      have := (e ▸ h.box : Blk W x.b 56 _).ty hA
      unfold tyq at this; split at this <;> exact absurd this (by decide)
    exact (h'.box.setOther _ _ hwx).setOther _ _ hwx
  · exact far_set2 h'.far _ _ _ _ _ (.inl (.inl (isB_at hx)))
end Go.Proofs.Ytidiaomeahoapaa
