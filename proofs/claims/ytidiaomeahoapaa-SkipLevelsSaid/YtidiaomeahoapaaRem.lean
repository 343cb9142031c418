/- Nodes left out: what the links of the others come to. -/
import Derived.Test.YtidiaomeahoapaaInsert
namespace Go.Proofs.Ytidiaomeahoapaa
open Go.RowKit Go.Shelf

/-- The list without the nodes behind place f up to place t. -/
def remF (F : List Nd) (f t : Nat) : List Nd := F.take (f + 1) ++ F.drop (t + 1)
variable {F : List Nd} {f t : Nat}
theorem remF_len (h : f ≤ t) (ht : t < F.length) : (remF F f t).length + (t - f) = F.length := by unfold remF; simp; omega
theorem remF_le (ht : t < F.length) (h : f ≤ t) {i : Nat} (hi : i ≤ f) : (remF F f t)[i]? = F[i]? := by
  unfold remF; rw [List.getElem?_append_left (by simp; omega), List.getElem?_take_of_lt (by omega)]
theorem remF_gt (ht : t < F.length) (h : f ≤ t) {i : Nat} (hi : f < i) : (remF F f t)[i]? = F[i + (t - f)]? := by
  unfold remF
  rw [List.getElem?_append_right (by simp; omega), List.length_take, Nat.min_eq_left (show f + 1 ≤ F.length by omega), List.getElem?_drop]
  congr 1; omega
theorem rlev_le (ht : t < F.length) (h : f ≤ t) {i : Nat} (hi : i ≤ f) : lev (remF F f t) i = lev F i := by unfold lev; rw [remF_le ht h hi]
theorem rlev_gt (ht : t < F.length) (h : f ≤ t) {i : Nat} (hi : f < i) : lev (remF F f t) i = lev F (i + (t - f)) := by unfold lev; rw [remF_gt ht h hi]
theorem radr_le (ht : t < F.length) (h : f ≤ t) {i : Nat} (hi : i ≤ f) : adr (remF F f t) i = adr F i := by unfold adr; rw [remF_le ht h hi]
theorem radr_gt (ht : t < F.length) (h : f ≤ t) {i : Nat} (hi : f < i) : adr (remF F f t) i = adr F (i + (t - f)) := by unfold adr; rw [remF_gt ht h hi]

theorem rnxt_last (ht : t < F.length) (h : f ≤ t) {k : Nat} (h0 : k < lev F 0) : nxt (remF F f t) k (last F k f) + (t - f) = nxt F k (last F k t) := by
  have hl := remF_len h ht
  obtain ⟨l1, l2, l3⟩ := last_spec F k h0 f
  obtain ⟨m1, m2, m3⟩ := last_spec F k h0 t
  have hb := nxt_last ht h0
  obtain ⟨n1, n2, n3, n4, _⟩ := nxt_spec F k (last F k t) (by omega)
  have : nxt (remF F f t) k (last F k f) = nxt F k (last F k t) - (t - f) := by
    refine nxt_unique (by omega) (by omega) (by omega) (fun i h1 h2 => ?_) (fun hx => ?_)
    · by_cases e : i ≤ f
      · rw [rlev_le ht h e]; exact l3 i h1 e
      · rw [rlev_gt ht h (by omega)]; exact n3 _ (by omega) (by omega)
    · rw [rlev_gt ht h (by omega), show nxt F k (last F k t) - (t - f) + (t - f) = nxt F k (last F k t) by omega]
      exact n4 (by omega)
  omega
theorem rnxt_front (ht : t < F.length) (h : f ≤ t) {k q : Nat} (h0 : k < lev F 0) (hq : q ≤ f) (hkq : k < lev F q) (hne : q ≠ last F k f) : nxt (remF F f t) k q = nxt F k q ∧ nxt F k q ≤ f := by
  have hl := remF_len h ht
  obtain ⟨l1, l2, l3⟩ := last_spec F k h0 f
  obtain ⟨n1, n2, n3, n4, _⟩ := nxt_spec F k q (by omega)
  have hql : q < last F k f := by
    rcases Nat.lt_trichotomy q (last F k f) with e | e | e
    · exact e
    · exact absurd e hne
    · have := l3 q e hq; omega
  have hle : nxt F k q ≤ last F k f := by
    rcases Nat.lt_or_ge (last F k f) (nxt F k q) with e | e
    · have := n3 _ hql e; omega
    · exact e
  refine ⟨nxt_unique (by omega) n1 (by omega) (fun i h1 h2 => ?_) (fun _ => ?_), by omega⟩
  · rw [rlev_le ht h (by omega)]; exact n3 i h1 h2
  · rw [rlev_le ht h (by omega)]; exact n4 (by omega)
theorem rnxt_back (ht : t < F.length) (h : f ≤ t) {k q : Nat} (hq : f < q) (hql : q < (remF F f t).length) : nxt (remF F f t) k q + (t - f) = nxt F k (q + (t - f)) := by
  have hl := remF_len h ht
  obtain ⟨n1, n2, n3, n4, _⟩ := nxt_spec F k (q + (t - f)) (by omega)
  have : nxt (remF F f t) k q = nxt F k (q + (t - f)) - (t - f) := by
    refine nxt_unique hql (by omega) (by omega) (fun i h1 h2 => ?_) (fun hx => ?_)
    · rw [rlev_gt ht h (by omega)]; exact n3 _ (by omega) (by omega)
    · rw [rlev_gt ht h (by omega), show nxt F k (q + (t - f)) - (t - f) + (t - f) = nxt F k (q + (t - f)) by omega]
      exact n4 (by omega)
  omega

/-- The links while k levels have been laid over. -/
def lkC (F : List Nd) (f t k : Nat) (q k' : Nat) : Value × Int :=
  if k' < k ∧ q = last F k' f then (adr F (nxt F k' (last F k' t)), (nxt F k' (last F k' t) : Int) - q - 1 - ((t : Int) - f)) else lk0 F q k'
theorem lkC_zero (F : List Nd) (f t q k' : Nat) : lkC F f t 0 q k' = lk0 F q k' := by unfold lkC; rw [if_neg (by omega)]
theorem lkC_at (F : List Nd) (f t k q : Nat) : lkC F f t k q k = lk0 F q k := by unfold lkC; rw [if_neg (by omega)]
theorem lkC_step (F : List Nd) (f t k : Nat) (q' k' : Nat) (h : q' ≠ last F k f ∨ k' ≠ k) : lkC F f t (k + 1) q' k' = lkC F f t k q' k' := by
  unfold lkC
  by_cases e : k' < k ∧ q' = last F k' f
  · rw [if_pos e, if_pos ⟨by omega, e.2⟩]
  · rw [if_neg e, if_neg]
    rintro ⟨h1, h2⟩
    by_cases e2 : k' = k
    · subst e2
      rcases h with h | h
      · exact h h2
      · exact h rfl
    · exact e ⟨by omega, h2⟩
theorem lk_rem_le (ht : t < F.length) (h : f ≤ t) (h32 : lev F 0 = 32) {k q : Nat} (hk : k < 32) (hq : q ≤ f) (hkq : k < lev F q) : lk0 (remF F f t) q k = lkC F f t 32 q k := by
  unfold lkC
  by_cases e : q = last F k f
  · rw [if_pos ⟨hk, e⟩]
    have h1 := rnxt_last (k := k) ht h (by omega)
    rw [← e] at h1
    have hb := nxt_last (k := k) ht (by omega)
    unfold lk0
    rw [radr_gt ht h (by omega), h1]
    refine congrArg _ ?_
    show ((nxt (remF F f t) k q : Nat) : Int) - q - 1 = _
    omega
  · rw [if_neg (fun t => e t.2)]
    unfold lk0
    obtain ⟨e1, e2⟩ := rnxt_front ht h (by omega) hq hkq e
    rw [e1, radr_le ht h e2]
theorem lk_rem_gt (ht : t < F.length) (h : f ≤ t) (h32 : lev F 0 = 32) {k q : Nat} (hk : k < 32) (hq : f < q) (hql : q < (remF F f t).length) : lk0 (remF F f t) q k = lkC F f t 32 (q + (t - f)) k := by
  have h1 := rnxt_back (k := k) ht h hq hql
  have hl := remF_len h ht
  have n1 := (nxt_spec (remF F f t) k q hql).1
  have hle := (last_spec F k (by omega) f).1
  unfold lkC
  rw [if_neg (fun t => by omega)]
  unfold lk0
  rw [radr_gt ht h (by omega), h1]
  refine congrArg _ ?_
  show ((nxt (remF F f t) k q : Nat) : Int) - q - 1 = (nxt F k (q + (t - f)) : Int) - ((q + (t - f) : Nat) : Int) - 1
  omega

variable {W : World} {lk : Nat → Nat → Value × Int} {ah : Nat → Value} {n : Int}
theorem sk_remove (h : Sk W F lk ah n) (ht : t < F.length) (hf : f ≤ t) (lk' : Nat → Nat → Value × Int) (ah' : Nat → Value)
    (h1 : ∀ q k, q ≤ f → k < lev F q → lk' q k = lk q k) (h2 : ∀ q k, f < q → q < (remF F f t).length → k < lev F (q + (t - f)) → lk' q k = lk (q + (t - f)) k) (h3 : ∀ q, q ≤ f → ah' q = ah q) (h4 : ∀ q, f < q → q < (remF F f t).length → ah' q = ah (q + (t - f))) : Sk W (remF F f t) lk' ah' n := by
  have part : ∀ (q : Nat) (y : Nd), (remF F f t)[q]? = some y → (q ≤ f ∧ F[q]? = some y) ∨ (f < q ∧ q < (remF F f t).length ∧ F[q + (t - f)]? = some y) := fun q y hy => by
    have hl := (List.getElem?_eq_some_iff.1 hy).1
    rcases Nat.lt_or_ge f q with e | e
    · rw [remF_gt ht hf e] at hy; exact .inr ⟨e, hl, hy⟩
    · rw [remF_le ht hf e] at hy; exact .inl ⟨e, hy⟩
  refine ⟨fun q y hy => ?_, fun q q' y y' hy hy' hb => ?_, fun q y hy => ?_⟩
  · rcases part q y hy with ⟨e, hz⟩ | ⟨e, hl, hz⟩
    · obtain ⟨A, hA, hN⟩ := h.node q y hz
      refine ⟨A, hA, hN.size, hN.m, hN.s, by rw [h3 q e]; exact hN.a, fun k hk => ?_, hN.n⟩
      rw [h1 q k e (by rw [lev_some hz]; exact hk)]
      exact hN.link k hk
    · obtain ⟨A, hA, hN⟩ := h.node _ y hz
      refine ⟨A, by unfold tyq at hA ⊢; rw [if_neg (by omega)] at hA ⊢; exact hA, by have := hN.size; unfold szq at this ⊢; rw [if_neg (by omega)] at this ⊢; exact this, hN.m, hN.s, by rw [h4 q e hl]; exact hN.a, fun k hk => ?_, fun e2 => by omega⟩
      rw [h2 q k e hl (by rw [lev_some hz]; exact hk)]
      exact hN.link k hk
  · rcases part q y hy with ⟨e, hz⟩ | ⟨e, hl, hz⟩ <;> rcases part q' y' hy' with ⟨e', hz'⟩ | ⟨e', hl', hz'⟩
    · exact h.inj _ _ _ _ hz hz' hb
    · have := h.inj _ _ _ _ hz hz' hb; omega
    · have := h.inj _ _ _ _ hz hz' hb; omega
    · have := h.inj _ _ _ _ hz hz' hb; omega
  · rcases part q y hy with ⟨e, hz⟩ | ⟨e, hl, hz⟩
    · exact h.lev _ _ hz
    · exact h.lev _ _ hz

/-- What holds while links are laid over what is left out. -/
structure CInv (w0 : World) (F : List Nd) (f t wb wf c : Nat) (n : Int) (k : Nat) (W : World) : Prop where
  sk : Sk W F (lkC F f t k) (ah0 F) n
  way : Blk W wb 71 (wayA F f)
  far : Blk W wf 71 (wayA F t)
  box : Blk W c 3 #[.int .i64 ((t : Int) - f)]
  out : Far (isB F) w0 W
variable {w0 : World} {wb wf c : Nat}
theorem CInv.later {k : Nat} {W W' : World} (h : CInv w0 F f t wb wf c n k W) (hb : Below W.heap.size W W') : CInv w0 F f t wb wf c n k W' :=
  ⟨h.sk.later hb, h.way.later hb, h.far.later hb, h.box.later hb, h.out.then_below hb⟩
theorem links_over (hF0 : lev F 0 = 32) (hN : F.length ≤ 1000000) (ht : t < F.length) (hft : f ≤ t) : Links F f wb 0 32 55 #[.pointer (some ⟨wf, 0, none⟩), .pointer (some ⟨c, 0, none⟩)] (CInv w0 F f t wb wf c n) := by
  refine ⟨enters_of Try.func55 (by kernel_rfl) rfl, fun k W W' h hb => h.later hb, fun k W h => h.way, fun k W x _ hk h hx => ?_⟩
  obtain ⟨A, hA, hNA⟩ := h.sk.node _ x hx
  obtain ⟨l1, l2, l3⟩ := last_spec F k (by omega) f
  obtain ⟨m1, m2, m3⟩ := last_spec F k (by omega) t
  obtain ⟨y, hy⟩ : ∃ y, F[last F k t]? = some y := ⟨_, List.getElem?_eq_getElem (by omega)⟩
  obtain ⟨B, hB, hNB⟩ := h.sk.node _ y hy
  rw [lev_some hy] at m2
  obtain ⟨k1, k2⟩ := hNB.link k m2
  rw [lkC_at] at k1 k2
  obtain ⟨o, ho⟩ := lk0_ptr F (last F k t) k
  rw [ho] at k1
  have hlb := lk0_bound F hN (last F k t) k (by omega)
  obtain ⟨w1, w2, w3⟩ := way_cells F t k (by omega)
  rw [adr_some hy] at w1
  refine (over_any x.b y.b _ B (wayA F t) ((last F k f : Int) - 1) ((last F k t : Int) - 1) ((t : Int) - f) k wf c (by omega) o _ W hB k1 k2 hlb h.far w1 w2 w3 (by omega) (by omega) h.box (by omega)).mono ?_
  rintro e w' ⟨rfl, hb⟩
  have h' := h.later hb
  have hA' := hA.later hb
  have hs67 : 67 ≤ A.size := by rw [hNA.size]; unfold szq; split <;> decide
  have hwx : ∀ {b' : Nat} {A' : Array Value}, Blk W b' 71 A' → b' ≠ x.b := fun hh e => absurd ((e ▸ hh : Blk W x.b 71 _).ty hA) (fun e2 => (ty_ne _).2.2.1 e2.symm)
  have hcx : c ≠ x.b := fun e => by
    have := (e ▸ h.box : Blk W x.b 3 _).ty hA
    unfold tyq at this; split at this <;> exact absurd this (by decide)
  refine ⟨_, _, A[3 + k * 2], A[3 + k * 2 + 1], rfl, ?_, ?_, hA'.free _, hA'.free _, ⟨?_, (h'.way.setOther _ _ (hwx h.way)).setOther _ _ (hwx h.way), (h'.far.setOther _ _ (hwx h.far)).setOther _ _ (hwx h.far), (h'.box.setOther _ _ hcx).setOther _ _ hcx, far_set2 h'.out _ _ _ _ _ (.inl (isB_at hx))⟩, hb.size⟩
  · rw [hA'.cell]; exact Array.getElem?_eq_getElem _
  · rw [hA'.cell]; exact Array.getElem?_eq_getElem _
  · refine h'.sk.setLink hx (by omega) _ _ _ ?_ (fun q' k' hh => lkC_step F f t k q' k' hh)
    unfold lkC
    rw [if_pos ⟨by omega, rfl⟩]
    have ho2 : adr F (nxt F k (last F k t)) = .pointer o := ho
    rw [ho2]
    refine congrArg _ ?_
    have : (lk0 F (last F k t) k).2 = (nxt F k (last F k t) : Int) - last F k t - 1 := rfl
    omega
theorem cinv0 {w W : World} (hw : Sk w F (lk0 F) (ah0 F) n) (hb : Below w.heap.size w W) (h1 : Blk W wb 71 (wayA F f)) (h2 : Blk W wf 71 (wayA F t)) (h3 : Blk W c 3 #[.int .i64 ((t : Int) - f)]) : CInv w F f t wb wf c n 0 W := by
  have he : lkC F f t 0 = lk0 F := by funext q k; exact lkC_zero ..
  exact ⟨by rw [he]; exact hw.later hb, h1, h2, h3, Far.of_below hb⟩

/-- Behind all links: the link back. -/
theorem left {w3 : World} {x0 : Nd} (hF0 : lev F 0 = 32) (ht : t < F.length) (hft : f ≤ t) (hJ : CInv w0 F f t wb wf c n 32 w3) (hx0 : F[f]? = some x0) :
    w3.cell? ⟨wb, 0, none⟩ = some (.pointer (some ⟨x0.b, 0, none⟩)) ∧ ∃ w4, (Calls Try.prog 54 #[.pointer (some ⟨x0.b, 0, none⟩)] w3 fun e w' => e = .returned (.tuple #[]) ∧ w' = w4) ∧
      Far (isB F) w0 w4 ∧ Sk w4 (remF F f t) (lk0 (remF F f t)) (ah0 (remF F f t)) n := by
  obtain ⟨hsk, hway, hfar, hbox, hout⟩ := hJ
  have hl := remF_len hft ht
  have hp : ∀ i, i < F.length → 0 < lev F i := fun i hi => by rw [lev_some (List.getElem?_eq_getElem hi)]; exact (hsk.lev i _ (List.getElem?_eq_getElem hi)).1
  have hle : ∀ q k, q < F.length → k < lev F q → k < 32 := fun q k hq hk => by
    have := (hsk.lev q _ (List.getElem?_eq_getElem hq)).2
    rw [lev_some (List.getElem?_eq_getElem hq)] at hk
    omega
  have hlf := last_zero F hp f (by omega)
  have hlt := last_zero F hp t ht
  have hnt := nxt_zero hp t ht
  have w0c := (way_cells F f 0 (by decide)).1
  rw [hlf, adr_some hx0] at w0c
  obtain ⟨A0, hA0, hN0⟩ := hsk.node f x0 hx0
  have hA3 := (hN0.link 0 (hsk.lev _ _ hx0).1).1
  have hA3 : A0[3]? = some (adr F (t + 1)) := by unfold lkC at hA3; rw [if_pos ⟨by decide, hlf.symm⟩, hlt, hnt] at hA3; exact hA3
  refine ⟨(hway.cell _).trans w0c, ?_⟩
  by_cases hlast : t + 1 < F.length
  · obtain ⟨y, hy⟩ : ∃ y, F[t + 1]? = some y := ⟨_, List.getElem?_eq_getElem hlast⟩
    rw [adr_some hy] at hA3
    obtain ⟨A1, hA1, hN1⟩ := hsk.node _ y hy
    have hs1 : 67 ≤ A1.size := by rw [hN1.size]; unfold szq; split <;> decide
    have hsk4 := hsk.setAh hy (.pointer (some ⟨x0.b, 0, none⟩)) (fun q => if q = t + 1 then .pointer (some ⟨x0.b, 0, none⟩) else ah0 F q) (if_pos rfl) (fun q hq => if_neg hq)
    refine ⟨_, tie_some x0.b _ y.b _ A0 A1 w3 hA0 hA3 hA1 (by omega), hout.set ⟨y.b, 2, none⟩ _ (.inl (isB_at hy)), ?_⟩
    refine sk_remove hsk4 ht hft _ _ (fun q k hq hk => lk_rem_le ht hft hF0 (hle q k (by omega) hk) hq hk) (fun q k hq hq2 hk => lk_rem_gt ht hft hF0 (hle _ k (by omega) hk) hq hq2) (fun q hq => ?_) (fun q hq hq2 => ?_)
    · rw [if_neg (by omega)]
      unfold ah0
      by_cases e : q = 0
      · rw [if_pos e, if_pos e]
      · rw [if_neg e, if_neg e, radr_le ht hft (by omega)]
    · unfold ah0
      rw [if_neg (show ¬ q = 0 by omega)]
      by_cases e : q = f + 1
      · subst e
        rw [if_pos (by omega), show f + 1 - 1 = f by omega, radr_le ht hft (Nat.le_refl _), adr_some hx0]
      · rw [if_neg (by omega), if_neg (by omega), radr_gt ht hft (by omega)]
        congr 1; omega
  · rw [adr_none (by omega)] at hA3
    refine ⟨w3, tie_none x0.b _ A0 w3 hA0 hA3, hout, ?_⟩
    refine sk_remove hsk ht hft _ _ (fun q k hq hk => lk_rem_le ht hft hF0 (hle q k (by omega) hk) hq hk) (fun q k hq hq2 hk => lk_rem_gt ht hft hF0 (hle _ k (by omega) hk) hq hq2) (fun q hq => ?_) (fun q hq hq2 => ?_)
    · unfold ah0
      by_cases e : q = 0
      · rw [if_pos e, if_pos e]
      · rw [if_neg e, if_neg e, radr_le ht hft (by omega)]
    · omega
end Go.Proofs.Ytidiaomeahoapaa
