/- Texts of one kind in one: SkRem, SkCut, SkRowsOf, SkLs. -/
import Derived.Test.YtpfoicpnpgojdaaGreatDoorQSkIns03
import Derived.Deep.RegionHeld
import Derived.Laws.AppendOwn
/- Nodes left out: what the links of the others come to. -/
namespace Go.Proofs.YtpfoicpnpgojdaaGreatDoor.Sk
open Go.RowKit Go.Shelf

/-- The list without the nodes behind place f up to place t. -/
def remF (F : List Nd) (f t : Nat) : List Nd := F.take (f + 1) ++ F.drop (t + 1)
variable {F : List Nd} {f t : Nat}
theorem remF_len (h : f ≤ t) (ht : t < F.length) : (remF F f t).length + (t - f) = F.length := by unfold remF; simp; omega
theorem remF_le (ht : t < F.length) (h : f ≤ t) {i : Nat} (hi : i ≤ f) : (remF F f t)[i]? = F[i]? := by
  unfold remF; rw [List.getElem?_append_left (by simp; omega), List.getElem?_take_of_lt (by omega)]
theorem remF_gt (ht : t < F.length) (h : f ≤ t) {i : Nat} (hi : f < i) : (remF F f t)[i]? = F[i + (t - f)]? := by
  unfold remF
  rw [List.getElem?_append_right (by simp; omega), List.length_take, Nat.min_eq_left (show f + 1 ≤ F.length by omega), List.getElem?_drop]
  congr 1; omega
theorem rlev_le (ht : t < F.length) (h : f ≤ t) {i : Nat} (hi : i ≤ f) : lev (remF F f t) i = lev F i := by unfold lev; rw [remF_le ht h hi]
theorem rlev_gt (ht : t < F.length) (h : f ≤ t) {i : Nat} (hi : f < i) : lev (remF F f t) i = lev F (i + (t - f)) := by unfold lev; rw [remF_gt ht h hi]
theorem radr_le (ht : t < F.length) (h : f ≤ t) {i : Nat} (hi : i ≤ f) : adr (remF F f t) i = adr F i := by unfold adr; rw [remF_le ht h hi]
theorem radr_gt (ht : t < F.length) (h : f ≤ t) {i : Nat} (hi : f < i) : adr (remF F f t) i = adr F (i + (t - f)) := by unfold adr; rw [remF_gt ht h hi]

theorem rnxt_last (ht : t < F.length) (h : f ≤ t) {k : Nat} (h0 : k < lev F 0) : nxt (remF F f t) k (last F k f) + (t - f) = nxt F k (last F k t) := by
  have hl := remF_len h ht
  obtain ⟨l1, l2, l3⟩ := last_spec F k h0 f
  obtain ⟨m1, m2, m3⟩ := last_spec F k h0 t
  have hb := nxt_last ht h0
  obtain ⟨n1, n2, n3, n4, _⟩ := nxt_spec F k (last F k t) (by omega)
  have : nxt (remF F f t) k (last F k f) = nxt F k (last F k t) - (t - f) := by
    refine nxt_unique (by omega) (by omega) (by omega) (fun i h1 h2 => ?_) (fun hx => ?_)
    · by_cases e : i ≤ f
      · rw [rlev_le ht h e]; exact l3 i h1 e
      · rw [rlev_gt ht h (by omega)]; exact n3 _ (by omega) (by omega)
    · rw [rlev_gt ht h (by omega), show nxt F k (last F k t) - (t - f) + (t - f) = nxt F k (last F k t) by omega]
      exact n4 (by omega)
  omega
theorem rnxt_front (ht : t < F.length) (h : f ≤ t) {k q : Nat} (h0 : k < lev F 0) (hq : q ≤ f) (hkq : k < lev F q) (hne : q ≠ last F k f) : nxt (remF F f t) k q = nxt F k q ∧ nxt F k q ≤ f := by
  have hl := remF_len h ht
  obtain ⟨l1, l2, l3⟩ := last_spec F k h0 f
  obtain ⟨n1, n2, n3, n4, _⟩ := nxt_spec F k q (by omega)
  have hql : q < last F k f := by
    rcases Nat.lt_trichotomy q (last F k f) with e | e | e
    · exact e
    · exact absurd e hne
    · have := l3 q e hq; omega
  have hle : nxt F k q ≤ last F k f := by
    rcases Nat.lt_or_ge (last F k f) (nxt F k q) with e | e
    · have := n3 _ hql e; omega
    · exact e
  refine ⟨nxt_unique (by omega) n1 (by omega) (fun i h1 h2 => ?_) (fun _ => ?_), by omega⟩
  · rw [rlev_le ht h (by omega)]; exact n3 i h1 h2
  · rw [rlev_le ht h (by omega)]; exact n4 (by omega)
theorem rnxt_back (ht : t < F.length) (h : f ≤ t) {k q : Nat} (hq : f < q) (hql : q < (remF F f t).length) : nxt (remF F f t) k q + (t - f) = nxt F k (q + (t - f)) := by
  have hl := remF_len h ht
  obtain ⟨n1, n2, n3, n4, _⟩ := nxt_spec F k (q + (t - f)) (by omega)
  have : nxt (remF F f t) k q = nxt F k (q + (t - f)) - (t - f) := by
    refine nxt_unique hql (by omega) (by omega) (fun i h1 h2 => ?_) (fun hx => ?_)
    · rw [rlev_gt ht h (by omega)]; exact n3 _ (by omega) (by omega)
    · rw [rlev_gt ht h (by omega), show nxt F k (q + (t - f)) - (t - f) + (t - f) = nxt F k (q + (t - f)) by omega]
      exact n4 (by omega)
  omega

/-- The links while k levels have been laid over. -/
def lkC (F : List Nd) (f t k : Nat) (q k' : Nat) : Value × Int :=
  if k' < k ∧ q = last F k' f then (adr F (nxt F k' (last F k' t)), (nxt F k' (last F k' t) : Int) - q - 1 - ((t : Int) - f)) else lk0 F q k'
theorem lkC_zero (F : List Nd) (f t q k' : Nat) : lkC F f t 0 q k' = lk0 F q k' := by unfold lkC; rw [if_neg (by omega)]
theorem lkC_at (F : List Nd) (f t k q : Nat) : lkC F f t k q k = lk0 F q k := by unfold lkC; rw [if_neg (by omega)]
theorem lkC_step (F : List Nd) (f t k : Nat) (q' k' : Nat) (h : q' ≠ last F k f ∨ k' ≠ k) : lkC F f t (k + 1) q' k' = lkC F f t k q' k' := by
  unfold lkC
  by_cases e : k' < k ∧ q' = last F k' f
  · rw [if_pos e, if_pos ⟨by omega, e.2⟩]
  · rw [if_neg e, if_neg]
    rintro ⟨h1, h2⟩
    by_cases e2 : k' = k
    · subst e2
      rcases h with h | h
      · exact h h2
      · exact h rfl
    · exact e ⟨by omega, h2⟩
theorem lk_rem_le (ht : t < F.length) (h : f ≤ t) (h32 : lev F 0 = 32) {k q : Nat} (hk : k < 32) (hq : q ≤ f) (hkq : k < lev F q) : lk0 (remF F f t) q k = lkC F f t 32 q k := by
  unfold lkC
  by_cases e : q = last F k f
  · rw [if_pos ⟨hk, e⟩]
    have h1 := rnxt_last (k := k) ht h (by omega)
    rw [← e] at h1
    have hb := nxt_last (k := k) ht (by omega)
    unfold lk0
    rw [radr_gt ht h (by omega), h1]
    refine congrArg _ ?_
    show ((nxt (remF F f t) k q : Nat) : Int) - q - 1 = _
    omega
  · rw [if_neg (fun t => e t.2)]
    unfold lk0
    obtain ⟨e1, e2⟩ := rnxt_front ht h (by omega) hq hkq e
    rw [e1, radr_le ht h e2]
theorem lk_rem_gt (ht : t < F.length) (h : f ≤ t) (h32 : lev F 0 = 32) {k q : Nat} (hk : k < 32) (hq : f < q) (hql : q < (remF F f t).length) : lk0 (remF F f t) q k = lkC F f t 32 (q + (t - f)) k := by
  have h1 := rnxt_back (k := k) ht h hq hql
  have hl := remF_len h ht
  have n1 := (nxt_spec (remF F f t) k q hql).1
  have hle := (last_spec F k (by omega) f).1
  unfold lkC
  rw [if_neg (fun t => by omega)]
  unfold lk0
  rw [radr_gt ht h (by omega), h1]
  refine congrArg _ ?_
  show ((nxt (remF F f t) k q : Nat) : Int) - q - 1 = (nxt F k (q + (t - f)) : Int) - ((q + (t - f) : Nat) : Int) - 1
  omega

variable {W : World} {lk : Nat → Nat → Value × Int} {ah : Nat → Value} {n : Int}
theorem sk_remove (h : Sk W F lk ah n) (ht : t < F.length) (hf : f ≤ t) (lk' : Nat → Nat → Value × Int) (ah' : Nat → Value)
    (h1 : ∀ q k, q ≤ f → k < lev F q → lk' q k = lk q k) (h2 : ∀ q k, f < q → q < (remF F f t).length → k < lev F (q + (t - f)) → lk' q k = lk (q + (t - f)) k) (h3 : ∀ q, q ≤ f → ah' q = ah q) (h4 : ∀ q, f < q → q < (remF F f t).length → ah' q = ah (q + (t - f))) : Sk W (remF F f t) lk' ah' n := by
  have part : ∀ (q : Nat) (y : Nd), (remF F f t)[q]? = some y → (q ≤ f ∧ F[q]? = some y) ∨ (f < q ∧ q < (remF F f t).length ∧ F[q + (t - f)]? = some y) := fun q y hy => by
    have hl := (List.getElem?_eq_some_iff.1 hy).1
    rcases Nat.lt_or_ge f q with e | e
    · rw [remF_gt ht hf e] at hy; exact .inr ⟨e, hl, hy⟩
    · rw [remF_le ht hf e] at hy; exact .inl ⟨e, hy⟩
  refine ⟨fun q y hy => ?_, fun q q' y y' hy hy' hb => ?_, fun q y hy => ?_⟩
  · rcases part q y hy with ⟨e, hz⟩ | ⟨e, hl, hz⟩
    · obtain ⟨A, hA, hN⟩ := h.node q y hz
      refine ⟨A, hA, hN.size, hN.m, hN.s, by rw [h3 q e]; exact hN.a, fun k hk => ?_, hN.n⟩
      rw [h1 q k e (by rw [lev_some hz]; exact hk)]
      exact hN.link k hk
    · obtain ⟨A, hA, hN⟩ := h.node _ y hz
      refine ⟨A, by unfold tyq at hA ⊢; rw [if_neg (by omega)] at hA ⊢; exact hA, by have := hN.size; unfold szq at this ⊢; rw [if_neg (by omega)] at this ⊢; exact this, hN.m, hN.s, by rw [h4 q e hl]; exact hN.a, fun k hk => ?_, fun e2 => by omega⟩
      rw [h2 q k e hl (by rw [lev_some hz]; exact hk)]
      exact hN.link k hk
  · rcases part q y hy with ⟨e, hz⟩ | ⟨e, hl, hz⟩ <;> rcases part q' y' hy' with ⟨e', hz'⟩ | ⟨e', hl', hz'⟩
    · exact h.inj _ _ _ _ hz hz' hb
    · have := h.inj _ _ _ _ hz hz' hb; omega
    · have := h.inj _ _ _ _ hz hz' hb; omega
    · have := h.inj _ _ _ _ hz hz' hb; omega
  · rcases part q y hy with ⟨e, hz⟩ | ⟨e, hl, hz⟩
    · exact h.lev _ _ hz
    · exact h.lev _ _ hz

/-- What holds while links are laid over what is left out. -/
structure CInv (w0 : World) (F : List Nd) (f t wb wf c : Nat) (n : Int) (k : Nat) (W : World) : Prop where
  sk : Sk W F (lkC F f t k) (ah0 F) n
  way : Blk W wb 303 (wayA F f)
  far : Blk W wf 303 (wayA F t)
  box : Blk W c 3 #[.int .i64 ((t : Int) - f)]
  out : Far (isB F) w0 W
variable {w0 : World} {wb wf c : Nat}
theorem CInv.later {k : Nat} {W W' : World} (h : CInv w0 F f t wb wf c n k W) (hb : Below W.heap.size W W') : CInv w0 F f t wb wf c n k W' :=
  ⟨h.sk.later hb, h.way.later hb, h.far.later hb, h.box.later hb, h.out.then_below hb⟩
theorem links_over (hF0 : lev F 0 = 32) (hN : F.length ≤ 1000000) (ht : t < F.length) (hft : f ≤ t) : Links F f wb 0 32 317 #[.pointer (some ⟨wf, 0, none⟩), .pointer (some ⟨c, 0, none⟩)] (CInv w0 F f t wb wf c n) := by
  refine ⟨enters_of Tryz.func317 (by kernel_rfl) rfl, fun k W W' h hb => h.later hb, fun k W h => h.way, fun k W x _ hk h hx => ?_⟩
  obtain ⟨A, hA, hNA⟩ := h.sk.node _ x hx
  obtain ⟨l1, l2, l3⟩ := last_spec F k (by omega) f
  obtain ⟨m1, m2, m3⟩ := last_spec F k (by omega) t
  obtain ⟨y, hy⟩ : ∃ y, F[last F k t]? = some y := ⟨_, List.getElem?_eq_getElem (by omega)⟩
  obtain ⟨B, hB, hNB⟩ := h.sk.node _ y hy
  rw [lev_some hy] at m2
  obtain ⟨k1, k2⟩ := hNB.link k m2
  rw [lkC_at] at k1 k2
  obtain ⟨o, ho⟩ := lk0_ptr F (last F k t) k
  rw [ho] at k1
  have hlb := lk0_bound F hN (last F k t) k (by omega)
  obtain ⟨w1, w2, w3⟩ := way_cells F t k (by omega)
  rw [adr_some hy] at w1
  refine (over_any x.b y.b _ B (wayA F t) ((last F k f : Int) - 1) ((last F k t : Int) - 1) ((t : Int) - f) k wf c (by omega) o _ W hB k1 k2 hlb h.far w1 w2 w3 (by omega) (by omega) h.box (by omega)).mono ?_
  rintro e w' ⟨rfl, hb⟩
  have h' := h.later hb
  have hA' := hA.later hb
  have hs67 : 67 ≤ A.size := by rw [hNA.size]; unfold szq; split <;> decide
  have hwx : ∀ {b' : Nat} {A' : Array Value}, Blk W b' 303 A' → b' ≠ x.b := fun hh e => absurd ((e ▸ hh : Blk W x.b 303 _).ty hA) (fun e2 => (ty_ne _).2.2.1 e2.symm)
  have hcx : c ≠ x.b := fun e => by
    have := (e ▸ h.box : Blk W x.b 3 _).ty hA
    unfold tyq at this; split at this <;> exact absurd this (by decide)
  refine ⟨_, _, A[3 + k * 2], A[3 + k * 2 + 1], rfl, ?_, ?_, hA'.free _, hA'.free _, ⟨?_, (h'.way.setOther _ _ (hwx h.way)).setOther _ _ (hwx h.way), (h'.far.setOther _ _ (hwx h.far)).setOther _ _ (hwx h.far), (h'.box.setOther _ _ hcx).setOther _ _ hcx, far_set2 h'.out _ _ _ _ _ (.inl (isB_at hx))⟩, hb.size⟩
  · rw [hA'.cell]; exact Array.getElem?_eq_getElem _
  · rw [hA'.cell]; exact Array.getElem?_eq_getElem _
  · refine h'.sk.setLink hx (by omega) _ _ _ ?_ (fun q' k' hh => lkC_step F f t k q' k' hh)
    unfold lkC
    rw [if_pos ⟨by omega, rfl⟩]
    have ho2 : adr F (nxt F k (last F k t)) = .pointer o := ho
    rw [ho2]
    refine congrArg _ ?_
    have : (lk0 F (last F k t) k).2 = (nxt F k (last F k t) : Int) - last F k t - 1 := rfl
    omega
theorem cinv0 {w W : World} (hw : Sk w F (lk0 F) (ah0 F) n) (hb : Below w.heap.size w W) (h1 : Blk W wb 303 (wayA F f)) (h2 : Blk W wf 303 (wayA F t)) (h3 : Blk W c 3 #[.int .i64 ((t : Int) - f)]) : CInv w F f t wb wf c n 0 W := by
  have he : lkC F f t 0 = lk0 F := by funext q k; exact lkC_zero ..
  exact ⟨by rw [he]; exact hw.later hb, h1, h2, h3, Far.of_below hb⟩

/-- Behind all links: the link back. -/
theorem left {w3 : World} {x0 : Nd} (hF0 : lev F 0 = 32) (ht : t < F.length) (hft : f ≤ t) (hJ : CInv w0 F f t wb wf c n 32 w3) (hx0 : F[f]? = some x0) :
    w3.cell? ⟨wb, 0, none⟩ = some (.pointer (some ⟨x0.b, 0, none⟩)) ∧ ∃ w4, (Calls Tryz.prog 223 #[.pointer (some ⟨x0.b, 0, none⟩)] w3 fun e w' => e = .returned (.tuple #[]) ∧ w' = w4) ∧
      Far (isB F) w0 w4 ∧ Sk w4 (remF F f t) (lk0 (remF F f t)) (ah0 (remF F f t)) n := by
  obtain ⟨hsk, hway, hfar, hbox, hout⟩ := hJ
  have hl := remF_len hft ht
  have hp : ∀ i, i < F.length → 0 < lev F i := fun i hi => by rw [lev_some (List.getElem?_eq_getElem hi)]; exact (hsk.lev i _ (List.getElem?_eq_getElem hi)).1
  have hle : ∀ q k, q < F.length → k < lev F q → k < 32 := fun q k hq hk => by
    have := (hsk.lev q _ (List.getElem?_eq_getElem hq)).2
    rw [lev_some (List.getElem?_eq_getElem hq)] at hk
    omega
  have hlf := last_zero F hp f (by omega)
  have hlt := last_zero F hp t ht
  have hnt := nxt_zero hp t ht
  have w0c := (way_cells F f 0 (by decide)).1
  rw [hlf, adr_some hx0] at w0c
  obtain ⟨A0, hA0, hN0⟩ := hsk.node f x0 hx0
  have hA3 := (hN0.link 0 (hsk.lev _ _ hx0).1).1
  have hA3 : A0[3]? = some (adr F (t + 1)) := by unfold lkC at hA3; rw [if_pos ⟨by decide, hlf.symm⟩, hlt, hnt] at hA3; exact hA3
  refine ⟨(hway.cell _).trans w0c, ?_⟩
  by_cases hlast : t + 1 < F.length
  · obtain ⟨y, hy⟩ : ∃ y, F[t + 1]? = some y := ⟨_, List.getElem?_eq_getElem hlast⟩
    rw [adr_some hy] at hA3
    obtain ⟨A1, hA1, hN1⟩ := hsk.node _ y hy
    have hs1 : 67 ≤ A1.size := by rw [hN1.size]; unfold szq; split <;> decide
    have hsk4 := hsk.setAh hy (.pointer (some ⟨x0.b, 0, none⟩)) (fun q => if q = t + 1 then .pointer (some ⟨x0.b, 0, none⟩) else ah0 F q) (if_pos rfl) (fun q hq => if_neg hq)
    refine ⟨_, tie_some x0.b _ y.b _ A0 A1 w3 hA0 hA3 hA1 (by omega), hout.set ⟨y.b, 2, none⟩ _ (.inl (isB_at hy)), ?_⟩
    refine sk_remove hsk4 ht hft _ _ (fun q k hq hk => lk_rem_le ht hft hF0 (hle q k (by omega) hk) hq hk) (fun q k hq hq2 hk => lk_rem_gt ht hft hF0 (hle _ k (by omega) hk) hq hq2) (fun q hq => ?_) (fun q hq hq2 => ?_)
    · rw [if_neg (by omega)]
      unfold ah0
      by_cases e : q = 0
      · rw [if_pos e, if_pos e]
      · rw [if_neg e, if_neg e, radr_le ht hft (by omega)]
    · unfold ah0
      rw [if_neg (show ¬ q = 0 by omega)]
      by_cases e : q = f + 1
      · subst e
        rw [if_pos (by omega), show f + 1 - 1 = f by omega, radr_le ht hft (Nat.le_refl _), adr_some hx0]
      · rw [if_neg (by omega), if_neg (by omega), radr_gt ht hft (by omega)]
        congr 1; omega
  · rw [adr_none (by omega)] at hA3
    refine ⟨w3, tie_none x0.b _ A0 w3 hA0 hA3, hout, ?_⟩
    refine sk_remove hsk ht hft _ _ (fun q k hq hk => lk_rem_le ht hft hF0 (hle q k (by omega) hk) hq hk) (fun q k hq hq2 hk => lk_rem_gt ht hft hF0 (hle _ k (by omega) hk) hq hq2) (fun q hq => ?_) (fun q hq hq2 => ?_)
    · unfold ah0
      by_cases e : q = 0
      · rw [if_pos e, if_pos e]
      · rw [if_neg e, if_neg e, radr_le ht hft (by omega)]
    · omega
end Go.Proofs.YtpfoicpnpgojdaaGreatDoor.Sk
/- leave, Cut, Delete. -/
namespace Go.Proofs.YtpfoicpnpgojdaaGreatDoor.Sk
open Go.RowKit Go.Shelf
attribute [local go_sem] Oper.semAt_some

variable {F : List Nd} {n : Int}
set_option maxRecDepth 100000 in
set_option maxHeartbeats 4000000 in
theorem leave_any (p : Nat) (L : List Nd) (hF : F = hd p :: L) (w : World) (hw : Sk w F (lk0 F) (ah0 F) n) (hN : F.length ≤ 1000000) (f t : Nat) (ht : t < F.length) (hft : f ≤ t) :
    Calls Tryz.prog 315 #[.agg (wayA F f), .agg (wayA F t), .int .i64 ((t : Int) - f)] w fun e w' => e = .returned (.tuple #[]) ∧ Far (isB F) w w' ∧ Sk w' (remF F f t) (lk0 (remF F f t)) (ah0 (remF F f t)) n := by
  have hF0 : lev F 0 = 32 := by rw [hF]; rfl
  obtain ⟨x0, hx0⟩ : ∃ x0, F[f]? = some x0 := ⟨_, List.getElem?_eq_getElem (by omega)⟩
  have hlast : ∀ k, k < 32 → last F k f < F.length := fun k hk => by have := (last_spec F k (by omega) f).1; omega
  have hb1 : Below w.heap.size w (((w.alloc (.cells (wayA F f) 303)).alloc (.cells (wayA F t) 303)).alloc (.cells #[.int .i64 ((t : Int) - f)] 3)) := (((Below.refl _ _).alloc (Nat.le_refl _) _).alloc (by simp) _).alloc (by simp; omega) _
  have k1 : Blk (((w.alloc (.cells (wayA F f) 303)).alloc (.cells (wayA F t) 303)).alloc (.cells #[.int .i64 ((t : Int) - f)] 3)) w.heap.size 303 (wayA F f) := ((Blk.new _ _ _).alloc _).alloc _
  have k2 : Blk (((w.alloc (.cells (wayA F f) 303)).alloc (.cells (wayA F t) 303)).alloc (.cells #[.int .i64 ((t : Int) - f)] 3)) (w.heap.size + 1) 303 (wayA F t) := by
    have := (Blk.new (w.alloc (.cells (wayA F f) 303)) 303 (wayA F t)).alloc (Obj.cells #[.int .i64 ((t : Int) - f)] 3); simpa using this
  have k3 : Blk (((w.alloc (.cells (wayA F f) 303)).alloc (.cells (wayA F t) 303)).alloc (.cells #[.int .i64 ((t : Int) - f)] 3)) (w.heap.size + 1 + 1) 3 #[.int .i64 ((t : Int) - f)] := by
    have := Blk.new ((w.alloc (.cells (wayA F f) 303)).alloc (.cells (wayA F t) 303)) 3 #[.int .i64 ((t : Int) - f)]; simpa using this
  have HR := Lib.hid (relink_any (links_over (w0 := w) (wb := w.heap.size) (wf := w.heap.size + 1) (c := w.heap.size + 1 + 1) (n := n) hF0 hN ht hft) hlast (by omega) 32 _ (cinv0 hw hb1 k1 k2 k3))
  have HL := fun w3 (hJ : CInv w F f t w.heap.size (w.heap.size + 1) (w.heap.size + 1 + 1) n 32 w3) => Lib.hid (left hF0 ht hft hJ hx0)
  have hs1 := wayA_size F f
  have hs2 := wayA_size F t
  generalize wayA F f = WA at *
  generalize wayA F t = WB at *
  clear hb1 k1 k2 k3 hw hF hx0 hlast
  generalize hd' : (t : Int) - f = d at *
  clear hd'
  go_enter Tryz.func315, Tryz.ntmps315
  go_wp2_with fail
  refine HR.out.mono ?_
  rintro e w2 ⟨rfl, hJ⟩
  obtain ⟨q0, w4, T1, hf, hsk⟩ := (HL w2 hJ).out
  have T1 := Lib.hid T1
  have HFF := Lib.hid hf
  have HSK := Lib.hid hsk
  clear HR HL hJ hf hsk
  go_wp2_with fail
  refine T1.out.mono ?_
  rintro e w6 ⟨rfl, rfl⟩
  go_wp2_with fail
  go_returns
  exact ⟨rfl, HFF.out, HSK.out⟩

theorem range71 {W : World} {b : Nat} {cl : List Value} (h : Blk W b 303 cl.toArray) : W.rangeAt b 0 cl := fun j v hv => by
  rw [Nat.zero_add, h.cell]; simpa using hv

/-- Cut. -/
theorem cut_nil (f t : Int) (w : World) : Calls Tryz.prog 307 #[.pointer none, .int .i64 f, .int .i64 t] w fun e w' => e = .returned (.int .i64 0) ∧ w' = w := by
  have HP := fun w => Lib.hid (part_nil f t w)
  have h : (max f 0) ≥ (min t 0) := by omega
  generalize max f 0 = a at *
  generalize min t 0 = b at *
  go_enter Tryz.func307, Tryz.ntmps307
  go_wp2_with fail
  refine (HP _).out.mono ?_
  rintro e w1 ⟨rfl, rfl⟩
  go_wp2
  go_returns
  exact ⟨rfl, rfl⟩
theorem cut_none (p : Nat) (L : List Nd) (hF : F = hd p :: L) (w : World) (hw : Sk w F (lk0 F) (ah0 F) n) (f t : Int) (h : min t n ≤ max f 0) : Calls Tryz.prog 307 #[.pointer (some ⟨p, 0, none⟩), .int .i64 f, .int .i64 t] w fun e w' => e = .returned (.int .i64 0) ∧ w' = w := by
  have HP := Lib.hid (part_any p L hF hw f t)
  generalize max f 0 = a at *
  generalize min t n = b at *
  clear hw hF
  go_enter Tryz.func307, Tryz.ntmps307
  go_wp2_with fail
  refine HP.out.mono ?_
  rintro e w1 ⟨rfl, rfl⟩
  go_wp2
  go_returns
  exact ⟨rfl, rfl⟩

set_option maxRecDepth 100000 in
set_option maxHeartbeats 1000000 in
theorem cut_any (p : Nat) (L : List Nd) (hF : F = hd p :: L) (w : World) (hw : Sk w F (lk0 F) (ah0 F) n) (hN : F.length ≤ 1000000) (hn : n = L.length) (f t : Int) (a b : Nat) (ha : (a : Int) = max f 0) (hb : (b : Int) = min t n) (hab : a < b) :
    Calls Tryz.prog 307 #[.pointer (some ⟨p, 0, none⟩), .int .i64 f, .int .i64 t] w fun e w' => e = .returned (.int .i64 ((b : Int) - a)) ∧ Far (isB F) w w' ∧ Sk w' (remF F a b) (lk0 (remF F a b)) (ah0 (remF F a b)) (n - ((b : Int) - a)) := by
  have HP := Lib.hid (part_any p L hF hw f t)
  rw [← ha, ← hb] at HP
  have hFl : F.length = L.length + 1 := by rw [hF]; rfl
  have hbF : b < F.length := by omega
  have HT1 := Lib.hid (toPlace_any p L hF hw hN a (by omega))
  have HT2 := fun W (hb1 : Below w.heap.size w W) => Lib.hid (toPlace_any p L hF (hw.later hb1) hN b hbF)
  have HLV := fun W (hb1 : Below w.heap.size w W) => Lib.hid (leave_any p L hF W (hw.later hb1) hN a b hbF (by omega))
  have hF0 : F[0]? = some (hd p) := by rw [hF]; rfl
  have HF0 := Lib.hid hF0
  have HW := Lib.hid hw
  have hnn : n ≤ 1000000 := by omega
  have hn0 : 0 ≤ n := by omega
  have hbn : (b : Int) ≤ n := by omega
  have hab' : ¬ (b : Int) ≤ a := by omega
  have hsA := wayA_size F a
  have hsB := wayA_size F b
  have hoA := way_one F a
  clear hw hF hF0 ha hb hn hFl
  generalize wayA F a = WA at *
  generalize wayA F b = WB at *
  obtain ⟨cl⟩ := WA
  go_enter Tryz.func307, Tryz.ntmps307
  go_wp2_with fail
  refine HP.out.mono ?_
  rintro e w1 ⟨rfl, rfl⟩
  go_wp2_with fail
  rename_i Kk hKk
  refine HT1.out.mono ?_
  rintro e w2 ⟨rfl, hb2⟩
  refine hKk _ _ ?_
  refine wpList_plain rfl ?_
  intro K2 hK2
  refine wp_alloc71 rfl ?_
  refine hK2 _ _ ?_
  clear hK2 K2
  refine wpList_plain rfl ?_
  intro K2 hK2
  refine wp_store71 _ _ rfl _ rfl rfl (Blk.new _ _ _) zW_size hsA hoA ?_
  refine hK2 _ _ ?_
  clear hK2 K2
  have kW : Blk ((w2.alloc (.cells zW 303)).setRow w2.heap.size cl.toArray) w2.heap.size 303 cl.toArray := (Blk.new _ _ _).setRow _
  have hb4 : Below w2.heap.size w2 ((w2.alloc (.cells zW 303)).setRow w2.heap.size cl.toArray) := ⟨rfl, rfl, rfl, by rw [setRow_size]; simp, fun q hq => (setRow_other _ (Nat.ne_of_lt hq)).trans (((Below.refl w2.heap.size w2).alloc (Nat.le_refl _) _).block q hq)⟩
  have hb5 := hb2.trans (hb4.mono hb2.size)
  generalize (w2.alloc (.cells zW 303)).setRow w2.heap.size cl.toArray = w3 at *
  generalize w2.heap.size = wb at *
  have KW := Lib.hid kW
  have HB5 := Lib.hid hb5
  clear kW hb4 hb5 hb2 hKk Kk
  have hi71 : (Tryz.prog.info? 303).map (·.size) = some cl.length := by rw [size71]; simpa using hsA.symm
  have hu71 := under71
  have hR0 : w3.drew.rangeAt wb 0 cl := range71 KW.out.drew
  have hBD : Below w1.heap.size w1 w3.drew := HB5.out.drew
  have hwbF : ¬ isB F wb := (HW.out.later HB5.out).not_ty KW.out (fun q => (ty_ne q).2.2.1)
  have HT3 := HT2 _ hBD
  clear HT2
  have hwr : IntKind.i64.wrap ((b : Int) - a) = (b : Int) - a := IntWalk.i64_in _ (by omega)
  go_wp2_with fail
  change Code.wp _ _ _ { tmps := #[.pointer (some ⟨p, 0, none⟩), .int .i64 a, .int .i64 b, undef, undef, undef, .int .i64 0, .pointer (some ⟨wb, 0, none⟩), .tuple #[.int .i64 a, .int .i64 b], .pointer (some ⟨p, 0, none⟩), .int .i64 f, .int .i64 t, .tuple #[.int .i64 a, .int .i64 b], .int .i64 a, .int .i64 b, .int .i64 a, .int .i64 b, .bool (decide (b ≤ a)), .pointer (some ⟨p, 0, none⟩), .int .i64 a, .agg cl.toArray, undef, undef, undef, undef, undef, undef, undef, undef, undef, undef, undef, undef, undef, undef, undef, undef, undef, undef, undef, undef, undef], defers := [] } w3
  go_region_held (fun w' => w'.rangeAt wb 0 cl)
    (first | exact hR0 | exact hR5 | exact hR6)
    (first
      | (go_at_call 305; refine HT3.out.mono ?_; rintro e w5 ⟨rfl, hb6⟩; have hbw5 := hBD.trans (hb6.mono hBD.size); have hK5 := Lib.hid (KW.out.drew.later hb6); have hR5 := range71 hK5.out; have HLV5 := HLV _ hbw5)
      | (go_at_call 315; refine HLV5.out.mono ?_; rintro e w6 ⟨rfl, hf6, hsk6⟩; have hR6 := range71 (hf6.blk hK5.out hwbF)))
  have hx0' : (remF F a b)[0]? = some (hd p) := by rw [remF_le hbF (by omega) (Nat.zero_le _)]; exact HF0.out
  obtain ⟨A5, hA5, hN5⟩ := hsk6.node 0 (hd p) hx0'
  have n5 : w6.cell? ⟨p, 67, none⟩ = some (.int .i64 n) := (hA5.cell 67).trans (hN5.n rfl)
  have n6 : w6.frozen? ⟨p, 67, none⟩ = false := hA5.free 67
  have HSK := Lib.hid hsk6
  have HFF := Lib.hid hf6
  have HX0 := Lib.hid hx0'
  have HBW := Lib.hid hbw5
  clear hsk6 hf6 hA5 hN5 hx0' hR6 hR5 hR0 hbw5 hb6 HLV5 HLV HT3 hi71 hu71 hK5 hwbF
  go_wp2_with fail
  go_returns
  refine ⟨rfl, ?_, HSK.out.setN HX0.out _⟩
  exact ((Far.of_below HBW.out).trans HFF.out (fun q hq => .inl hq)).set ⟨p, 67, none⟩ _ (.inl (isB_at HF0.out))

/-- Delete. -/
theorem delete_nil (m : ByteArray) (s : Int) (w : World) : Calls Tryz.prog 298 #[.pointer none, .agg #[.string m, .int .i64 s]] w fun e w' => e = .returned (.bool false) ∧ Below w.heap.size w w' := by
  have HS := fun w => Lib.hid (seek_nil m s w)
  have hb1 : Below w.heap.size w (w.alloc (.cells #[.string m, .int .i64 s] 101)) := (Below.refl _ _).alloc (Nat.le_refl _) _
  have HB1 := Lib.hid hb1
  clear hb1
  go_enter Tryz.func298, Tryz.ntmps298
  go_wp2_with fail
  refine (HS _).out.mono ?_
  rintro e w1 ⟨rfl, hb⟩
  have HB := Lib.hid (HB1.out.trans (hb.mono HB1.out.size))
  clear hb
  go_wp2
  go_returns
  exact ⟨rfl, HB.out⟩
set_option maxRecDepth 100000 in
set_option maxHeartbeats 2000000 in
theorem delete_any (p : Nat) (L : List Nd) (hF : F = hd p :: L) (w : World) (hw : Sk w F (lk0 F) (ah0 F) n) (hN : F.length ≤ 1000000) (hn : n = L.length) (a : Nat) (ha : a < F.length) (m : ByteArray) (s : Int) (hq : ∀ q x, 0 < q → F[q]? = some x → lessE x.m x.s m s = decide (q ≤ a)) :
    Calls Tryz.prog 298 #[.pointer (some ⟨p, 0, none⟩), .agg #[.string m, .int .i64 s]] w fun e w' =>
      (entAt F (a + 1) m s = false → e = .returned (.bool false) ∧ Below w.heap.size w w') ∧
      (entAt F (a + 1) m s = true → e = .returned (.bool true) ∧ Far (isB F) w w' ∧ Sk w' (remF F a (a + 1)) (lk0 (remF F a (a + 1))) (ah0 (remF F a (a + 1))) (n - 1)) := by
  have hb1 : Below w.heap.size w (w.alloc (.cells #[.string m, .int .i64 s] 101)) := (Below.refl _ _).alloc (Nat.le_refl _) _
  have kE : Blk (w.alloc (.cells #[.string m, .int .i64 s] 101)) w.heap.size 101 #[.string m, .int .i64 s] := Blk.new _ _ _
  obtain ⟨e0, e1, _, _⟩ := facts2 kE
  have HS := Lib.hid (seek_any p L hF (hw.later hb1) hN m s a ha hq)
  have hFl : F.length = L.length + 1 := by rw [hF]; rfl
  have HC := fun W (hb : Below w.heap.size w W) (hh : entAt F (a + 1) m s = true) => Lib.hid (cut_any p L hF W (hw.later hb) hN hn a ((a : Int) + 1) a (a + 1) (by omega) (by
    unfold entAt at hh
    split at hh
    · rename_i x hx
      have := (List.getElem?_eq_some_iff.1 hx).1
      omega
    · cases hh) (by omega))
  obtain ⟨bb, hbb⟩ : ∃ bb, entAt F (a + 1) m s = bb := ⟨_, rfl⟩
  rw [hbb] at HS HC
  have HBB := Lib.hid hbb
  have HB1 := Lib.hid hb1
  have ha2 : (a : Int) ≤ 1000000 := by omega
  clear hb1 kE hw hF hq hbb hn hFl ha hN
  go_enter Tryz.func298, Tryz.ntmps298
  go_wp2_with fail
  refine HS.out.mono ?_
  rintro e w1 ⟨rfl, hb⟩
  have hbw := HB1.out.trans (hb.mono HB1.out.size)
  have HBW := Lib.hid hbw
  clear hb hbw
  cases bb with
  | false =>
    clear HC
    go_wp2_with fail
    go_returns
    refine ⟨fun _ => ⟨rfl, HBW.out⟩, fun h => ?_⟩
    rw [HBB.out] at h
    cases h
  | true =>
    have HC2 := HC w1 HBW.out rfl
    rw [show ((a + 1 : Nat) : Int) - a = 1 by omega] at HC2
    clear HC
    go_wp2_with fail
    refine HC2.out.mono ?_
    rintro e w2 ⟨rfl, hf, hsk⟩
    have HFF := Lib.hid hf
    have HSK := Lib.hid hsk
    clear hf hsk
    go_wp2_with fail
    go_returns
    refine ⟨fun h => ?_, fun _ => ⟨rfl, (Far.of_below HBW.out).trans HFF.out (fun q hq => .inl hq), HSK.out⟩⟩
    rw [HBB.out] at h
    cases h
end Go.Proofs.YtpfoicpnpgojdaaGreatDoor.Sk
/- Lists of one's own in memory: entries, numbers; an append. -/
namespace Go.Proofs.YtpfoicpnpgojdaaGreatDoor.Sk
open Go.RowKit Go.Shelf
attribute [local go_sem] Oper.semAt_some

/-- An entry. -/
abbrev Ent := ByteArray × Int
def cellsE (l : List Ent) : List Value := l.flatMap fun e => [.string e.1, .int .i64 e.2]
theorem cellsE_append (a b : List Ent) : cellsE (a ++ b) = cellsE a ++ cellsE b := by simp [cellsE]
def cellsI (l : List Int) : List Value := l.map fun i => .int .i64 i
/-- A list of entries in memory of one's own. -/
def Own32 (W : World) (n0 : Nat) (v : Value) (l : List Ent) : Prop := W.ownsRow n0 101 2 v l.length (cellsE l)
/-- A list of numbers in memory of one's own. -/
def Own3 (W : World) (n0 : Nat) (v : Value) (l : List Int) : Prop := W.ownsRow n0 3 1 v l.length (cellsI l)

section
variable {e : TypeId} {sz : Nat}
theorem own_gen {β : Type} (B n0 : Nat) (v : Value) (k : β → Nat) (xs : β → List Value) : OwnFrom B (fun s W => W.ownsRow n0 e sz v (k s) (xs s)) := fun s X Y row hs hg hr =>
  World.ownsRow.kept hs hg (by
    rcases hs.2 with ⟨rfl, _⟩ | ⟨g, cap, cur, rfl, _, hgb, _⟩
    · exact .inl rfl
    · refine .inr (fun e => ?_)
      obtain ⟨_, o, ho, hc⟩ := hr g e.symm
      rw [hgb] at ho; cases ho; cases hc)
theorem own_later {W W6 : World} {n0 k : Nat} {r : Value} {xs : List Value} (h : W.ownsRow n0 e sz r k xs) (hb : Below W.heap.size W W6) : W6.ownsRow n0 e sz r k xs := World.ownsRow.kept h (below_grown hb) (by
  rcases h.2 with ⟨rfl, _⟩ | ⟨g, cap, cur, rfl, _⟩
  · exact .inl rfl
  · exact .inr (by simp [Value.ownBlock]))
theorem own_set {W : World} {n0 k : Nat} {r : Value} {xs : List Value} (h : W.ownsRow n0 e sz r k xs) (b o : Nat) (v : Value) (hb : b < n0) : (W.setCell ⟨b, o, none⟩ v).ownsRow n0 e sz r k xs := by
  refine ⟨h.1, ?_⟩
  rcases h.2 with hn | ⟨g, cap, cur, rfl, h1, h2, h3⟩
  · exact .inl hn
  · exact .inr ⟨g, cap, cur, rfl, h1, (Below.heap_setCell _ _ _ _ (by show g ≠ b; omega)).trans h2, h3⟩
theorem own_mono {w : World} {base base' : Nat} {v : Value} {n : Nat} {xs : List Value} (h : w.ownsRow base e sz v n xs) (hb : base' ≤ base) : w.ownsRow base' e sz v n xs := by
  refine ⟨h.1, ?_⟩
  rcases h.2 with hn | ⟨g, cap, cur, rfl, hb', rest⟩
  · exact .inl hn
  · exact .inr ⟨g, cap, cur, rfl, Nat.le_trans hb hb', rest⟩
theorem own_aside {W W' : World} {n0 k N : Nat} {r : Value} {xs : List Value} (h : W.ownsRow n0 e sz r k xs) (ha : Aside N W W') (he : e ≠ 301) : W'.ownsRow n0 e sz r k xs := by
  refine ⟨h.1, ?_⟩
  rcases h.2 with hn | ⟨g, cap, cur, rfl, h1, h2, h3⟩
  · exact .inl hn
  · exact .inr ⟨g, cap, cur, rfl, h1, ha.block _ _ h2 (.inr fun c e2 => by simp at e2; exact he e2.2), h3⟩
/-- What an append leaves of other blocks. -/
theorem Blk.grown {W W7 : World} {b n0 k : Nat} {t : TypeId} {c : Array Value} {r : Value} {xs : List Value} {o : Obj} (h : Blk W b t c) (hg : (W.alloc o).grownBy W7 r.ownBlock) (ho : W.ownsRow n0 e sz r k xs) (ht : t ≠ e) : Blk W7 b t c :=
  (hg.block b (h.alloc o).lt (fun e2 => by
    rcases ho.2 with ⟨rfl, _⟩ | ⟨g, cap, cur, rfl, _, hgb, _⟩
    · simp [Value.ownBlock] at e2
    · simp [Value.ownBlock] at e2
      subst e2
      have := (show W.heap[b]? = _ from h).symm.trans hgb
      simp at this
      exact ht this.2)).trans (h.alloc o)
theorem app_end {w0 W W6 W7 : World} {o : Obj} {b n0 t k k' : Nat} {r v' : Value} {l l' : List Value} (h : Blk W b t #[r]) (ho : W.ownsRow n0 e sz r k l) (hb6 : Below W.heap.size W W6) (hgrow : (W6.alloc o).grownBy W7 r.ownBlock) (ho7 : W7.ownsRow n0 e sz v' k' l') (hbn : b < n0)
    (hB : Below w0.heap.size w0 W) (hw : w0.heap.size ≤ b) (ht : t ≠ e) (het : ¬ itT e) (htt : ¬ itT t) (B : Nat) (L : List Nat) :
    KeepsFrom B W (W7.setCell ⟨b, 0, none⟩ v') ∧ KeepC L W (W7.setCell ⟨b, 0, none⟩ v') ∧ Below w0.heap.size w0 (W7.setCell ⟨b, 0, none⟩ v') ∧ Blk (W7.setCell ⟨b, 0, none⟩ v') b t #[v'] ∧ (W7.setCell ⟨b, 0, none⟩ v').ownsRow n0 e sz v' k' l' := by
  have h7 := (h.later hb6).grown hgrow (own_later ho hb6) ht
  have hs6 := hb6.size
  have hsw := hB.size
  refine ⟨?_, ?_, ?_, h7.set 0 v', ?_⟩
  · refine (((KeepsFrom.of_grownBy (row := none) (below_grown hb6) (fun _ h => by cases h)).trans ((KeepsOthers.alloc _ _).from _)).trans ((KeepsOthers.of_grownBy hgrow fun j o ej hj => ?_).from B)).trans ((KeepsOthers.setCell _ _ _).from _)
    rcases (World.ownsRow.alloc (own_later ho hb6) _).2 with ⟨rfl, _⟩ | ⟨g, cap, cur, rfl, _, hgb, _⟩
    · simp [Value.ownBlock] at ej
    · obtain rfl : g = j := by simpa [Value.ownBlock] using ej
      rw [hgb] at hj; cases hj; rfl
  · refine (((KeepC.of_below hb6).trans (KeepC.of_below ((Below.refl _ _).alloc (Nat.le_refl _) _))).trans (KeepC.of_grownBy hgrow fun k c t ek hk => ?_)).trans (KeepC.of_grownBy (row := some b) (grownBy_setCell' _ _ _) fun k c t ek hk => ?_)
    · rcases (World.ownsRow.alloc (own_later ho hb6) o).2 with ⟨rfl, _⟩ | ⟨g, cap, cur, rfl, _, hgb, _⟩
      · simp [Value.ownBlock] at ek
      · obtain rfl : g = k := by simpa [Value.ownBlock] using ek
        rw [hgb] at hk; cases hk
        exact het
    · cases ek
      rw [show W7.heap[b]? = _ from h7] at hk; cases hk
      exact htt
  · refine (((hB.trans (hb6.mono hsw)).alloc (by omega) o).grown hgrow (by simp; omega) fun k ek => ?_).setCell (p := ⟨b, 0, none⟩) hw v'
    have := (World.ownsRow.lt ho k ek).1
    omega
  · exact own_set ho7 b 0 v' hbn
end

theorem info48 : (Tryz.prog.info? 101).map (fun i => (i.zero, i.size, i.bytes)) = some (some (.agg #[.string ⟨#[]⟩, .int .i64 0]), 2, 24) := by kernel_rfl
theorem info3 : (Tryz.prog.info? 3).map (fun i => (i.zero, i.size, i.bytes)) = some (some (.int .i64 0), 1, 8) := by kernel_rfl

theorem app_ent {W W6 : World} {n0 : Nat} {r : Value} {l : List Ent} (hown : Own32 W n0 r l) (hb : Below W.heap.size W W6) (e : Ent) (hl : l.length ≤ 1000000000) (hn : n0 ≤ W6.heap.size) :
    ∃ g cap W7, (Builtin.append_ #[55, 55] 55 #[r, .slice (some ⟨W6.heap.size, 0, none⟩) 1 1]).run Tryz.prog (W6.alloc (.cells #[.string e.1, .int .i64 e.2] 101)) = .ok (.slice (some ⟨g, 0, none⟩) (l.length + 1) cap) W7 ∧
      Own32 W7 n0 (.slice (some ⟨g, 0, none⟩) (l.length + 1) cap) (l ++ [e]) ∧ (W6.alloc (.cells #[.string e.1, .int .i64 e.2] 101)).grownBy W7 r.ownBlock := by
  obtain ⟨i0, hi0, hz0, hz1, hz2⟩ := info_parts info48
  obtain ⟨v', w', hrun, r1, r2, r3⟩ := run_append_own (P := Tryz.prog) (W6.alloc (.cells #[.string e.1, .int .i64 e.2] 101)) n0 55 55 101 i0 _ 2 24 Tryz.underlying55 hi0 hz0 hz1 hz2 rfl (by decide) r _ _ (World.ownsRow.alloc (own_later hown hb) _) ⟨W6.heap.size, 0, none⟩ 1 1 [.string e.1, .int .i64 e.2] rfl
    (fun j u hj => by
      have hB := Blk.new W6 101 #[.string e.1, .int .i64 e.2]
      match j, hj with
      | 0, hj => simp at hj; subst hj; exact hB.cell 0
      | 1, hj => simp at hj; subst hj; simp [Addr.add]
      | j + 2, hj => simp at hj)
    (by simp [Value.oneCell']) (by unfold maxLen; omega) (by omega) (by simp; omega)
  have r1' : Own32 w' n0 v' (l ++ [e]) := by
    unfold Own32
    rw [cellsE_append, List.length_append]
    exact r1
  rcases r1.2 with ⟨rfl, h0⟩ | ⟨g, cap, cur, rfl, _⟩
  · omega
  · exact ⟨g, cap, w', hrun, r1', r2⟩
theorem app_int {W W6 : World} {n0 : Nat} {r : Value} {l : List Int} (hown : Own3 W n0 r l) (hb : Below W.heap.size W W6) (e : Int) (hl : l.length ≤ 1000000000) (hn : n0 ≤ W6.heap.size) :
    ∃ g cap W7, (Builtin.append_ #[87, 87] 87 #[r, .slice (some ⟨W6.heap.size, 0, none⟩) 1 1]).run Tryz.prog (W6.alloc (.cells #[.int .i64 e] 3)) = .ok (.slice (some ⟨g, 0, none⟩) (l.length + 1) cap) W7 ∧
      Own3 W7 n0 (.slice (some ⟨g, 0, none⟩) (l.length + 1) cap) (l ++ [e]) ∧ (W6.alloc (.cells #[.int .i64 e] 3)).grownBy W7 r.ownBlock := by
  obtain ⟨i0, hi0, hz0, hz1, hz2⟩ := info_parts info3
  obtain ⟨v', w', hrun, r1, r2, r3⟩ := run_append_own (P := Tryz.prog) (W6.alloc (.cells #[.int .i64 e] 3)) n0 87 87 3 i0 _ 1 8 Tryz.underlying87 hi0 hz0 hz1 hz2 rfl (by decide) r _ _ (World.ownsRow.alloc (own_later hown hb) _) ⟨W6.heap.size, 0, none⟩ 1 1 [.int .i64 e] rfl
    (fun j u hj => by
      have hB := Blk.new W6 3 #[.int .i64 e]
      match j, hj with
      | 0, hj => simp at hj; subst hj; exact hB.cell 0
      | j + 1, hj => simp at hj)
    (by simp [Value.oneCell']) (by unfold maxLen; omega) (by omega) (by simp; omega)
  have r1' : Own3 w' n0 v' (l ++ [e]) := by
    unfold Own3 cellsI
    rw [List.map_append, List.length_append]
    exact r1
  rcases r1.2 with ⟨rfl, h0⟩ | ⟨g, cap, cur, rfl, _⟩
  · omega
  · exact ⟨g, cap, w', hrun, r1', r2⟩

theorem stepIn_append {F : Fence} {n : Nat} {P : Program} {ops : Array Oper} {o : Oper} {a : Act} {w w' : World} {K : Act → World → Prop} {Q : Exit → Act → World → Prop} {E : Prop} {v xv v' : Value} (hgd : o.guard = none) (s x : Operand) (t u : TypeId)
    (ho : o.op = Op.call { callee := Callee.builtin Builtin.append, args := #[s, x], argTypes := #[t, u] }) (hs : a.eval s = v) (hx : a.eval x = xv) (hrun : (Builtin.append_ #[t, u] o.type #[v, xv]).run P w = .ok v' w')
    (h : K (a.put o.dst v') w') : if Region.wanted o (yielded ops a.tmps) = true then Oper.wpIn F n P o a w K Q else E := by
  have hw : Region.wanted o (yielded ops a.tmps) = true := by simp [Region.wanted, hgd]
  rw [if_pos hw]
  unfold Oper.wpIn
  refine ⟨?_, ?_⟩
  · simp [Oper.about, ho, resolve, Target.leads, Sem.run_pure]
  · rw [Oper.semAt_plain F _ _ (by rw [ho]; intro c hc'; cases hc')]
    simp [execOp, ho, resolve, invoke, builtin, hs, hx, hrun, Result.andThen]
    exact h
end Go.Proofs.YtpfoicpnpgojdaaGreatDoor.Sk
/- A list, as what it holds. -/
namespace Go.Proofs.YtpfoicpnpgojdaaGreatDoor.Sk
open Go.RowKit Go.Shelf
attribute [local go_sem] Oper.semAt_some

theorem less_irr (a : ByteArray) (s : Int) : lessE a s a s = false := by
  simp only [lessE, decide_eq_false_iff_not]
  rintro (h | ⟨_, h⟩)
  · omega
  · exact List.lt_irrefl _ h
theorem less_tr {a b c : ByteArray} {s t u : Int} (h : lessE a s b t = true) (g : lessE b t c u = true) : lessE a s c u = true := by
  simp only [lessE, decide_eq_true_eq] at *
  rcases h with h | ⟨h, h'⟩ <;> rcases g with g | ⟨g, g'⟩
  · exact .inl (by omega)
  · exact .inl (by omega)
  · exact .inl (by omega)
  · exact .inr ⟨by omega, List.lt_trans h' g'⟩
theorem less_or (a b : ByteArray) (s t : Int) (h : lessE a s b t = false) (hn : ¬ (a = b ∧ s = t)) : lessE b t a s = true := by
  simp only [lessE, decide_eq_false_iff_not, decide_eq_true_eq] at *
  by_cases e : s = t
  · right
    refine ⟨e.symm, ?_⟩
    have h1 : ¬ a.data.toList < b.data.toList := fun h2 => h (.inr ⟨e, h2⟩)
    have h2 : a.data.toList ≠ b.data.toList := fun h2 => hn ⟨by cases a; cases b; simp at h2; rw [h2], e⟩
    rcases Std.le_total (a := a.data.toList) (b := b.data.toList) with h3 | h3
    · exact absurd (Std.lt_of_le_of_ne h3 h2) h1
    · exact Std.lt_of_le_of_ne h3 (Ne.symm h2)
  · left
    have : ¬ s < t := fun h2 => h (.inl h2)
    omega

/-- In their order. -/
def Srt (L : List Nd) : Prop := L.Pairwise fun x y => lessE x.m x.s y.m y.s = true
/-- How many stand ahead. -/
def pos (L : List Nd) (m : ByteArray) (s : Int) : Nat := (L.takeWhile fun x => lessE x.m x.s m s).length
theorem pos_le (L : List Nd) (m : ByteArray) (s : Int) : pos L m s ≤ L.length := by
  unfold pos; exact (List.takeWhile_sublist _).length_le
theorem pos_spec {L : List Nd} (hs : Srt L) (m : ByteArray) (s : Int) : ∀ (i : Nat) (x : Nd), L[i]? = some x → lessE x.m x.s m s = decide (i < pos L m s) := by
  induction L with
  | nil => intro i x h; simp at h
  | cons y L ih =>
    intro i x h
    have hs' : Srt L := (List.pairwise_cons.1 hs).2
    by_cases hy : lessE y.m y.s m s = true
    · have hp : pos (y :: L) m s = pos L m s + 1 := by simp [pos, hy]
      rw [hp]
      cases i with
      | zero => simp at h; subst h; simpa using hy
      | succ i =>
        rw [ih hs' i x (by simpa using h)]
        simp
    · have hp : pos (y :: L) m s = 0 := by simp [pos, hy]
      rw [hp]
      have hy' : lessE y.m y.s m s = false := by simpa using hy
      cases i with
      | zero => simp at h; subst h; simpa using hy'
      | succ i =>
        have hx : x ∈ L := List.mem_of_getElem? (by simpa using h : L[i]? = some x)
        have := (List.pairwise_cons.1 hs).1 x hx
        cases hxe : lessE x.m x.s m s with
        | false => simp
        | true => exact absurd (less_tr this hxe) hy
theorem hq_of {L : List Nd} (hs : Srt L) (p : Nat) (m : ByteArray) (s : Int) : ∀ q x, 0 < q → (hd p :: L)[q]? = some x → lessE x.m x.s m s = decide (q ≤ pos L m s) := by
  intro q x h0 hx
  obtain ⟨i, rfl⟩ : ∃ i, q = i + 1 := ⟨q - 1, by omega⟩
  rw [pos_spec hs m s i x (by simpa using hx), decide_eq_decide]
  omega
/-- Is an entry there? -/
def has (L : List Nd) (m : ByteArray) (s : Int) : Bool := match L[pos L m s]? with
  | some x => decide (x.m = m ∧ x.s = s)
  | none => false
theorem has_at (p : Nat) (L : List Nd) (m : ByteArray) (s : Int) : entAt (hd p :: L) (pos L m s + 1) m s = has L m s := by
  unfold entAt has
  rw [List.getElem?_cons_succ]
  rfl
theorem srt_put {L : List Nd} (hs : Srt L) (x : Nd) (hn : has L x.m x.s = false) : Srt (L.take (pos L x.m x.s) ++ x :: L.drop (pos L x.m x.s)) := by
  have hsp := pos_spec hs x.m x.s
  refine List.pairwise_append.2 ⟨hs.sublist (List.take_sublist _ _), List.pairwise_cons.2 ⟨fun y hy => ?_, hs.sublist (List.drop_sublist _ _)⟩, fun y hy z hz => ?_⟩
  · obtain ⟨i, hi⟩ := List.mem_iff_getElem?.1 hy
    rw [List.getElem?_drop] at hi
    have h1 := hsp _ y hi
    rw [show decide (pos L x.m x.s + i < pos L x.m x.s) = false by simp] at h1
    refine less_or _ _ _ _ h1 (fun e => ?_)
    cases i with
    | zero =>
      unfold has at hn
      rw [Nat.add_zero] at hi
      rw [hi] at hn
      simp [e] at hn
    | succ i =>
      have hl := (List.getElem?_eq_some_iff.1 hi).1
      have h2 : L[pos L x.m x.s]? = some L[pos L x.m x.s] := List.getElem?_eq_getElem (by omega)
      have h3 := hsp _ _ h2
      rw [show decide (pos L x.m x.s < pos L x.m x.s) = false by simp] at h3
      have h4 := List.pairwise_iff_getElem.1 hs (pos L x.m x.s) (pos L x.m x.s + (i + 1)) (by omega) hl (by omega)
      rw [(List.getElem?_eq_some_iff.1 hi).2, e.1, e.2] at h4
      rw [h4] at h3
      cases h3
  · have hy1 : lessE y.m y.s x.m x.s = true := by
      obtain ⟨i, hi⟩ := List.mem_iff_getElem?.1 hy
      have hil := (List.getElem?_eq_some_iff.1 hi).1
      rw [List.length_take] at hil
      rw [List.getElem?_take_of_lt (by omega)] at hi
      rw [hsp i y hi]
      simp; omega
    rcases List.mem_cons.1 hz with rfl | hz
    · exact hy1
    · obtain ⟨i, hi⟩ := List.mem_iff_getElem?.1 hy
      obtain ⟨j, hj⟩ := List.mem_iff_getElem?.1 hz
      have hil := (List.getElem?_eq_some_iff.1 hi).1
      rw [List.length_take] at hil
      rw [List.getElem?_take_of_lt (by omega)] at hi
      rw [List.getElem?_drop] at hj
      obtain ⟨hi1, hi2⟩ := List.getElem?_eq_some_iff.1 hi
      obtain ⟨hj1, hj2⟩ := List.getElem?_eq_some_iff.1 hj
      have := List.pairwise_iff_getElem.1 hs i _ hi1 hj1 (by omega)
      rw [hi2, hj2] at this
      exact this
theorem srt_cut {L : List Nd} (hs : Srt L) {a b : Nat} (h : a ≤ b) : Srt (L.take a ++ L.drop b) := by
  refine hs.sublist ?_
  have h1 : (L.take a ++ L.drop b).Sublist (L.take a ++ L.drop a) := (List.Sublist.refl _).append (by
    rw [show b = a + (b - a) by omega, ← List.drop_drop]
    exact List.drop_sublist _ _)
  rwa [List.take_append_drop] at h1

/-- A list in memory. -/
structure Ls (W : World) (p : Nat) (L : List Nd) : Prop where
  sk : Sk W (hd p :: L) (lk0 (hd p :: L)) (ah0 (hd p :: L)) L.length
  srt : Srt L
variable {w : World} {p : Nat} {L : List Nd}
theorem Ls.far {w' : World} {S : Nat → Prop} (h : Ls w p L) (hf : Far S w w') (hS : ∀ k, isB (hd p :: L) k → ¬ S k) : Ls w' p L := ⟨h.sk.far hf hS, h.srt⟩
theorem Ls.later {w' : World} (h : Ls w p L) (hb : Below w.heap.size w w') : Ls w' p L := ⟨h.sk.later hb, h.srt⟩
theorem ins_eq (p : Nat) (L : List Nd) (a : Nat) (x : Nd) : insF (hd p :: L) a x = hd p :: (L.take a ++ x :: L.drop a) := by unfold insF; rw [List.take_succ_cons, List.drop_succ_cons]; rfl
theorem rem_eq (p : Nat) (L : List Nd) (a b : Nat) : remF (hd p :: L) a b = hd p :: (L.take a ++ L.drop b) := by unfold remF; rw [List.take_succ_cons, List.drop_succ_cons]; rfl

theorem seek_ls (h : Ls w p L) (hN : L.length ≤ 100000) (m : ByteArray) (s : Int) : Calls Tryz.prog 308 #[.pointer (some ⟨p, 0, none⟩), .agg #[.string m, .int .i64 s]] w fun e w' => e = .returned (.tuple #[.int .i64 (pos L m s), .bool (has L m s)]) ∧ Below w.heap.size w w' := by
  have := seek_any p L rfl h.sk (by simp; omega) m s (pos L m s) (by have := pos_le L m s; simp; omega) (hq_of h.srt p m s)
  rwa [has_at] at this

/-- What Insert does. -/
def putL (L : List Nd) (x : Nd) : List Nd := L.take (pos L x.m x.s) ++ x :: L.drop (pos L x.m x.s)
theorem insert_ls (h : Ls w p L) (hN : L.length ≤ 100000) (m : ByteArray) (hm : m.size ≤ 281474976710656) (s : Int) (l : Nat) (hl : 0 < l ∧ l ≤ 32) :
    Calls Tryz.prog 179 #[.pointer (some ⟨p, 0, none⟩), .agg #[.string m, .int .i64 s], .int .i64 l] w fun e w' =>
      (has L m s = true → e = .returned (.int .i64 90) ∧ Below w.heap.size w w') ∧
      (has L m s = false → e = .returned (.int .i64 0) ∧ ∃ nb, w.heap.size ≤ nb ∧ Far (isB (hd p :: L)) w w' ∧ Ls w' p (putL L ⟨nb, m, s, l⟩)) := by
  have := insert_any p L rfl w h.sk (by simp; omega) rfl (pos L m s) (by have := pos_le L m s; simp; omega) m hm s l hl (hq_of h.srt p m s)
  rw [has_at] at this
  refine this.mono ?_
  rintro e w' ⟨h1, h2⟩
  refine ⟨h1, fun hh => ?_⟩
  obtain ⟨he, nb, hn, hf, hsk⟩ := h2 hh
  refine ⟨he, nb, hn, hf, ?_, srt_put h.srt ⟨nb, m, s, l⟩ hh⟩
  rw [ins_eq] at hsk
  have hlen : ((L.take (pos L m s) ++ (⟨nb, m, s, l⟩ : Nd) :: L.drop (pos L m s)).length : Int) = (L.length : Int) + 1 := by
    have := pos_le L m s
    simp; omega
  unfold putL
  rw [← hlen] at hsk
  exact hsk
theorem cut_ls (h : Ls w p L) (hN : L.length ≤ 100000) (f t : Int) (a b : Nat) (ha : (a : Int) = max f 0) (hb : (b : Int) = min t L.length) (hab : a < b) :
    Calls Tryz.prog 307 #[.pointer (some ⟨p, 0, none⟩), .int .i64 f, .int .i64 t] w fun e w' => e = .returned (.int .i64 ((b : Int) - a)) ∧ Far (isB (hd p :: L)) w w' ∧ Ls w' p (L.take a ++ L.drop b) := by
  refine (cut_any p L rfl w h.sk (by simp; omega) rfl f t a b ha hb hab).mono ?_
  rintro e w' ⟨he, hf, hsk⟩
  refine ⟨he, hf, ?_, srt_cut h.srt (by omega)⟩
  rw [rem_eq] at hsk
  have hlen : ((L.take a ++ L.drop b).length : Int) = (L.length : Int) - ((b : Int) - a) := by simp; omega
  rw [← hlen] at hsk
  exact hsk
theorem delete_ls (h : Ls w p L) (hN : L.length ≤ 100000) (m : ByteArray) (s : Int) : Calls Tryz.prog 298 #[.pointer (some ⟨p, 0, none⟩), .agg #[.string m, .int .i64 s]] w fun e w' =>
      (has L m s = false → e = .returned (.bool false) ∧ Below w.heap.size w w') ∧
      (has L m s = true → e = .returned (.bool true) ∧ Far (isB (hd p :: L)) w w' ∧ Ls w' p (L.take (pos L m s) ++ L.drop (pos L m s + 1))) := by
  have := delete_any p L rfl w h.sk (by simp; omega) rfl (pos L m s) (by have := pos_le L m s; simp; omega) m s (hq_of h.srt p m s)
  rw [has_at] at this
  refine this.mono ?_
  rintro e w' ⟨h1, h2⟩
  refine ⟨h1, fun hh => ?_⟩
  obtain ⟨he, hf, hsk⟩ := h2 hh
  refine ⟨he, hf, ?_, srt_cut h.srt (by omega)⟩
  rw [rem_eq] at hsk
  have hlt : pos L m s < L.length := by
    unfold has at hh
    split at hh
    · rename_i x hx; exact (List.getElem?_eq_some_iff.1 hx).1
    · cases hh
  have hlen : ((L.take (pos L m s) ++ L.drop (pos L m s + 1)).length : Int) = (L.length : Int) - 1 := by simp; omega
  rw [← hlen] at hsk
  exact hsk

/-- New. -/
def z63 : Array Value := z61 ++ #[.int .i64 0]
theorem info135 : (Tryz.prog.info? 277).map (fun i => (i.zero, i.size)) = some (some (.agg z63), 68) := by kernel_rfl
theorem zero63 (w : World) : (zeroValue 277).run Tryz.prog w = .ok (.agg z63) w := (zero_of_info info135).1 w
theorem z63_facts : z63.size = 68 ∧ z63[0]? = some (.string ⟨#[]⟩) ∧ z63[1]? = some (.int .i64 0) ∧ z63[2]? = some (.pointer none) ∧ z63[67]? = some (.int .i64 0) := ⟨by decide +kernel, rfl, rfl, rfl, rfl⟩
theorem z63_link : ∀ k : Fin 32, z63[3 + k.val * 2]? = some (.pointer none) ∧ z63[3 + k.val * 2 + 1]? = some (.int .i64 0) := by
  intro k
  match k with
  | ⟨k, hk⟩ =>
    have : k = 0 ∨ k = 1 ∨ k = 2 ∨ k = 3 ∨ k = 4 ∨ k = 5 ∨ k = 6 ∨ k = 7 ∨ k = 8 ∨ k = 9 ∨ k = 10 ∨ k = 11 ∨ k = 12 ∨ k = 13 ∨ k = 14 ∨ k = 15 ∨ k = 16 ∨ k = 17 ∨ k = 18 ∨ k = 19 ∨ k = 20 ∨ k = 21 ∨ k = 22 ∨ k = 23 ∨ k = 24 ∨ k = 25 ∨ k = 26 ∨ k = 27 ∨ k = 28 ∨ k = 29 ∨ k = 30 ∨ k = 31 := by omega
    rcases this with rfl | rfl | rfl | rfl | rfl | rfl | rfl | rfl | rfl | rfl | rfl | rfl | rfl | rfl | rfl | rfl | rfl | rfl | rfl | rfl | rfl | rfl | rfl | rfl | rfl | rfl | rfl | rfl | rfl | rfl | rfl | rfl <;> exact ⟨rfl, rfl⟩
set_option maxRecDepth 100000 in
theorem new_any (w : World) : Calls Tryz.prog 153 #[] w fun e w' => e = .returned (.pointer (some ⟨w.heap.size, 0, none⟩)) ∧ Below w.heap.size w w' ∧ Ls w' w.heap.size [] := by
  have hz := zero63
  obtain ⟨f0, f1, f2, f3, f4⟩ := z63_facts
  have hl := z63_link
  generalize z63 = zz at *
  have HL := Lib.hid hl
  have HF := Lib.hid (And.intro f1 (And.intro f2 (And.intro f3 f4)))
  clear hl f1 f2 f3 f4
  go_enter Tryz.func153, Tryz.ntmps153
  go_wp2_with fail
  go_returns
  obtain ⟨f1, f2, f3, f4⟩ := HF.out
  refine ⟨rfl, (Below.refl _ _).alloc (Nat.le_refl _) _, ⟨fun q x hx => ?_, fun q q' x x' hx hx' _ => ?_, fun q x hx => ?_⟩, List.Pairwise.nil⟩
  · cases q with
    | succ q => simp at hx
    | zero =>
      simp at hx
      subst hx
      refine ⟨zz, Blk.new _ _ _, by rw [f0]; rfl, f1, f2, f3, fun k hk => ?_, fun _ => f4⟩
      have hn : nxt [hd w.heap.size] k 0 = 1 := nxt_unique (by simp) (by omega) (by simp) (fun i h1 h2 => by omega) (fun h => by simp at h)
      unfold lk0
      rw [hn]
      have := HL.out ⟨k, hk⟩
      exact this
  · cases q <;> cases q' <;> simp at hx hx' <;> rfl
  · cases q with
    | succ q => simp at hx
    | zero => simp at hx; subst hx; exact ⟨(by decide : 0 < 32), Nat.le_refl 32⟩
end Go.Proofs.YtpfoicpnpgojdaaGreatDoor.Sk
