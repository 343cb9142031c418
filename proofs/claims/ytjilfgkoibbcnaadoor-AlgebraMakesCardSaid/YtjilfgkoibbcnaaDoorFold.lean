/- What unions, intersections and differences come to, member by member. -/
import Derived.Test.YtjilfgkoibbcnaaDoorTold
import Derived.Test.YtjilfgkoibbcnaaDoorFew
namespace Go.Proofs.YtjilfgkoibbcnaaDoor
open Go.RowKit Go.Shelf

/-- A list that is a set's: sorted, no member twice. -/
structure Good (S : List Ent) : Prop where
  nd : NdM S
  srt : SrtE S
theorem scores_nd {S : List Ent} (h : NdM S) : (scoresM S).Perm S := by
  induction S using snoc_ind with
  | h0 => exact List.Perm.refl _
  | hs S e ih =>
    unfold NdM at h
    rw [List.map_append, List.nodup_append] at h
    have h1 := ih h.1
    rw [scoresM_snoc]
    have hno : getM (scoresM S) e.1 = none := (getM_none _).2 fun x hx he => h.2.2 x.1 (List.mem_map_of_mem (h1.mem_iff.1 hx)) e.1 (by simp) he
    unfold putM
    rw [del_none hno]
    exact ((List.Perm.cons _ h1)).trans (List.perm_append_singleton e S).symm
theorem Good.sortP {S : List Ent} (h : Good S) : sortP S = S := sorted_eq (sortS_sorted _) h.srt ((sortS_perm _).trans (scores_nd h.nd))
theorem Good.right {S : List Ent} (h : Good S) : rightP S = true := by unfold rightP; rw [h.sortP]; simp
theorem Good.sortS {S : List Ent} (h : Good S) : sortS S = S := sorted_eq (sortS_sorted _) h.srt (sortS_perm _)
theorem good_sortS {M : List Ent} (h : NdM M) : Good (sortS M) := ⟨nd_sortS h, sortS_sorted M⟩
theorem good_sortP (l : List Ent) : Good (sortP l) := good_sortS (nd_scores l)
theorem good_of_right {S : List Ent} (h : rightP S = true) : Good S := by
  have := of_decide_eq_true h
  rw [this]
  exact good_sortP S
theorem good_nil : Good [] := ⟨List.nodup_nil, List.Pairwise.nil⟩

theorem perm_of_get {L M : List Ent} (hL : NdM L) (hM : NdM M) (h : ∀ m, getM L m = getM M m) : L.Perm M :=
  (List.perm_ext_iff_of_nodup (nd_of hL) (nd_of hM)).2 fun x => by
    obtain ⟨m, s⟩ := x
    rw [← getM_mem hL, ← getM_mem hM, h]

/-- One more score of a member. -/
def stepV (g : Nat) (ws : List Int) : Option (Option Int) → Nat × Int → Option (Option Int)
  | none, _ => none
  | some o, x => if sumE (x.2 * ws.getD x.1 0) 0 = 0 then (match o with
    | none => some (some (sumN (x.2 * ws.getD x.1 0) 0))
    | some old => if joinE g old (sumN (x.2 * ws.getD x.1 0) 0) = 0 then some (some (joinN g old (sumN (x.2 * ws.getD x.1 0) 0))) else none) else none
/-- All that comes of a member. -/
def fm (g : Nat) (ws : List Int) (xs : List (Nat × Ent)) (m : ByteArray) : Option (Option Int) := ((xs.filter fun x => decide (x.2.1 = m)).map fun x => (x.1, x.2.2)).foldl (stepV g ws) (some none)
theorem fm_snoc (g : Nat) (ws : List Int) (xs : List (Nat × Ent)) (x : Nat × Ent) (m : ByteArray) : fm g ws (xs ++ [x]) m = if x.2.1 = m then stepV g ws (fm g ws xs m) (x.1, x.2.2) else fm g ws xs m := by
  unfold fm
  rw [List.filter_append, List.map_append, List.foldl_append]
  by_cases e : x.2.1 = m
  · rw [if_pos e, List.filter_cons_of_pos (by simpa using e)]; rfl
  · rw [if_neg e, List.filter_cons_of_neg (by simpa using e)]; rfl
theorem putS_step (g : Nat) (ws : List Int) (M : List Ent) (x : Nat × Ent) : putS g M x.2 (ws.getD x.1 0) = match stepV g ws (some (getM M x.2.1)) (x.1, x.2.2) with | some (some v) => some (putM M x.2.1 v) | _ => none := by
  unfold putS stepV
  simp only
  by_cases h : sumE (x.2.2 * ws.getD x.1 0) 0 = 0
  · rw [if_pos h, if_pos h]
    cases getM M x.2.1 with
    | none => rfl
    | some old =>
      simp only
      by_cases h2 : joinE g old (sumN (x.2.2 * ws.getD x.1 0) 0) = 0
      · rw [if_pos h2, if_pos h2]
      · rw [if_neg h2, if_neg h2]
  · rw [if_neg h, if_neg h]
theorem step_some (g : Nat) (ws : List Int) (o : Option (Option Int)) (x : Nat × Int) : stepV g ws o x ≠ some none := by
  unfold stepV
  split
  · simp
  · split
    · split
      · simp
      · split <;> simp
    · simp
theorem mixF_fm (g : Nat) (ws : List Int) (xs : List (Nat × Ent)) : match mixF g ws xs with
    | none => ∃ m, fm g ws xs m = none
    | some M => NdM M ∧ ∀ m, fm g ws xs m = some (getM M m) := by
  induction xs using snoc_ind with
  | h0 => exact ⟨List.nodup_nil, fun m => rfl⟩
  | hs xs x ih =>
    rw [mixF_snoc]
    cases hm : mixF g ws xs with
    | none =>
      rw [hm] at ih
      obtain ⟨m, h⟩ := ih
      refine ⟨m, ?_⟩
      rw [fm_snoc, h]
      split <;> rfl
    | some M =>
      rw [hm] at ih
      obtain ⟨hn, h⟩ := ih
      rw [Option.bind_some, putS_step]
      cases hs : stepV g ws (some (getM M x.2.1)) (x.1, x.2.2) with
      | none =>
        refine ⟨x.2.1, ?_⟩
        rw [fm_snoc, if_pos rfl, h, hs]
      | some v =>
        cases v with
        | none => exact absurd hs (step_some _ _ _ _)
        | some v =>
          refine ⟨nd_put hn _ _, fun m => ?_⟩
          rw [fm_snoc, getM_put]
          by_cases e : x.2.1 = m
          · rw [if_pos e, if_pos e, h, ← e, hs]
          · rw [if_neg e, if_neg e, h]
/-- What is told depends on the members' scores alone. -/
theorem told_same {g g' : Nat} {ws ws' : List Int} {xs xs' : List (Nat × Ent)} (h : ∀ m, fm g ws xs m = fm g' ws' xs' m) : toldP (some (mixF g ws xs)) = toldP (some (mixF g' ws' xs')) := by
  have h1 := mixF_fm g ws xs
  have h2 := mixF_fm g' ws' xs'
  cases hm : mixF g ws xs with
  | none =>
    rw [hm] at h1
    obtain ⟨m, h1⟩ := h1
    cases hm' : mixF g' ws' xs' with
    | none => rfl
    | some M => rw [hm'] at h2; rw [h, h2.2] at h1; cases h1
  | some M =>
    rw [hm] at h1
    cases hm' : mixF g' ws' xs' with
    | none =>
      rw [hm'] at h2
      obtain ⟨m, h2⟩ := h2
      rw [← h, h1.2] at h2; cases h2
    | some M' =>
      rw [hm'] at h2
      show (sortS M, (0 : Int)) = (sortS M', 0)
      rw [sortS_of_perm (perm_of_get h1.1 h2.1 fun m => by have := h1.2 m; rw [h, h2.2] at this; exact (Option.some.inj this).symm)]
theorem told_is {g : Nat} {ws : List Int} {xs : List (Nat × Ent)} {L : List Ent} (hL : NdM L) (h : ∀ m, fm g ws xs m = some (getM L m)) : toldP (some (mixF g ws xs)) = (sortS L, 0) := by
  have h1 := mixF_fm g ws xs
  cases hm : mixF g ws xs with
  | none =>
    rw [hm] at h1
    obtain ⟨m, h1⟩ := h1
    rw [h] at h1; cases h1
  | some M =>
    rw [hm] at h1
    show (sortS M, (0 : Int)) = _
    rw [sortS_of_perm (perm_of_get h1.1 hL fun m => by have := h1.2 m; rw [h] at this; exact (Option.some.inj this).symm)]

/-- A member's scores, each with its set's place. -/
def valsFrom (m : ByteArray) : Nat → List (List Ent) → List (Nat × Int)
  | _, [] => []
  | p, l :: r => (match getM l m with | some s => [(p, s)] | none => []) ++ valsFrom m (p + 1) r
theorem filter_one {l : List Ent} (h : NdM l) (m : ByteArray) : l.filter (fun x => decide (x.1 = m)) = match getM l m with | some s => [(m, s)] | none => [] := by
  induction l with
  | nil => rfl
  | cons x l ih =>
    have h2 := List.nodup_cons.1 h
    by_cases e : x.1 = m
    · rw [List.filter_cons_of_pos (by simpa using e), show getM (x :: l) m = some x.2 by unfold getM; rw [List.find?_cons_of_pos (by simpa using e)]; rfl]
      rw [List.filter_eq_nil_iff.2 fun y hy he => h2.1 (by
        have : y.1 = x.1 := (of_decide_eq_true he).trans e.symm
        show x.1 ∈ l.map (·.1)
        rw [← this]
        exact List.mem_map_of_mem hy)]
      simp only
      rw [← e]
    · rw [List.filter_cons_of_neg (by simpa using e), ih h2.2, show getM (x :: l) m = getM l m by unfold getM; rw [List.find?_cons_of_neg (by simpa using e)]]
theorem vals_seq {ls : List (List Ent)} (h : ∀ l ∈ ls, NdM l) (m : ByteArray) : ∀ p, ((seqFrom p ls).filter fun x => decide (x.2.1 = m)).map (fun x => (x.1, x.2.2)) = valsFrom m p ls := by
  induction ls with
  | nil => intro p; rfl
  | cons l r ih =>
    intro p
    unfold seqFrom valsFrom
    rw [List.filter_append, List.map_append, ih (fun l hl => h l (List.mem_cons_of_mem _ hl)), List.filter_map, List.map_map]
    congr 1
    have := filter_one (h l List.mem_cons_self) m
    rw [show (fun x : Nat × Ent => decide (x.2.1 = m)) ∘ (fun e : Ent => (p, e)) = fun x : Ent => decide (x.1 = m) from rfl, this]
    cases getM l m <;> rfl
theorem cnt_vals {ls : List (List Ent)} (h : ∀ l ∈ ls, NdM l) (m : ByteArray) : cntOf (seqOf ls) m = (valsFrom m 0 ls).length := by
  rw [← vals_seq h m 0, List.length_map]; rfl
/-- A member counts if it is in enough sets. -/
theorem fm_shared (g : Nat) (ws : List Int) (least : Int) {ls : List (List Ent)} (h : ∀ l ∈ ls, NdM l) (m : ByteArray) :
    fm g ws (sharedS least ls) m = if least ≤ ((valsFrom m 0 ls).length : Int) then (valsFrom m 0 ls).foldl (stepV g ws) (some none) else some none := by
  unfold fm sharedS
  rw [List.filter_filter]
  by_cases hc : least ≤ ((valsFrom m 0 ls).length : Int)
  · rw [if_pos hc, ← vals_seq h m 0]
    congr 2
    refine List.filter_congr fun x _ => ?_
    by_cases e : x.2.1 = m
    · have : keepsX least ls x = true := by
        unfold keepsX
        rw [e, cnt_vals h m]
        exact decide_eq_true hc
      rw [this, Bool.and_true]
    · rw [decide_eq_false e, Bool.false_and]
  · rw [if_neg hc, List.filter_eq_nil_iff.2 fun x _ hx => by
      obtain ⟨h1, h2⟩ := Bool.and_eq_true_iff.1 hx
      have e := of_decide_eq_true h1
      unfold keepsX at h2
      rw [e, cnt_vals h m] at h2
      exact hc (of_decide_eq_true h2)]
    rfl
theorem one_i64 {s : Int} (h : I64 s) : sumE (s * 1) 0 = 0 ∧ sumN (s * 1) 0 = s := by
  have : sumOk (s * 1) 0 = true := by unfold sumOk; unfold I64 at h; rw [decide_eq_true_eq]; omega
  unfold sumE sumN
  rw [if_pos this, if_pos this]
  exact ⟨rfl, by omega⟩
theorem mixP_some {agg : Int} {ws : List Int} {least : Int} {ls : List (List Ent)} (h1 : agg = 1 ∨ agg = 2 ∨ agg = 3) (h2 : ws.length = ls.length) (h3 : rightsP ls = true) : mixP agg ws least ls = toldP (some (mixF agg.toNat ws (sharedS least ls))) := by
  unfold mixP mixR
  rw [if_pos ⟨h1, h2, h3⟩]
theorem rights_good {ls : List (List Ent)} (h0 : 0 < ls.length) (h : ∀ l ∈ ls, Good l) : rightsP ls = true := by
  unfold rightsP
  rw [decide_eq_true h0, Bool.true_and, List.all_eq_true]
  exact fun l hl => (h l hl).right
theorem getM_delAll (xs : List (Nat × Ent)) (m : ByteArray) : ∀ M : List Ent, getM (delAll M xs) m = if ∃ x ∈ xs, x.2.1 = m then none else getM M m := by
  induction xs with
  | nil => intro M; simp [delAll]
  | cons x xs ih =>
    intro M
    rw [show delAll M (x :: xs) = delAll (delM M x.2.1) xs from rfl, ih, getM_del]
    by_cases e : x.2.1 = m
    · rw [if_pos e, if_pos (⟨x, by simp, e⟩ : ∃ y ∈ x :: xs, y.2.1 = m)]
      split <;> rfl
    · rw [if_neg e]
      by_cases h : ∃ y ∈ xs, y.2.1 = m
      · obtain ⟨y, h1, h2⟩ := h
        rw [if_pos ⟨y, h1, h2⟩, if_pos ⟨y, by simp [h1], h2⟩]
      · rw [if_neg h, if_neg]
        rintro ⟨y, h1, h2⟩
        rcases List.mem_cons.1 h1 with rfl | h1
        · exact e h2
        · exact h ⟨y, h1, h2⟩
theorem nd_delAll (xs : List (Nat × Ent)) : ∀ {M : List Ent}, NdM M → NdM (delAll M xs) := by
  induction xs with
  | nil => intro M h; exact h
  | cons x xs ih => intro M h; exact ih (nd_del h _)
theorem diffP_some {l : List Ent} {ls : List (List Ent)} (h : rightsP (l :: ls) = true) : diffP (l :: ls) = (sortS (delAll (scoresM l) (seqOf ls)), 0) := by
  unfold diffP restP
  rw [if_pos h]
  rfl
end Go.Proofs.YtjilfgkoibbcnaaDoor
