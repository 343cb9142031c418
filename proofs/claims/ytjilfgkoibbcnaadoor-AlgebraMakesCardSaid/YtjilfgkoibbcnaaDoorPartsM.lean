/- The union, the intersection and the differences of two sets. -/
import Derived.Test.YtjilfgkoibbcnaaDoorLawKit
namespace Go.Proofs.YtjilfgkoibbcnaaDoor
open Go.RowKit Go.Shelf

theorem mix_tells {g : Nat} {ws : List Int} {xs : List (Nat × Ent)} (h : ∀ m, fm g ws xs m ≠ none) : ∃ M, NdM M ∧ mixF g ws xs = some M ∧ ∀ m, fm g ws xs m = some (getM M m) := by
  have h1 := mixF_fm g ws xs
  cases hm : mixF g ws xs with
  | none =>
    rw [hm] at h1
    obtain ⟨m, h1⟩ := h1
    exact absurd h1 (h m)
  | some M => rw [hm] at h1; exact ⟨M, h1.1, rfl, h1.2⟩
def hasM (E : List Ent) (m : ByteArray) : Bool := (getM E m).isSome
theorem hasM_mem (E : List Ent) (m : ByteArray) : m ∈ E.map (·.1) ↔ hasM E m = true := by
  unfold hasM
  constructor
  · intro h
    cases hg : getM E m with
    | none =>
      obtain ⟨x, hx, rfl⟩ := List.mem_map.1 h
      exact absurd rfl ((getM_none _).1 hg x hx)
    | some s => rfl
  · intro h
    refine Classical.byContradiction fun hn => ?_
    have : getM E m = none := (getM_none _).2 fun x hx e => hn (by rw [← e]; exact List.mem_map_of_mem hx)
    rw [this] at h; cases h
theorem where_has {E : List Ent} (hE : NdM E) {m : ByteArray} (h : hasM E m = true) : ∃ j : Nat, whereE E m = j := by
  obtain ⟨s, hs⟩ := Option.isSome_iff_exists.1 h
  obtain ⟨k, _, h2, _⟩ := whereE_some hE hs
  exact ⟨k, h2⟩
theorem where_not {E : List Ent} {m : ByteArray} (h : hasM E m = false) : whereE E m = -1 := whereE_none (by
  unfold hasM at h
  cases hg : getM E m with
  | none => rfl
  | some s => rw [hg] at h; cases h)
theorem step_max {a b : Int} (hb : I64 b) : stepV 3 [1, 1] (some (some a)) (1, b) = some (some (max a b)) := by
  unfold stepV
  simp only [show ([1, 1] : List Int).getD 1 0 = 1 from rfl]
  rw [if_pos (one_i64 hb).1, (one_i64 hb).2]
  rfl
theorem fm_two {P Q : List Ent} (hP : Good P) (hQ : Good Q) (p64 : ∀ e ∈ P, I64 e.2) (q64 : ∀ e ∈ Q, I64 e.2) (least : Int) (m : ByteArray) :
    ∃ o, fm 3 [1, 1] (sharedS least [P, Q]) m = some o ∧ o.isSome = (decide (least ≤ ((hasM P m).toNat + (hasM Q m).toNat : Int)) && (hasM P m || hasM Q m)) := by
  have hnd : ∀ l ∈ [P, Q], NdM l := fun l hl => by
    rcases List.mem_cons.1 hl with rfl | h
    · exact hP.nd
    · rw [List.mem_singleton.1 h]; exact hQ.nd
  rw [fm_shared 3 [1, 1] least hnd]
  rw [valsFrom, valsFrom, valsFrom, List.append_nil]
  unfold hasM
  cases hp : getM P m with
  | none =>
    cases hq : getM Q m with
    | none =>
      refine ⟨none, ?_, by simp⟩
      simp only [List.append_nil, List.foldl_nil]
      split <;> rfl
    | some b =>
      by_cases h : least ≤ 1
      · refine ⟨some b, ?_, by simp [h]⟩
        simp only [List.nil_append, List.length_singleton]
        rw [if_pos (by omega), List.foldl_cons, List.foldl_nil, step_first rfl (getM_i64 hQ.nd q64 hq)]
      · refine ⟨none, ?_, by simp [h]⟩
        simp only [List.nil_append, List.length_singleton]
        rw [if_neg (by omega)]
  | some a =>
    cases hq : getM Q m with
    | none =>
      by_cases h : least ≤ 1
      · refine ⟨some a, ?_, by simp [h]⟩
        simp only [List.append_nil, List.length_singleton]
        rw [if_pos (by omega), List.foldl_cons, List.foldl_nil, step_first rfl (getM_i64 hP.nd p64 hp)]
      · refine ⟨none, ?_, by simp [h]⟩
        simp only [List.append_nil, List.length_singleton]
        rw [if_neg (by omega)]
    | some b =>
      by_cases h : least ≤ 2
      · refine ⟨some (max a b), ?_, by simp; omega⟩
        rw [if_pos (by simp; omega)]
        rw [List.singleton_append, List.foldl_cons, List.foldl_cons, List.foldl_nil, step_first rfl (getM_i64 hP.nd p64 hp), step_max (getM_i64 hQ.nd q64 hq)]
      · refine ⟨none, ?_, by simp; omega⟩
        rw [if_neg (by simp; omega)]
theorem mix_two {P Q : List Ent} (hP : Good P) (hQ : Good Q) (p64 : ∀ e ∈ P, I64 e.2) (q64 : ∀ e ∈ Q, I64 e.2) (hl : P.length ≤ 100) (hl2 : Q.length ≤ 100) (least : Int) :
    ∃ A, mixP 3 [1, 1] least [P, Q] = (A, 0) ∧ NdM A ∧ A.length ≤ 1000 ∧ ∀ m, hasM A m = (decide (least ≤ ((hasM P m).toNat + (hasM Q m).toNat : Int)) && (hasM P m || hasM Q m)) := by
  obtain ⟨M, hN, hM, hf⟩ := mix_tells (g := 3) (ws := [1, 1]) (xs := sharedS least [P, Q]) fun m h => by
    obtain ⟨o, h1, _⟩ := fm_two hP hQ p64 q64 least m
    rw [h1] at h; cases h
  have hg : ∀ l ∈ [P, Q], Good l := fun l hl => by
    rcases List.mem_cons.1 hl with rfl | h
    · exact hP
    · rw [List.mem_singleton.1 h]; exact hQ
  have hlen := (mixF_facts _ _ _ M hM).2
  have h2 : (sharedS least [P, Q]).length ≤ (seqOf [P, Q]).length := List.length_filter_le _ _
  have h3 : (seqOf [P, Q]).length = P.length + Q.length := by simp [seqOf, seqFrom]
  refine ⟨sortS M, ?_, nd_sortS hN, by rw [(sortS_perm M).length_eq]; omega, fun m => ?_⟩
  · rw [mixP_some (.inr (.inr rfl)) rfl (rights_good (by simp) hg)]
    show toldP (some (mixF 3 [1, 1] (sharedS least [P, Q]))) = _
    rw [hM]
    rfl
  · obtain ⟨o, h1, h4⟩ := fm_two hP hQ p64 q64 least m
    rw [hf m] at h1
    unfold hasM at h4 ⊢
    rw [getM_perm (sortS_perm M) hN, Option.some.inj h1]
    exact h4
theorem diff_two {P Q : List Ent} (hP : Good P) (hQ : Good Q) (hl : P.length ≤ 100) : ∃ C, diffP [P, Q] = (C, 0) ∧ NdM C ∧ C.length ≤ 1000 ∧ ∀ m, hasM C m = (hasM P m && !hasM Q m) := by
  have hg : ∀ l ∈ [P, Q], Good l := fun l hl => by
    rcases List.mem_cons.1 hl with rfl | h
    · exact hP
    · rw [List.mem_singleton.1 h]; exact hQ
  have hN : NdM (delAll (scoresM P) (seqOf [Q])) := nd_delAll _ (nd_scores P)
  refine ⟨_, diffP_some (rights_good (by simp) hg), nd_sortS hN, ?_, fun m => ?_⟩
  · rw [(sortS_perm _).length_eq]
    have := delAll_len (seqOf [Q]) (scoresM P)
    rw [(scores_nd hP.nd).length_eq] at this
    omega
  · unfold hasM
    rw [getM_perm (sortS_perm _) hN, getM_delAll, getM_perm (scores_nd hP.nd) hP.nd]
    have hmem : (∃ x ∈ seqOf [Q], x.2.1 = m) ↔ hasM Q m = true := by
      rw [← hasM_mem]
      constructor
      · rintro ⟨x, hx, rfl⟩
        obtain ⟨e, he, rfl⟩ := List.mem_map.1 (show x ∈ Q.map (fun e => (0, e)) by simpa [seqOf, seqFrom] using hx)
        exact List.mem_map_of_mem he
      · intro h
        obtain ⟨e, he, rfl⟩ := List.mem_map.1 h
        exact ⟨(0, e), by simpa [seqOf, seqFrom] using he, rfl⟩
    by_cases h : hasM Q m = true
    · rw [if_pos (hmem.2 h)]
      unfold hasM at h
      rw [h]; simp
    · rw [if_neg (fun x => h (hmem.1 x))]
      unfold hasM at h
      simp [h]
/-- One count, three parts. -/
theorem parts_len {P Q A B C D : List Ent} (nA : NdM A) (nB : NdM B) (nC : NdM C) (nD : NdM D) (hA : ∀ m, hasM A m = (hasM P m || hasM Q m)) (hB : ∀ m, hasM B m = (hasM P m && hasM Q m)) (hC : ∀ m, hasM C m = (hasM P m && !hasM Q m)) (hD : ∀ m, hasM D m = (hasM Q m && !hasM P m)) :
    A.length = B.length + C.length + D.length := by
  have hp : (A.map (·.1)).Perm (B.map (·.1) ++ (C.map (·.1) ++ D.map (·.1))) := by
    refine (List.perm_ext_iff_of_nodup nA (List.nodup_append.2 ⟨nB, List.nodup_append.2 ⟨nC, nD, fun x hx y hy e => ?_⟩, fun x hx y hy e => ?_⟩)).2 fun m => ?_
    · subst e
      have h1 := (hasM_mem _ _).1 hx
      have h2 := (hasM_mem _ _).1 hy
      rw [hC] at h1; rw [hD] at h2
      simp at h1 h2
      rw [h1.2] at h2; simp at h2
    · subst e
      have h1 := (hasM_mem _ _).1 hx
      rw [hB] at h1
      simp at h1
      rcases List.mem_append.1 hy with hy | hy
      · have h2 := (hasM_mem _ _).1 hy
        rw [hC] at h2; simp [h1.2] at h2
      · have h2 := (hasM_mem _ _).1 hy
        rw [hD] at h2; simp [h1.1] at h2
    · rw [List.mem_append, List.mem_append, hasM_mem, hasM_mem, hasM_mem, hasM_mem, hA, hB, hC, hD]
      cases hasM P m <;> cases hasM Q m <;> simp
  have := hp.length_eq
  simp only [List.length_map, List.length_append] at this
  omega
end Go.Proofs.YtjilfgkoibbcnaaDoor
