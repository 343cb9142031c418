/- A node is changed or goes, in the reference's list. -/
import Derived.Test.YtifbambalfifaaaRrun
namespace Go.Proofs.Ytifbambalfifaaa
open Go.RowKit Go.Shelf

theorem at_perm {α : Type} : ∀ (L : List α) (i : Nat) (h : i < L.length), L.Perm (L[i] :: L.eraseIdx i)
  | _ :: _, 0, _ => List.Perm.refl _
  | x :: L, i + 1, h => ((at_perm L i (by simpa using h)).cons x).trans (List.Perm.swap _ _ _)
theorem setAt_perm {α : Type} (L : List α) (i : Nat) (h : i < L.length) (y : α) : (L.set i y).Perm (y :: L.eraseIdx i) := by
  have h1 := at_perm (L.set i y) i (by rw [List.length_set]; exact h)
  rw [List.getElem_set_self, List.eraseIdx_set_eq] at h1
  exact h1
/-- Sorting what is the same up to order gives the same. -/
theorem sortK_eq {l r : List (List UInt8)} (h : l.Perm r) : sortK l = sortK r := by
  have tr : ∀ a b c : List UInt8, decide (a ≤ b) = true → decide (b ≤ c) = true → decide (a ≤ c) = true := fun a b c h1 h2 => by
    simp only [decide_eq_true_eq] at *; exact List.le_trans h1 h2
  have tot : ∀ a b : List UInt8, (decide (a ≤ b) || decide (b ≤ a)) = true := fun a b => by
    simp only [Bool.or_eq_true, decide_eq_true_eq]; exact List.le_total a b
  unfold sortK
  refine List.Perm.eq_of_pairwise (le := fun a b => decide (a ≤ b) = true) (fun a b _ _ h1 h2 => ?_) (List.pairwise_mergeSort tr tot _) (List.pairwise_mergeSort tr tot _) ?_
  · simp only [decide_eq_true_eq] at *; exact List.le_antisymm h1 h2
  · exact (List.mergeSort_perm _ _).trans (h.trans (List.mergeSort_perm _ _).symm)
/-- A row's keys in order are those of the reference's filter. -/
theorem Alike.row {seed : Nat} {D : Dc} {R : Rd} (h : Alike D R) (inv : Inv tyI seed D) (i : Nat) :
    (i < D.a.length → sortK ((D.a.getD i []).map bytesK) = sortK (((R.L.filter fun x => !x.nx).filter fun x => decide (x.sum % R.A = i)).map fun x => x.key.data.toList)) ∧
    (i < D.b.length → sortK ((D.b.getD i []).map bytesK) = sortK (((R.L.filter fun x => x.nx).filter fun x => decide (x.sum % R.B = i)).map fun x => x.key.data.toList)) := by
  obtain ⟨eA, eB, _, _⟩ := h.len
  have key : ∀ {l : List Nd} {r : List Rn}, (l.map Nd.tri).Perm (r.map Rn.tri) → (l.map bytesK).Perm (r.map fun x => x.key.data.toList) := fun {l r} hp => by
    have h2 := hp.map fun t => t.1.data.toList
    rw [List.map_map, List.map_map] at h2
    exact h2
  refine ⟨fun hi => sortK_eq ?_, fun hi => sortK_eq ?_⟩
  · rw [eA]
    exact ((row_fits D.a D.a.length inv.pa i hi).1.map _).trans (key (fits_perm h.a fun s => decide (s % D.a.length = i)))
  · rw [eB]
    exact ((row_fits D.b D.b.length inv.pb i hi).1.map _).trans (key (fits_perm h.b fun s => decide (s % D.b.length = i)))
/-- The node that is found is the one of the reference, in the same table. -/
theorem Alike.same {seed : Nat} {D : Dc} {R : Rd} (h : Alike D R) (inv : Inv tyI seed D) {i : Nat} (hi : i < R.L.length) {y : Nd} (hk : R.L[i].key = y.key) :
    (y ∈ D.a.flatten → R.L[i].nx = false ∧ R.L[i].tri = y.tri) ∧ (y ∈ D.b.flatten → R.L[i].nx = true ∧ R.L[i].tri = y.tri) := by
  have hn := h.nodes
  have huniq : (R.L.map Rn.key).Nodup := by
    have h1 : (D.nodes.map Nd.key).Perm (R.L.map Rn.key) := by
      have h2 := hn.map fun t => t.1
      rw [List.map_map, List.map_map] at h2
      exact h2
    exact h1.nodup_iff.1 inv.uniq
  have hone : ∀ x ∈ R.L, x.key = R.L[i].key → x = R.L[i] := fun x hx e => by
    obtain ⟨k, hk, rfl⟩ := List.getElem_of_mem hx
    have : k = i := by
      have h1 := (List.getElem_inj (h₀ := by simpa using hk) (h₁ := by simpa using hi) huniq).1 (by simpa using e)
      exact h1
    subst this
    rfl
  constructor
  · intro hy
    obtain ⟨x, hx, hxt⟩ := List.mem_map.1 (h.a.mem_iff.1 (List.mem_map_of_mem hy))
    obtain ⟨hx1, hx2⟩ := List.mem_filter.1 hx
    have hxk : x.key = R.L[i].key := by rw [hk]; exact congrArg (fun t => t.1) hxt
    rw [← hone x hx1 hxk]
    exact ⟨by simpa using hx2, hxt⟩
  · intro hy
    obtain ⟨x, hx, hxt⟩ := List.mem_map.1 (h.b.mem_iff.1 (List.mem_map_of_mem hy))
    obtain ⟨hx1, hx2⟩ := List.mem_filter.1 hx
    have hxk : x.key = R.L[i].key := by rw [hk]; exact congrArg (fun t => t.1) hxt
    rw [← hone x hx1 hxk]
    exact ⟨by simpa using hx2, hxt⟩
end Go.Proofs.Ytifbambalfifaaa
