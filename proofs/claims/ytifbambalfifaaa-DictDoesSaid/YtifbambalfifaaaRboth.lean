/- Set and Delete, there and there. -/
import Derived.Test.YtifbambalfifaaaRhit
namespace Go.Proofs.Ytifbambalfifaaa
open Go.RowKit Go.Shelf

section
variable {seed : Nat} {D : Dc} {R : Rd} {key : ByteArray}
theorem Alike.key_iff (h : Alike D R) : (∃ y ∈ D.nodes, y.key = key) ↔ ∃ x ∈ R.L, x.key = key := by
  have h2 : (D.nodes.map Nd.key).Perm (R.L.map Rn.key) := by
    have h3 := h.nodes.map fun t => t.1
    rw [List.map_map, List.map_map] at h3
    exact h3
  have h4 := h2.mem_iff (a := key)
  simpa using h4
theorem Alike.hit_some (h : Alike D R) (inv : Inv tyI seed D) {i : Nat} (hi : i < R.L.length) (hk : R.L[i].key = key) : ∃ j i0, D.hit (sumN seed key.data.toList) key = some (j, i0) := by
  cases hh : D.hit (sumN seed key.data.toList) key with
  | some ji => exact ⟨ji.1, ji.2, rfl⟩
  | none =>
    obtain ⟨y, hy, hyk⟩ := h.key_iff.2 ⟨R.L[i], List.getElem_mem hi, hk⟩
    exact absurd hyk (inv.hit_none hh y hy)
theorem Alike.hit_no (h : Alike D R) (hn : ∀ x ∈ R.L, x.key ≠ key) (s : Nat) : D.hit s key = none := by
  cases hh : D.hit s key with
  | none => rfl
  | some ji =>
    obtain ⟨_, y, _, _, _, hy, hyk, _⟩ := hit_node (j := ji.1) (i := ji.2) hh
    obtain ⟨x, hx, hxk⟩ := h.key_iff.1 ⟨y, hy, hyk⟩
    exact absurd hxk (hn x hx)
theorem Alike.set (h : Alike D R) (inv : Inv tyI seed D) (hAt : R.B ≠ 0 → R.At < R.A) (v : Int) :
    (∀ i, ∀ hi : i < R.step1.L.length, R.step1.L[i].key = key → Alike (D.setS (sumN seed key.data.toList) key (.int .i64 v)) { R.step1 with L := R.step1.L.set i { R.step1.L[i] with v := v } }) ∧
    ((∀ x ∈ R.step1.L, x.key ≠ key) → Alike (D.setS (sumN seed key.data.toList) key (.int .i64 v)) (R.step1.add seed key v)) := by
  have h1 := h.step1 inv hAt
  have inv1 := (inv.step 1).1
  unfold Dc.setS
  constructor
  · intro i hi hk
    obtain ⟨j, i0, hh⟩ := h1.hit_some inv1 hi hk
    rw [hh]
    exact h1.set_hit inv1 hh hi hk v
  · intro hn
    rw [h1.hit_no hn]
    have h2 := h1.grow
    have hal := (isS_pos inv1.ok.a).1
    have hg : (D.step 1).grown.a = (D.step 1).a := by unfold Dc.grown; split <;> rfl
    have h3 := h2.add (by rw [hg]; omega) key v (sumN seed key.data.toList)
    rw [grow_L] at h3
    exact h3
theorem Alike.del (h : Alike D R) (inv : Inv tyI seed D) (hAt : R.B ≠ 0 → R.At < R.A) :
    (∀ i, ∀ hi : i < R.step1.L.length, R.step1.L[i].key = key → Alike (D.delS (sumN seed key.data.toList) key) (R.step1.cut i).shrink) ∧
    ((∀ x ∈ R.step1.L, x.key ≠ key) → Alike (D.delS (sumN seed key.data.toList) key) R.step1) := by
  have h1 := h.step1 inv hAt
  have inv1 := (inv.step 1).1
  unfold Dc.delS
  constructor
  · intro i hi hk
    obtain ⟨j, i0, hh⟩ := h1.hit_some inv1 hi hk
    rw [hh]
    exact (h1.del_hit inv1 hh hi hk).shrink
  · intro hn
    rw [h1.hit_no hn]
    exact h1
end
end Go.Proofs.Ytifbambalfifaaa
