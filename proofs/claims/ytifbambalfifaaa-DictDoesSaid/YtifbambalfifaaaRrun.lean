/- Slots move, a key comes: there and there. -/
import Derived.Test.YtifbambalfifaaaRmove
namespace Go.Proofs.Ytifbambalfifaaa
open Go.RowKit Go.Shelf

theorem Alike.run {seed : Nat} {D : Dc} {R : Rd} (h : Alike D R) (inv : Inv tyI seed D) : ∀ k, k ≤ D.left → Alike (Dc.run k D) (Rd.steps k R)
  | 0, _ => h
  | k + 1, hk => by
    obtain ⟨_, _, _, h4⟩ := run_facts inv.ok k (by omega)
    exact (h.run inv k (by omega)).move (inv.run k (by omega)).1 (h4 (by omega)).1
theorem Alike.stepn {seed : Nat} {D : Dc} {R : Rd} (h : Alike D R) (inv : Inv tyI seed D) (n : Nat) : Alike (D.step n) (Rd.steps (min n R.shape.left) R) := by
  rw [h.shape, shape_left]
  exact h.run inv _ (Nat.min_le_right _ _)
theorem Alike.step1 {seed : Nat} {D : Dc} {R : Rd} (h : Alike D R) (inv : Inv tyI seed D) (hAt : R.B ≠ 0 → R.At < R.A) : Alike (D.step 1) R.step1 := by
  have := h.stepn inv 1
  rwa [show Rd.steps (min 1 R.shape.left) R = R.step1 from steps_one hAt] at this
theorem Alike.len {D : Dc} {R : Rd} (h : Alike D R) : R.A = D.a.length ∧ R.B = D.b.length ∧ R.At = D.place ∧ R.L.length = D.n := by
  have hsh := h.shape
  unfold Rd.shape Dc.shape at hsh
  injection hsh with eA eB eAt en
  exact ⟨eA, eB, eAt, en⟩
/-- All nodes, there and there. -/
theorem Alike.nodes {D : Dc} {R : Rd} (h : Alike D R) : (D.nodes.map Nd.tri).Perm (R.L.map Rn.tri) := by
  have h1 : D.nodes = D.a.flatten ++ D.b.flatten := rfl
  rw [h1, List.map_append]
  refine (h.a.append h.b).trans ?_
  rw [← List.map_append]
  refine List.Perm.map _ ?_
  have h2 := List.filter_append_perm (fun x : Rn => !x.nx) R.L
  simpa using h2
/-- Growing begins, there and there. -/
theorem Alike.grow {D : Dc} {R : Rd} (h : Alike D R) : Alike D.grown R.grow := by
  obtain ⟨eA, eB, eAt, en⟩ := h.len
  unfold Dc.grown Rd.grow
  by_cases hc : D.b = [] ∧ D.a.length ≤ D.n ∧ D.a.length < 65536
  · have hc2 : R.B = 0 ∧ R.A ≤ R.L.length ∧ R.A < 65536 := ⟨by rw [eB, hc.1]; rfl, by omega, by omega⟩
    rw [if_pos hc, if_pos hc2]
    refine ⟨?_, h.a, ?_⟩
    · unfold Rd.shape Dc.shape Dc.begin
      simp only [eA, eAt, en, List.length_replicate]
    · have hb := h.b
      rw [hc.1] at hb
      unfold Dc.begin
      simp only
      have h0 : ∀ m, (List.replicate m ([] : List Nd)).flatten = [] := fun m => by simp
      rw [h0]
      exact hb
  · have hc2 : ¬ (R.B = 0 ∧ R.A ≤ R.L.length ∧ R.A < 65536) := fun e => hc ⟨(b_len D).2 (by omega), by omega, by omega⟩
    rw [if_neg hc, if_neg hc2]
    exact h
theorem Alike.shrink {D : Dc} {R : Rd} (h : Alike D R) : Alike D.shrunk R.shrink := by
  obtain ⟨eA, eB, eAt, en⟩ := h.len
  unfold Dc.shrunk Rd.shrink
  by_cases hc : D.b = [] ∧ 4 < D.a.length ∧ 8 * D.n < D.a.length
  · have hc2 : R.B = 0 ∧ 4 < R.A ∧ 8 * R.L.length < R.A := ⟨by rw [eB, hc.1]; rfl, by omega, by omega⟩
    rw [if_pos hc, if_pos hc2]
    refine ⟨?_, h.a, ?_⟩
    · unfold Rd.shape Dc.shape Dc.begin
      simp only [eA, eAt, en, List.length_replicate]
    · have hb := h.b
      rw [hc.1] at hb
      unfold Dc.begin
      simp only
      have h0 : ∀ m, (List.replicate m ([] : List Nd)).flatten = [] := fun m => by simp
      rw [h0]
      exact hb
  · have hc2 : ¬ (R.B = 0 ∧ 4 < R.A ∧ 8 * R.L.length < R.A) := fun e => hc ⟨(b_len D).2 (by omega), by omega, by omega⟩
    rw [if_neg hc, if_neg hc2]
    exact h
/-- A node comes, there and there. -/
theorem Alike.add {D : Dc} {R : Rd} (h : Alike D R) (ha : 0 < D.a.length) (key : ByteArray) (v : Int) (s : Nat) : Alike (D.add ⟨s, key, .int .i64 v⟩) { R with L := R.L ++ [⟨key, v, s, decide (0 < R.B)⟩] } := by
  obtain ⟨eA, eB, eAt, en⟩ := h.len
  have hs : ({ R with L := R.L ++ [⟨key, v, s, decide (0 < R.B)⟩] } : Rd).shape = (D.add ⟨s, key, .int .i64 v⟩).shape := by
    rw [shape_add, ← h.shape]
    unfold Rd.shape Sh.more
    simp
  unfold Dc.add at hs ⊢
  by_cases hb : D.b = []
  · have hB : ¬ 0 < R.B := by rw [eB, hb]; simp
    rw [if_pos hb] at hs ⊢
    refine ⟨hs, ?_, ?_⟩
    · simp only [List.filter_append, hB, decide_false, List.filter_cons, Bool.not_false, if_true, List.filter_nil, List.map_append]
      refine ((putR_perm D.a _ ha).map _).trans ?_
      refine List.Perm.trans ?_ List.perm_append_comm
      exact h.a.cons _
    · simp only [List.filter_append, hB, decide_false, List.filter_cons, Bool.false_eq_true, if_false, List.filter_nil, List.append_nil]
      exact h.b
  · have hB : 0 < R.B := by rw [eB]; exact List.length_pos_iff.2 hb
    rw [if_neg hb] at hs ⊢
    refine ⟨hs, ?_, ?_⟩
    · simp only [List.filter_append, hB, decide_true, List.filter_cons, Bool.not_true, Bool.false_eq_true, if_false, List.filter_nil, List.append_nil]
      exact h.a
    · simp only [List.filter_append, hB, decide_true, List.filter_cons, if_true, List.filter_nil, List.map_append]
      refine ((putR_perm D.b _ (List.length_pos_iff.2 hb)).map _).trans ?_
      refine List.Perm.trans ?_ List.perm_append_comm
      exact h.b.cons _
end Go.Proofs.Ytifbambalfifaaa
