/- A key that is there is set, is deleted: the relation stays. -/
import Derived.Test.YtifbambalfifaaaRupd
namespace Go.Proofs.Ytifbambalfifaaa
open Go.RowKit Go.Shelf

theorem row_rest (rows : List (List Nd)) (k : Nat) (hk : k < rows.length) {i0 : Nat} {y : Nd} (hy : (rows.getD k [])[i0]? = some y) :
    rows.flatten.Perm (y :: ((rows.getD k []).eraseIdx i0 ++ (rows.set k []).flatten)) ∧ (∀ r', (rows.set k r').flatten.Perm (r' ++ (rows.set k []).flatten)) := by
  obtain ⟨h1, rfl⟩ := List.getElem?_eq_some_iff.1 hy
  refine ⟨(self_perm rows k hk).trans ?_, fun r' => set_perm rows k r' hk⟩
  rw [← List.cons_append]
  exact (at_perm _ i0 h1).append_right _
theorem setV_perm {r : List Nd} {i0 : Nat} {y : Nd} (hy : r[i0]? = some y) (v : Value) : (setV i0 v r).Perm ({ y with v := v } :: r.eraseIdx i0) := by
  obtain ⟨h1, rfl⟩ := List.getElem?_eq_some_iff.1 hy
  rw [setV_row v hy, List.eraseIdx_eq_take_drop_succ]
  exact List.perm_middle
theorem rowsOf_cases {D : Dc} {s j : Nat} {r : List Nd} (h : (D.rowsOf s)[j]? = some r) : (j = 0 ∧ r = D.a.getD (s % D.a.length) []) ∨ (j = 1 ∧ D.b ≠ [] ∧ r = D.b.getD (s % D.b.length) []) := by
  unfold Dc.rowsOf at h
  cases j with
  | zero => exact .inl ⟨rfl, by simpa using h.symm⟩
  | succ j =>
    rw [List.getElem?_cons_succ] at h
    by_cases hb : D.b = []
    · rw [if_pos hb] at h; simp at h
    · rw [if_neg hb] at h
      cases j with
      | zero => exact .inr ⟨rfl, hb, by simpa using h.symm⟩
      | succ j => simp at h

section
variable {seed : Nat} {D : Dc} {R : Rd} {s j i0 i : Nat} {key : ByteArray}
theorem in_flat {rows : List (List Nd)} {k : Nat} (hk : k < rows.length) {y : Nd} (hy : (rows.getD k [])[i0]? = some y) : y ∈ rows.flatten := by
  refine List.mem_flatten.2 ⟨rows.getD k [], ?_, List.mem_of_getElem? hy⟩
  rw [List.getD_eq_getElem?_getD, List.getElem?_eq_getElem hk]
  exact List.getElem_mem hk
theorem Alike.set_hit (h : Alike D R) (inv : Inv tyI seed D) (hh : D.hit s key = some (j, i0)) (hi : i < R.L.length) (hk : R.L[i].key = key) (v : Int) :
    Alike (D.upd s j (setV i0 (.int .i64 v))) { R with L := R.L.set i { R.L[i] with v := v } } := by
  obtain ⟨r, y, hr, hy, _, _, hyk, _⟩ := hit_node hh
  have hal := (isS_pos inv.ok.a).1
  obtain ⟨sa, sb⟩ := h.same inv hi (y := y) (hk.trans hyk.symm)
  have hs := shape_upd D s j (setV i0 (.int .i64 v))
  rcases rowsOf_cases hr with ⟨rfl, rfl⟩ | ⟨rfl, hb, rfl⟩
  · have hlt : s % D.a.length < D.a.length := Nat.mod_lt _ (by omega)
    obtain ⟨p1, p2⟩ := row_rest D.a _ hlt hy
    obtain ⟨hx, ht⟩ := sa (in_flat hlt hy)
    have hD : D.upd s 0 (setV i0 (.int .i64 v)) = { D with a := D.a.set (s % D.a.length) (setV i0 (.int .i64 v) (D.a.getD (s % D.a.length) [])) } := by unfold Dc.upd; rw [if_pos rfl]
    have p3 := (p2 (setV i0 (.int .i64 v) (D.a.getD (s % D.a.length) []))).trans ((setV_perm hy (.int .i64 v)).append_right _)
    refine h.change_a (y' := { y with v := .int .i64 v }) hi hs p1 (by rw [hD]; exact p3) (by rw [hD]) hx ht hx ?_
    have e1 : R.L[i].key = y.key := congrArg (fun t => t.1) ht
    have e2 : R.L[i].sum = y.sum := congrArg (fun t => t.2.2) ht
    unfold Rn.tri Nd.tri
    simp only [e1, e2]
  · have hbl : 0 < D.b.length := List.length_pos_iff.2 hb
    have hlt : s % D.b.length < D.b.length := Nat.mod_lt _ hbl
    obtain ⟨p1, p2⟩ := row_rest D.b _ hlt hy
    obtain ⟨hx, ht⟩ := sb (in_flat hlt hy)
    have hD : D.upd s 1 (setV i0 (.int .i64 v)) = { D with b := D.b.set (s % D.b.length) (setV i0 (.int .i64 v) (D.b.getD (s % D.b.length) [])) } := by unfold Dc.upd; rw [if_neg (by decide)]
    have p3 := (p2 (setV i0 (.int .i64 v) (D.b.getD (s % D.b.length) []))).trans ((setV_perm hy (.int .i64 v)).append_right _)
    refine h.change_b (y' := { y with v := .int .i64 v }) hi hs p1 (by rw [hD]; exact p3) (by rw [hD]) hx ht hx ?_
    have e1 : R.L[i].key = y.key := congrArg (fun t => t.1) ht
    have e2 : R.L[i].sum = y.sum := congrArg (fun t => t.2.2) ht
    unfold Rn.tri Nd.tri
    simp only [e1, e2]
theorem Alike.del_hit (h : Alike D R) (inv : Inv tyI seed D) (hh : D.hit s key = some (j, i0)) (hi : i < R.L.length) (hk : R.L[i].key = key) :
    Alike (D.upd s j (·.eraseIdx i0)).less (R.cut i) := by
  obtain ⟨r, y, hr, hy, _, _, hyk, _⟩ := hit_node hh
  have hal := (isS_pos inv.ok.a).1
  obtain ⟨sa, sb⟩ := h.same inv hi (y := y) (hk.trans hyk.symm)
  have hs : (D.upd s j (·.eraseIdx i0)).less.shape = D.shape.fewer := by
    have h3 := shape_upd D s j (·.eraseIdx i0)
    unfold Dc.shape at h3
    unfold Dc.less Dc.shape Sh.fewer
    injection h3 with e1 e2 e3 e4
    simp only [e1, e2, e3, e4]
  rcases rowsOf_cases hr with ⟨rfl, rfl⟩ | ⟨rfl, hb, rfl⟩
  · have hlt : s % D.a.length < D.a.length := Nat.mod_lt _ (by omega)
    obtain ⟨p1, p2⟩ := row_rest D.a _ hlt hy
    obtain ⟨hx, ht⟩ := sa (in_flat hlt hy)
    have hD : D.upd s 0 (·.eraseIdx i0) = { D with a := D.a.set (s % D.a.length) ((D.a.getD (s % D.a.length) []).eraseIdx i0) } := by unfold Dc.upd; rw [if_pos rfl]
    exact h.cut_a hi hs p1 (by rw [hD]; exact p2 _) (by rw [hD]; rfl) hx ht
  · have hbl : 0 < D.b.length := List.length_pos_iff.2 hb
    have hlt : s % D.b.length < D.b.length := Nat.mod_lt _ hbl
    obtain ⟨p1, p2⟩ := row_rest D.b _ hlt hy
    obtain ⟨hx, ht⟩ := sb (in_flat hlt hy)
    have hD : D.upd s 1 (·.eraseIdx i0) = { D with b := D.b.set (s % D.b.length) ((D.b.getD (s % D.b.length) []).eraseIdx i0) } := by unfold Dc.upd; rw [if_neg (by decide)]
    exact h.cut_b hi hs p1 (by rw [hD]; exact p2 _) (by rw [hD]; rfl) hx ht
end
end Go.Proofs.Ytifbambalfifaaa
