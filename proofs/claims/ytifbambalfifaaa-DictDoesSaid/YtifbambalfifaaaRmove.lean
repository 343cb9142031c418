/- One slot moves, there and there. -/
import Derived.Test.YtifbambalfifaaaRrow
namespace Go.Proofs.Ytifbambalfifaaa
open Go.RowKit Go.Shelf

theorem mark_tri (A At : Nat) (x : Rn) : (x.mark A At).tri = x.tri := by unfold Rn.mark; split <;> rfl
theorem mark_nx (A At : Nat) (x : Rn) : (x.mark A At).nx = (x.nx || decide (x.sum % A = At)) := by
  unfold Rn.mark
  split
  · rename_i h; simp [h]
  · rename_i h; simp [h]
theorem marked_off (A At : Nat) (L : List Rn) : ((L.map (Rn.mark A At)).filter fun x => !x.nx).map Rn.tri = ((L.filter fun x => !x.nx).filter fun x => !decide (x.sum % A = At)).map Rn.tri := by
  induction L with
  | nil => rfl
  | cons x L ih =>
    rw [List.map_cons, List.filter_cons, List.filter_cons, mark_nx]
    cases h1 : x.nx <;> cases h2 : decide (x.sum % A = At) <;> simp_all [mark_tri]
theorem marked_on (A At : Nat) (L : List Rn) : (((L.map (Rn.mark A At)).filter fun x => x.nx).map Rn.tri).Perm (((L.filter fun x => !x.nx).filter fun x => decide (x.sum % A = At)).map Rn.tri ++ (L.filter fun x => x.nx).map Rn.tri) := by
  induction L with
  | nil => exact List.Perm.refl _
  | cons x L ih =>
    rw [List.map_cons, List.filter_cons, List.filter_cons, List.filter_cons, mark_nx]
    cases h1 : x.nx <;> cases h2 : decide (x.sum % A = At)
    · simp only [Bool.or_false, Bool.not_false, if_true, Bool.false_eq_true, if_false, List.filter_cons, h2]
      exact ih
    · simp only [Bool.or_true, Bool.not_false, if_true, Bool.false_eq_true, if_false, List.filter_cons, h2, List.map_cons, mark_tri, List.cons_append]
      exact ih.cons _
    · simp only [Bool.or_false, Bool.not_true, if_true, Bool.false_eq_true, if_false, List.map_cons, mark_tri]
      exact (ih.cons _).trans List.perm_middle.symm
    · simp only [Bool.or_true, Bool.not_true, if_true, Bool.false_eq_true, if_false, List.map_cons, mark_tri]
      exact (ih.cons _).trans List.perm_middle.symm
theorem clear_all (L : List Rn) : (((L.map Rn.clear).filter fun x => !x.nx).map Rn.tri) = L.map Rn.tri ∧ ((L.map Rn.clear).filter fun x => x.nx) = [] := by
  induction L with
  | nil => exact ⟨rfl, rfl⟩
  | cons x L ih =>
    constructor
    · rw [List.map_cons, List.filter_cons, if_pos (by rfl), List.map_cons, ih.1]; rfl
    · rw [List.map_cons, List.filter_cons, if_neg (by simp [Rn.clear]), ih.2]

theorem Alike.move {seed : Nat} {D : Dc} {R : Rd} (h : Alike D R) (inv : Inv tyI seed D) (hb : D.b ≠ []) : Alike D.move1 R.step1 := by
  have hsh := h.shape
  unfold Rd.shape Dc.shape at hsh
  injection hsh with eA eB eAt en
  have hpl := inv.ok.place hb
  have hbl : 0 < D.b.length := List.length_pos_iff.2 hb
  obtain ⟨f1, f2⟩ := row_fits D.a D.a.length inv.pa D.place hpl
  have g1 := fits_perm h.a (fun s => decide (s % D.a.length = D.place))
  have g2 := fits_perm h.a (fun s => !decide (s % D.a.length = D.place))
  have hB0 : ¬ R.B = 0 := by omega
  have hput : ((putL D.b (D.a.getD D.place [])).flatten.map Nd.tri).Perm (((R.L.map (Rn.mark R.A R.At)).filter fun x => x.nx).map Rn.tri) := by
    rw [eA, eAt]
    refine ((putL_perm (D.a.getD D.place []) D.b hbl).map _).trans ?_
    rw [List.map_append]
    refine List.Perm.trans ?_ (marked_on D.a.length D.place R.L).symm
    exact ((f1.map _).trans g1).append h.b
  have hoff : ((D.a.set D.place []).flatten.map Nd.tri).Perm (((R.L.map (Rn.mark R.A R.At)).filter fun x => !x.nx).map Rn.tri) := by
    rw [eA, eAt, marked_off]
    exact (f2.map _).trans g2
  have hs : R.step1.shape = D.move1.shape := by rw [rshape_step1, h.shape, shape_move1 hb]
  by_cases hl : D.place + 1 = D.a.length
  · have h0 : (D.a.set D.place []).flatten = [] := by
      rw [List.flatten_eq_nil_iff]
      intro r hr
      obtain ⟨k, hk, rfl⟩ := List.getElem_of_mem hr
      rw [List.length_set] at hk
      rw [List.getElem_set]
      split
      · rfl
      · have := inv.ok.past k (by omega)
        rw [List.getD_eq_getElem?_getD, List.getElem?_eq_getElem hk] at this
        exact this
    rw [h0] at hoff
    have h1 : ((R.L.map (Rn.mark R.A R.At)).filter fun x => !x.nx) = [] := by
      have := hoff.length_eq
      rw [List.map_nil, List.length_nil, List.length_map] at this
      exact List.eq_nil_of_length_eq_zero this.symm
    have h2 : ((R.L.map (Rn.mark R.A R.At)).filter fun x => x.nx) = R.L.map (Rn.mark R.A R.At) := by
      rw [List.filter_eq_self]
      intro x hx
      have := (List.filter_eq_nil_iff.1 h1) x hx
      simpa using this
    rw [h2] at hput
    obtain ⟨c1, c2⟩ := clear_all (R.L.map (Rn.mark R.A R.At))
    have hR : R.step1 = ⟨(R.L.map (Rn.mark R.A R.At)).map Rn.clear, R.B, 0, 0⟩ := by unfold Rd.step1; rw [if_neg hB0, if_pos (by omega)]
    have hD : D.move1 = ⟨putL D.b (D.a.getD D.place []), [], 0, D.n⟩ := by unfold Dc.move1; rw [if_pos hl]
    refine ⟨hs, ?_, ?_⟩
    · rw [hR, hD]
      show ((putL D.b (D.a.getD D.place [])).flatten.map Nd.tri).Perm _
      rw [c1]
      exact hput
    · rw [hR, hD]
      show (([] : List (List Nd)).flatten.map Nd.tri).Perm _
      rw [c2]
      exact List.Perm.refl _
  · have hR : R.step1 = ⟨R.L.map (Rn.mark R.A R.At), R.A, R.B, R.At + 1⟩ := by unfold Rd.step1; rw [if_neg hB0, if_neg (by omega)]
    have hD : D.move1 = ⟨D.a.set D.place [], putL D.b (D.a.getD D.place []), D.place + 1, D.n⟩ := by unfold Dc.move1; rw [if_neg hl]
    refine ⟨hs, ?_, ?_⟩
    · rw [hR, hD]; exact hoff
    · rw [hR, hD]; exact hput
theorem Alike.still {D : Dc} {R : Rd} (h : Alike D R) (hb : D.b = []) : R.step1 = R := by
  have hsh := h.shape
  unfold Rd.shape Dc.shape at hsh
  injection hsh with eA eB eAt en
  unfold Rd.step1
  rw [if_pos (by rw [eB, hb]; rfl)]
end Go.Proofs.Ytifbambalfifaaa
