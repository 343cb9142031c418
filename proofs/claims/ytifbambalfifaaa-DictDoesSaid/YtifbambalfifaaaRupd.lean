/- A node is changed or goes: the relation stays. -/
import Derived.Test.YtifbambalfifaaaRset
namespace Go.Proofs.Ytifbambalfifaaa
open Go.RowKit Go.Shelf

theorem part_in (p : Rn → Bool) {L : List Rn} {i : Nat} (hi : i < L.length) (hp : p L[i] = true) : (L.filter p).Perm (L[i] :: (L.eraseIdx i).filter p) := by
  have h := (at_perm L i hi).filter p
  rwa [List.filter_cons, if_pos hp] at h
theorem part_out (p : Rn → Bool) {L : List Rn} {i : Nat} (hi : i < L.length) (hp : p L[i] = false) : (L.filter p).Perm ((L.eraseIdx i).filter p) := by
  have h := (at_perm L i hi).filter p
  rwa [List.filter_cons, if_neg (by rw [hp]; decide)] at h
theorem set_in (p : Rn → Bool) {L : List Rn} {i : Nat} (hi : i < L.length) {y : Rn} (hp : p y = true) : ((L.set i y).filter p).Perm (y :: (L.eraseIdx i).filter p) := by
  have h := (setAt_perm L i hi y).filter p
  rwa [List.filter_cons, if_pos hp] at h
theorem set_out (p : Rn → Bool) {L : List Rn} {i : Nat} (hi : i < L.length) {y : Rn} (hp : p y = false) : ((L.set i y).filter p).Perm ((L.eraseIdx i).filter p) := by
  have h := (setAt_perm L i hi y).filter p
  rwa [List.filter_cons, if_neg (by rw [hp]; decide)] at h

section
variable {D D' : Dc} {R : Rd} {i : Nat} {y y' : Nd} {rest : List Nd} {x' : Rn}
theorem rest_perm {F : List Nd} {p : Rn → Bool} (h : (F.map Nd.tri).Perm ((R.L.filter p).map Rn.tri)) (hi : i < R.L.length) (hp : p R.L[i] = true) (hF : F.Perm (y :: rest)) (ht : R.L[i].tri = y.tri) :
    (rest.map Nd.tri).Perm (((R.L.eraseIdx i).filter p).map Rn.tri) := by
  have h1 := ((hF.symm.map Nd.tri).trans h).trans ((part_in p hi hp).map Rn.tri)
  rw [List.map_cons, List.map_cons, ht] at h1
  exact h1.cons_inv
theorem Alike.change_a (h : Alike D R) (hi : i < R.L.length) (hs : D'.shape = D.shape) (ha : D.a.flatten.Perm (y :: rest)) (ha' : D'.a.flatten.Perm (y' :: rest)) (hb' : D'.b = D.b)
    (hx : R.L[i].nx = false) (ht : R.L[i].tri = y.tri) (hx' : x'.nx = false) (ht' : x'.tri = y'.tri) : Alike D' { R with L := R.L.set i x' } := by
  refine ⟨?_, ?_, ?_⟩
  · rw [hs, ← h.shape]; unfold Rd.shape; simp
  · refine (ha'.map _).trans (List.Perm.trans ?_ ((set_in (fun x => !x.nx) hi (y := x') (by simp [hx'])).map Rn.tri).symm)
    rw [List.map_cons, List.map_cons, ht']
    exact (rest_perm h.a hi (by simp [hx]) ha ht).cons _
  · rw [hb']
    exact (h.b.trans ((part_out (fun x => x.nx) hi hx).map _)).trans ((set_out (fun x => x.nx) hi (y := x') hx').map Rn.tri).symm
theorem Alike.change_b (h : Alike D R) (hi : i < R.L.length) (hs : D'.shape = D.shape) (hb : D.b.flatten.Perm (y :: rest)) (hb' : D'.b.flatten.Perm (y' :: rest)) (ha' : D'.a = D.a)
    (hx : R.L[i].nx = true) (ht : R.L[i].tri = y.tri) (hx' : x'.nx = true) (ht' : x'.tri = y'.tri) : Alike D' { R with L := R.L.set i x' } := by
  refine ⟨?_, ?_, ?_⟩
  · rw [hs, ← h.shape]; unfold Rd.shape; simp
  · rw [ha']
    exact (h.a.trans ((part_out (fun x => !x.nx) hi (by simp [hx])).map _)).trans ((set_out (fun x => !x.nx) hi (y := x') (by simp [hx'])).map Rn.tri).symm
  · refine (hb'.map _).trans (List.Perm.trans ?_ ((set_in (fun x => x.nx) hi (y := x') hx').map Rn.tri).symm)
    rw [List.map_cons, List.map_cons, ht']
    exact (rest_perm h.b hi hx hb ht).cons _
theorem Alike.cut_a (h : Alike D R) (hi : i < R.L.length) (hs : D'.shape = D.shape.fewer) (ha : D.a.flatten.Perm (y :: rest)) (ha' : D'.a.flatten.Perm rest) (hb' : D'.b = D.b)
    (hx : R.L[i].nx = false) (ht : R.L[i].tri = y.tri) : Alike D' (R.cut i) := by
  refine ⟨?_, ?_, ?_⟩
  · rw [hs, ← h.shape]; unfold Rd.shape Rd.cut Sh.fewer; simp [List.length_eraseIdx, hi]
  · exact (ha'.map _).trans (rest_perm h.a hi (by simp [hx]) ha ht)
  · rw [hb']
    exact h.b.trans ((part_out (fun x => x.nx) hi hx).map _)
theorem Alike.cut_b (h : Alike D R) (hi : i < R.L.length) (hs : D'.shape = D.shape.fewer) (hb : D.b.flatten.Perm (y :: rest)) (hb' : D'.b.flatten.Perm rest) (ha' : D'.a = D.a)
    (hx : R.L[i].nx = true) (ht : R.L[i].tri = y.tri) : Alike D' (R.cut i) := by
  refine ⟨?_, ?_, ?_⟩
  · rw [hs, ← h.shape]; unfold Rd.shape Rd.cut Sh.fewer; simp [List.length_eraseIdx, hi]
  · rw [ha']
    exact h.a.trans ((part_out (fun x => !x.nx) hi (by simp [hx])).map _)
  · exact (hb'.map _).trans (rest_perm h.b hi hx hb ht)
end
end Go.Proofs.Ytifbambalfifaaa
