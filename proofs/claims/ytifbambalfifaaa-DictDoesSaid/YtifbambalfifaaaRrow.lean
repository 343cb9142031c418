/- A row of a table is what of the table's nodes fits the slot. -/
import Derived.Test.YtifbambalfifaaaRbkt
import Derived.Test.YtifbambalfifaaaLike
namespace Go.Proofs.Ytifbambalfifaaa
open Go.RowKit Go.Shelf

theorem row_fits (rows : List (List Nd)) (n : Nat) (hf : ∀ (i : Nat) (r : List Nd), rows[i]? = some r → ∀ x ∈ r, x.sum % n = i) (i : Nat) (hi : i < rows.length) :
    (rows.getD i []).Perm (rows.flatten.filter fun x => decide (x.sum % n = i)) ∧ (rows.set i []).flatten.Perm (rows.flatten.filter fun x => !decide (x.sum % n = i)) := by
  have hp := self_perm rows i hi
  have hg : rows[i]? = some (rows.getD i []) := by rw [List.getD_eq_getElem?_getD, List.getElem?_eq_getElem hi]; rfl
  have h1 : ∀ x ∈ rows.getD i [], x.sum % n = i := hf i _ hg
  have h2 : ∀ x ∈ (rows.set i []).flatten, ¬ x.sum % n = i := fun x hx => by
    obtain ⟨r, hr, hx⟩ := List.mem_flatten.1 hx
    obtain ⟨k, hk, rfl⟩ := List.getElem_of_mem hr
    rw [List.getElem_set] at hx
    split at hx
    · simp at hx
    · rename_i hne
      rw [List.length_set] at hk
      have := hf k _ (List.getElem?_eq_getElem hk) x hx
      omega
  constructor
  · refine List.Perm.trans ?_ (hp.filter _).symm
    rw [List.filter_append, List.filter_eq_self.2 (fun x hx => by simpa using h1 x hx), List.filter_eq_nil_iff.2 (fun x hx => by simpa using h2 x hx), List.append_nil]
  · refine List.Perm.trans ?_ (hp.filter _).symm
    rw [List.filter_append, List.filter_eq_nil_iff.2 (fun x hx => by simpa using h1 x hx), List.filter_eq_self.2 (fun x hx => by simpa using h2 x hx), List.nil_append]

def Nd.tri (x : Nd) : ByteArray × Value × Nat := (x.key, x.v, x.sum)
def Rn.tri (x : Rn) : ByteArray × Value × Nat := (x.key, .int .i64 x.v, x.sum)
/-- The dict's tables hold what the reference's list says. -/
structure Alike (D : Dc) (R : Rd) : Prop where
  shape : R.shape = D.shape
  a : (D.a.flatten.map Nd.tri).Perm ((R.L.filter fun x => !x.nx).map Rn.tri)
  b : (D.b.flatten.map Nd.tri).Perm ((R.L.filter fun x => x.nx).map Rn.tri)
/-- What fits a slot, there and there. -/
theorem fits_perm {l : List Nd} {r : List Rn} (h : (l.map Nd.tri).Perm (r.map Rn.tri)) (p : Nat → Bool) : ((l.filter fun x => p x.sum).map Nd.tri).Perm ((r.filter fun x => p x.sum).map Rn.tri) := by
  have h2 := h.filter fun t => p t.2.2
  rw [List.filter_map, List.filter_map] at h2
  exact h2
end Go.Proofs.Ytifbambalfifaaa
