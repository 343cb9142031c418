/- The reference's Bucket of a slot that is one, at a reference that lies in memory. -/
import Derived.Test.YtifbambalfifaaaRkin
namespace Go.Proofs.Ytifbambalfifaaa
open Go.RowKit Go.Shelf

/-- What of the reference's nodes lies in a table's slot. -/
def inSlot (R : Rd) (t s : Nat) (x : Rn) : Bool := x.nx == decide (t = 1) && decide (x.sum % (if t = 1 then R.B else R.A) = s)
theorem refbucket_in {S : Nat → Prop} {p seed : Nat} {R : Rd} {w : World} (h : RRep w p S seed R) (ok : R.Ok) (hk : ∀ x ∈ R.L, x.key.size ≤ 281474976710656) (t : Nat) (ht : t = 0 ∨ t = 1) (s : Nat) (hs : s < if t = 1 then R.B else R.A) :
    Calls Try.prog 16 #[.pointer (some ⟨p, 0, none⟩), .int .i64 t, .int .i64 s] w fun e w' => ∃ u, e = .returned (.tuple #[u, .int .i64 0]) ∧ Own9 w' w.heap.size u (sortK ((R.L.filter (inSlot R t s)).map fun x => x.key.data.toList)) ∧ Below w.heap.size w w' := by
  obtain ⟨v, hm, _⟩ := h
  obtain ⟨A, cap, rfl, _⟩ := hm.row.form
  have h6 : (if t = 1 then R.B else R.A) ≤ 65536 := by
    have := ok.a1; have := ok.b1
    split <;> assumption
  have h1 := refbucket_core A cap R.L ok.n (fun x hx => ⟨hk x hx, ok.sum x hx⟩) R.A R.B R.At t ht s _ rfl hs h6 hm.dict hm.row (inSlot R t s) (fun _ => rfl)
  unfold keysF at h1
  rw [putsR_sort] at h1
  exact h1
end Go.Proofs.Ytifbambalfifaaa
