/- The reference's Get and Set. -/
import Derived.Test.YtifbambalfifaaaRstep
namespace Go.Proofs.Ytifbambalfifaaa
open Go.RowKit Go.Shelf
attribute [local go_sem] Oper.semAt_some

structure Rd.Ok (R : Rd) : Prop where
  a0 : 0 < R.A
  a1 : R.A ≤ 65536
  b1 : R.B ≤ 65536
  at_ : R.B ≠ 0 → R.At < R.A
  n : R.L.length ≤ 1000000
  sum : ∀ x ∈ R.L, x.sum < 4294967296
theorem steps_one {R : Rd} (h : R.B ≠ 0 → R.At < R.A) : Rd.steps (min (1 : Int).toNat R.shape.left) R = R.step1 := by
  by_cases hB : R.B = 0
  · have : R.shape.left = 0 := by unfold Sh.left Rd.shape; rw [if_pos hB]
    rw [this]
    show R = R.step1
    unfold Rd.step1
    rw [if_pos hB]
  · have h1 := h hB
    have : R.shape.left = R.A - R.At := by unfold Sh.left Rd.shape; rw [if_neg hB]
    rw [this, Nat.min_eq_left (by simp; omega)]
    rfl
theorem step1_len (R : Rd) : R.step1.L.length = R.L.length := by
  unfold Rd.step1
  split
  · rfl
  · split <;> simp
theorem Rd.Ok.step {R : Rd} (h : R.Ok) : R.step1.Ok := by
  have hs := steps_sums h.sum 1
  have hl := step1_len R
  refine ⟨?_, ?_, ?_, ?_, by rw [hl]; exact h.n, hs⟩
  all_goals (
    have h1 := h.a0
    have h2 := h.a1
    have h3 := h.b1
    have h4 := h.at_
    unfold Rd.step1
    split
    · first | assumption
    · split
      · simp only; first | omega | (intro h0; omega)
      · simp only; first | omega | (intro h0; have := h4 (by assumption); omega))
theorem refone_any {S : Nat → Prop} {p seed : Nat} {R : Rd} {w : World} (h : RRep w p S seed R) (ok : R.Ok) :
    Calls Try.prog 31 #[.pointer (some ⟨p, 0, none⟩), .int .i64 1] w fun e w' => (∃ k : Int, e = .returned (.int .i64 k)) ∧ RWent S w p seed R.step1 w' :=
  (refstep_any h ok.a0 ok.a1 ok.b1 ok.at_ ok.n ok.sum 1 (by omega)).mono fun e w' ⟨h1, h2⟩ => ⟨⟨_, h1⟩, by rw [steps_one ok.at_] at h2; exact h2⟩
/-- Where the key's node stands: the first one, or none. -/
theorem atN_cases (r : List Rn) (key : ByteArray) : (∃ i, ∃ h : i < r.length, atN r key = i ∧ r[i].key = key) ∨ (atN r key = -1 ∧ ∀ x ∈ r, x.key ≠ key) := by
  cases h : r.findIdx? (·.key = key) with
  | none =>
    refine .inr ⟨by unfold atN; rw [h], ?_⟩
    rw [List.findIdx?_eq_none_iff] at h
    exact fun x hx => by simpa using h x hx
  | some i =>
    have h2 := h
    rw [List.findIdx?_eq_some_iff_getElem] at h2
    obtain ⟨hi, hk, _⟩ := h2
    exact .inl ⟨i, hi, by unfold atN; rw [h], by simpa using hk⟩

section
variable {S : Nat → Prop} {p seed : Nat} {R : Rd} {w : World}
set_option maxRecDepth 100000 in
theorem refget_any (h : RRep w p S seed R) (ok : R.Ok) (key : ByteArray) : Calls Try.prog 29 #[.pointer (some ⟨p, 0, none⟩), .string key] w fun e w' =>
    ((∃ x ∈ R.step1.L, x.key = key ∧ e = .returned (.tuple #[.int .i64 x.v, .bool true])) ∨ ((∀ x ∈ R.step1.L, x.key ≠ key) ∧ e = .returned (.tuple #[.int .i64 0, .bool false]))) ∧ RWent S w p seed R.step1 w' := by
  have H1 := Lib.hid (refone_any h ok)
  have ok1 := ok.step
  generalize R.step1 = R1 at *
  go_enter Try.func29, Try.ntmps29
  go_wp2_with fail
  refine H1.out.mono ?_
  rintro e w1 ⟨⟨k1, rfl⟩, hw1⟩
  have HW1 := Lib.hid hw1
  obtain ⟨h1, _⟩ := hw1
  have HAT := Lib.hid (at_any h1 ok1.n key)
  obtain ⟨v, hm, _⟩ := h1
  obtain ⟨Ad, cap, rfl, hcap, hmax, _⟩ := hm.row.form
  obtain ⟨c0, c1, c2, c3, c4, f0⟩ := ref_facts hm
  have hrow := hm.row
  have HCAP := Lib.hid hcap
  clear hm hcap
  go_wp2_with fail
  refine HAT.out.mono ?_
  rintro e w2 ⟨rfl, rfl⟩
  have hn1 := ok1.n
  rcases atN_cases R1.L key with ⟨i, hi, e1, e2⟩ | ⟨e1, e2⟩
  · obtain ⟨g, rfl, z0, z1, z2, z3, zf⟩ := hrow.at (List.getElem?_eq_getElem hi)
    have HX := Lib.hid (List.getElem_mem hi)
    have HE2 := Lib.hid e2
    generalize R1.L[i] = x at *
    rw [e1]
    clear hrow e1 e2
    go_wp2
    go_returns
    exact ⟨.inl ⟨x, HX.out, HE2.out, rfl⟩, HW1.out⟩
  · rw [e1]
    have HE2 := Lib.hid e2
    clear hrow e1 e2
    go_wp2
    go_returns
    exact ⟨.inr ⟨HE2.out, rfl⟩, HW1.out⟩
end
end Go.Proofs.Ytifbambalfifaaa
