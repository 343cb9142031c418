/- The keys and shapes of DictMoves. -/
import Derived.Test.YtifbambalfifaaaNil
namespace Go.Proofs.Ytifbambalfifaaa
open Go.RowKit Go.Shelf

/-- The i-th key. -/
def kb (i : Nat) : ByteArray := ba [UInt8.ofNat (i % 256), UInt8.ofNat (i / 256 % 256)]
theorem kb_inj {i j : Nat} (hi : i < 65536) (hj : j < 65536) (h : kb i = kb j) : i = j := by
  have h' : [UInt8.ofNat (i % 256), UInt8.ofNat (i / 256 % 256)] = [UInt8.ofNat (j % 256), UInt8.ofNat (j / 256 % 256)] := congrArg (fun s : ByteArray => s.data.toList) h
  rw [List.cons.injEq, List.cons.injEq] at h'
  obtain ⟨h1, h2, _⟩ := h'
  have e1 := congrArg UInt8.toNat h1
  have e2 := congrArg UInt8.toNat h2
  simp only [UInt8.toNat_ofNat'] at e1 e2
  omega
theorem kb_size (i : Nat) : (kb i).size = 2 := rfl
def mm : Nat → ByteArray → Option Int
  | 0 => fun _ => none
  | k + 1 => putI (mm k) (kb k) k
theorem mm_later : ∀ k i, i < k → k ≤ 300 → mm k (kb i) = some (i : Int) := by
  intro k
  induction k with
  | zero => intro i h; omega
  | succ k ih =>
    intro i hi hk
    unfold mm putI
    by_cases e : i = k
    · subst e; rw [if_pos rfl]
    · rw [if_neg (fun h => e (kb_inj (by omega) (by omega) h))]
      exact ih i (by omega) (by omega)
theorem mm_none : ∀ k i, k ≤ i → i ≤ 300 → mm k (kb i) = none := by
  intro k
  induction k with
  | zero => intro i _ _; rfl
  | succ k ih =>
    intro i hi hk
    unfold mm putI
    rw [if_neg (fun h => by have := kb_inj (by omega) (by omega) h; omega)]
    exact ih i (by omega) hk
/-- The shape behind so many new keys. -/
def shN : Nat → Sh
  | 0 => ⟨4, 0, 0, 0⟩
  | k + 1 => (shN k).set false
theorem shN_n : ∀ k, (shN k).n = k
  | 0 => rfl
  | k + 1 => by rw [shN, shset_n, shN_n k]; rfl

/-- What a shape comes to when all has moved. -/
def Sh.fin (h : Sh) : Nat := if h.B = 0 then h.A else h.B
def fineSh (h : Sh) (n : Nat) : Bool := decide (h.left ≤ 599) && decide (4 ≤ h.fin) && decide (n ≤ h.fin) && (decide (h.B = 0) || decide (h.At < h.A)) && decide (h.fin ≤ 65536) && decide (h.A ≤ 65536) && decide (h.B ≤ 65536) && (decide (h.B ≠ 0) || decide (h.At = 0)) && decide (h.At ≤ h.A)
def allFine : Nat → Sh → Nat → Bool
  | 0, _, _ => true
  | k + 1, h, n => fineSh h n && allFine k (h.set false) (n + 1)
theorem allFine_at : ∀ k h n, allFine k h n = true → ∀ i, i < k → fineSh (Nat.rec h (fun _ x => x.set false) i) (n + i) = true := by
  intro k
  induction k with
  | zero => intro h n _ i hi; omega
  | succ k ih =>
    intro h n ha i hi
    unfold allFine at ha
    simp only [Bool.and_eq_true] at ha
    cases i with
    | zero => exact ha.1
    | succ i =>
      have := ih (h.set false) (n + 1) ha.2 i (by omega)
      have e : ∀ i : Nat, (Nat.rec (h.set false) (fun _ x => x.set false) i : Sh) = Nat.rec h (fun _ x => x.set false) (i + 1) := fun i => by
        induction i with
        | zero => rfl
        | succ i ih => exact congrArg (Sh.set · false) ih
      rw [e] at this
      rwa [show n + 1 + i = n + (i + 1) by omega] at this
theorem allFine_ok : allFine 301 ⟨4, 0, 0, 0⟩ 0 = true := by decide +kernel
theorem shN_fine (k : Nat) (hk : k ≤ 300) : fineSh (shN k) k = true := by
  have h := allFine_at 301 ⟨4, 0, 0, 0⟩ 0 allFine_ok k (by omega)
  have e : ∀ k, shN k = Nat.rec (⟨4, 0, 0, 0⟩ : Sh) (fun _ x => x.set false) k := fun k => by
    induction k with
    | zero => rfl
    | succ k ih => exact congrArg (Sh.set · false) ih
  rw [e]
  simpa using h
structure FineSh (h : Sh) (n : Nat) : Prop where
  left : h.left ≤ 599
  fin4 : 4 ≤ h.fin
  finn : n ≤ h.fin
  at_ : h.B ≠ 0 → h.At < h.A
  fin6 : h.fin ≤ 65536
  a6 : h.A ≤ 65536
  b6 : h.B ≤ 65536
  atz : h.B = 0 → h.At = 0
  atle : h.At ≤ h.A
theorem shN_facts (k : Nat) (hk : k ≤ 300) : FineSh (shN k) k := by
  have h := shN_fine k hk
  unfold fineSh at h
  simp only [Bool.and_eq_true, Bool.or_eq_true, decide_eq_true_eq] at h
  obtain ⟨⟨⟨⟨⟨⟨⟨⟨h1, h2⟩, h3⟩, h4⟩, h5⟩, h6⟩, h7⟩, h8⟩, h9⟩ := h
  exact ⟨h1, h2, h3, fun e => h4.resolve_left e, h5, h6, h7, fun e => h8.resolve_left (fun h => h e), h9⟩

/-- Slots move one by one, until none is left. -/
theorem steps_facts {h : Sh} (hat : h.B ≠ 0 → h.At < h.A) : ∀ k, k ≤ h.left → (Sh.steps k h).left = h.left - k ∧ ((Sh.steps k h).B ≠ 0 → (Sh.steps k h).At < (Sh.steps k h).A) ∧ (Sh.steps k h).fin = h.fin ∧ (0 < (Sh.steps k h).B ↔ k < h.left) ∧ (Sh.steps k h).A ≤ max h.A h.B ∧ (Sh.steps k h).B ≤ h.B := by
  intro k
  induction k with
  | zero =>
    intro _
    refine ⟨rfl, hat, rfl, ?_, Nat.le_max_left _ _, Nat.le_refl _⟩
    unfold Sh.left
    show 0 < h.B ↔ 0 < if h.B = 0 then 0 else h.A - h.At
    by_cases e : h.B = 0
    · rw [if_pos e, e]
    · rw [if_neg e]
      have := hat e
      omega
  | succ k ih =>
    intro hk
    obtain ⟨h1, h2, h3, h4, h5, h6⟩ := ih (by omega)
    have hB : (Sh.steps k h).B ≠ 0 := by have := h4.2 (by omega); omega
    have h7 := h2 hB
    have hl : (Sh.steps k h).left = (Sh.steps k h).A - (Sh.steps k h).At := by unfold Sh.left; rw [if_neg hB]
    show (Sh.step1 (Sh.steps k h)).left = _ ∧ _
    generalize hg : Sh.steps k h = g at *
    have hs : Sh.steps (k + 1) h = g.step1 := by rw [Sh.steps, hg]
    rw [hs]
    unfold Sh.step1
    rw [if_neg hB]
    by_cases e : g.At + 1 = g.A
    · rw [if_pos e]
      have hf : g.fin = g.B := by unfold Sh.fin; rw [if_neg hB]
      refine ⟨?_, fun h => absurd rfl h, ?_, ?_, ?_, Nat.zero_le _⟩
      · have : (Sh.left ⟨g.B, 0, 0, g.n⟩) = 0 := rfl
        rw [this]; omega
      · rw [← h3, hf]; rfl
      · show 0 < 0 ↔ _
        omega
      · show g.B ≤ _
        omega
    · rw [if_neg e]
      have hl2 : Sh.left ⟨g.A, g.B, g.At + 1, g.n⟩ = g.A - (g.At + 1) := by unfold Sh.left; rw [if_neg hB]
      refine ⟨by rw [hl2]; omega, fun _ => by show g.At + 1 < g.A; omega, ?_, ?_, h5, h6⟩
      · rw [← h3]; unfold Sh.fin; rfl
      · show 0 < g.B ↔ _
        omega
end Go.Proofs.Ytifbambalfifaaa
