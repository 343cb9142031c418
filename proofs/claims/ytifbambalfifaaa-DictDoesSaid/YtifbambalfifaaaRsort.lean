/- The reference's buckets in order: putting in one by one is sorting. -/
import Derived.Test.YtifbambalfifaaaRtexts
namespace Go.Proofs.Ytifbambalfifaaa
open Go.RowKit Go.Shelf

/-- A key is put in behind all that are lesser. -/
def insR (x : List UInt8) (out : List (List UInt8)) : List (List UInt8) := out.takeWhile (fun y => decide (y < x)) ++ x :: out.dropWhile (fun y => decide (y < x))
theorem insR_perm (x : List UInt8) (out : List (List UInt8)) : (insR x out).Perm (x :: out) := by
  unfold insR
  refine List.perm_middle.trans ?_
  rw [List.takeWhile_append_dropWhile]
theorem insR_cons (x y : List UInt8) (out : List (List UInt8)) : insR x (y :: out) = if y < x then y :: insR x out else x :: y :: out := by
  unfold insR
  by_cases h : y < x
  · rw [if_pos h, List.takeWhile_cons_of_pos (by simpa using h), List.dropWhile_cons_of_pos (by simpa using h)]; rfl
  · rw [if_neg h, List.takeWhile_cons_of_neg (by simpa using h), List.dropWhile_cons_of_neg (by simpa using h)]; rfl
theorem insR_sorted (x : List UInt8) : ∀ out : List (List UInt8), out.Pairwise (· ≤ ·) → (insR x out).Pairwise (· ≤ ·)
  | [], _ => by simp [insR]
  | y :: out, h => by
    rw [insR_cons]
    rw [List.pairwise_cons] at h
    split
    · rename_i hlt
      rw [List.pairwise_cons]
      refine ⟨fun z hz => ?_, insR_sorted x out h.2⟩
      rcases List.mem_cons.1 ((insR_perm x out).mem_iff.1 hz) with rfl | hz
      · exact List.le_of_lt hlt
      · exact h.1 z hz
    · rename_i hlt
      have hxy : x ≤ y := hlt
      rw [List.pairwise_cons]
      refine ⟨fun z hz => ?_, List.pairwise_cons.2 h⟩
      rcases List.mem_cons.1 hz with rfl | hz
      · exact hxy
      · exact List.le_trans hxy (h.1 z hz)
theorem sortK_ins (l : List (List UInt8)) : ∀ out : List (List UInt8), out.Pairwise (· ≤ ·) → l.foldl (fun o x => insR x o) out = sortK (out ++ l) := by
  induction l with
  | nil =>
    intro out h
    unfold sortK
    rw [List.append_nil]
    exact (List.mergeSort_of_pairwise (by simpa using h)).symm
  | cons x l ih =>
    intro out h
    rw [List.foldl_cons, ih _ (insR_sorted x out h)]
    unfold sortK
    have hp : (insR x out ++ l).Perm (out ++ x :: l) := ((insR_perm x out).append_right l).trans List.perm_middle.symm
    have tr : ∀ a b c : List UInt8, decide (a ≤ b) = true → decide (b ≤ c) = true → decide (a ≤ c) = true := fun a b c h1 h2 => by
      simp only [decide_eq_true_eq] at *; exact List.le_trans h1 h2
    have tot : ∀ a b : List UInt8, (decide (a ≤ b) || decide (b ≤ a)) = true := fun a b => by
      simp only [Bool.or_eq_true, decide_eq_true_eq]; exact List.le_total a b
    refine List.Perm.eq_of_pairwise (le := fun a b => decide (a ≤ b) = true) (fun a b _ _ h1 h2 => ?_) (List.pairwise_mergeSort tr tot _) (List.pairwise_mergeSort tr tot _) ?_
    · simp only [decide_eq_true_eq] at *; exact List.le_antisymm h1 h2
    · exact (List.mergeSort_perm _ _).trans (hp.trans (List.mergeSort_perm _ _).symm)
end Go.Proofs.Ytifbambalfifaaa
