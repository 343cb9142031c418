/- A region's lexical order, looked at row by row. -/
import Derived.Deep.QuietTactic
namespace Go.Proofs.YtjcgfbmkgfhnaaaDoor
open Go

/-- Each operation waits for elder ones alone, and is apart from each younger one that does not wait for it. -/
def lexRows (md : Region.Mode) (ops : Array Oper) : Nat → List Oper → Bool
  | _, [] => true
  | k, o :: rest => o.after.all (fun e => !Region.binds md e || decide (e.on < k)) && rest.all (fun y => y.after.any (fun e => Region.binds md e && e.on == k) || o.apart ops y) && lexRows md ops (k + 1) rest

theorem lexFrom_of_rows (md : Region.Mode) (ops : Array Oper) : ∀ (l : List Oper) (k : Nat) (listed : Array Bool), (∀ j, l[j]? = ops[k + j]?) → k + l.length = ops.size → listed.size = ops.size → (∀ i, i < ops.size → listed[i]? = some (decide (i < k))) →
    lexRows md ops k l = true → Region.lexFrom md ops l.length k listed = true
  | [], k, listed, _, hk, hz, hl, _ => by
    simp only [List.length_nil, Nat.add_zero] at hk
    simp only [List.length_nil, Region.lexFrom, Region.ready, List.isEmpty_iff, List.filter_eq_nil_iff, List.mem_range]
    intro i hi
    have h1 : listed.getD i true = true := by rw [Array.getD_eq_getD_getElem?, hl i hi]; simp; omega
    rw [h1]
    simp
  | o :: l, k, listed, hop, hk, hz, hl, h => by
    simp only [List.length_cons] at hk
    simp only [lexRows, Bool.and_eq_true] at h
    obtain ⟨⟨ha, hf⟩, hrest⟩ := h
    have h0 : ops[k]? = some o := by simpa using (hop 0).symm
    have hkn : k < ops.size := by omega
    have hk0 : listed.getD k true = false := by rw [Array.getD_eq_getD_getElem?, hl k hkn]; simp
    simp only [List.length_cons, Region.lexFrom, Bool.and_eq_true]
    refine ⟨⟨?_, ?_⟩, ?_⟩
    · simp only [List.contains_eq_mem, Region.ready, decide_eq_true_eq, List.mem_filter, List.mem_range, Bool.and_eq_true]
      refine ⟨hkn, by rw [hk0]; rfl, ?_⟩
      rw [h0]
      simp only [Option.map_some, Option.getD_some]
      refine Array.all_eq_true'.2 fun e he => ?_
      have := Array.all_eq_true'.1 ha e he
      simp only [Bool.or_eq_true, decide_eq_true_eq] at this ⊢
      rcases this with h | h
      · exact .inl h
      · refine .inr ?_
        rw [Array.getD_eq_getD_getElem?, hl e.on (by omega)]
        simpa using h
    · simp only [Region.free, h0, List.all_eq_true, List.mem_range]
      intro j hj
      rcases Nat.lt_trichotomy j k with hlt | rfl | hgt
      · have : listed.getD j true = true := by rw [Array.getD_eq_getD_getElem?, hl j hj]; simpa using hlt
        rw [this]; simp
      · simp
      · obtain ⟨y, hy⟩ : ∃ y, ops[j]? = some y := ⟨_, Array.getElem?_eq_getElem hj⟩
        have hyl : l[j - k - 1]? = some y := by
          have := hop (j - k - 1 + 1)
          rw [List.getElem?_cons_succ] at this
          rw [this, ← hy]
          congr 1; omega
        have := List.all_eq_true.1 hf y (List.mem_of_getElem? hyl)
        rw [hy]
        simp only [Bool.or_eq_true] at this ⊢
        exact .inr this
    · refine lexFrom_of_rows md ops l (k + 1) _ (fun j => by have := hop (j + 1); simpa [Nat.add_assoc, Nat.add_comm 1 j] using this) (by omega) (by simpa using hz) (fun i hi => ?_) hrest
      rw [Array.getElem?_setIfInBounds]
      by_cases e : k = i
      · subst e; simp [hz, hkn]
      · rw [if_neg e, hl i hi]
        congr 1
        simp only [decide_eq_decide]
        omega

theorem lexB_of_rows {md : Region.Mode} {l : List Oper} (hs : Region.noSelect l.toArray = true) (h : lexRows md l.toArray 0 l = true) : Region.lexB md l.toArray = true := by
  simp only [Region.lexB, hs, Bool.true_and]
  exact lexFrom_of_rows md l.toArray l 0 _ (fun j => by simp) (by simp) (by simp) (fun i hi => by simp at hi; simp [hi]) h

end Go.Proofs.YtjcgfbmkgfhnaaaDoor
