/- The least and the greatest do not depend on the sets' order. -/
import Derived.Test.YtjilfgkoibbcnaaDoorPartsM
namespace Go.Proofs.YtjilfgkoibbcnaaDoor
open Go.RowKit Go.Shelf

theorem vals_snd (m : ByteArray) (ls : List (List Ent)) : ∀ p, (valsFrom m p ls).map (·.2) = ls.filterMap fun l => getM l m := by
  induction ls with
  | nil => intro p; rfl
  | cons l r ih =>
    intro p
    rw [valsFrom, List.map_append, ih, List.filterMap_cons]
    cases getM l m <;> rfl
theorem vals_mem {m : ByteArray} {ls : List (List Ent)} (hn : ∀ l ∈ ls, NdM l) (h64 : ∀ l ∈ ls, ∀ e ∈ l, I64 e.2) : ∀ p x, x ∈ valsFrom m p ls → p ≤ x.1 ∧ x.1 < p + ls.length ∧ I64 x.2 := by
  induction ls with
  | nil => intro p x h; simp [valsFrom] at h
  | cons l r ih =>
    intro p x h
    rw [valsFrom] at h
    rcases List.mem_append.1 h with h | h
    · cases hg : getM l m with
      | none => rw [hg] at h; simp at h
      | some s =>
        rw [hg] at h
        rw [List.mem_singleton.1 h]
        exact ⟨Nat.le_refl _, by simp, getM_i64 (hn l (by simp)) (h64 l (by simp)) hg⟩
    · obtain ⟨h1, h2, h3⟩ := ih (fun l hl => hn l (List.mem_cons_of_mem _ hl)) (fun l hl => h64 l (List.mem_cons_of_mem _ hl)) (p + 1) x h
      exact ⟨by omega, by simp only [List.length_cons]; omega, h3⟩
/-- Two scores, the lesser or the greater. -/
def jo (g : Nat) (o : Option Int) (s : Int) : Option Int := some (match o with | none => s | some a => if g = 2 then min a s else max a s)
theorem jo_comm (g : Nat) (o : Option Int) (a b : Int) : jo g (jo g o a) b = jo g (jo g o b) a := by
  unfold jo
  cases o with
  | none =>
    simp only
    split <;> congr 1 <;> omega
  | some x =>
    simp only
    split <;> congr 1 <;> omega
theorem fold_jo {g n : Nat} (hg : g = 2 ∨ g = 3) (xs : List (Nat × Int)) : ∀ o, (∀ x ∈ xs, x.1 < n ∧ I64 x.2) → xs.foldl (stepV g (List.replicate n 1)) (some o) = some ((xs.map (·.2)).foldl (jo g) o) := by
  induction xs with
  | nil => intro o _; rfl
  | cons x xs ih =>
    intro o h
    obtain ⟨h1, h2⟩ := h x (by simp)
    have hs : stepV g (List.replicate n 1) (some o) x = some (jo g o x.2) := by
      unfold stepV
      simp only [show (List.replicate n (1 : Int)).getD x.1 0 = 1 by simp [List.getD_eq_getElem?_getD, h1]]
      rw [if_pos (one_i64 h2).1, (one_i64 h2).2]
      unfold jo joinE joinN
      cases o with
      | none => rfl
      | some a => rcases hg with rfl | rfl <;> rfl
    rw [List.foldl_cons, hs, List.map_cons, List.foldl_cons]
    exact ih _ fun y hy => h y (List.mem_cons_of_mem _ hy)
theorem fm_turn {g : Nat} (hg : g = 2 ∨ g = 3) {ls : List (List Ent)} (hn : ∀ l ∈ ls, NdM l) (h64 : ∀ l ∈ ls, ∀ e ∈ l, I64 e.2) (least : Int) (m : ByteArray) :
    fm g (List.replicate ls.length 1) (sharedS least ls) m ≠ none ∧ fm g (List.replicate ls.length 1) (sharedS least ls) m = fm g (List.replicate ls.length 1) (sharedS least ls.reverse) m := by
  have hn' : ∀ l ∈ ls.reverse, NdM l := fun l hl => hn l (List.mem_reverse.1 hl)
  have h64' : ∀ l ∈ ls.reverse, ∀ e ∈ l, I64 e.2 := fun l hl => h64 l (List.mem_reverse.1 hl)
  rw [fm_shared _ _ _ hn, fm_shared _ _ _ hn']
  have e1 : (valsFrom m 0 ls).length = (valsFrom m 0 ls.reverse).length := by
    have a1 := congrArg List.length (vals_snd m ls 0)
    have a2 := congrArg List.length (vals_snd m ls.reverse 0)
    rw [List.length_map] at a1 a2
    rw [a1, a2, List.filterMap_reverse, List.length_reverse]
  rw [fold_jo hg _ none fun x hx => by obtain ⟨_, h2, h3⟩ := vals_mem hn h64 0 x hx; exact ⟨by omega, h3⟩]
  rw [fold_jo hg (valsFrom m 0 ls.reverse) none fun x hx => by obtain ⟨_, h2, h3⟩ := vals_mem hn' h64' 0 x hx; exact ⟨by simpa using h2, h3⟩]
  rw [e1, vals_snd, vals_snd, List.filterMap_reverse]
  rw [List.Perm.foldl_eq' (List.reverse_perm (ls.filterMap fun l => getM l m)) (fun x _ y _ z => jo_comm g z x y) none]
  refine ⟨?_, rfl⟩
  split <;> simp
theorem mixP_len {agg : Int} {ws : List Int} {least : Int} {ls : List (List Ent)} (hls : OkS ls) : (mixP agg ws least ls).1.length ≤ 1000000 := by
  unfold mixP
  cases h : mixR agg ws least ls with
  | none => simp [toldP]
  | some o =>
    cases o with
    | none => simp [toldP]
    | some M =>
      show (sortS M).length ≤ 1000000
      rw [(sortS_perm M).length_eq]
      exact mixR_len hls M h
theorem mix_turn {agg : Int} (ha : agg = 2 ∨ agg = 3) {ls : List (List Ent)} (hg : ∀ l ∈ ls, Good l) (h64 : ∀ l ∈ ls, ∀ e ∈ l, I64 e.2) (least : Int) :
    mixP agg (List.replicate ls.length 1) least ls.reverse = mixP agg (List.replicate ls.length 1) least ls ∧ (mixP agg (List.replicate ls.length 1) least ls).2 = if ls.length = 0 then 120 else 0 := by
  by_cases h0 : ls.length = 0
  · obtain rfl := List.length_eq_zero_iff.1 h0
    refine ⟨rfl, ?_⟩
    have : mixR agg (List.replicate ([] : List (List Ent)).length 1) least [] = none := if_neg fun h => by
      have := h.2.2
      simp [rightsP] at this
    unfold mixP
    rw [this]
    rfl
  · have hr := rights_good (by omega) hg
    have hr' := rights_good (ls := ls.reverse) (by rw [List.length_reverse]; omega) fun l hl => hg l (List.mem_reverse.1 hl)
    have ha' : agg = 1 ∨ agg = 2 ∨ agg = 3 := .inr ha
    have hgn : agg.toNat = 2 ∨ agg.toNat = 3 := by omega
    have hf := fm_turn hgn (fun l hl => (hg l hl).nd) h64 least
    rw [mixP_some ha' (by simp) hr, mixP_some ha' (by simp) hr']
    refine ⟨told_same fun m => ((hf m).2).symm, ?_⟩
    obtain ⟨M, _, hM, _⟩ := mix_tells fun m => (hf m).1
    rw [hM, if_neg h0]
    rfl
end Go.Proofs.YtjilfgkoibbcnaaDoor
