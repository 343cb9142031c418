/- Putting into a sorted list, taking out of it: what that comes to. -/
import Derived.Test.YtjilfgkoibbcnaaDoorScores
import Derived.Test.YtjilfgkoibbcnaaDoorSortE
namespace Go.Proofs.YtjilfgkoibbcnaaDoor
open Go.RowKit Go.Shelf

def LeP (x y : Ent) : Prop := (!ltE y x) = true
def SrtE (E : List Ent) : Prop := E.Pairwise fun x y => (!ltE y x) = true

/-- Where an entry goes. -/
def posE (E : List Ent) (e : Ent) : Nat := (E.takeWhile fun x => ltE x e).length
def insE (E : List Ent) (e : Ent) : List Ent := E.take (posE E e) ++ [e] ++ E.drop (posE E e)
theorem mem_tw {α : Type} {p : α → Bool} {l : List α} {x : α} (h : x ∈ l.takeWhile p) : p x = true := by
  induction l with
  | nil => simp at h
  | cons y l ih =>
    rw [List.takeWhile_cons] at h
    split at h
    · rename_i hy
      rcases List.mem_cons.1 h with rfl | h
      · exact hy
      · exact ih h
    · simp at h
theorem take_tw {α : Type} (p : α → Bool) (l : List α) : l.take (l.takeWhile p).length = l.takeWhile p ∧ l.drop (l.takeWhile p).length = l.dropWhile p := by
  induction l with
  | nil => exact ⟨rfl, rfl⟩
  | cons y l ih =>
    cases hy : p y with
    | true =>
      rw [List.takeWhile_cons_of_pos hy, List.dropWhile_cons_of_pos hy]
      exact ⟨by rw [List.length_cons, List.take_succ_cons, ih.1], by rw [List.length_cons, List.drop_succ_cons, ih.2]⟩
    | false =>
      rw [List.takeWhile_cons_of_neg (by simp [hy]), List.dropWhile_cons_of_neg (by simp [hy])]
      exact ⟨rfl, rfl⟩
theorem dw_head {α : Type} (p : α → Bool) (l : List α) (y : α) (ys : List α) (h : l.dropWhile p = y :: ys) : p y = false := by
  induction l with
  | nil => simp at h
  | cons z l ih =>
    rw [List.dropWhile_cons] at h
    split at h
    · exact ih h
    · rename_i hz
      cases h
      simpa using hz
theorem take_pos (E : List Ent) (e : Ent) : E.take (posE E e) = E.takeWhile fun x => ltE x e := (take_tw _ E).1
theorem drop_pos (E : List Ent) (e : Ent) : E.drop (posE E e) = E.dropWhile fun x => ltE x e := (take_tw _ E).2
theorem pos_le (E : List Ent) (e : Ent) : posE E e ≤ E.length := (List.takeWhile_sublist _).length_le
theorem pos_spec (E : List Ent) (e : Ent) (k : Nat) (x : Ent) (hx : E[k]? = some x) (hk : k ≤ posE E e) : ltE x e = decide (k < posE E e) := by
  obtain ⟨hlt, rfl⟩ := List.getElem?_eq_some_iff.1 hx
  by_cases h : k < posE E e
  · rw [decide_eq_true h]
    have hm : E[k] ∈ E.takeWhile fun x => ltE x e := by
      rw [← take_pos]
      exact List.mem_take_iff_getElem.2 ⟨k, by omega, rfl⟩
    exact (mem_tw (p := fun x => ltE x e) hm)
  · rw [decide_eq_false h]
    have he : k = posE E e := by omega
    have hd := drop_pos E e
    rw [← he, List.drop_eq_getElem_cons hlt] at hd
    exact dw_head (fun x => ltE x e) E _ _ hd.symm
theorem ins_perm (E : List Ent) (e : Ent) : (insE E e).Perm (e :: E) := by
  unfold insE
  rw [List.append_assoc]
  show (E.take (posE E e) ++ e :: E.drop (posE E e)).Perm (e :: E)
  refine (List.perm_middle).trans ?_
  rw [List.take_append_drop]
theorem ins_sorted {E : List Ent} (h : SrtE E) (e : Ent) : SrtE (insE E e) := by
  have hE : E.take (posE E e) ++ E.drop (posE E e) = E := List.take_append_drop _ _
  have h0 : SrtE (E.take (posE E e) ++ E.drop (posE E e)) := by rw [hE]; exact h
  obtain ⟨h1, h2, h3⟩ := List.pairwise_append.1 h0
  have hlow : ∀ x ∈ E.take (posE E e), ltE x e = true := fun x hx => by
    rw [take_pos] at hx
    exact mem_tw (p := fun x => ltE x e) hx
  have hhigh : ∀ x ∈ E.drop (posE E e), (!ltE x e) = true := by
    cases hd : E.drop (posE E e) with
    | nil => intro x hx; simp at hx
    | cons y ys =>
      have hy : ltE y e = false := by
        rw [drop_pos] at hd
        exact dw_head (fun x => ltE x e) E _ _ hd
      rw [hd] at h2
      intro x hx
      rcases List.mem_cons.1 hx with rfl | hx
      · rw [hy]; rfl
      · exact leE_trans e y x (by rw [hy]; rfl) ((List.pairwise_cons.1 h2).1 x hx)
  unfold insE
  rw [List.append_assoc]
  refine List.pairwise_append.2 ⟨h1, List.pairwise_cons.2 ⟨hhigh, h2⟩, fun a ha b hb => ?_⟩
  rcases List.mem_cons.1 (show b ∈ e :: E.drop (posE E e) from hb) with rfl | hb
  · rw [ltE_asymm (hlow a ha)]; rfl
  · exact h3 a ha b hb
theorem ins_sortS (L : List Ent) (e : Ent) : insE (sortS L) e = sortS (e :: L) :=
  sorted_eq (ins_sorted (sortS_sorted L) e) (sortS_sorted _) ((ins_perm _ _).trans ((List.Perm.cons _ (sortS_perm L)).trans (sortS_perm _).symm))

theorem own_nil (w : World) (n0 : Nat) : Own w n0 (.slice none 0 0) [] := ⟨rfl, .inl ⟨rfl, rfl⟩⟩
/-- Where a member is, or -1. -/
def whereE (E : List Ent) (m : ByteArray) : Int := match E.findIdx? (fun x => decide (x.1 = m)) with | some k => k | none => -1
theorem nd_perm {L M : List Ent} (h : L.Perm M) (hM : NdM M) : NdM L := (List.Perm.nodup_iff (h.map (fun x : Ent => x.1))).2 hM
theorem nd_sortS {M : List Ent} (h : NdM M) : NdM (sortS M) := nd_perm (sortS_perm M) h
theorem getM_perm {L M : List Ent} (h : L.Perm M) (hM : NdM M) (m : ByteArray) : getM L m = getM M m := by
  have hL := nd_perm h hM
  cases hg : getM M m with
  | none => exact (getM_none m).2 fun x hx => (getM_none m).1 hg x (h.mem_iff.1 hx)
  | some s => exact (getM_mem hL m s).2 (h.mem_iff.2 ((getM_mem hM m s).1 hg))
theorem whereE_none {E : List Ent} {m : ByteArray} (h : getM E m = none) : whereE E m = -1 := by
  unfold whereE
  rw [List.findIdx?_eq_none_iff.2 fun x hx => by simpa using (getM_none m).1 h x hx]
theorem whereE_some {E : List Ent} (hE : NdM E) {m : ByteArray} {s : Int} (h : getM E m = some s) : ∃ k : Nat, k < E.length ∧ whereE E m = k ∧ E[k]? = some (m, s) ∧ E.take k ++ E.drop (k + 1) = delM E m := by
  have hm := (getM_mem hE m s).1 h
  have hs : (E.findIdx? (fun x => decide (x.1 = m))).isSome := by
    rw [List.findIdx?_isSome, List.any_eq_true]
    exact ⟨(m, s), hm, by simp⟩
  obtain ⟨k, hk⟩ := Option.isSome_iff_exists.1 hs
  obtain ⟨hlt, hp, _⟩ := List.findIdx?_eq_some_iff_getElem.1 hk
  have hkm : E[k].1 = m := by simpa using hp
  have hks : E[k] = (m, s) := by
    have h2 : getM E m = some E[k].2 := (getM_mem hE m _).2 (by
      have := List.getElem_mem hlt
      rw [← hkm]
      exact this)
    rw [h] at h2
    cases h2
    rw [← hkm]
  have hcut : E = E.take k ++ E[k] :: E.drop (k + 1) := by rw [← List.drop_eq_getElem_cons hlt, List.take_append_drop]
  refine ⟨k, hlt, by unfold whereE; rw [hk], by rw [List.getElem?_eq_getElem hlt, hks], ?_⟩
  have hnd : (E.take k ++ E[k] :: E.drop (k + 1)).map (·.1) |>.Nodup := by rw [← hcut]; exact hE
  rw [List.map_append, List.map_cons, List.nodup_append] at hnd
  obtain ⟨n1, n2, n3⟩ := hnd
  unfold delM
  conv => rhs; rw [hcut]
  rw [List.filter_append, List.filter_cons_of_neg (by simp [hkm])]
  congr 1
  · refine (List.filter_eq_self.2 fun x hx => ?_).symm
    have : x.1 ≠ E[k].1 := n3 _ (List.mem_map_of_mem hx) _ (by simp)
    rw [hkm] at this
    simpa using this
  · refine (List.filter_eq_self.2 fun x hx => ?_).symm
    have : x.1 ≠ E[k].1 := fun e => (List.nodup_cons.1 n2).1 (by rw [← e]; exact List.mem_map_of_mem hx)
    rw [hkm] at this
    simpa using this
theorem del_none {M : List Ent} {m : ByteArray} (h : getM M m = none) : delM M m = M := by
  unfold delM
  exact List.filter_eq_self.2 fun x hx => by simpa using (getM_none m).1 h x hx
theorem del_sortS (M : List Ent) (m : ByteArray) : delM (sortS M) m = sortS (delM M m) :=
  sorted_eq ((sortS_sorted M).sublist List.filter_sublist) (sortS_sorted _) (((sortS_perm M).filter _).trans (sortS_perm _).symm)
theorem ins_put (M : List Ent) (m : ByteArray) (s : Int) : insE (sortS (delM M m)) (m, s) = sortS (putM M m s) := ins_sortS _ _
end Go.Proofs.YtjilfgkoibbcnaaDoor
