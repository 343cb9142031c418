/- Maps of texts to numbers: what one holds, as a list. -/
import Derived.Test.YtjilfgkoibbcnaaDoorOrder
import Derived.Maps.RangeWalk
import Derived.Maps.OwnSet
import Derived.Maps.OwnOps
import Derived.Maps.OwnIn
import Derived.Sort.KeysCollected
namespace Go.Proofs.YtjilfgkoibbcnaaDoor
open Go.RowKit Go.Shelf
attribute [local go_sem] Oper.semAt_some

theorem law9 : Maps.Keyed Tryd.prog 9 := Maps.string_keyed Tryd.underlying9
def keyS (m : ByteArray) : Lit := .string m.data.toList
theorem keyS_ne {m m' : ByteArray} (h : m ≠ m') : keyS m ≠ keyS m' := fun e => h (by
  injection e with e
  have h2 := Array.toList_inj.1 e
  cases m; cases m'; simp at h2; rw [h2])
theorem key_of (m : ByteArray) (hm : m.size ≤ 1000000) : keyOf Tryd.prog 9 (.string m) = some (keyS m) := WideMaps.keyOf_string_mk Tryd.underlying9 (by unfold maxLen; omega)
theorem isKey (m : ByteArray) (hm : m.size ≤ 1000000) : WideAt.IsKeyLit (keyS m) := law9.key (key_of m hm)

/-- What a list tells of a text. -/
def getM (M : List Ent) (m : ByteArray) : Option Int := (M.find? fun x => decide (x.1 = m)).map (·.2)
def delM (M : List Ent) (m : ByteArray) : List Ent := M.filter fun x => !decide (x.1 = m)
def putM (M : List Ent) (m : ByteArray) (s : Int) : List Ent := (m, s) :: delM M m
/-- No member twice. -/
def NdM (M : List Ent) : Prop := (M.map (·.1)).Nodup

theorem find_other {M : List Ent} {m m' : ByteArray} (h : ¬ m = m') : (M.filter fun x => !decide (x.1 = m)).find? (fun x => decide (x.1 = m')) = M.find? (fun x => decide (x.1 = m')) := by
  induction M with
  | nil => rfl
  | cons x M ih =>
    by_cases e : x.1 = m
    · rw [List.filter_cons_of_neg (by simpa using e), List.find?_cons_of_neg (by simpa using fun e2 => h (e.symm.trans e2)), ih]
    · rw [List.filter_cons_of_pos (by simpa using e)]
      by_cases e2 : x.1 = m'
      · rw [List.find?_cons_of_pos (by simpa using e2), List.find?_cons_of_pos (by simpa using e2)]
      · rw [List.find?_cons_of_neg (by simpa using e2), List.find?_cons_of_neg (by simpa using e2), ih]
theorem getM_put (M : List Ent) (m m' : ByteArray) (s : Int) : getM (putM M m s) m' = if m = m' then some s else getM M m' := by
  unfold getM putM delM
  by_cases h : m = m'
  · subst h; simp
  · rw [List.find?_cons_of_neg (by simpa using h), if_neg h, find_other h]
theorem getM_del (M : List Ent) (m m' : ByteArray) : getM (delM M m) m' = if m = m' then none else getM M m' := by
  unfold getM delM
  by_cases h : m = m'
  · subst h
    rw [if_pos rfl, List.find?_eq_none.2 fun x hx => by simpa using (List.mem_filter.1 hx).2]; rfl
  · rw [if_neg h, find_other h]
theorem nd_del {M : List Ent} (h : NdM M) (m : ByteArray) : NdM (delM M m) := List.Nodup.sublist ((List.filter_sublist).map _) h
theorem nd_put {M : List Ent} (h : NdM M) (m : ByteArray) (s : Int) : NdM (putM M m s) := by
  unfold NdM putM
  rw [List.map_cons, List.nodup_cons]
  refine ⟨fun hm => ?_, nd_del h m⟩
  obtain ⟨x, hx, e⟩ := List.mem_map.1 hm
  have := (List.mem_filter.1 hx).2
  simp [e] at this
theorem getM_mem {M : List Ent} (h : NdM M) (m : ByteArray) (s : Int) : getM M m = some s ↔ (m, s) ∈ M := by
  induction M with
  | nil => simp [getM]
  | cons x M ih =>
    have h2 := List.nodup_cons.1 h
    unfold getM at *
    by_cases e : x.1 = m
    · rw [List.find?_cons_of_pos (by simpa using e)]
      constructor
      · intro h3; simp at h3; rw [← h3, ← e]; exact List.mem_cons_self
      · intro h3
        rcases List.mem_cons.1 h3 with h4 | h4
        · rw [← h4]; rfl
        · exact absurd (List.mem_map.2 ⟨_, h4, e.symm⟩) h2.1
    · rw [List.find?_cons_of_neg (by simpa using e), ih h2.2]
      constructor
      · exact List.mem_cons_of_mem _
      · intro h3
        rcases List.mem_cons.1 h3 with h4 | h4
        · exact absurd (by rw [← h4]) e
        · exact h4
theorem getM_none {M : List Ent} (m : ByteArray) : getM M m = none ↔ ∀ x ∈ M, x.1 ≠ m := by
  unfold getM
  simp [List.find?_eq_none]
theorem len_del {M : List Ent} (h : NdM M) (m : ByteArray) : (delM M m).length + (if (getM M m).isSome then 1 else 0) = M.length := by
  induction M with
  | nil => simp [delM, getM]
  | cons x M ih =>
    have h2 := List.nodup_cons.1 h
    have ih := ih h2.2
    unfold delM getM at *
    by_cases e : x.1 = m
    · have hf : M.filter (fun x => !decide (x.1 = m)) = M := List.filter_eq_self.2 fun y hy => by
        simp; intro e2; exact h2.1 (List.mem_map.2 ⟨y, hy, e2.trans e.symm⟩)
      rw [List.find?_cons_of_pos (by simpa using e), List.filter_cons_of_neg (by simpa using e), hf]
      simp
    · rw [List.find?_cons_of_neg (by simpa using e), List.filter_cons_of_pos (by simpa using e)]
      simp only [List.length_cons]
      omega

/-- What a map reads as is what a list tells. -/
structure Like (D : DataW Unit) (M : List Ent) : Prop where
  nd : NdM M
  size : Maps.size D = M.length
  has : ∀ m, Maps.has D (keyS m) = (getM M m).isSome
  at_ : ∀ m s, getM M m = some s → ∀ z, D.atKey (keyS m) z = .lit (.int .i64 s)
theorem Like.empty : Like (.map []) [] := ⟨List.nodup_nil, rfl, fun _ => rfl, fun _ _ h => by cases h⟩
theorem Like.put {D : DataW Unit} {M : List Ent} (h : Like D M) (hD : Maps.Tidy D) (m : ByteArray) (hm : m.size ≤ 1000000) (s : Int) : Like (D.put (keyS m) (.lit (.int .i64 s))) (putM M m s) where
  nd := nd_put h.nd m s
  size := by
    rw [Maps.size_put hD, h.has, h.size]
    have := len_del h.nd m
    unfold putM
    rw [List.length_cons]
    split <;> rename_i hh <;> simp [hh] at this <;> omega
  has m' := by
    rw [getM_put]
    by_cases e : m = m'
    · subst e
      rw [if_pos rfl, Maps.has_put_same hD.isMap (isKey m hm)]; rfl
    · rw [if_neg e, Maps.has_put_other (keyS_ne (Ne.symm e)), h.has]
  at_ m' s' hg z := by
    rw [getM_put] at hg
    by_cases e : m = m'
    · subst e
      rw [if_pos rfl] at hg
      cases hg
      exact Maps.atKey_put_same hD.isMap (isKey m hm) _ _
    · rw [if_neg e] at hg
      rw [Maps.atKey_put_other (keyS_ne (Ne.symm e))]
      exact h.at_ m' s' hg z
theorem Like.del {D : DataW Unit} {M : List Ent} (h : Like D M) (hD : Maps.Tidy D) (m : ByteArray) : Like (D.del (keyS m)) (delM M m) where
  nd := nd_del h.nd m
  size := by
    have h1 := Maps.size_del (k := keyS m) hD
    rw [h.has, h.size] at h1
    have := len_del h.nd m
    omega
  has m' := by
    rw [getM_del]
    by_cases e : m = m'
    · subst e
      rw [if_pos rfl, Maps.has_del_same]; rfl
    · rw [if_neg e, Maps.has_del_other (keyS_ne (Ne.symm e)), h.has]
  at_ m' s' hg z := by
    rw [getM_del] at hg
    by_cases e : m = m'
    · subst e
      rw [if_pos rfl] at hg; cases hg
    · rw [if_neg e] at hg
      rw [Maps.atKey_del_other (keyS_ne (Ne.symm e))]
      exact h.at_ m' s' hg z
/-- What a look-up tells. -/
theorem Like.look {D : DataW Unit} {M : List Ent} (h : Like D M) (m : ByteArray) {c : Int} (hc : D.atKey (keyS m) (.lit (.int .i64 0)) = .lit (.int .i64 c)) : c = (getM M m).getD 0 := by
  cases hg : getM M m with
  | none =>
    have := h.has m
    rw [hg] at this
    rw [Maps.atKey_of_not_has this] at hc
    injection hc with hc
    injection hc with _ hc
    rw [← hc]; rfl
  | some s =>
    rw [h.at_ m s hg] at hc
    injection hc with hc
    injection hc with _ hc
    rw [← hc]; rfl

theorem owns_exact {P : Program} {k : TypeId} {R : Value → Option (DataW Unit × List MemPlace)} {w : World} {b n : Nat} {D : DataW Unit} (h : w.ownsMap P k R b n D) : w.ownsMap P k R b (Maps.size D) D := by
  obtain ⟨es, clock, hb, F, hs, rfl⟩ := h
  exact ⟨es, clock, hb, F, by rw [Maps.size_eq, length_sorted]; simp, rfl⟩
/-- In memory a map lies that holds what a list tells. -/
def MapIs (W : World) (e : TypeId) (b : Nat) (M : List Ent) : Prop := ∃ D : DataW Unit, W.ownsMap Tryd.prog 9 (plainElem Tryd.prog e) b M.length D ∧ Like D M
theorem MapIs.of {W : World} {e : TypeId} {b n : Nat} {D : DataW Unit} {M : List Ent} (h : W.ownsMap Tryd.prog 9 (plainElem Tryd.prog e) b n D) (hL : Like D M) : MapIs W e b M := ⟨D, by have := owns_exact h; rwa [hL.size] at this, hL⟩
theorem MapIs.lt {W : World} {e : TypeId} {b : Nat} {M : List Ent} (h : MapIs W e b M) : b < W.heap.size := by obtain ⟨D, h1, _⟩ := h; exact h1.lt
theorem MapIs.kept {W W' : World} {e : TypeId} {b : Nat} {M : List Ent} {row : Option Nat} (h : MapIs W e b M) (hg : W.grownBy W' row) (hne : some b ≠ row) : MapIs W' e b M := by
  obtain ⟨D, h1, h2⟩ := h; exact ⟨D, h1.kept hg hne, h2⟩
theorem MapIs.later {W W' : World} {e : TypeId} {b : Nat} {M : List Ent} (h : MapIs W e b M) (hb : Below W.heap.size W W') : MapIs W' e b M := h.kept (below_grown hb) (by simp)
theorem MapIs.alloc {W : World} {e : TypeId} {b : Nat} {M : List Ent} (h : MapIs W e b M) (o : Obj) : MapIs (W.alloc o) e b M := h.later (alloc_below _ _)
theorem MapIs.blk {W : World} {e : TypeId} {b : Nat} {M : List Ent} (h : MapIs W e b M) : ∃ es c, W.heap[b]? = some (.map es c) := by obtain ⟨D, ⟨es, c, hb, _⟩, _⟩ := h; exact ⟨es, c, hb⟩
theorem MapIs.keep {W W' : World} {L : List Nat} {e : TypeId} {b : Nat} {M : List Ent} (h : MapIs W e b M) (hk : KeepC L W W') (hn : b ∉ L) : MapIs W' e b M := by
  obtain ⟨D, ⟨es, c, hb, h1⟩, h2⟩ := h
  exact ⟨D, ⟨es, c, hk.maps _ _ _ hn hb, h1⟩, h2⟩
theorem MapIs.put {W : World} {e : TypeId} {b D : Nat} {M : List Ent} {ds : Option (List Deferred)} (h : MapIs W e b M) (hD : W.heap[D]? = some (.deferred ds)) (o : Obj) : MapIs (W.putObj D o) e b M := by
  obtain ⟨DD, ⟨es, c, hb, h1⟩, h2⟩ := h
  refine ⟨DD, ⟨es, c, ?_, h1⟩, h2⟩
  have hne : b ≠ D := fun e => by subst e; rw [hb] at hD; cases hD
  exact (World.putObj_heap_other hne).trans hb
theorem MapIs.own {β : Type} (B : Nat) (e : TypeId) (b : Nat) (hb : b < B) (M : β → List Ent) : OwnFrom B (fun s W => MapIs W e b (M s)) := fun s X Y row hs hg hr => hs.kept hg (fun e => by have := (hr b e.symm).1; omega)
theorem MapIs.made (W : World) (e : TypeId) : MapIs (W.alloc (.map #[] 0)) e W.heap.size [] := MapIs.of (World.ownsMap_made _ _ _ _) Like.empty
end Go.Proofs.YtjilfgkoibbcnaaDoor
