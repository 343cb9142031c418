/- Sorting entries of one's own by their order. -/
import Derived.Test.YtjilfgkoibbcnaaDoorScores
import Derived.Test.YtjilfgkoibbcnaaDoorShelf
import Derived.Sort.OwnSorted
namespace Go.Proofs.YtjilfgkoibbcnaaDoor
open Go.RowKit Go.Shelf Go.Sort
attribute [local go_sem] Oper.semAt_some

theorem ba_ext {a b : ByteArray} (h : a.data.toList = b.data.toList) : a = b := by
  have := Array.toList_inj.1 h
  cases a; cases b; simp at this; rw [this]
theorem ltE_irrefl (x : Ent) : ltE x x = false := by simp [ltE]
theorem ltE_iff (x y : Ent) : ltE x y = true ↔ (x.2 < y.2 ∨ x.2 = y.2 ∧ x.1.data.toList < y.1.data.toList) := by simp [ltE]
theorem ltE_trans {x y z : Ent} (h1 : ltE x y = true) (h2 : ltE y z = true) : ltE x z = true := by
  rw [ltE_iff] at *
  rcases h1 with h1 | ⟨h1, h3⟩ <;> rcases h2 with h2 | ⟨h2, h4⟩
  · exact .inl (by omega)
  · exact .inl (by omega)
  · exact .inl (by omega)
  · exact .inr ⟨by omega, List.lt_trans h3 h4⟩
theorem ltE_tri (x y : Ent) : ltE x y = true ∨ x = y ∨ ltE y x = true := by
  rw [ltE_iff, ltE_iff]
  by_cases h1 : x.2 < y.2
  · exact .inl (.inl h1)
  · by_cases h2 : y.2 < x.2
    · exact .inr (.inr (.inl h2))
    · have h3 : x.2 = y.2 := by omega
      by_cases h4 : x.1.data.toList < y.1.data.toList
      · exact .inl (.inr ⟨h3, h4⟩)
      · by_cases h5 : y.1.data.toList < x.1.data.toList
        · exact .inr (.inr (.inr ⟨h3.symm, h5⟩))
        · have h6 : x.1.data.toList = y.1.data.toList := by
            exact List.le_antisymm (List.not_lt.1 h5) (List.not_lt.1 h4)
          exact .inr (.inl (Prod.ext (ba_ext h6) h3))
theorem ltE_asymm {x y : Ent} (h : ltE x y = true) : ltE y x = false := by
  cases h2 : ltE y x with
  | false => rfl
  | true => have := ltE_trans h h2; rw [ltE_irrefl] at this; cases this
theorem ltOf_cmpE : ltOf cmpE = ltE := by
  funext x y
  unfold ltOf cmpE
  cases h : ltE x y with
  | true => rfl
  | false => cases h2 : ltE y x <;> rfl
theorem swoE : SWO ltE where
  irrefl := ltE_irrefl
  trans _ _ _ := ltE_trans
  ntrans x y z h1 h2 := by
    rcases ltE_tri x z with h | h | h
    · rcases ltE_tri y z with h3 | h3 | h3
      · rw [h3] at h2; cases h2
      · rw [h3, h] at h1; cases h1
      · have := ltE_trans h h3; rw [h1] at this; cases this
    · rw [h]; exact ltE_irrefl z
    · exact ltE_asymm h
/-- Entries in their order. -/
def sortS (l : List Ent) : List Ent := l.mergeSort fun x y => !ltE y x
theorem sortS_perm (l : List Ent) : (sortS l).Perm l := List.mergeSort_perm _ _
theorem leE_trans (a b c : Ent) (h1 : (!ltE b a) = true) (h2 : (!ltE c b) = true) : (!ltE c a) = true := by
  simp only [Bool.not_eq_true'] at *
  exact swoE.ntrans _ _ _ h2 h1
theorem leE_total (a b : Ent) : (!ltE b a || !ltE a b) = true := by
  cases h : ltE b a with
  | false => rfl
  | true => rw [ltE_asymm h]; rfl
theorem sortS_sorted (l : List Ent) : (sortS l).Pairwise (fun x y => (!ltE y x) = true) := List.pairwise_mergeSort leE_trans leE_total l
theorem leE_anti {a b : Ent} (h1 : (!ltE b a) = true) (h2 : (!ltE a b) = true) : a = b := by
  simp only [Bool.not_eq_true'] at *
  rcases ltE_tri a b with h | h | h
  · rw [h] at h2; cases h2
  · exact h
  · rw [h] at h1; cases h1
theorem sorted_eq {l l' : List Ent} (h1 : l.Pairwise (fun x y => (!ltE y x) = true)) (h2 : l'.Pairwise (fun x y => (!ltE y x) = true)) (hp : l.Perm l') : l = l' :=
  List.Perm.eq_of_pairwise (fun _ _ _ _ => leE_anti) h1 h2 hp
theorem sortS_of_perm {l l' : List Ent} (h : l.Perm l') : sortS l = sortS l' := sorted_eq (sortS_sorted _) (sortS_sorted _) (((sortS_perm _).trans h).trans (sortS_perm _).symm)

def encL (e : Ent) : List Value := [.string e.1, .int .i64 e.2]
theorem flat_cells (l : List Ent) : flatK encL 2 l.toArray = (cellsE l).toArray := by
  refine ext_get! (by simp [cellsE_length]) fun t ht => ?_
  have ht' : t < l.length * 2 := by simpa using ht
  rw [get_flatK _ _ _ t (by simpa using ht')]
  have hi : t / 2 < l.length := by omega
  obtain ⟨c0, c1⟩ := cellsE_at l (t / 2) l[t / 2] (List.getElem?_eq_getElem hi)
  have e1 : l.toArray[t / 2]! = l[t / 2] := by simp [hi]
  rw [e1]
  have h2 : t % 2 = 0 ∨ t % 2 = 1 := by omega
  have hlt : t < (cellsE l).toArray.size := by simp [cellsE_length]; omega
  rw [getElem!_pos _ t hlt]
  rcases h2 with h2 | h2
  · rw [show t / 2 * 2 = t by omega] at c0
    rw [h2, List.getElem_toArray, (List.getElem?_eq_some_iff.1 c0).2]
    rfl
  · rw [show t / 2 * 2 + 1 = t by omega] at c1
    rw [h2, List.getElem_toArray, (List.getElem?_eq_some_iff.1 c1).2]
    rfl
theorem heap_sortedE {w : World} {g n : Nat} {os : Array Obj} {cur : Array Value} {e : TypeId} {fr : Nat × Nat} (d : Array Value) (hb : w.heap[g]? = some (.cells cur e fr)) :
    (grow (putRow id (Sort.ahead w n) g 0 d) os).heap[g]? = some (.cells (putCells id 0 d cur) e fr) := by
  have hg : g < w.heap.size := (Array.getElem?_eq_some_iff.1 hb).1
  rw [heap_grow_old _ _ (by simpa using hg)]
  simp [putRow, mapBlock, Sort.ahead, Array.getElem?_modify, hb, onCells]
theorem grownBy_sortedE {w : World} {g n : Nat} {os : Array Obj} (d : Array Value) : w.grownBy (grow (putRow id (Sort.ahead w n) g 0 d) os) (some g) := by
  refine ⟨rfl, rfl, rfl, by simp, fun k hk hne => ?_⟩
  rw [heap_grow_old _ _ (by simpa using hk)]
  have : g ≠ k := fun e => hne (by rw [e])
  simp [putRow, mapBlock, Sort.ahead, Array.getElem?_modify, this]
theorem take_putCellsE (cur : Array Value) (ts : List Value) (h : ts.length ≤ cur.size) : (putCells id 0 ts.toArray cur).toList.take ts.length = ts := by
  apply List.ext_getElem?
  intro j
  by_cases hj : j < ts.length
  · rw [List.getElem?_take_of_lt hj, Array.getElem?_toList]
    simp [putCells, hj, show j < cur.size by omega]
  · rw [List.getElem?_take_eq_none (by omega), List.getElem?_eq_none (by omega)]

theorem boxed2_grow (W : World) (x y : Ent) : boxed2 W x y = grow W #[.cells #[.string x.1, .int .i64 x.2] 38, .cells #[.string y.1, .int .i64 y.2] 38] := by
  unfold boxed2
  rw [alloc_eq_grow, alloc_eq_grow, grow_grow]; rfl
theorem cmpLaysE (blk off size : Nat) (w : World) : CmpLays Tryd.prog 44 #[] encL 2 cmpE blk off size w := fun m os dk _ x y => by
  refine (order_any x y _).mono ?_
  rintro e w' ⟨rfl, hw⟩
  refine ⟨rfl, 0, ?_⟩
  show ∃ os', w' = grow (sortWorldK encL 2 w blk off m dk os) os'
  rcases hw with rfl | rfl
  · exact ⟨_, by rw [boxed2_grow, boxed2_grow, grow_grow]⟩
  · exact ⟨_, by rw [boxed2_grow, boxed2_grow, boxed2_grow, grow_grow, grow_grow]⟩

/-- slices.SortFunc of entries of one's own. -/
theorem sort_any (v : Value) (n0 : Nat) (l : List Ent) (hl : l.length ≤ 1000000000) (w : World) (hO : Own w n0 v l) :
    Calls Tryd.prog 43 #[v, .func (.func 44) #[] #[]] w fun e w' => e = .returned (.tuple #[]) ∧ Own w' n0 v (sortS l) ∧ w.grownBy w' v.ownBlock := by
  rcases hO.2 with ⟨rfl, h0⟩ | ⟨g, cap, cur, rfl, hbase, hb, h1, h2, h3, h4⟩
  · have := AnyF.slices_SortFunc_none Tryd.sortE none 0 (.func (.func 44) #[] #[]) w
    change Calls Tryd.prog 43 _ _ _ at this
    refine this.mono ?_
    rintro e w' ⟨rfl, rfl⟩
    obtain rfl : l = [] := List.length_eq_zero_iff.1 h0
    exact ⟨rfl, by simpa [sortS] using hO, World.grownBy.refl _ _⟩
  · have eg : ∀ args w, (callFunc 44 args).run Tryd.prog w = .ok (.enter 44 args) w := enters_of Tryd.func44 (by kernel_rfl) rfl
    have hH : HoldsK encL 2 w g 0 l.toArray := by
      unfold HoldsK
      rw [flat_cells]
      intro j hj
      have hj' : j < (cellsE l).length := by simpa using hj
      refine ⟨?_, by simp [World.frozen?, hb]⟩
      have h5 : (cur.toList.take (l.length * 2))[j]? = (cellsE l)[j]? := by rw [h4]
      rw [List.getElem?_take_of_lt (by rw [cellsE_length] at hj'; exact hj')] at h5
      simp only [World.cell?, hb, Nat.zero_add]
      simp only [Option.isSome_none, Bool.false_eq_true, if_false]
      rw [← Array.getElem?_toList, h5]
      simp [hj']
    have hgl : g < w.heap.size := (Array.getElem?_eq_some_iff.1 hb).1
    have := AnyQ.slices_SortFunc_total Tryd.sortE 2 Tryd.isAgg38 Tryd.sizeOf38 encL (fun _ => rfl) (fun x v hv => by simp [encL] at hv; rcases hv with rfl | rfl <;> rfl) cmpE (by rw [ltOf_cmpE]; exact swoE) 44 #[] g 0 cap l.toArray w eg (cmpLaysE g 0 _ w) hH hgl (by simp; omega)
      (fun x y h1 h2 => by rw [ltOf_cmpE] at h1 h2; exact leE_anti (by rw [h2]; rfl) (by rw [h1]; rfl))
    change Calls Tryd.prog 43 _ _ _ at this
    rw [ltOf_cmpE] at this
    have hs : (l.mergeSort fun x y => !ltE y x) = sortS l := rfl
    simp only [hs, sortWorldK, putRowK, flat_cells, List.size_toArray] at this
    refine this.mono ?_
    rintro e w' ⟨rfl, n, os, rfl⟩
    have hlen : (sortS l).length = l.length := (sortS_perm l).length_eq
    refine ⟨rfl, ?_, grownBy_sortedE _⟩
    unfold Own
    rw [hlen]
    refine ⟨by rw [cellsE_length, hlen], .inr ⟨g, cap, _, rfl, hbase, heap_sortedE _ hb, h1, h2, by simp [putCells, h3], ?_⟩⟩
    rw [show l.length * 2 = (cellsE (sortS l)).length by rw [cellsE_length, hlen]]
    exact take_putCellsE cur _ (by rw [cellsE_length, hlen, h3]; omega)
end Go.Proofs.YtjilfgkoibbcnaaDoor
