/- What the laws share. -/
import Derived.Test.YtjilfgkoibbcnaaDoorShown
import Derived.Test.YtjilfgkoibbcnaaDoorFold
namespace Go.Proofs.YtjilfgkoibbcnaaDoor
open Go.RowKit Go.Shelf

/-- Sets that came in. -/
def In (ls : List (List Ent)) : Prop := ls.length ≤ 9223372036854775807 ∧ ∀ l ∈ ls, l.length ≤ 9223372036854775807 ∧ ∀ e ∈ l, e.1.size ≤ 9223372036854775807 ∧ I64 e.2
theorem few_facts {l : List Ent} (h : ∀ e ∈ l, I64 e.2) : (fewL l).length ≤ 30 ∧ ∀ e ∈ fewL l, e.1.size ≤ 10 ∧ I64 e.2 := by
  refine ⟨by unfold fewL; rw [List.length_map, List.length_take]; omega, fun e he => ?_⟩
  unfold fewL at he
  obtain ⟨x, hx, rfl⟩ := List.mem_map.1 he
  refine ⟨?_, h x (List.mem_of_mem_take hx)⟩
  show (x.1.extract 0 (min x.1.size 10)).size ≤ 10
  rw [ByteArray.size_extract]
  omega
theorem mem_sortP {l : List Ent} {e : Ent} (h : e ∈ sortP l) : e ∈ l := mem_scores l e ((sortS_perm _).mem_iff.1 h)
theorem one_facts (b : Bool) {l : List Ent} (h : ∀ e ∈ l, I64 e.2) : (fewOne b l).length ≤ 30 ∧ ∀ e ∈ fewOne b l, e.1.size ≤ 10 ∧ I64 e.2 := by
  cases b with
  | false => exact few_facts h
  | true => exact ⟨Nat.le_trans (sortP_len _) (few_facts h).1, fun e he => (few_facts h).2 e (mem_sortP he)⟩
theorem ok_few (b : Bool) {ls : List (List Ent)} (h : In ls) : OkS (fewP b ls) := by
  refine ⟨by unfold fewP; rw [List.length_map, List.length_take]; omega, fun l hl => ?_⟩
  unfold fewP at hl
  obtain ⟨x, hx, rfl⟩ := List.mem_map.1 hl
  obtain ⟨h1, h2⟩ := one_facts b (fun e he => ((h.2 x (List.mem_of_mem_take hx)).2 e he).2)
  exact ⟨by omega, by omega, fun e he => ⟨by have := (h2 e he).1; omega, (h2 e he).2⟩⟩
theorem good_few {ls : List (List Ent)} : ∀ l ∈ fewP true ls, Good l := fun l hl => by
  unfold fewP at hl
  obtain ⟨x, _, rfl⟩ := List.mem_map.1 hl
  exact good_sortP _
theorem num_few (b : Bool) {ls : List (List Ent)} (h : In ls) : ∀ l ∈ fewP b ls, ∀ e ∈ l, I64 e.2 := fun l hl e he => ((ok_few b h).2 l hl).2.2 e he |>.2

theorem getM_i64 {S : List Ent} (hn : NdM S) (h : ∀ e ∈ S, I64 e.2) {m : ByteArray} {s : Int} (hg : getM S m = some s) : I64 s := h (m, s) ((getM_mem hn m s).1 hg)
theorem step_first {g : Nat} {ws : List Int} {i : Nat} {s : Int} (hw : ws.getD i 0 = 1) (hs : I64 s) : stepV g ws (some none) (i, s) = some (some s) := by
  unfold stepV
  simp only [hw]
  rw [if_pos (one_i64 hs).1, (one_i64 hs).2]
/-- Of one set: itself. -/
theorem fm_one (g : Nat) (ws : List Int) (hw : ws.getD 0 0 = 1) {S : List Ent} (hS : Good S) (h64 : ∀ e ∈ S, I64 e.2) (least : Int) (hl : least ≤ 1) (r : List (List Ent)) (hr : ∀ l ∈ r, l = []) (m : ByteArray) :
    fm g ws (sharedS least (S :: r)) m = some (getM S m) := by
  rw [fm_shared g ws least (fun l hl => by rcases List.mem_cons.1 hl with rfl | h; exact hS.nd; rw [hr l h]; exact List.nodup_nil)]
  have hv : ∀ p, valsFrom m p r = [] := by
    clear hl
    induction r with
    | nil => intro p; rfl
    | cons l r ih =>
      intro p
      rw [valsFrom, ih (fun l hl => hr l (List.mem_cons_of_mem _ hl)), hr l List.mem_cons_self]
      rfl
  rw [valsFrom, hv, List.append_nil]
  cases hg : getM S m with
  | none =>
    simp only [List.length_nil, List.foldl_nil]
    split <;> rfl
  | some s =>
    simp only [List.length_singleton]
    rw [if_pos (by omega), List.foldl_cons, List.foldl_nil, step_first hw (getM_i64 hS.nd h64 hg)]
theorem mix_one {agg : Int} (ha : agg = 1 ∨ agg = 2 ∨ agg = 3) {ws : List Int} (hw : ws.getD 0 0 = 1) {S : List Ent} (hS : Good S) (h64 : ∀ e ∈ S, I64 e.2) (least : Int) (hl : least ≤ 1) (r : List (List Ent)) (hr : ∀ l ∈ r, l = []) (hn : ws.length = (S :: r).length) : mixP agg ws least (S :: r) = (S, 0) := by
  rw [mixP_some ha hn (rights_good (by simp) fun l hl => by rcases List.mem_cons.1 hl with rfl | h; exact hS; rw [hr l h]; exact good_nil), told_is hS.nd (fm_one agg.toNat ws hw hS h64 least hl r hr), hS.sortS]
theorem seq_nils (r : List (List Ent)) (hr : ∀ l ∈ r, l = []) : ∀ p, seqFrom p r = [] := by
  induction r with
  | nil => intro p; rfl
  | cons l r ih =>
    intro p
    rw [seqFrom, ih (fun l hl => hr l (List.mem_cons_of_mem _ hl)), hr l List.mem_cons_self]
    rfl
theorem diff_one {S : List Ent} (hS : Good S) (r : List (List Ent)) (hr : ∀ l ∈ r, l = []) : diffP (S :: r) = (S, 0) := by
  rw [diffP_some (rights_good (by simp) fun l hl => by rcases List.mem_cons.1 hl with rfl | h; exact hS; rw [hr l h]; exact good_nil)]
  unfold seqOf
  rw [seq_nils r hr]
  show (sortS (scoresM S), (0 : Int)) = _
  rw [show sortS (scoresM S) = sortP S from rfl, hS.sortP]
/-- What only the second set could bring is missed. -/
theorem inter_nil {S : List Ent} (hS : Good S) : mixP 1 [1, 1] 2 [S, []] = ([], 0) := by
  have hnd : ∀ l ∈ [S, []], NdM l := fun l hl => by
    rcases List.mem_cons.1 hl with rfl | h
    · exact hS.nd
    · rw [List.mem_singleton.1 h]; exact List.nodup_nil
  rw [mixP_some (.inl rfl) rfl (rights_good (by simp) fun l hl => by rcases List.mem_cons.1 hl with rfl | h; exact hS; rw [List.mem_singleton.1 h]; exact good_nil),
    told_is (L := []) List.nodup_nil fun m => by
      rw [fm_shared _ _ _ hnd, if_neg]
      · rfl
      · rw [valsFrom, valsFrom, valsFrom]
        cases getM S m <;> simp [getM]]
  rw [good_nil.sortS]

/-- One list handed on as a list of lists. -/
theorem setsE_one {W : World} {a : Option Addr} {l : List Ent} {c : Nat} (h : Ents W a l) : SetsE (W.alloc (.cells #[.slice a l.length c] 26)) (some ⟨W.heap.size, 0, none⟩) [l] := fun k hk => by
  obtain rfl : k = 0 := by simp at hk; omega
  exact ⟨_, 0, a, c, rfl, (Blk.new W 26 #[.slice a l.length c]).cell 0, h.below (alloc_below _ _)⟩
theorem setsE_two {W : World} {a b : Option Addr} {l m : List Ent} {c d : Nat} (h : Ents W a l) (h2 : Ents W b m) : SetsE (W.alloc (.cells #[.slice a l.length c, .slice b m.length d] 26)) (some ⟨W.heap.size, 0, none⟩) [l, m] := fun k hk => by
  have : k = 0 ∨ k = 1 := by simp at hk; omega
  rcases this with rfl | rfl
  · exact ⟨_, 0, a, c, rfl, (Blk.new W 26 #[.slice a l.length c, .slice b m.length d]).cell 0, h.below (alloc_below _ _)⟩
  · exact ⟨_, 0, b, d, rfl, (Blk.new W 26 #[.slice a l.length c, .slice b m.length d]).cell 1, h2.below (alloc_below _ _)⟩
theorem SetsO.fresh {W : World} {n0 k : Nat} {v : Value} {ls : List (List Ent)} (h : SetsO W n0 v ls) (e : v.ownBlock = some k) : n0 ≤ k := by
  obtain ⟨vs, h1, _⟩ := h
  exact (World.ownsRow.lt h1 k e).1
end Go.Proofs.YtjilfgkoibbcnaaDoor
