/- ScanTells: a scan tells what the reference's scan tells; ahead of it the relation of the two dicts, and an act on both. -/
import Derived.Test.YtlfhiolkbnhinaaDoorRefB
import Derived.Test.YtlfhiolkbnhinaaDoorRefC
import Derived.Test.YtlfhiolkbnhinaaDoorLike
import Derived.Test.YtlfhiolkbnhinaaDoorRefA
import Derived.Deep.CutBlock
import Derived.Deep.DeepCutAuto
import Derived.Deep.LoopGhost
import Derived.Test.YtlfhiolkbnhinaaDoorRefKin
import Derived.Test.YtlfhiolkbnhinaaDoorScan
import Derived.Test.YtlfhiolkbnhinaaDoorRefNext
import Derived.Test.YtlfhiolkbnhinaaDoorActed
import Derived.Test.YtlfhiolkbnhinaaDoorTexts
import Derived.Test.YtlfhiolkbnhinaaDoorShown
/- Texts of one kind in one: Rbkt, Rrow, Rmove, Rrun, Rset, Rupd, Rhit, Rboth. -/
/- The reference's Bucket of a slot that is none. -/
namespace Go.Proofs.YtlfhiolkbnhinaaDoor
open Go.RowKit Go.Shelf
attribute [local go_sem] Oper.semAt_some

section
variable {S : Nat → Prop} {p seed : Nat} {R : Rd} {w : World}
set_option maxRecDepth 100000 in
theorem refbucket_out (h : RRep w p S seed R) (t s : Int) (hr : t < 0 ∨ 1 < t ∨ s < 0 ∨ (t = 0 ∧ (R.A : Int) ≤ s) ∨ (t = 1 ∧ (R.B : Int) ≤ s)) :
    Calls Tryd.prog 40 #[.pointer (some ⟨p, 0, none⟩), .int .i64 t, .int .i64 s] w fun e w' => e = .returned (.tuple #[.slice none 0 0, .int .i64 2]) ∧ w' = w := by
  obtain ⟨v, hm, _⟩ := h
  obtain ⟨c0, c1, c2, c3, c4, f0⟩ := ref_facts hm
  clear hm
  by_cases h1 : t = 1
  · subst h1
    have hr2 : s < 0 ∨ (0 ≤ s ∧ (R.B : Int) ≤ s) := by omega
    clear hr
    rcases hr2 with h2 | ⟨h2, h3⟩
    all_goals (
      go_enter Tryd.func40, Tryd.ntmps40
      go_wp2
      go_returns
      exact ⟨rfl, rfl⟩)
  · have h1b : (t == 1) = false := by rw [beq_eq_false_iff_ne]; exact h1
    have hr2 : t < 0 ∨ (0 ≤ t ∧ 1 < t) ∨ (0 ≤ t ∧ t ≤ 1 ∧ s < 0) ∨ (0 ≤ t ∧ t ≤ 1 ∧ 0 ≤ s ∧ (R.A : Int) ≤ s) := by omega
    clear hr h1
    rcases hr2 with h2 | ⟨h2, h3⟩ | ⟨h2, h3, h4⟩ | ⟨h2, h3, h4, h5⟩
    all_goals (
      go_enter Tryd.func40, Tryd.ntmps40
      go_wp2
      go_returns
      exact ⟨rfl, rfl⟩)
end
end Go.Proofs.YtlfhiolkbnhinaaDoor
/- A row of a table is what of the table's nodes fits the slot. -/
namespace Go.Proofs.YtlfhiolkbnhinaaDoor
open Go.RowKit Go.Shelf

theorem row_fits (rows : List (List Nd)) (n : Nat) (hf : ∀ (i : Nat) (r : List Nd), rows[i]? = some r → ∀ x ∈ r, x.sum % n = i) (i : Nat) (hi : i < rows.length) :
    (rows.getD i []).Perm (rows.flatten.filter fun x => decide (x.sum % n = i)) ∧ (rows.set i []).flatten.Perm (rows.flatten.filter fun x => !decide (x.sum % n = i)) := by
  have hp := self_perm rows i hi
  have hg : rows[i]? = some (rows.getD i []) := by rw [List.getD_eq_getElem?_getD, List.getElem?_eq_getElem hi]; rfl
  have h1 : ∀ x ∈ rows.getD i [], x.sum % n = i := hf i _ hg
  have h2 : ∀ x ∈ (rows.set i []).flatten, ¬ x.sum % n = i := fun x hx => by
    obtain ⟨r, hr, hx⟩ := List.mem_flatten.1 hx
    obtain ⟨k, hk, rfl⟩ := List.getElem_of_mem hr
    rw [List.getElem_set] at hx
    split at hx
    · simp at hx
    · rename_i hne
      rw [List.length_set] at hk
      have := hf k _ (List.getElem?_eq_getElem hk) x hx
      omega
  constructor
  · refine List.Perm.trans ?_ (hp.filter _).symm
    rw [List.filter_append, List.filter_eq_self.2 (fun x hx => by simpa using h1 x hx), List.filter_eq_nil_iff.2 (fun x hx => by simpa using h2 x hx), List.append_nil]
  · refine List.Perm.trans ?_ (hp.filter _).symm
    rw [List.filter_append, List.filter_eq_nil_iff.2 (fun x hx => by simpa using h1 x hx), List.filter_eq_self.2 (fun x hx => by simpa using h2 x hx), List.nil_append]

def Nd.tri (x : Nd) : ByteArray × Value × Nat := (x.key, x.v, x.sum)
def Rn.tri (x : Rn) : ByteArray × Value × Nat := (x.key, .int .i64 x.v, x.sum)
/-- The dict's tables hold what the reference's list says. -/
structure Alike (D : Dc) (R : Rd) : Prop where
  shape : R.shape = D.shape
  a : (D.a.flatten.map Nd.tri).Perm ((R.L.filter fun x => !x.nx).map Rn.tri)
  b : (D.b.flatten.map Nd.tri).Perm ((R.L.filter fun x => x.nx).map Rn.tri)
/-- What fits a slot, there and there. -/
theorem fits_perm {l : List Nd} {r : List Rn} (h : (l.map Nd.tri).Perm (r.map Rn.tri)) (p : Nat → Bool) : ((l.filter fun x => p x.sum).map Nd.tri).Perm ((r.filter fun x => p x.sum).map Rn.tri) := by
  have h2 := h.filter fun t => p t.2.2
  rw [List.filter_map, List.filter_map] at h2
  exact h2
end Go.Proofs.YtlfhiolkbnhinaaDoor
/- One slot moves, there and there. -/
namespace Go.Proofs.YtlfhiolkbnhinaaDoor
open Go.RowKit Go.Shelf

theorem mark_tri (A At : Nat) (x : Rn) : (x.mark A At).tri = x.tri := by unfold Rn.mark; split <;> rfl
theorem mark_nx (A At : Nat) (x : Rn) : (x.mark A At).nx = (x.nx || decide (x.sum % A = At)) := by
  unfold Rn.mark
  split
  · rename_i h; simp [h]
  · rename_i h; simp [h]
theorem marked_off (A At : Nat) (L : List Rn) : ((L.map (Rn.mark A At)).filter fun x => !x.nx).map Rn.tri = ((L.filter fun x => !x.nx).filter fun x => !decide (x.sum % A = At)).map Rn.tri := by
  induction L with
  | nil => rfl
  | cons x L ih =>
    rw [List.map_cons, List.filter_cons, List.filter_cons, mark_nx]
    cases h1 : x.nx <;> cases h2 : decide (x.sum % A = At) <;> simp_all [mark_tri]
theorem marked_on (A At : Nat) (L : List Rn) : (((L.map (Rn.mark A At)).filter fun x => x.nx).map Rn.tri).Perm (((L.filter fun x => !x.nx).filter fun x => decide (x.sum % A = At)).map Rn.tri ++ (L.filter fun x => x.nx).map Rn.tri) := by
  induction L with
  | nil => exact List.Perm.refl _
  | cons x L ih =>
    rw [List.map_cons, List.filter_cons, List.filter_cons, List.filter_cons, mark_nx]
    cases h1 : x.nx <;> cases h2 : decide (x.sum % A = At)
    · simp only [Bool.or_false, Bool.not_false, if_true, Bool.false_eq_true, if_false, List.filter_cons, h2]
      exact ih
    · simp only [Bool.or_true, Bool.not_false, if_true, Bool.false_eq_true, if_false, List.filter_cons, h2, List.map_cons, mark_tri, List.cons_append]
      exact ih.cons _
    · simp only [Bool.or_false, Bool.not_true, if_true, Bool.false_eq_true, if_false, List.map_cons, mark_tri]
      exact (ih.cons _).trans List.perm_middle.symm
    · simp only [Bool.or_true, Bool.not_true, if_true, Bool.false_eq_true, if_false, List.map_cons, mark_tri]
      exact (ih.cons _).trans List.perm_middle.symm
theorem clear_all (L : List Rn) : (((L.map Rn.clear).filter fun x => !x.nx).map Rn.tri) = L.map Rn.tri ∧ ((L.map Rn.clear).filter fun x => x.nx) = [] := by
  induction L with
  | nil => exact ⟨rfl, rfl⟩
  | cons x L ih =>
    constructor
    · rw [List.map_cons, List.filter_cons, if_pos (by rfl), List.map_cons, ih.1]; rfl
    · rw [List.map_cons, List.filter_cons, if_neg (by simp [Rn.clear]), ih.2]

theorem Alike.move {seed : Nat} {D : Dc} {R : Rd} (h : Alike D R) (inv : Inv tyI seed D) (hb : D.b ≠ []) : Alike D.move1 R.step1 := by
  have hsh := h.shape
  unfold Rd.shape Dc.shape at hsh
  injection hsh with eA eB eAt en
  have hpl := inv.ok.place hb
  have hbl : 0 < D.b.length := List.length_pos_iff.2 hb
  obtain ⟨f1, f2⟩ := row_fits D.a D.a.length inv.pa D.place hpl
  have g1 := fits_perm h.a (fun s => decide (s % D.a.length = D.place))
  have g2 := fits_perm h.a (fun s => !decide (s % D.a.length = D.place))
  have hB0 : ¬ R.B = 0 := by omega
  have hput : ((putL D.b (D.a.getD D.place [])).flatten.map Nd.tri).Perm (((R.L.map (Rn.mark R.A R.At)).filter fun x => x.nx).map Rn.tri) := by
    rw [eA, eAt]
    refine ((putL_perm (D.a.getD D.place []) D.b hbl).map _).trans ?_
    rw [List.map_append]
    refine List.Perm.trans ?_ (marked_on D.a.length D.place R.L).symm
    exact ((f1.map _).trans g1).append h.b
  have hoff : ((D.a.set D.place []).flatten.map Nd.tri).Perm (((R.L.map (Rn.mark R.A R.At)).filter fun x => !x.nx).map Rn.tri) := by
    rw [eA, eAt, marked_off]
    exact (f2.map _).trans g2
  have hs : R.step1.shape = D.move1.shape := by rw [rshape_step1, h.shape, shape_move1 hb]
  by_cases hl : D.place + 1 = D.a.length
  · have h0 : (D.a.set D.place []).flatten = [] := by
      rw [List.flatten_eq_nil_iff]
      intro r hr
      obtain ⟨k, hk, rfl⟩ := List.getElem_of_mem hr
      rw [List.length_set] at hk
      rw [List.getElem_set]
      split
      · rfl
      · have := inv.ok.past k (by omega)
        rw [List.getD_eq_getElem?_getD, List.getElem?_eq_getElem hk] at this
        exact this
    rw [h0] at hoff
    have h1 : ((R.L.map (Rn.mark R.A R.At)).filter fun x => !x.nx) = [] := by
      have := hoff.length_eq
      rw [List.map_nil, List.length_nil, List.length_map] at this
      exact List.eq_nil_of_length_eq_zero this.symm
    have h2 : ((R.L.map (Rn.mark R.A R.At)).filter fun x => x.nx) = R.L.map (Rn.mark R.A R.At) := by
      rw [List.filter_eq_self]
      intro x hx
      have := (List.filter_eq_nil_iff.1 h1) x hx
      simpa using this
    rw [h2] at hput
    obtain ⟨c1, c2⟩ := clear_all (R.L.map (Rn.mark R.A R.At))
    have hR : R.step1 = ⟨(R.L.map (Rn.mark R.A R.At)).map Rn.clear, R.B, 0, 0⟩ := by unfold Rd.step1; rw [if_neg hB0, if_pos (by omega)]
    have hD : D.move1 = ⟨putL D.b (D.a.getD D.place []), [], 0, D.n⟩ := by unfold Dc.move1; rw [if_pos hl]
    refine ⟨hs, ?_, ?_⟩
    · rw [hR, hD]
      show ((putL D.b (D.a.getD D.place [])).flatten.map Nd.tri).Perm _
      rw [c1]
      exact hput
    · rw [hR, hD]
      show (([] : List (List Nd)).flatten.map Nd.tri).Perm _
      rw [c2]
      exact List.Perm.refl _
  · have hR : R.step1 = ⟨R.L.map (Rn.mark R.A R.At), R.A, R.B, R.At + 1⟩ := by unfold Rd.step1; rw [if_neg hB0, if_neg (by omega)]
    have hD : D.move1 = ⟨D.a.set D.place [], putL D.b (D.a.getD D.place []), D.place + 1, D.n⟩ := by unfold Dc.move1; rw [if_neg hl]
    refine ⟨hs, ?_, ?_⟩
    · rw [hR, hD]; exact hoff
    · rw [hR, hD]; exact hput
theorem Alike.still {D : Dc} {R : Rd} (h : Alike D R) (hb : D.b = []) : R.step1 = R := by
  have hsh := h.shape
  unfold Rd.shape Dc.shape at hsh
  injection hsh with eA eB eAt en
  unfold Rd.step1
  rw [if_pos (by rw [eB, hb]; rfl)]
end Go.Proofs.YtlfhiolkbnhinaaDoor
/- Slots move, a key comes: there and there. -/
namespace Go.Proofs.YtlfhiolkbnhinaaDoor
open Go.RowKit Go.Shelf

theorem Alike.run {seed : Nat} {D : Dc} {R : Rd} (h : Alike D R) (inv : Inv tyI seed D) : ∀ k, k ≤ D.left → Alike (Dc.run k D) (Rd.steps k R)
  | 0, _ => h
  | k + 1, hk => by
    obtain ⟨_, _, _, h4⟩ := run_facts inv.ok k (by omega)
    exact (h.run inv k (by omega)).move (inv.run k (by omega)).1 (h4 (by omega)).1
theorem Alike.stepn {seed : Nat} {D : Dc} {R : Rd} (h : Alike D R) (inv : Inv tyI seed D) (n : Nat) : Alike (D.step n) (Rd.steps (min n R.shape.left) R) := by
  rw [h.shape, shape_left]
  exact h.run inv _ (Nat.min_le_right _ _)
theorem Alike.step1 {seed : Nat} {D : Dc} {R : Rd} (h : Alike D R) (inv : Inv tyI seed D) (hAt : R.B ≠ 0 → R.At < R.A) : Alike (D.step 1) R.step1 := by
  have := h.stepn inv 1
  rwa [show Rd.steps (min 1 R.shape.left) R = R.step1 from steps_one hAt] at this
theorem Alike.len {D : Dc} {R : Rd} (h : Alike D R) : R.A = D.a.length ∧ R.B = D.b.length ∧ R.At = D.place ∧ R.L.length = D.n := by
  have hsh := h.shape
  unfold Rd.shape Dc.shape at hsh
  injection hsh with eA eB eAt en
  exact ⟨eA, eB, eAt, en⟩
/-- All nodes, there and there. -/
theorem Alike.nodes {D : Dc} {R : Rd} (h : Alike D R) : (D.nodes.map Nd.tri).Perm (R.L.map Rn.tri) := by
  have h1 : D.nodes = D.a.flatten ++ D.b.flatten := rfl
  rw [h1, List.map_append]
  refine (h.a.append h.b).trans ?_
  rw [← List.map_append]
  refine List.Perm.map _ ?_
  have h2 := List.filter_append_perm (fun x : Rn => !x.nx) R.L
  simpa using h2
/-- Growing begins, there and there. -/
theorem Alike.grow {D : Dc} {R : Rd} (h : Alike D R) : Alike D.grown R.grow := by
  obtain ⟨eA, eB, eAt, en⟩ := h.len
  unfold Dc.grown Rd.grow
  by_cases hc : D.b = [] ∧ D.a.length ≤ D.n ∧ D.a.length < 65536
  · have hc2 : R.B = 0 ∧ R.A ≤ R.L.length ∧ R.A < 65536 := ⟨by rw [eB, hc.1]; rfl, by omega, by omega⟩
    rw [if_pos hc, if_pos hc2]
    refine ⟨?_, h.a, ?_⟩
    · unfold Rd.shape Dc.shape Dc.begin
      simp only [eA, eAt, en, List.length_replicate]
    · have hb := h.b
      rw [hc.1] at hb
      unfold Dc.begin
      simp only
      have h0 : ∀ m, (List.replicate m ([] : List Nd)).flatten = [] := fun m => by simp
      rw [h0]
      exact hb
  · have hc2 : ¬ (R.B = 0 ∧ R.A ≤ R.L.length ∧ R.A < 65536) := fun e => hc ⟨(b_len D).2 (by omega), by omega, by omega⟩
    rw [if_neg hc, if_neg hc2]
    exact h
theorem Alike.shrink {D : Dc} {R : Rd} (h : Alike D R) : Alike D.shrunk R.shrink := by
  obtain ⟨eA, eB, eAt, en⟩ := h.len
  unfold Dc.shrunk Rd.shrink
  by_cases hc : D.b = [] ∧ 4 < D.a.length ∧ 8 * D.n < D.a.length
  · have hc2 : R.B = 0 ∧ 4 < R.A ∧ 8 * R.L.length < R.A := ⟨by rw [eB, hc.1]; rfl, by omega, by omega⟩
    rw [if_pos hc, if_pos hc2]
    refine ⟨?_, h.a, ?_⟩
    · unfold Rd.shape Dc.shape Dc.begin
      simp only [eA, eAt, en, List.length_replicate]
    · have hb := h.b
      rw [hc.1] at hb
      unfold Dc.begin
      simp only
      have h0 : ∀ m, (List.replicate m ([] : List Nd)).flatten = [] := fun m => by simp
      rw [h0]
      exact hb
  · have hc2 : ¬ (R.B = 0 ∧ 4 < R.A ∧ 8 * R.L.length < R.A) := fun e => hc ⟨(b_len D).2 (by omega), by omega, by omega⟩
    rw [if_neg hc, if_neg hc2]
    exact h
/-- A node comes, there and there. -/
theorem Alike.add {D : Dc} {R : Rd} (h : Alike D R) (ha : 0 < D.a.length) (key : ByteArray) (v : Int) (s : Nat) : Alike (D.add ⟨s, key, .int .i64 v⟩) { R with L := R.L ++ [⟨key, v, s, decide (0 < R.B)⟩] } := by
  obtain ⟨eA, eB, eAt, en⟩ := h.len
  have hs : ({ R with L := R.L ++ [⟨key, v, s, decide (0 < R.B)⟩] } : Rd).shape = (D.add ⟨s, key, .int .i64 v⟩).shape := by
    rw [shape_add, ← h.shape]
    unfold Rd.shape Sh.more
    simp
  unfold Dc.add at hs ⊢
  by_cases hb : D.b = []
  · have hB : ¬ 0 < R.B := by rw [eB, hb]; simp
    rw [if_pos hb] at hs ⊢
    refine ⟨hs, ?_, ?_⟩
    · simp only [List.filter_append, hB, decide_false, List.filter_cons, Bool.not_false, if_true, List.filter_nil, List.map_append]
      refine ((putR_perm D.a _ ha).map _).trans ?_
      refine List.Perm.trans ?_ List.perm_append_comm
      exact h.a.cons _
    · simp only [List.filter_append, hB, decide_false, List.filter_cons, Bool.false_eq_true, if_false, List.filter_nil, List.append_nil]
      exact h.b
  · have hB : 0 < R.B := by rw [eB]; exact List.length_pos_iff.2 hb
    rw [if_neg hb] at hs ⊢
    refine ⟨hs, ?_, ?_⟩
    · simp only [List.filter_append, hB, decide_true, List.filter_cons, Bool.not_true, Bool.false_eq_true, if_false, List.filter_nil, List.append_nil]
      exact h.a
    · simp only [List.filter_append, hB, decide_true, List.filter_cons, if_true, List.filter_nil, List.map_append]
      refine ((putR_perm D.b _ (List.length_pos_iff.2 hb)).map _).trans ?_
      refine List.Perm.trans ?_ List.perm_append_comm
      exact h.b.cons _
end Go.Proofs.YtlfhiolkbnhinaaDoor
/- A node is changed or goes, in the reference's list. -/
namespace Go.Proofs.YtlfhiolkbnhinaaDoor
open Go.RowKit Go.Shelf

theorem at_perm {α : Type} : ∀ (L : List α) (i : Nat) (h : i < L.length), L.Perm (L[i] :: L.eraseIdx i)
  | _ :: _, 0, _ => List.Perm.refl _
  | x :: L, i + 1, h => ((at_perm L i (by simpa using h)).cons x).trans (List.Perm.swap _ _ _)
theorem setAt_perm {α : Type} (L : List α) (i : Nat) (h : i < L.length) (y : α) : (L.set i y).Perm (y :: L.eraseIdx i) := by
  have h1 := at_perm (L.set i y) i (by rw [List.length_set]; exact h)
  rw [List.getElem_set_self, List.eraseIdx_set_eq] at h1
  exact h1
/-- Sorting what is the same up to order gives the same. -/
theorem sortK_eq {l r : List (List UInt8)} (h : l.Perm r) : sortK l = sortK r := by
  have tr : ∀ a b c : List UInt8, decide (a ≤ b) = true → decide (b ≤ c) = true → decide (a ≤ c) = true := fun a b c h1 h2 => by
    simp only [decide_eq_true_eq] at *; exact List.le_trans h1 h2
  have tot : ∀ a b : List UInt8, (decide (a ≤ b) || decide (b ≤ a)) = true := fun a b => by
    simp only [Bool.or_eq_true, decide_eq_true_eq]; exact List.le_total a b
  unfold sortK
  refine List.Perm.eq_of_pairwise (le := fun a b => decide (a ≤ b) = true) (fun a b _ _ h1 h2 => ?_) (List.pairwise_mergeSort tr tot _) (List.pairwise_mergeSort tr tot _) ?_
  · simp only [decide_eq_true_eq] at *; exact List.le_antisymm h1 h2
  · exact (List.mergeSort_perm _ _).trans (h.trans (List.mergeSort_perm _ _).symm)
/-- A row's keys in order are those of the reference's filter. -/
theorem Alike.row {seed : Nat} {D : Dc} {R : Rd} (h : Alike D R) (inv : Inv tyI seed D) (i : Nat) :
    (i < D.a.length → sortK ((D.a.getD i []).map bytesK) = sortK (((R.L.filter fun x => !x.nx).filter fun x => decide (x.sum % R.A = i)).map fun x => x.key.data.toList)) ∧
    (i < D.b.length → sortK ((D.b.getD i []).map bytesK) = sortK (((R.L.filter fun x => x.nx).filter fun x => decide (x.sum % R.B = i)).map fun x => x.key.data.toList)) := by
  obtain ⟨eA, eB, _, _⟩ := h.len
  have key : ∀ {l : List Nd} {r : List Rn}, (l.map Nd.tri).Perm (r.map Rn.tri) → (l.map bytesK).Perm (r.map fun x => x.key.data.toList) := fun {l r} hp => by
    have h2 := hp.map fun t => t.1.data.toList
    rw [List.map_map, List.map_map] at h2
    exact h2
  refine ⟨fun hi => sortK_eq ?_, fun hi => sortK_eq ?_⟩
  · rw [eA]
    exact ((row_fits D.a D.a.length inv.pa i hi).1.map _).trans (key (fits_perm h.a fun s => decide (s % D.a.length = i)))
  · rw [eB]
    exact ((row_fits D.b D.b.length inv.pb i hi).1.map _).trans (key (fits_perm h.b fun s => decide (s % D.b.length = i)))
/-- The node that is found is the one of the reference, in the same table. -/
theorem Alike.same {seed : Nat} {D : Dc} {R : Rd} (h : Alike D R) (inv : Inv tyI seed D) {i : Nat} (hi : i < R.L.length) {y : Nd} (hk : R.L[i].key = y.key) :
    (y ∈ D.a.flatten → R.L[i].nx = false ∧ R.L[i].tri = y.tri) ∧ (y ∈ D.b.flatten → R.L[i].nx = true ∧ R.L[i].tri = y.tri) := by
  have hn := h.nodes
  have huniq : (R.L.map Rn.key).Nodup := by
    have h1 : (D.nodes.map Nd.key).Perm (R.L.map Rn.key) := by
      have h2 := hn.map fun t => t.1
      rw [List.map_map, List.map_map] at h2
      exact h2
    exact h1.nodup_iff.1 inv.uniq
  have hone : ∀ x ∈ R.L, x.key = R.L[i].key → x = R.L[i] := fun x hx e => by
    obtain ⟨k, hk, rfl⟩ := List.getElem_of_mem hx
    have : k = i := by
      have h1 := (List.getElem_inj (h₀ := by simpa using hk) (h₁ := by simpa using hi) huniq).1 (by simpa using e)
      exact h1
    subst this
    rfl
  constructor
  · intro hy
    obtain ⟨x, hx, hxt⟩ := List.mem_map.1 (h.a.mem_iff.1 (List.mem_map_of_mem hy))
    obtain ⟨hx1, hx2⟩ := List.mem_filter.1 hx
    have hxk : x.key = R.L[i].key := by rw [hk]; exact congrArg (fun t => t.1) hxt
    rw [← hone x hx1 hxk]
    exact ⟨by simpa using hx2, hxt⟩
  · intro hy
    obtain ⟨x, hx, hxt⟩ := List.mem_map.1 (h.b.mem_iff.1 (List.mem_map_of_mem hy))
    obtain ⟨hx1, hx2⟩ := List.mem_filter.1 hx
    have hxk : x.key = R.L[i].key := by rw [hk]; exact congrArg (fun t => t.1) hxt
    rw [← hone x hx1 hxk]
    exact ⟨by simpa using hx2, hxt⟩
end Go.Proofs.YtlfhiolkbnhinaaDoor
/- A node is changed or goes: the relation stays. -/
namespace Go.Proofs.YtlfhiolkbnhinaaDoor
open Go.RowKit Go.Shelf

theorem part_in (p : Rn → Bool) {L : List Rn} {i : Nat} (hi : i < L.length) (hp : p L[i] = true) : (L.filter p).Perm (L[i] :: (L.eraseIdx i).filter p) := by
  have h := (at_perm L i hi).filter p
  rwa [List.filter_cons, if_pos hp] at h
theorem part_out (p : Rn → Bool) {L : List Rn} {i : Nat} (hi : i < L.length) (hp : p L[i] = false) : (L.filter p).Perm ((L.eraseIdx i).filter p) := by
  have h := (at_perm L i hi).filter p
  rwa [List.filter_cons, if_neg (by rw [hp]; decide)] at h
theorem set_in (p : Rn → Bool) {L : List Rn} {i : Nat} (hi : i < L.length) {y : Rn} (hp : p y = true) : ((L.set i y).filter p).Perm (y :: (L.eraseIdx i).filter p) := by
  have h := (setAt_perm L i hi y).filter p
  rwa [List.filter_cons, if_pos hp] at h
theorem set_out (p : Rn → Bool) {L : List Rn} {i : Nat} (hi : i < L.length) {y : Rn} (hp : p y = false) : ((L.set i y).filter p).Perm ((L.eraseIdx i).filter p) := by
  have h := (setAt_perm L i hi y).filter p
  rwa [List.filter_cons, if_neg (by rw [hp]; decide)] at h

section
variable {D D' : Dc} {R : Rd} {i : Nat} {y y' : Nd} {rest : List Nd} {x' : Rn}
theorem rest_perm {F : List Nd} {p : Rn → Bool} (h : (F.map Nd.tri).Perm ((R.L.filter p).map Rn.tri)) (hi : i < R.L.length) (hp : p R.L[i] = true) (hF : F.Perm (y :: rest)) (ht : R.L[i].tri = y.tri) :
    (rest.map Nd.tri).Perm (((R.L.eraseIdx i).filter p).map Rn.tri) := by
  have h1 := ((hF.symm.map Nd.tri).trans h).trans ((part_in p hi hp).map Rn.tri)
  rw [List.map_cons, List.map_cons, ht] at h1
  exact h1.cons_inv
theorem Alike.change_a (h : Alike D R) (hi : i < R.L.length) (hs : D'.shape = D.shape) (ha : D.a.flatten.Perm (y :: rest)) (ha' : D'.a.flatten.Perm (y' :: rest)) (hb' : D'.b = D.b)
    (hx : R.L[i].nx = false) (ht : R.L[i].tri = y.tri) (hx' : x'.nx = false) (ht' : x'.tri = y'.tri) : Alike D' { R with L := R.L.set i x' } := by
  refine ⟨?_, ?_, ?_⟩
  · rw [hs, ← h.shape]; unfold Rd.shape; simp
  · refine (ha'.map _).trans (List.Perm.trans ?_ ((set_in (fun x => !x.nx) hi (y := x') (by simp [hx'])).map Rn.tri).symm)
    rw [List.map_cons, List.map_cons, ht']
    exact (rest_perm h.a hi (by simp [hx]) ha ht).cons _
  · rw [hb']
    exact (h.b.trans ((part_out (fun x => x.nx) hi hx).map _)).trans ((set_out (fun x => x.nx) hi (y := x') hx').map Rn.tri).symm
theorem Alike.change_b (h : Alike D R) (hi : i < R.L.length) (hs : D'.shape = D.shape) (hb : D.b.flatten.Perm (y :: rest)) (hb' : D'.b.flatten.Perm (y' :: rest)) (ha' : D'.a = D.a)
    (hx : R.L[i].nx = true) (ht : R.L[i].tri = y.tri) (hx' : x'.nx = true) (ht' : x'.tri = y'.tri) : Alike D' { R with L := R.L.set i x' } := by
  refine ⟨?_, ?_, ?_⟩
  · rw [hs, ← h.shape]; unfold Rd.shape; simp
  · rw [ha']
    exact (h.a.trans ((part_out (fun x => !x.nx) hi (by simp [hx])).map _)).trans ((set_out (fun x => !x.nx) hi (y := x') (by simp [hx'])).map Rn.tri).symm
  · refine (hb'.map _).trans (List.Perm.trans ?_ ((set_in (fun x => x.nx) hi (y := x') hx').map Rn.tri).symm)
    rw [List.map_cons, List.map_cons, ht']
    exact (rest_perm h.b hi hx hb ht).cons _
theorem Alike.cut_a (h : Alike D R) (hi : i < R.L.length) (hs : D'.shape = D.shape.fewer) (ha : D.a.flatten.Perm (y :: rest)) (ha' : D'.a.flatten.Perm rest) (hb' : D'.b = D.b)
    (hx : R.L[i].nx = false) (ht : R.L[i].tri = y.tri) : Alike D' (R.cut i) := by
  refine ⟨?_, ?_, ?_⟩
  · rw [hs, ← h.shape]; unfold Rd.shape Rd.cut Sh.fewer; simp [List.length_eraseIdx, hi]
  · exact (ha'.map _).trans (rest_perm h.a hi (by simp [hx]) ha ht)
  · rw [hb']
    exact h.b.trans ((part_out (fun x => x.nx) hi hx).map _)
theorem Alike.cut_b (h : Alike D R) (hi : i < R.L.length) (hs : D'.shape = D.shape.fewer) (hb : D.b.flatten.Perm (y :: rest)) (hb' : D'.b.flatten.Perm rest) (ha' : D'.a = D.a)
    (hx : R.L[i].nx = true) (ht : R.L[i].tri = y.tri) : Alike D' (R.cut i) := by
  refine ⟨?_, ?_, ?_⟩
  · rw [hs, ← h.shape]; unfold Rd.shape Rd.cut Sh.fewer; simp [List.length_eraseIdx, hi]
  · rw [ha']
    exact h.a.trans ((part_out (fun x => !x.nx) hi (by simp [hx])).map _)
  · exact (hb'.map _).trans (rest_perm h.b hi hx hb ht)
end
end Go.Proofs.YtlfhiolkbnhinaaDoor
/- A key that is there is set, is deleted: the relation stays. -/
namespace Go.Proofs.YtlfhiolkbnhinaaDoor
open Go.RowKit Go.Shelf

theorem row_rest (rows : List (List Nd)) (k : Nat) (hk : k < rows.length) {i0 : Nat} {y : Nd} (hy : (rows.getD k [])[i0]? = some y) :
    rows.flatten.Perm (y :: ((rows.getD k []).eraseIdx i0 ++ (rows.set k []).flatten)) ∧ (∀ r', (rows.set k r').flatten.Perm (r' ++ (rows.set k []).flatten)) := by
  obtain ⟨h1, rfl⟩ := List.getElem?_eq_some_iff.1 hy
  refine ⟨(self_perm rows k hk).trans ?_, fun r' => set_perm rows k r' hk⟩
  rw [← List.cons_append]
  exact (at_perm _ i0 h1).append_right _
theorem setV_perm {r : List Nd} {i0 : Nat} {y : Nd} (hy : r[i0]? = some y) (v : Value) : (setV i0 v r).Perm ({ y with v := v } :: r.eraseIdx i0) := by
  obtain ⟨h1, rfl⟩ := List.getElem?_eq_some_iff.1 hy
  rw [setV_row v hy, List.eraseIdx_eq_take_drop_succ]
  exact List.perm_middle
theorem rowsOf_cases {D : Dc} {s j : Nat} {r : List Nd} (h : (D.rowsOf s)[j]? = some r) : (j = 0 ∧ r = D.a.getD (s % D.a.length) []) ∨ (j = 1 ∧ D.b ≠ [] ∧ r = D.b.getD (s % D.b.length) []) := by
  unfold Dc.rowsOf at h
  cases j with
  | zero => exact .inl ⟨rfl, by simpa using h.symm⟩
  | succ j =>
    rw [List.getElem?_cons_succ] at h
    by_cases hb : D.b = []
    · rw [if_pos hb] at h; simp at h
    · rw [if_neg hb] at h
      cases j with
      | zero => exact .inr ⟨rfl, hb, by simpa using h.symm⟩
      | succ j => simp at h

section
variable {seed : Nat} {D : Dc} {R : Rd} {s j i0 i : Nat} {key : ByteArray}
theorem in_flat {rows : List (List Nd)} {k : Nat} (hk : k < rows.length) {y : Nd} (hy : (rows.getD k [])[i0]? = some y) : y ∈ rows.flatten := by
  refine List.mem_flatten.2 ⟨rows.getD k [], ?_, List.mem_of_getElem? hy⟩
  rw [List.getD_eq_getElem?_getD, List.getElem?_eq_getElem hk]
  exact List.getElem_mem hk
theorem Alike.set_hit (h : Alike D R) (inv : Inv tyI seed D) (hh : D.hit s key = some (j, i0)) (hi : i < R.L.length) (hk : R.L[i].key = key) (v : Int) :
    Alike (D.upd s j (setV i0 (.int .i64 v))) { R with L := R.L.set i { R.L[i] with v := v } } := by
  obtain ⟨r, y, hr, hy, _, _, hyk, _⟩ := hit_node hh
  have hal := (isS_pos inv.ok.a).1
  obtain ⟨sa, sb⟩ := h.same inv hi (y := y) (hk.trans hyk.symm)
  have hs := shape_upd D s j (setV i0 (.int .i64 v))
  rcases rowsOf_cases hr with ⟨rfl, rfl⟩ | ⟨rfl, hb, rfl⟩
  · have hlt : s % D.a.length < D.a.length := Nat.mod_lt _ (by omega)
    obtain ⟨p1, p2⟩ := row_rest D.a _ hlt hy
    obtain ⟨hx, ht⟩ := sa (in_flat hlt hy)
    have hD : D.upd s 0 (setV i0 (.int .i64 v)) = { D with a := D.a.set (s % D.a.length) (setV i0 (.int .i64 v) (D.a.getD (s % D.a.length) [])) } := by unfold Dc.upd; rw [if_pos rfl]
    have p3 := (p2 (setV i0 (.int .i64 v) (D.a.getD (s % D.a.length) []))).trans ((setV_perm hy (.int .i64 v)).append_right _)
    refine h.change_a (y' := { y with v := .int .i64 v }) hi hs p1 (by rw [hD]; exact p3) (by rw [hD]) hx ht hx ?_
    have e1 : R.L[i].key = y.key := congrArg (fun t => t.1) ht
    have e2 : R.L[i].sum = y.sum := congrArg (fun t => t.2.2) ht
    unfold Rn.tri Nd.tri
    simp only [e1, e2]
  · have hbl : 0 < D.b.length := List.length_pos_iff.2 hb
    have hlt : s % D.b.length < D.b.length := Nat.mod_lt _ hbl
    obtain ⟨p1, p2⟩ := row_rest D.b _ hlt hy
    obtain ⟨hx, ht⟩ := sb (in_flat hlt hy)
    have hD : D.upd s 1 (setV i0 (.int .i64 v)) = { D with b := D.b.set (s % D.b.length) (setV i0 (.int .i64 v) (D.b.getD (s % D.b.length) [])) } := by unfold Dc.upd; rw [if_neg (by decide)]
    have p3 := (p2 (setV i0 (.int .i64 v) (D.b.getD (s % D.b.length) []))).trans ((setV_perm hy (.int .i64 v)).append_right _)
    refine h.change_b (y' := { y with v := .int .i64 v }) hi hs p1 (by rw [hD]; exact p3) (by rw [hD]) hx ht hx ?_
    have e1 : R.L[i].key = y.key := congrArg (fun t => t.1) ht
    have e2 : R.L[i].sum = y.sum := congrArg (fun t => t.2.2) ht
    unfold Rn.tri Nd.tri
    simp only [e1, e2]
theorem Alike.del_hit (h : Alike D R) (inv : Inv tyI seed D) (hh : D.hit s key = some (j, i0)) (hi : i < R.L.length) (hk : R.L[i].key = key) :
    Alike (D.upd s j (·.eraseIdx i0)).less (R.cut i) := by
  obtain ⟨r, y, hr, hy, _, _, hyk, _⟩ := hit_node hh
  have hal := (isS_pos inv.ok.a).1
  obtain ⟨sa, sb⟩ := h.same inv hi (y := y) (hk.trans hyk.symm)
  have hs : (D.upd s j (·.eraseIdx i0)).less.shape = D.shape.fewer := by
    have h3 := shape_upd D s j (·.eraseIdx i0)
    unfold Dc.shape at h3
    unfold Dc.less Dc.shape Sh.fewer
    injection h3 with e1 e2 e3 e4
    simp only [e1, e2, e3, e4]
  rcases rowsOf_cases hr with ⟨rfl, rfl⟩ | ⟨rfl, hb, rfl⟩
  · have hlt : s % D.a.length < D.a.length := Nat.mod_lt _ (by omega)
    obtain ⟨p1, p2⟩ := row_rest D.a _ hlt hy
    obtain ⟨hx, ht⟩ := sa (in_flat hlt hy)
    have hD : D.upd s 0 (·.eraseIdx i0) = { D with a := D.a.set (s % D.a.length) ((D.a.getD (s % D.a.length) []).eraseIdx i0) } := by unfold Dc.upd; rw [if_pos rfl]
    exact h.cut_a hi hs p1 (by rw [hD]; exact p2 _) (by rw [hD]; rfl) hx ht
  · have hbl : 0 < D.b.length := List.length_pos_iff.2 hb
    have hlt : s % D.b.length < D.b.length := Nat.mod_lt _ hbl
    obtain ⟨p1, p2⟩ := row_rest D.b _ hlt hy
    obtain ⟨hx, ht⟩ := sb (in_flat hlt hy)
    have hD : D.upd s 1 (·.eraseIdx i0) = { D with b := D.b.set (s % D.b.length) ((D.b.getD (s % D.b.length) []).eraseIdx i0) } := by unfold Dc.upd; rw [if_neg (by decide)]
    exact h.cut_b hi hs p1 (by rw [hD]; exact p2 _) (by rw [hD]; rfl) hx ht
end
end Go.Proofs.YtlfhiolkbnhinaaDoor
/- Set and Delete, there and there. -/
namespace Go.Proofs.YtlfhiolkbnhinaaDoor
open Go.RowKit Go.Shelf

section
variable {seed : Nat} {D : Dc} {R : Rd} {key : ByteArray}
theorem Alike.key_iff (h : Alike D R) : (∃ y ∈ D.nodes, y.key = key) ↔ ∃ x ∈ R.L, x.key = key := by
  have h2 : (D.nodes.map Nd.key).Perm (R.L.map Rn.key) := by
    have h3 := h.nodes.map fun t => t.1
    rw [List.map_map, List.map_map] at h3
    exact h3
  have h4 := h2.mem_iff (a := key)
  simpa using h4
theorem Alike.hit_some (h : Alike D R) (inv : Inv tyI seed D) {i : Nat} (hi : i < R.L.length) (hk : R.L[i].key = key) : ∃ j i0, D.hit (sumN seed key.data.toList) key = some (j, i0) := by
  cases hh : D.hit (sumN seed key.data.toList) key with
  | some ji => exact ⟨ji.1, ji.2, rfl⟩
  | none =>
    obtain ⟨y, hy, hyk⟩ := h.key_iff.2 ⟨R.L[i], List.getElem_mem hi, hk⟩
    exact absurd hyk (inv.hit_none hh y hy)
theorem Alike.hit_no (h : Alike D R) (hn : ∀ x ∈ R.L, x.key ≠ key) (s : Nat) : D.hit s key = none := by
  cases hh : D.hit s key with
  | none => rfl
  | some ji =>
    obtain ⟨_, y, _, _, _, hy, hyk, _⟩ := hit_node (j := ji.1) (i := ji.2) hh
    obtain ⟨x, hx, hxk⟩ := h.key_iff.1 ⟨y, hy, hyk⟩
    exact absurd hxk (hn x hx)
theorem Alike.set (h : Alike D R) (inv : Inv tyI seed D) (hAt : R.B ≠ 0 → R.At < R.A) (v : Int) :
    (∀ i, ∀ hi : i < R.step1.L.length, R.step1.L[i].key = key → Alike (D.setS (sumN seed key.data.toList) key (.int .i64 v)) { R.step1 with L := R.step1.L.set i { R.step1.L[i] with v := v } }) ∧
    ((∀ x ∈ R.step1.L, x.key ≠ key) → Alike (D.setS (sumN seed key.data.toList) key (.int .i64 v)) (R.step1.add seed key v)) := by
  have h1 := h.step1 inv hAt
  have inv1 := (inv.step 1).1
  unfold Dc.setS
  constructor
  · intro i hi hk
    obtain ⟨j, i0, hh⟩ := h1.hit_some inv1 hi hk
    rw [hh]
    exact h1.set_hit inv1 hh hi hk v
  · intro hn
    rw [h1.hit_no hn]
    have h2 := h1.grow
    have hal := (isS_pos inv1.ok.a).1
    have hg : (D.step 1).grown.a = (D.step 1).a := by unfold Dc.grown; split <;> rfl
    have h3 := h2.add (by rw [hg]; omega) key v (sumN seed key.data.toList)
    rw [grow_L] at h3
    exact h3
theorem Alike.del (h : Alike D R) (inv : Inv tyI seed D) (hAt : R.B ≠ 0 → R.At < R.A) :
    (∀ i, ∀ hi : i < R.step1.L.length, R.step1.L[i].key = key → Alike (D.delS (sumN seed key.data.toList) key) (R.step1.cut i).shrink) ∧
    ((∀ x ∈ R.step1.L, x.key ≠ key) → Alike (D.delS (sumN seed key.data.toList) key) R.step1) := by
  have h1 := h.step1 inv hAt
  have inv1 := (inv.step 1).1
  unfold Dc.delS
  constructor
  · intro i hi hk
    obtain ⟨j, i0, hh⟩ := h1.hit_some inv1 hi hk
    rw [hh]
    exact (h1.del_hit inv1 hh hi hk).shrink
  · intro hn
    rw [h1.hit_no hn]
    exact h1
end
end Go.Proofs.YtlfhiolkbnhinaaDoor
/- Texts of one kind in one: Rscan, Rbin, Rtold. -/
/- The reference's Scan, as a walk over what its buckets and its next cursor tell. -/
namespace Go.Proofs.YtlfhiolkbnhinaaDoor
open Go.RowKit Go.Shelf Go.Sort
attribute [local go_sem] Oper.semAt_some

set_option maxRecDepth 100000 in
theorem refscan_one {w : World} (p c A nx : Nat) (hA : 0 < A) (hA6 : A ≤ 65536) (hc : c < 4294967296) (KS : List (List UInt8)) (c2 : w.cell? ⟨p, 2, none⟩ = some (.int .i64 A)) (c3 : w.cell? ⟨p, 3, none⟩ = some (.int .i64 0))
    (hbk : Calls Tryd.prog 40 #[.pointer (some ⟨p, 0, none⟩), .int .i64 0, .int .i64 (c % A : Nat)] w fun e w' => ∃ u, e = .returned (.tuple #[u, .int .i64 0]) ∧ Own9 w' w.heap.size u KS ∧ Below w.heap.size w w')
    (hnx : ∀ W, Calls Tryd.prog 31 #[.int .u32 c, .int .i64 A] W fun e w' => e = .returned (.int .u32 nx) ∧ w' = W) :
    Calls Tryd.prog 18 #[.pointer (some ⟨p, 0, none⟩), .int .u32 c] w fun e w' => ∃ u, e = .returned (.tuple #[u, .int .u32 nx]) ∧ Own9 w' w.heap.size u KS ∧ Below w.heap.size w w' := by
  have HBK := Lib.hid hbk
  have HNX := fun W => Lib.hid (hnx W)
  have hpl := World.block_lt_of_cell? w ⟨p, 2, none⟩ c2
  have C2 := Lib.hid c2
  have hmi : (c : Int).tmod A = ((c % A : Nat) : Int) := (Int.ofNat_tmod _ _).symm
  have hmi2 : (c : Int) % A = ((c % A : Nat) : Int) := (Int.natCast_emod _ _).symm
  have hlt : c % A < A := Nat.mod_lt _ hA
  have hci : (c : Int) < 4294967296 := by omega
  generalize c % A = md at *
  clear hbk hnx
  go_enter Tryd.func18, Tryd.ntmps18
  go_wp2_with fail
  refine HBK.out.mono ?_
  rintro e w2 ⟨u, rfl, ho, hb⟩
  have d2 := (hb.cell (p := ⟨p, 2, none⟩) hpl).trans C2.out
  have HO := Lib.hid ho
  have HB := Lib.hid hb
  clear ho hb c2 c3
  go_wp2_with fail
  refine (HNX _).out.mono ?_
  rintro e w3 ⟨rfl, rfl⟩
  go_wp2
  go_returns
  exact ⟨_, rfl, HO.out, HB.out⟩

def greatK (C : Nat → Nat) (b : Nat) (KG : Nat → List (List UInt8)) (i : Nat) : List (List UInt8) := (List.range i).flatMap fun j => KG (C j % b)
theorem greatK_succ (C : Nat → Nat) (b : Nat) (KG : Nat → List (List UInt8)) (i : Nat) : greatK C b KG (i + 1) = greatK C b KG i ++ KG (C i % b) := by
  unfold greatK
  rw [List.range_succ, List.flatMap_append]
  simp
set_option maxRecDepth 100000 in
set_option maxHeartbeats 2000000 in
theorem refscan_two {w : World} (p A B sm a b : Nat) (hA : 0 < A) (hA6 : A ≤ 65536) (hB : 0 < B) (hB6 : B ≤ 65536) (hcase : (sm = 0 ∧ a = A ∧ b = B ∧ A ≤ B) ∨ (sm = 1 ∧ a = B ∧ b = A ∧ B < A))
    (C : Nat → Nat) (hC : ∀ i, C i < 4294967296) (M : Nat) (hM : 0 < M) (hon : ∀ i, i + 1 < M → C (i + 1) % b / a ≠ 0) (hend : C M % b / a = 0) (KS : List (List UInt8)) (KG : Nat → List (List UInt8))
    (hl1 : ∀ i, i ≤ M → (KS ++ greatK C b KG i).length ≤ 1000000) (hl2 : ∀ i, (KG i).length ≤ 1000000)
    (c2 : w.cell? ⟨p, 2, none⟩ = some (.int .i64 A)) (c3 : w.cell? ⟨p, 3, none⟩ = some (.int .i64 B))
    (hbk : ∀ W, Below w.heap.size w W → Calls Tryd.prog 40 #[.pointer (some ⟨p, 0, none⟩), .int .i64 sm, .int .i64 (C 0 % a : Nat)] W fun e w' => ∃ u, e = .returned (.tuple #[u, .int .i64 0]) ∧ Own9 w' W.heap.size u KS ∧ Below W.heap.size W w')
    (hbg : ∀ i W, i < M → Below w.heap.size w W → Calls Tryd.prog 40 #[.pointer (some ⟨p, 0, none⟩), .int .i64 (1 - sm : Nat), .int .i64 (C i % b : Nat)] W fun e w' => ∃ u, e = .returned (.tuple #[u, .int .i64 0]) ∧ Own9 w' W.heap.size u (KG (C i % b)) ∧ Below W.heap.size W w')
    (hnx : ∀ i W, i < M → Calls Tryd.prog 31 #[.int .u32 (C i), .int .i64 b] W fun e w' => e = .returned (.int .u32 (C (i + 1))) ∧ w' = W) :
    Calls Tryd.prog 18 #[.pointer (some ⟨p, 0, none⟩), .int .u32 (C 0)] w fun e w' => ∃ u, e = .returned (.tuple #[u, .int .u32 (C M)]) ∧ Own9 w' w.heap.size u (KS ++ greatK C b KG M) ∧ Below w.heap.size w w' := by
  have HBK := Lib.hid hbk
  have HBG := Lib.hid hbg
  have HNX := Lib.hid hnx
  have HC := Lib.hid hC
  have HON := Lib.hid hon
  have HEND := Lib.hid hend
  have HL1 := Lib.hid hl1
  have HL2 := Lib.hid hl2
  have hpl := World.block_lt_of_cell? w ⟨p, 2, none⟩ c2
  have hBz : ((B : Int) == 0) = false := by rw [beq_eq_false_iff_ne]; omega
  have hab : 0 < a ∧ 0 < b ∧ a ≤ 65536 ∧ b ≤ 65536 := by omega
  obtain ⟨ha0, hb0, ha6, hb6⟩ := hab
  have hmi : (C 0 : Int).tmod a = ((C 0 % a : Nat) : Int) := (Int.ofNat_tmod _ _).symm
  have hmi2 : (C 0 : Int) % a = ((C 0 % a : Nat) : Int) := (Int.natCast_emod _ _).symm
  have hmlt : C 0 % a < a := Nat.mod_lt _ ha0
  have hci : (C 0 : Int) < 4294967296 := by have := hC 0; omega
  have hKS := Lib.hid (show KS ++ greatK C b KG 0 = KS by simp [greatK])
  obtain ⟨c0, hc0⟩ : ∃ c0, c0 = C 0 := ⟨_, rfl⟩
  have HC0 := Lib.hid hc0
  rw [← hc0] at hmi hmi2 hmlt hci HBK ⊢
  clear hc0
  generalize c0 % a = md at *
  clear hbk hbg hnx hC hon hend hl1 hl2
  rcases hcase with ⟨rfl, rfl, rfl, hlt⟩ | ⟨rfl, rfl, rfl, hlt⟩
  · have hlt2 : ¬ (b : Int) < a := by omega
    have hd : decide ((b : Int) < a) = false := by simp; omega
    have hdn : decide (b < a) = false := by simp; omega
    go_enter Tryd.func18, Tryd.ntmps18
    go_wp2
    go_quiet (fail)
    have hb0 : Below w.heap.size w (w.drewN nq) := ⟨rfl, rfl, rfl, Nat.le_refl _, fun _ _ => rfl⟩
    have HB0 := Lib.hid hb0
    clear hb0
    clear hlt hlt2 hd hBz hA hA6 hB hB6
    go_wp2_with fail
    refine (HBK.out _ HB0.out).mono ?_
    rintro e w2 ⟨u, rfl, ho, hb⟩
    have HO := Lib.hid (show Own9 w2 w.heap.size u (KS ++ greatK C b KG 0) by rw [hKS.out]; exact ho)
    have HB := Lib.hid (HB0.out.trans hb)
    clear ho hb c2 c3 hmi hmi2 hmlt hci
    have HC0' := HC0.out
    go_upto_block 1 with fail
    subst HC0'
    go_wp2_with fail
    go_loopg [1, 11] M (fun g cv ov wr => ∃ i, g = M - i ∧ i < M ∧ cv = .int .u32 (C i) ∧ Own9 wr w.heap.size ov (KS ++ greatK C b KG i) ∧ Below w.heap.size w wr)
    case atStart => exact ⟨0, rfl, hM, rfl, HO.out, HB.out⟩
    case round =>
      obtain ⟨i, rfl, hi, rfl, ho, hb⟩ := hrel
      have HK := Lib.hid (show Calls Tryd.prog 40 #[.pointer (some ⟨p, 0, none⟩), .int .i64 1, .int .i64 (C i % b : Nat)] wr fun e w' => ∃ u, e = .returned (.tuple #[u, .int .i64 0]) ∧ Own9 w' wr.heap.size u (KG (C i % b)) ∧ Below wr.heap.size wr w' from HBG.out i wr hi hb)
      have HN := fun W => Lib.hid (HNX.out i W hi)
      have HG := Lib.hid (greatK_succ C b KG i)
      have HO := Lib.hid ho
      have HB := Lib.hid hb
      have HS := Lib.hid (hb.size)
      have HL := Lib.hid (HL1.out i (Nat.le_of_lt hi))
      have HLG := Lib.hid (HL2.out (C i % b))
      have hci : (C i : Int) < 4294967296 := by have := HC.out i; omega
      have hcn : (C (i + 1) : Int) < 4294967296 := by have := HC.out (i + 1); omega
      have hmi : (C i : Int).tmod b = ((C i % b : Nat) : Int) := (Int.ofNat_tmod _ _).symm
      have hmi2 : (C i : Int) % b = ((C i % b : Nat) : Int) := (Int.natCast_emod _ _).symm
      have hmlt : C i % b < b := Nat.mod_lt _ hb0
      have hni : (C (i + 1) : Int).tmod b = ((C (i + 1) % b : Nat) : Int) := (Int.ofNat_tmod _ _).symm
      have hni2 : (C (i + 1) : Int) % b = ((C (i + 1) % b : Nat) : Int) := (Int.natCast_emod _ _).symm
      have hnlt : C (i + 1) % b < b := Nat.mod_lt _ hb0
      have hqi : ((C (i + 1) % b : Nat) : Int).tdiv a = ((C (i + 1) % b / a : Nat) : Int) := (Int.ofNat_tdiv _ _).symm
      have hqi2 : ((C (i + 1) % b : Nat) : Int) / a = ((C (i + 1) % b / a : Nat) : Int) := (Int.natCast_ediv _ _).symm
      have HQ := Lib.hid (show (i + 1 < M → C (i + 1) % b / a ≠ 0) ∧ (i + 1 = M → C (i + 1) % b / a = 0) from ⟨HON.out i, fun e => by rw [e]; exact HEND.out⟩)
      have HQL := Lib.hid (Nat.div_le_self (C (i + 1) % b) a)
      have HCI := Lib.hid (show ∃ cn, cn = C (i + 1) from ⟨_, rfl⟩)
      clear ho hb
      generalize C (i + 1) % b / a = qn at *
      generalize C (i + 1) % b = mn at *
      generalize C i % b = md2 at *
      obtain ⟨cn, hcn1⟩ := HCI.out
      have HCN := Lib.hid hcn1
      rw [← hcn1] at hcn hni hni2 HN
      clear hcn1
      generalize C i = ci at *
      have hqn : qn ≤ mn := HQL.out
      clear HQL
      go_wp2_with fail
      refine HK.out.mono ?_
      rintro e w3 ⟨u3, rfl, ho3, hb3⟩
      obtain ⟨A3, cap3, rfl, _⟩ := ho3.formR
      have HE3 := Lib.hid (KEnts.of ho3)
      have HO3 := Lib.hid (HO.out.below hb3)
      have HB3 := Lib.hid (HB.out.trans (hb3.mono HS.out))
      clear ho3 hb3
      go_wp2_with (first
        | (at_builtin
           refine wpList_app_k rfl (.tmp 85) (.tmp 86) rfl rfl (n0 := w.heap.size) (l := KS ++ greatK C b KG i) (xs := KG md2) (ad := A3) (m := (KG md2).length) rfl rfl rfl HO3.out HE3.out HL.out HLG.out HB3.out.size ?_
           rintro v4 w4 ho4 hg4
           have HB4 := Lib.hid (HB3.out.grown hg4 HB3.out.size (fun k e => (World.ownsRow.lt HO3.out k e).1))
           have HO4 := Lib.hid ho4
           clear ho4 hg4))
      refine (HN _).out.mono ?_
      rintro e w5 ⟨rfl, rfl⟩
      have HO5 := Lib.hid (show Own9 w5 w.heap.size v4 (KS ++ greatK C b KG (i + 1)) by rw [HG.out, ← List.append_assoc]; exact HO4.out)
      by_cases hM2 : i + 1 = M
      · have hq0 : qn = 0 := HQ.out.2 hM2
        subst hq0
        have HM2 := Lib.hid hM2
        clear hM2
        go_wp2
        go_returns
        refine ⟨v4, ?_, ?_, HB4.out⟩
        · show Ending.returned (.tuple #[v4, .int .u32 cn]) = _
          rw [HCN.out, HM2.out]
        · rw [← HM2.out]; exact HO5.out
      · have hq0 : qn ≠ 0 := HQ.out.1 (by omega)
        have hqb : ((qn : Int) == 0) = false := by rw [beq_eq_false_iff_ne]; omega
        have HM2 := Lib.hid hM2
        clear hM2 hq0
        go_wp2
        go_roundg (M - (i + 1))
        case measure => omega
        case rel => exact ⟨i + 1, rfl, by have := HM2.out; omega, by rw [HCN.out], HO5.out, HB4.out⟩
  · have hlt2 : (a : Int) < b := by omega
    have hd : decide ((a : Int) < b) = true := by simp; omega
    have hdn : decide (a < b) = true := by simp; omega
    go_enter Tryd.func18, Tryd.ntmps18
    go_wp2
    go_quiet (fail)
    have hb0 : Below w.heap.size w (w.drewN nq) := ⟨rfl, rfl, rfl, Nat.le_refl _, fun _ _ => rfl⟩
    have HB0 := Lib.hid hb0
    clear hb0
    clear hlt hlt2 hd hBz hA hA6 hB hB6
    go_wp2_with fail
    refine (HBK.out _ HB0.out).mono ?_
    rintro e w2 ⟨u, rfl, ho, hb⟩
    have HO := Lib.hid (show Own9 w2 w.heap.size u (KS ++ greatK C b KG 0) by rw [hKS.out]; exact ho)
    have HB := Lib.hid (HB0.out.trans hb)
    clear ho hb c2 c3 hmi hmi2 hmlt hci
    have HC0' := HC0.out
    go_upto_block 1 with fail
    subst HC0'
    go_wp2_with fail
    go_loopg [1, 11] M (fun g cv ov wr => ∃ i, g = M - i ∧ i < M ∧ cv = .int .u32 (C i) ∧ Own9 wr w.heap.size ov (KS ++ greatK C b KG i) ∧ Below w.heap.size w wr)
    case atStart => exact ⟨0, rfl, hM, rfl, HO.out, HB.out⟩
    case round =>
      obtain ⟨i, rfl, hi, rfl, ho, hb⟩ := hrel
      have HK := Lib.hid (show Calls Tryd.prog 40 #[.pointer (some ⟨p, 0, none⟩), .int .i64 0, .int .i64 (C i % b : Nat)] wr fun e w' => ∃ u, e = .returned (.tuple #[u, .int .i64 0]) ∧ Own9 w' wr.heap.size u (KG (C i % b)) ∧ Below wr.heap.size wr w' from HBG.out i wr hi hb)
      have HN := fun W => Lib.hid (HNX.out i W hi)
      have HG := Lib.hid (greatK_succ C b KG i)
      have HO := Lib.hid ho
      have HB := Lib.hid hb
      have HS := Lib.hid (hb.size)
      have HL := Lib.hid (HL1.out i (Nat.le_of_lt hi))
      have HLG := Lib.hid (HL2.out (C i % b))
      have hci : (C i : Int) < 4294967296 := by have := HC.out i; omega
      have hcn : (C (i + 1) : Int) < 4294967296 := by have := HC.out (i + 1); omega
      have hmi : (C i : Int).tmod b = ((C i % b : Nat) : Int) := (Int.ofNat_tmod _ _).symm
      have hmi2 : (C i : Int) % b = ((C i % b : Nat) : Int) := (Int.natCast_emod _ _).symm
      have hmlt : C i % b < b := Nat.mod_lt _ hb0
      have hni : (C (i + 1) : Int).tmod b = ((C (i + 1) % b : Nat) : Int) := (Int.ofNat_tmod _ _).symm
      have hni2 : (C (i + 1) : Int) % b = ((C (i + 1) % b : Nat) : Int) := (Int.natCast_emod _ _).symm
      have hnlt : C (i + 1) % b < b := Nat.mod_lt _ hb0
      have hqi : ((C (i + 1) % b : Nat) : Int).tdiv a = ((C (i + 1) % b / a : Nat) : Int) := (Int.ofNat_tdiv _ _).symm
      have hqi2 : ((C (i + 1) % b : Nat) : Int) / a = ((C (i + 1) % b / a : Nat) : Int) := (Int.natCast_ediv _ _).symm
      have HQ := Lib.hid (show (i + 1 < M → C (i + 1) % b / a ≠ 0) ∧ (i + 1 = M → C (i + 1) % b / a = 0) from ⟨HON.out i, fun e => by rw [e]; exact HEND.out⟩)
      have HQL := Lib.hid (Nat.div_le_self (C (i + 1) % b) a)
      have HCI := Lib.hid (show ∃ cn, cn = C (i + 1) from ⟨_, rfl⟩)
      clear ho hb
      generalize C (i + 1) % b / a = qn at *
      generalize C (i + 1) % b = mn at *
      generalize C i % b = md2 at *
      obtain ⟨cn, hcn1⟩ := HCI.out
      have HCN := Lib.hid hcn1
      rw [← hcn1] at hcn hni hni2 HN
      clear hcn1
      generalize C i = ci at *
      have hqn : qn ≤ mn := HQL.out
      clear HQL
      go_wp2_with fail
      refine HK.out.mono ?_
      rintro e w3 ⟨u3, rfl, ho3, hb3⟩
      obtain ⟨A3, cap3, rfl, _⟩ := ho3.formR
      have HE3 := Lib.hid (KEnts.of ho3)
      have HO3 := Lib.hid (HO.out.below hb3)
      have HB3 := Lib.hid (HB.out.trans (hb3.mono HS.out))
      clear ho3 hb3
      go_wp2_with (first
        | (at_builtin
           refine wpList_app_k rfl (.tmp 85) (.tmp 86) rfl rfl (n0 := w.heap.size) (l := KS ++ greatK C b KG i) (xs := KG md2) (ad := A3) (m := (KG md2).length) rfl rfl rfl HO3.out HE3.out HL.out HLG.out HB3.out.size ?_
           rintro v4 w4 ho4 hg4
           have HB4 := Lib.hid (HB3.out.grown hg4 HB3.out.size (fun k e => (World.ownsRow.lt HO3.out k e).1))
           have HO4 := Lib.hid ho4
           clear ho4 hg4))
      refine (HN _).out.mono ?_
      rintro e w5 ⟨rfl, rfl⟩
      have HO5 := Lib.hid (show Own9 w5 w.heap.size v4 (KS ++ greatK C b KG (i + 1)) by rw [HG.out, ← List.append_assoc]; exact HO4.out)
      by_cases hM2 : i + 1 = M
      · have hq0 : qn = 0 := HQ.out.2 hM2
        subst hq0
        have HM2 := Lib.hid hM2
        clear hM2
        go_wp2
        go_returns
        refine ⟨v4, ?_, ?_, HB4.out⟩
        · show Ending.returned (.tuple #[v4, .int .u32 cn]) = _
          rw [HCN.out, HM2.out]
        · rw [← HM2.out]; exact HO5.out
      · have hq0 : qn ≠ 0 := HQ.out.1 (by omega)
        have hqb : ((qn : Int) == 0) = false := by rw [beq_eq_false_iff_ne]; omega
        have HM2 := Lib.hid hM2
        clear hM2 hq0
        go_wp2
        go_roundg (M - (i + 1))
        case measure => omega
        case rel => exact ⟨i + 1, rfl, by have := HM2.out; omega, by rw [HCN.out], HO5.out, HB4.out⟩
end Go.Proofs.YtlfhiolkbnhinaaDoor
/- The reference's Bucket of a slot that is one, at a reference that lies in memory. -/
namespace Go.Proofs.YtlfhiolkbnhinaaDoor
open Go.RowKit Go.Shelf

/-- What of the reference's nodes lies in a table's slot. -/
def inSlot (R : Rd) (t s : Nat) (x : Rn) : Bool := x.nx == decide (t = 1) && decide (x.sum % (if t = 1 then R.B else R.A) = s)
theorem refbucket_in {S : Nat → Prop} {p seed : Nat} {R : Rd} {w : World} (h : RRep w p S seed R) (ok : R.Ok) (hk : ∀ x ∈ R.L, x.key.size ≤ 281474976710656) (t : Nat) (ht : t = 0 ∨ t = 1) (s : Nat) (hs : s < if t = 1 then R.B else R.A) :
    Calls Tryd.prog 40 #[.pointer (some ⟨p, 0, none⟩), .int .i64 t, .int .i64 s] w fun e w' => ∃ u, e = .returned (.tuple #[u, .int .i64 0]) ∧ Own9 w' w.heap.size u (sortK ((R.L.filter (inSlot R t s)).map fun x => x.key.data.toList)) ∧ Below w.heap.size w w' := by
  obtain ⟨v, hm, _⟩ := h
  obtain ⟨A, cap, rfl, _⟩ := hm.row.form
  have h6 : (if t = 1 then R.B else R.A) ≤ 65536 := by
    have := ok.a1; have := ok.b1
    split <;> assumption
  have h1 := refbucket_core A cap R.L ok.n (fun x hx => ⟨hk x hx, ok.sum x hx⟩) R.A R.B R.At t ht s _ rfl hs h6 hm.dict hm.row (inSlot R t s) (fun _ => rfl)
  unfold keysF at h1
  rw [putsR_sort] at h1
  exact h1
end Go.Proofs.YtlfhiolkbnhinaaDoor
/- The reference's Scan tells what the program's scan tells. -/
namespace Go.Proofs.YtlfhiolkbnhinaaDoor
open Go.RowKit Go.Shelf Go.Sort

theorem mask_small (a b x : Nat) (hab : a ≤ b) (hb : b ≤ 16) (hx : x < 2 ^ b) : x &&& maskN (2 ^ b) (2 ^ a) = 0 ↔ x < 2 ^ a := by
  constructor
  · intro h
    refine Nat.lt_pow_two_of_testBit x (fun i hi => ?_)
    by_cases hib : i < b
    · have h2 := congrArg (fun n => n.testBit i) h
      simp only [Nat.testBit_and, Nat.zero_testBit, mask_bits a b i (by omega) hb] at h2
      simpa [hib, Nat.not_lt.2 hi] using h2
    · exact Nat.testBit_lt_two_pow (Nat.lt_of_lt_of_le hx (Nat.pow_le_pow_right (by decide) (by omega)))
  · intro h
    refine Nat.eq_of_testBit_eq fun i => ?_
    rw [Nat.testBit_and, Nat.zero_testBit, mask_bits a b i (by omega) hb]
    by_cases hia : i < a
    · simp [hia]
    · have : x.testBit i = false := Nat.testBit_lt_two_pow (Nat.lt_of_lt_of_le h (Nat.pow_le_pow_right (by decide) (by omega)))
      simp [this]
theorem stop_iff (s G x : Nat) (hs : isS (s : Int) = true) (hG : isS (G : Int) = true) (hle : s ≤ G) (hx : x < G) : x &&& maskN G s = 0 ↔ x / s = 0 := by
  obtain ⟨a, ha, ha2, rfl⟩ := size_pow hs
  obtain ⟨b, hb, hb2, rfl⟩ := size_pow hG
  have hab : a ≤ b := (Nat.pow_le_pow_iff_right (by decide)).1 hle
  rw [mask_small a b x hab hb2 hx, Nat.div_eq_zero_iff_lt (Nat.two_pow_pos a)]
/-- The cursors of the great table's rounds. -/
def curC (c G q i : Nat) : Nat := if i = 0 then c else curN G (q + i)
def rowK (rows : List (List Nd)) (s : Nat) : List (List UInt8) := sortK ((rows.getD s []).map bytesK)
theorem curC_slot (c G i : Nat) (hG : isS (G : Int) = true) (hc : c < 4294967296) (hi : turnN c / unitN G + i < G) : curC c G (turnN c / unitN G) i % G = curN G (turnN c / unitN G + i) := by
  unfold curC
  split
  · rename_i h
    subst h
    rw [Nat.add_zero]
    exact cur_of G c hG hc
  · exact Nat.mod_eq_of_lt (cur_slot G _ hG hi)
theorem greatK_rows (c G : Nat) (hG : isS (G : Int) = true) (hc : c < 4294967296) (rows : List (List Nd)) : ∀ n, turnN c / unitN G + n ≤ G → greatK (curC c G (turnN c / unitN G)) G (rowK rows) n = keysR rows G (turnN c / unitN G) n
  | 0, _ => rfl
  | n + 1, h => by
    rw [greatK_succ, greatK_rows c G hG hc rows n (by omega), curC_slot c G n hG hc (by omega)]
    rfl
theorem rowK_len (rows : List (List Nd)) (s : Nat) : (rowK rows s).length ≤ rows.flatten.length := by
  unfold rowK
  rw [(sortK_perm _).length_eq, List.length_map, List.getD_eq_getElem?_getD]
  cases h : rows[s]? with
  | none => simp
  | some r => exact row_le rows r (List.mem_of_getElem? h)

section
variable {S : Nat → Prop} {p seed : Nat} {D : Dc} {R : Rd} {w : World}
theorem refbucket_like (h : RRep w p S seed R) (ok : R.Ok) (hk : ∀ x ∈ R.L, x.key.size ≤ 281474976710656) (al : Alike D R) (inv : Inv tyI seed D) (t : Nat) (ht : t = 0 ∨ t = 1) (s : Nat) (hs : s < (rowsT D t).length) (W : World) (hb : Below w.heap.size w W) :
    Calls Tryd.prog 40 #[.pointer (some ⟨p, 0, none⟩), .int .i64 t, .int .i64 s] W fun e w' => ∃ u, e = .returned (.tuple #[u, .int .i64 0]) ∧ Own9 w' W.heap.size u (rowK (rowsT D t) s) ∧ Below W.heap.size W w' := by
  obtain ⟨eA, eB, _, _⟩ := al.len
  obtain ⟨r1, r2⟩ := al.row inv s
  rcases ht with rfl | rfl
  · have hs1 : s < D.a.length := hs
    have h1 := refbucket_in (h.later hb) ok hk 0 (.inl rfl) s (by rw [if_neg (by omega), eA]; exact hs1)
    have h2 : rowK (rowsT D 0) s = sortK ((R.L.filter (inSlot R 0 s)).map fun x => x.key.data.toList) := by
      refine (r1 hs1).trans ?_
      rw [List.filter_filter]
      congr 3
      funext x
      unfold inSlot
      cases x.nx <;> simp
    rw [h2]
    exact h1
  · have hs1 : s < D.b.length := hs
    have h1 := refbucket_in (h.later hb) ok hk 1 (.inr rfl) s (by rw [if_pos rfl, eB]; exact hs1)
    have h2 : rowK (rowsT D 1) s = sortK ((R.L.filter (inSlot R 1 s)).map fun x => x.key.data.toList) := by
      refine (r2 hs1).trans ?_
      rw [List.filter_filter]
      congr 3
      funext x
      unfold inSlot
      cases x.nx <;> simp
    rw [h2]
    exact h1
theorem refscan_any (h : RRep w p S seed R) (ok : R.Ok) (hk : ∀ x ∈ R.L, x.key.size ≤ 281474976710656) (al : Alike D R) (inv : Inv tyI seed D) (okD : D.Ok tyI) (hn : D.n ≤ 500) (ha : D.a.length ≤ 1024) (hb : D.b.length ≤ 1024) (c : Nat) (hc : c < 4294967296) :
    Calls Tryd.prog 18 #[.pointer (some ⟨p, 0, none⟩), .int .u32 c] w fun e w' => ∃ u, e = .returned (.tuple #[u, .int .u32 (nextN c D.least)]) ∧ Own9 w' w.heap.size u (scanK D (turnN c)) ∧ Below w.heap.size w w' := by
  obtain ⟨eA, eB, _, _⟩ := al.len
  have HBK := fun t ht s hs W hb => refbucket_like h ok hk al inv t ht s hs W hb
  obtain ⟨v, hm, _⟩ := h
  obtain ⟨_, _, c2, c3, _, _⟩ := ref_facts hm
  rw [eA] at c2
  rw [eB] at c3
  obtain ⟨s1, s2, s3, s4⟩ := tables_ok okD (smallT D.a.length D.b.length) (.inl rfl) ha hb
  obtain ⟨g1, g2, g3, g4⟩ := tables_ok okD (greatT D.a.length D.b.length) (.inr rfl) ha hb
  have hle := tables_le D.a.length D.b.length
  have hal := isS_pos okD.a
  have hsp := isS_pos s2
  have hgp := isS_pos g2
  have htot : ∀ t, (rowsT D t).flatten.length ≤ 500 := fun t => by
    have h5 := okD.n
    unfold rowsT
    split <;> omega
  have hone : keysR (rowsT D (smallT D.a.length D.b.length).1) D.least (turnN c / unitN D.least) 1 = rowK (rowsT D (smallT D.a.length D.b.length).1) (c % D.least) := by
    rw [cur_of D.least c s2 hc]
    rfl
  have hslot : c % D.least < D.least := Nat.mod_lt _ (by unfold Dc.least; omega)
  unfold scanK
  by_cases hb0 : D.b = []
  · rw [if_pos hb0, List.append_nil, hone]
    have hl0 : D.b.length = 0 := by rw [hb0]; rfl
    have hs0 : smallT D.a.length D.b.length = (0, D.a.length) := by unfold smallT; rw [if_pos (.inl hl0)]
    have hle0 : D.least = D.a.length := by unfold Dc.least; rw [hs0]
    rw [hs0, hle0]
    rw [hle0] at hslot
    rw [hl0] at c3
    exact refscan_one p c D.a.length _ (by omega) (by omega) hc _ c2 c3 (HBK 0 (.inl rfl) _ hslot w (Below.refl _ _)) (fun W => refnext_any c hc D.a.length okD.a W)
  · rw [if_neg hb0, hone]
    have hbl : 0 < D.b.length := List.length_pos_iff.2 hb0
    have hbs := isS_pos (okD.b hb0)
    obtain ⟨e1, e2, e3, e4, e5, e6, e7⟩ := great_facts _ _ s2 g2 hle (turnN c) (turn_lt c hc)
    have hcase : ((smallT D.a.length D.b.length).1 = 0 ∧ (smallT D.a.length D.b.length).2 = D.a.length ∧ (greatT D.a.length D.b.length).2 = D.b.length ∧ D.a.length ≤ D.b.length) ∨ ((smallT D.a.length D.b.length).1 = 1 ∧ (smallT D.a.length D.b.length).2 = D.b.length ∧ (greatT D.a.length D.b.length).2 = D.a.length ∧ D.b.length < D.a.length) := by
      unfold smallT greatT
      by_cases hab : D.a.length ≤ D.b.length
      · rw [if_pos (.inr hab), if_neg (by omega)]
        exact .inl ⟨rfl, rfl, rfl, hab⟩
      · rw [if_neg (by omega), if_pos (.inr (by omega))]
        exact .inr ⟨rfl, rfl, rfl, by omega⟩
    have hgt : (greatT D.a.length D.b.length).1 = 1 - (smallT D.a.length D.b.length).1 := by
      unfold smallT greatT
      by_cases hab : D.a.length ≤ D.b.length
      · rw [if_neg (show ¬ (D.b.length = 0 ∨ D.b.length < D.a.length) by omega), if_pos (show D.b.length = 0 ∨ D.a.length ≤ D.b.length from .inr hab)]; rfl
      · rw [if_pos (show D.b.length = 0 ∨ D.b.length < D.a.length by omega), if_neg (show ¬ (D.b.length = 0 ∨ D.a.length ≤ D.b.length) by omega)]; rfl
    unfold Dc.least at hslot ⊢
    generalize hS : smallT D.a.length D.b.length = sT at *
    generalize hG : greatT D.a.length D.b.length = gT at *
    obtain ⟨sm, s⟩ := sT
    obtain ⟨gt, G⟩ := gT
    simp only at *
    subst hgt
    have hiG : ∀ i, i ≤ restN G s (turnN c / unitN G) + 1 → turnN c / unitN G + i ≤ G := fun i hi => by omega
    have hkl : (keysR (rowsT D (1 - sm)) G (turnN c / unitN G) (restN G s (turnN c / unitN G) + 1)) = greatK (curC c G (turnN c / unitN G)) G (rowK (rowsT D (1 - sm))) (restN G s (turnN c / unitN G) + 1) := (greatK_rows c G g2 hc _ _ (by omega)).symm
    have hend : nextN c s = curC c G (turnN c / unitN G) (restN G s (turnN c / unitN G) + 1) := by
      unfold curC
      rw [if_neg (by omega), ← Nat.add_assoc, e5]
      exact cur_up s c
    rw [hkl, hend]
    have hC0 : curC c G (turnN c / unitN G) 0 = c := by unfold curC; rw [if_pos rfl]
    have hgo := refscan_two (w := w) p D.a.length D.b.length sm s G (by omega) (by omega) hbl (by omega) hcase (curC c G (turnN c / unitN G)) (fun i => by unfold curC; split; exact hc; exact cur_small _ _) (restN G s (turnN c / unitN G) + 1) (by omega)
      (fun i hi => by
        have hlt : curN G (turnN c / unitN G + i + 1) < G := cur_slot G _ g2 (by omega)
        have h3 := e3 i (by omega)
        unfold curC
        rw [if_neg (by omega), ← Nat.add_assoc, Nat.mod_eq_of_lt hlt]
        exact fun e => h3 ((stop_iff s G _ s2 g2 hle hlt).2 e))
      (by
        unfold curC
        rw [if_neg (by omega), ← Nat.add_assoc]
        by_cases hfull : turnN c / unitN G + restN G s (turnN c / unitN G) + 1 = G
        · rw [hfull, cur_end G g2]; simp
        · have hlt : curN G (turnN c / unitN G + restN G s (turnN c / unitN G) + 1) < G := cur_slot G _ g2 (by omega)
          rw [Nat.mod_eq_of_lt hlt]
          exact (stop_iff s G _ s2 g2 hle hlt).1 e4)
      (rowK (rowsT D sm) (c % s)) (rowK (rowsT D (1 - sm)))
      (fun i hi => by
        rw [greatK_rows c G g2 hc _ i (hiG i hi), List.length_append]
        have h1 := keysR_len (rowsT D (1 - sm)) G (turnN c / unitN G) i
        have h2 := rowK_len (rowsT D sm) (c % s)
        have h3 := htot sm
        have h4 : i * (rowsT D (1 - sm)).flatten.length ≤ 1024 * 500 := Nat.mul_le_mul (Nat.le_trans (Nat.le_trans (Nat.le_add_left _ _) (hiG i hi)) g4) (htot _)
        omega)
      (fun i => by
        have h2 := rowK_len (rowsT D (1 - sm)) i
        have h3 := htot (1 - sm)
        omega)
      c2 c3 (fun W hW => by rw [hC0]; exact HBK sm s1 _ (by rw [s3]; exact hslot) W hW)
      (fun i W hi hW => HBK (1 - sm) g1 _ (by rw [g3]; exact Nat.mod_lt _ (by omega)) W hW)
      (fun i W hi => by
        have h1 := refnext_any (curC c G (turnN c / unitN G) i) (by unfold curC; split; exact hc; exact cur_small _ _) G g2 W
        have h2 : nextN (curC c G (turnN c / unitN G) i) G = curC c G (turnN c / unitN G) (i + 1) := by
          unfold curC
          rw [if_neg (show ¬ (i + 1 = 0) by omega)]
          split
          · rename_i h0
            subst h0
            exact cur_up G c
          · rw [cur_next G _ g2 (by omega), Nat.add_assoc]
        rw [h2] at h1
        exact h1)
    rw [hC0] at hgo
    exact hgo
end
end Go.Proofs.YtlfhiolkbnhinaaDoor
/- Texts of one kind in one: ActBy, Pair, Pairs. -/
/- An act, whatever its call leaves: on the program's dict and on the reference's. -/
namespace Go.Proofs.YtlfhiolkbnhinaaDoor
open Go.RowKit Go.Shelf
attribute [local go_sem] Oper.semAt_some

def kindN (d : Int) : Int := (IntKind.u64.wrap d).tmod 8
set_option maxRecDepth 100000 in
set_option maxHeartbeats 4000000 in
theorem act_by15 {W : World} (Post : World → Prop) (p : Nat) (d : Int) (kk : ByteArray) (hk : kk.size ≤ 9223372036854775807) (v : Int)
    (hset : kindN d = 0 ∨ kindN d = 1 ∨ kindN d = 2 ∨ kindN d = 3 → ∀ W1, Below W.heap.size W W1 → Calls Tryd.prog 27 #[.pointer (some ⟨p, 0, none⟩), .string (cutK kk), .int .i64 v] W1 fun e w' => (∃ b, e = .returned (.bool b)) ∧ Post w')
    (hget : kindN d = 4 → ∀ W1, Below W.heap.size W W1 → Calls Tryd.prog 22 #[.pointer (some ⟨p, 0, none⟩), .string (cutK kk)] W1 fun e w' => (∃ x b, e = .returned (.tuple #[x, .bool b])) ∧ Post w')
    (hdel : kindN d = 5 ∨ kindN d = 6 → ∀ W1, Below W.heap.size W W1 → Calls Tryd.prog 32 #[.pointer (some ⟨p, 0, none⟩), .string (cutK kk)] W1 fun e w' => (∃ b, e = .returned (.bool b)) ∧ Post w')
    (hstep : kindN d = 7 → ∀ W1, Below W.heap.size W W1 → Calls Tryd.prog 26 #[.pointer (some ⟨p, 0, none⟩), .int .i64 (min v 100)] W1 fun e w' => (∃ n : Int, e = .returned (.int .i64 n)) ∧ Post w') :
    Calls Tryd.prog 15 #[.pointer (some ⟨p, 0, none⟩), .agg #[.int .i64 d, .string kk, .int .i64 v]] W fun e w' => e = .returned (.tuple #[]) ∧ Post w' := by
  have HKEY := fun w => Lib.hid (key_any kk hk w)
  have hb1 := (Below.refl W.heap.size W).alloc (Nat.le_refl _) (Obj.cells #[Value.int .i64 d, .string kk, .int .i64 v] 36)
  have HSET := Lib.hid hset
  have HGET := Lib.hid hget
  have HDEL := Lib.hid hdel
  have HSTEP := Lib.hid hstep
  clear hset hget hdel hstep
  have e8 := eight d
  rcases e8 with ht | ht | ht | ht | ht | ht | ht | ht
  · go_enter Tryd.func15, Tryd.ntmps15
    go_upto_region 1 with fail
    have kx := Blk.new W 36 #[Value.int .i64 d, .string kk, .int .i64 v]
    generalize W.alloc (Obj.cells #[Value.int .i64 d, .string kk, .int .i64 v] 36) = wx at *
    have y0 := kx.cell 0
    have y1 := kx.cell 1
    have y2 := kx.cell 2
    simp only [List.getElem?_toArray, List.getElem?_cons_succ, List.getElem?_cons_zero] at y0 y1 y2
    have HS := Lib.hid (HSET.out (by unfold kindN; omega) wx.drew hb1.drew)
    clear hb1 kx
    go_upto_region 7 with fail
    refine wp_region_still_tail 6 (by kernel_rfl) (by kernel_rfl) ?_
    simp only [List.take_succ_cons, List.take_zero, List.drop_succ_cons, List.drop_zero]
    repeat (first | still_step | still_call (HKEY _).out)
    try refine wpStill_nil ?_
    change wpList _ _ _ _ _ wx.drew
    go_wp2_with fail
    (with_reducible refine HS.out.mono ?_)
    rintro e w3 ⟨⟨b, rfl⟩, h3⟩
    have h4 := Lib.hid h3
    clear h3 HS
    go_wp2
    go_returns
    exact ⟨rfl, h4.out⟩
  · go_enter Tryd.func15, Tryd.ntmps15
    go_upto_region 1 with fail
    have kx := Blk.new W 36 #[Value.int .i64 d, .string kk, .int .i64 v]
    generalize W.alloc (Obj.cells #[Value.int .i64 d, .string kk, .int .i64 v] 36) = wx at *
    have y0 := kx.cell 0
    have y1 := kx.cell 1
    have y2 := kx.cell 2
    simp only [List.getElem?_toArray, List.getElem?_cons_succ, List.getElem?_cons_zero] at y0 y1 y2
    have HS := Lib.hid (HSET.out (by unfold kindN; omega) wx.drew hb1.drew)
    clear hb1 kx
    go_upto_region 7 with fail
    refine wp_region_still_tail 6 (by kernel_rfl) (by kernel_rfl) ?_
    simp only [List.take_succ_cons, List.take_zero, List.drop_succ_cons, List.drop_zero]
    repeat (first | still_step | still_call (HKEY _).out)
    try refine wpStill_nil ?_
    change wpList _ _ _ _ _ wx.drew
    go_wp2_with fail
    (with_reducible refine HS.out.mono ?_)
    rintro e w3 ⟨⟨b, rfl⟩, h3⟩
    have h4 := Lib.hid h3
    clear h3 HS
    go_wp2
    go_returns
    exact ⟨rfl, h4.out⟩
  · go_enter Tryd.func15, Tryd.ntmps15
    go_upto_region 1 with fail
    have kx := Blk.new W 36 #[Value.int .i64 d, .string kk, .int .i64 v]
    generalize W.alloc (Obj.cells #[Value.int .i64 d, .string kk, .int .i64 v] 36) = wx at *
    have y0 := kx.cell 0
    have y1 := kx.cell 1
    have y2 := kx.cell 2
    simp only [List.getElem?_toArray, List.getElem?_cons_succ, List.getElem?_cons_zero] at y0 y1 y2
    have HS := Lib.hid (HSET.out (by unfold kindN; omega) wx.drew hb1.drew)
    clear hb1 kx
    go_upto_region 7 with fail
    refine wp_region_still_tail 6 (by kernel_rfl) (by kernel_rfl) ?_
    simp only [List.take_succ_cons, List.take_zero, List.drop_succ_cons, List.drop_zero]
    repeat (first | still_step | still_call (HKEY _).out)
    try refine wpStill_nil ?_
    change wpList _ _ _ _ _ wx.drew
    go_wp2_with fail
    (with_reducible refine HS.out.mono ?_)
    rintro e w3 ⟨⟨b, rfl⟩, h3⟩
    have h4 := Lib.hid h3
    clear h3 HS
    go_wp2
    go_returns
    exact ⟨rfl, h4.out⟩
  · go_enter Tryd.func15, Tryd.ntmps15
    go_upto_region 1 with fail
    have kx := Blk.new W 36 #[Value.int .i64 d, .string kk, .int .i64 v]
    generalize W.alloc (Obj.cells #[Value.int .i64 d, .string kk, .int .i64 v] 36) = wx at *
    have y0 := kx.cell 0
    have y1 := kx.cell 1
    have y2 := kx.cell 2
    simp only [List.getElem?_toArray, List.getElem?_cons_succ, List.getElem?_cons_zero] at y0 y1 y2
    have HS := Lib.hid (HSET.out (by unfold kindN; omega) wx.drew hb1.drew)
    clear hb1 kx
    go_upto_region 7 with fail
    refine wp_region_still_tail 6 (by kernel_rfl) (by kernel_rfl) ?_
    simp only [List.take_succ_cons, List.take_zero, List.drop_succ_cons, List.drop_zero]
    repeat (first | still_step | still_call (HKEY _).out)
    try refine wpStill_nil ?_
    change wpList _ _ _ _ _ wx.drew
    go_wp2_with fail
    (with_reducible refine HS.out.mono ?_)
    rintro e w3 ⟨⟨b, rfl⟩, h3⟩
    have h4 := Lib.hid h3
    clear h3 HS
    go_wp2
    go_returns
    exact ⟨rfl, h4.out⟩
  · go_enter Tryd.func15, Tryd.ntmps15
    go_upto_region 1 with fail
    have kx := Blk.new W 36 #[Value.int .i64 d, .string kk, .int .i64 v]
    generalize W.alloc (Obj.cells #[Value.int .i64 d, .string kk, .int .i64 v] 36) = wx at *
    have y0 := kx.cell 0
    have y1 := kx.cell 1
    have y2 := kx.cell 2
    simp only [List.getElem?_toArray, List.getElem?_cons_succ, List.getElem?_cons_zero] at y0 y1 y2
    have HS := Lib.hid (HGET.out (by unfold kindN; omega) wx hb1)
    clear hb1 kx
    go_wp2_with fail
    (with_reducible refine (HKEY _).out.mono ?_)
    rintro e w4 ⟨rfl, rfl⟩
    go_wp2_with fail
    (with_reducible refine HS.out.mono ?_)
    rintro e w3 ⟨⟨x, b, rfl⟩, h3⟩
    have h4 := Lib.hid h3
    clear h3 HS
    go_wp2
    go_returns
    exact ⟨rfl, h4.out⟩
  · go_enter Tryd.func15, Tryd.ntmps15
    go_upto_region 1 with fail
    have kx := Blk.new W 36 #[Value.int .i64 d, .string kk, .int .i64 v]
    generalize W.alloc (Obj.cells #[Value.int .i64 d, .string kk, .int .i64 v] 36) = wx at *
    have y0 := kx.cell 0
    have y1 := kx.cell 1
    have y2 := kx.cell 2
    simp only [List.getElem?_toArray, List.getElem?_cons_succ, List.getElem?_cons_zero] at y0 y1 y2
    have HS := Lib.hid (HDEL.out (by unfold kindN; omega) wx hb1)
    clear hb1 kx
    go_wp2_with fail
    (with_reducible refine (HKEY _).out.mono ?_)
    rintro e w4 ⟨rfl, rfl⟩
    go_wp2_with fail
    (with_reducible refine HS.out.mono ?_)
    rintro e w3 ⟨⟨b, rfl⟩, h3⟩
    have h4 := Lib.hid h3
    clear h3 HS
    go_wp2
    go_returns
    exact ⟨rfl, h4.out⟩
  · go_enter Tryd.func15, Tryd.ntmps15
    go_upto_region 1 with fail
    have kx := Blk.new W 36 #[Value.int .i64 d, .string kk, .int .i64 v]
    generalize W.alloc (Obj.cells #[Value.int .i64 d, .string kk, .int .i64 v] 36) = wx at *
    have y0 := kx.cell 0
    have y1 := kx.cell 1
    have y2 := kx.cell 2
    simp only [List.getElem?_toArray, List.getElem?_cons_succ, List.getElem?_cons_zero] at y0 y1 y2
    have HS := Lib.hid (HDEL.out (by unfold kindN; omega) wx hb1)
    clear hb1 kx
    go_wp2_with fail
    (with_reducible refine (HKEY _).out.mono ?_)
    rintro e w4 ⟨rfl, rfl⟩
    go_wp2_with fail
    (with_reducible refine HS.out.mono ?_)
    rintro e w3 ⟨⟨b, rfl⟩, h3⟩
    have h4 := Lib.hid h3
    clear h3 HS
    go_wp2
    go_returns
    exact ⟨rfl, h4.out⟩
  · go_enter Tryd.func15, Tryd.ntmps15
    go_upto_region 1 with fail
    have kx := Blk.new W 36 #[Value.int .i64 d, .string kk, .int .i64 v]
    generalize W.alloc (Obj.cells #[Value.int .i64 d, .string kk, .int .i64 v] 36) = wx at *
    have y0 := kx.cell 0
    have y1 := kx.cell 1
    have y2 := kx.cell 2
    simp only [List.getElem?_toArray, List.getElem?_cons_succ, List.getElem?_cons_zero] at y0 y1 y2
    have HS := Lib.hid (HSTEP.out (by unfold kindN; omega) wx hb1)
    clear hb1 kx
    go_wp2_with fail
    (with_reducible refine HS.out.mono ?_)
    rintro e w3 ⟨⟨n, rfl⟩, h3⟩
    have h4 := Lib.hid h3
    clear h3 HS
    go_wp2
    go_returns
    exact ⟨rfl, h4.out⟩
set_option maxRecDepth 100000 in
set_option maxHeartbeats 4000000 in
theorem act_by16 {W : World} (Post : World → Prop) (p : Nat) (d : Int) (kk : ByteArray) (hk : kk.size ≤ 9223372036854775807) (v : Int)
    (hset : kindN d = 0 ∨ kindN d = 1 ∨ kindN d = 2 ∨ kindN d = 3 → ∀ W1, Below W.heap.size W W1 → Calls Tryd.prog 33 #[.pointer (some ⟨p, 0, none⟩), .string (cutK kk), .int .i64 v] W1 fun e w' => (∃ b, e = .returned (.bool b)) ∧ Post w')
    (hget : kindN d = 4 → ∀ W1, Below W.heap.size W W1 → Calls Tryd.prog 34 #[.pointer (some ⟨p, 0, none⟩), .string (cutK kk)] W1 fun e w' => (∃ x b, e = .returned (.tuple #[x, .bool b])) ∧ Post w')
    (hdel : kindN d = 5 ∨ kindN d = 6 → ∀ W1, Below W.heap.size W W1 → Calls Tryd.prog 35 #[.pointer (some ⟨p, 0, none⟩), .string (cutK kk)] W1 fun e w' => (∃ b, e = .returned (.bool b)) ∧ Post w')
    (hstep : kindN d = 7 → ∀ W1, Below W.heap.size W W1 → Calls Tryd.prog 36 #[.pointer (some ⟨p, 0, none⟩), .int .i64 (min v 100)] W1 fun e w' => (∃ n : Int, e = .returned (.int .i64 n)) ∧ Post w') :
    Calls Tryd.prog 16 #[.pointer (some ⟨p, 0, none⟩), .agg #[.int .i64 d, .string kk, .int .i64 v]] W fun e w' => e = .returned (.tuple #[]) ∧ Post w' := by
  have HKEY := fun w => Lib.hid (key_any kk hk w)
  have hb1 := (Below.refl W.heap.size W).alloc (Nat.le_refl _) (Obj.cells #[Value.int .i64 d, .string kk, .int .i64 v] 36)
  have HSET := Lib.hid hset
  have HGET := Lib.hid hget
  have HDEL := Lib.hid hdel
  have HSTEP := Lib.hid hstep
  clear hset hget hdel hstep
  have e8 := eight d
  rcases e8 with ht | ht | ht | ht | ht | ht | ht | ht
  · go_enter Tryd.func16, Tryd.ntmps16
    go_upto_region 1 with fail
    have kx := Blk.new W 36 #[Value.int .i64 d, .string kk, .int .i64 v]
    generalize W.alloc (Obj.cells #[Value.int .i64 d, .string kk, .int .i64 v] 36) = wx at *
    have y0 := kx.cell 0
    have y1 := kx.cell 1
    have y2 := kx.cell 2
    simp only [List.getElem?_toArray, List.getElem?_cons_succ, List.getElem?_cons_zero] at y0 y1 y2
    have HS := Lib.hid (HSET.out (by unfold kindN; omega) wx.drew hb1.drew)
    clear hb1 kx
    go_upto_region 7 with fail
    refine wp_region_still_tail 6 (by kernel_rfl) (by kernel_rfl) ?_
    simp only [List.take_succ_cons, List.take_zero, List.drop_succ_cons, List.drop_zero]
    repeat (first | still_step | still_call (HKEY _).out)
    try refine wpStill_nil ?_
    change wpList _ _ _ _ _ wx.drew
    go_wp2_with fail
    (with_reducible refine HS.out.mono ?_)
    rintro e w3 ⟨⟨b, rfl⟩, h3⟩
    have h4 := Lib.hid h3
    clear h3 HS
    go_wp2
    go_returns
    exact ⟨rfl, h4.out⟩
  · go_enter Tryd.func16, Tryd.ntmps16
    go_upto_region 1 with fail
    have kx := Blk.new W 36 #[Value.int .i64 d, .string kk, .int .i64 v]
    generalize W.alloc (Obj.cells #[Value.int .i64 d, .string kk, .int .i64 v] 36) = wx at *
    have y0 := kx.cell 0
    have y1 := kx.cell 1
    have y2 := kx.cell 2
    simp only [List.getElem?_toArray, List.getElem?_cons_succ, List.getElem?_cons_zero] at y0 y1 y2
    have HS := Lib.hid (HSET.out (by unfold kindN; omega) wx.drew hb1.drew)
    clear hb1 kx
    go_upto_region 7 with fail
    refine wp_region_still_tail 6 (by kernel_rfl) (by kernel_rfl) ?_
    simp only [List.take_succ_cons, List.take_zero, List.drop_succ_cons, List.drop_zero]
    repeat (first | still_step | still_call (HKEY _).out)
    try refine wpStill_nil ?_
    change wpList _ _ _ _ _ wx.drew
    go_wp2_with fail
    (with_reducible refine HS.out.mono ?_)
    rintro e w3 ⟨⟨b, rfl⟩, h3⟩
    have h4 := Lib.hid h3
    clear h3 HS
    go_wp2
    go_returns
    exact ⟨rfl, h4.out⟩
  · go_enter Tryd.func16, Tryd.ntmps16
    go_upto_region 1 with fail
    have kx := Blk.new W 36 #[Value.int .i64 d, .string kk, .int .i64 v]
    generalize W.alloc (Obj.cells #[Value.int .i64 d, .string kk, .int .i64 v] 36) = wx at *
    have y0 := kx.cell 0
    have y1 := kx.cell 1
    have y2 := kx.cell 2
    simp only [List.getElem?_toArray, List.getElem?_cons_succ, List.getElem?_cons_zero] at y0 y1 y2
    have HS := Lib.hid (HSET.out (by unfold kindN; omega) wx.drew hb1.drew)
    clear hb1 kx
    go_upto_region 7 with fail
    refine wp_region_still_tail 6 (by kernel_rfl) (by kernel_rfl) ?_
    simp only [List.take_succ_cons, List.take_zero, List.drop_succ_cons, List.drop_zero]
    repeat (first | still_step | still_call (HKEY _).out)
    try refine wpStill_nil ?_
    change wpList _ _ _ _ _ wx.drew
    go_wp2_with fail
    (with_reducible refine HS.out.mono ?_)
    rintro e w3 ⟨⟨b, rfl⟩, h3⟩
    have h4 := Lib.hid h3
    clear h3 HS
    go_wp2
    go_returns
    exact ⟨rfl, h4.out⟩
  · go_enter Tryd.func16, Tryd.ntmps16
    go_upto_region 1 with fail
    have kx := Blk.new W 36 #[Value.int .i64 d, .string kk, .int .i64 v]
    generalize W.alloc (Obj.cells #[Value.int .i64 d, .string kk, .int .i64 v] 36) = wx at *
    have y0 := kx.cell 0
    have y1 := kx.cell 1
    have y2 := kx.cell 2
    simp only [List.getElem?_toArray, List.getElem?_cons_succ, List.getElem?_cons_zero] at y0 y1 y2
    have HS := Lib.hid (HSET.out (by unfold kindN; omega) wx.drew hb1.drew)
    clear hb1 kx
    go_upto_region 7 with fail
    refine wp_region_still_tail 6 (by kernel_rfl) (by kernel_rfl) ?_
    simp only [List.take_succ_cons, List.take_zero, List.drop_succ_cons, List.drop_zero]
    repeat (first | still_step | still_call (HKEY _).out)
    try refine wpStill_nil ?_
    change wpList _ _ _ _ _ wx.drew
    go_wp2_with fail
    (with_reducible refine HS.out.mono ?_)
    rintro e w3 ⟨⟨b, rfl⟩, h3⟩
    have h4 := Lib.hid h3
    clear h3 HS
    go_wp2
    go_returns
    exact ⟨rfl, h4.out⟩
  · go_enter Tryd.func16, Tryd.ntmps16
    go_upto_region 1 with fail
    have kx := Blk.new W 36 #[Value.int .i64 d, .string kk, .int .i64 v]
    generalize W.alloc (Obj.cells #[Value.int .i64 d, .string kk, .int .i64 v] 36) = wx at *
    have y0 := kx.cell 0
    have y1 := kx.cell 1
    have y2 := kx.cell 2
    simp only [List.getElem?_toArray, List.getElem?_cons_succ, List.getElem?_cons_zero] at y0 y1 y2
    have HS := Lib.hid (HGET.out (by unfold kindN; omega) wx hb1)
    clear hb1 kx
    go_wp2_with fail
    (with_reducible refine (HKEY _).out.mono ?_)
    rintro e w4 ⟨rfl, rfl⟩
    go_wp2_with fail
    (with_reducible refine HS.out.mono ?_)
    rintro e w3 ⟨⟨x, b, rfl⟩, h3⟩
    have h4 := Lib.hid h3
    clear h3 HS
    go_wp2
    go_returns
    exact ⟨rfl, h4.out⟩
  · go_enter Tryd.func16, Tryd.ntmps16
    go_upto_region 1 with fail
    have kx := Blk.new W 36 #[Value.int .i64 d, .string kk, .int .i64 v]
    generalize W.alloc (Obj.cells #[Value.int .i64 d, .string kk, .int .i64 v] 36) = wx at *
    have y0 := kx.cell 0
    have y1 := kx.cell 1
    have y2 := kx.cell 2
    simp only [List.getElem?_toArray, List.getElem?_cons_succ, List.getElem?_cons_zero] at y0 y1 y2
    have HS := Lib.hid (HDEL.out (by unfold kindN; omega) wx hb1)
    clear hb1 kx
    go_wp2_with fail
    (with_reducible refine (HKEY _).out.mono ?_)
    rintro e w4 ⟨rfl, rfl⟩
    go_wp2_with fail
    (with_reducible refine HS.out.mono ?_)
    rintro e w3 ⟨⟨b, rfl⟩, h3⟩
    have h4 := Lib.hid h3
    clear h3 HS
    go_wp2
    go_returns
    exact ⟨rfl, h4.out⟩
  · go_enter Tryd.func16, Tryd.ntmps16
    go_upto_region 1 with fail
    have kx := Blk.new W 36 #[Value.int .i64 d, .string kk, .int .i64 v]
    generalize W.alloc (Obj.cells #[Value.int .i64 d, .string kk, .int .i64 v] 36) = wx at *
    have y0 := kx.cell 0
    have y1 := kx.cell 1
    have y2 := kx.cell 2
    simp only [List.getElem?_toArray, List.getElem?_cons_succ, List.getElem?_cons_zero] at y0 y1 y2
    have HS := Lib.hid (HDEL.out (by unfold kindN; omega) wx hb1)
    clear hb1 kx
    go_wp2_with fail
    (with_reducible refine (HKEY _).out.mono ?_)
    rintro e w4 ⟨rfl, rfl⟩
    go_wp2_with fail
    (with_reducible refine HS.out.mono ?_)
    rintro e w3 ⟨⟨b, rfl⟩, h3⟩
    have h4 := Lib.hid h3
    clear h3 HS
    go_wp2
    go_returns
    exact ⟨rfl, h4.out⟩
  · go_enter Tryd.func16, Tryd.ntmps16
    go_upto_region 1 with fail
    have kx := Blk.new W 36 #[Value.int .i64 d, .string kk, .int .i64 v]
    generalize W.alloc (Obj.cells #[Value.int .i64 d, .string kk, .int .i64 v] 36) = wx at *
    have y0 := kx.cell 0
    have y1 := kx.cell 1
    have y2 := kx.cell 2
    simp only [List.getElem?_toArray, List.getElem?_cons_succ, List.getElem?_cons_zero] at y0 y1 y2
    have HS := Lib.hid (HSTEP.out (by unfold kindN; omega) wx hb1)
    clear hb1 kx
    go_wp2_with fail
    (with_reducible refine HS.out.mono ?_)
    rintro e w3 ⟨⟨n, rfl⟩, h3⟩
    have h4 := Lib.hid h3
    clear h3 HS
    go_wp2
    go_returns
    exact ⟨rfl, h4.out⟩
end Go.Proofs.YtlfhiolkbnhinaaDoor
/- One act on both sides: the program's dict and the reference's stay alike. -/
namespace Go.Proofs.YtlfhiolkbnhinaaDoor
open Go.RowKit Go.Shelf

/-- What an act makes of a dict. -/
def effD (seed : Nat) (D : Dc) (d : Int) (key : ByteArray) (v : Int) : Dc :=
  if kindN d < 4 then D.setS (sumN seed key.data.toList) key (.int .i64 v) else if kindN d = 4 then D.step 1 else if kindN d < 7 then D.delS (sumN seed key.data.toList) key else D.step (min v 100).toNat
theorem effD_set {seed : Nat} {D : Dc} {d : Int} (key : ByteArray) (v : Int) (h : kindN d = 0 ∨ kindN d = 1 ∨ kindN d = 2 ∨ kindN d = 3) : effD seed D d key v = D.setS (sumN seed key.data.toList) key (.int .i64 v) := by
  unfold effD; rw [if_pos (by omega)]
theorem effD_get {seed : Nat} {D : Dc} {d : Int} (key : ByteArray) (v : Int) (h : kindN d = 4) : effD seed D d key v = D.step 1 := by
  unfold effD; rw [if_neg (by omega), if_pos h]
theorem effD_del {seed : Nat} {D : Dc} {d : Int} (key : ByteArray) (v : Int) (h : kindN d = 5 ∨ kindN d = 6) : effD seed D d key v = D.delS (sumN seed key.data.toList) key := by
  unfold effD; rw [if_neg (by omega), if_neg (by omega), if_pos (by omega)]
theorem effD_step {seed : Nat} {D : Dc} {d : Int} (key : ByteArray) (v : Int) (h : kindN d = 7) : effD seed D d key v = D.step (min v 100).toNat := by
  unfold effD; rw [if_neg (by omega), if_neg (by omega), if_neg (by omega)]

theorem acted_went {W : World} {S : Nat → Prop} {p seed : Nat} {D : Dc} (hsd : seed < 4294967296) (h : Rep tyI W p S seed D) (ok : D.Ok tyI) (hn : D.n + 1 ≤ 1000000) (d : Int) (kk : ByteArray) (hk : kk.size ≤ 9223372036854775807) (v : Int) :
    Calls Tryd.prog 15 #[.pointer (some ⟨p, 0, none⟩), .agg #[.int .i64 d, .string kk, .int .i64 v]] W fun e w' => e = .returned (.tuple #[]) ∧ Went tyI S W p seed (effD seed D d (cutK kk) v) w' := by
  have hkz := cutK_size kk
  refine act_by15 (fun w' => Went tyI S W p seed (effD seed D d (cutK kk) v) w') p d kk hk v ?_ ?_ ?_ ?_
  · intro hd W1 hb
    rw [effD_set _ _ hd]
    exact (set_any hsd (h.later hb) ok hn (cutK kk) (by omega) v).mono fun e w' ⟨he, hw⟩ => ⟨⟨_, he⟩, Went.since hb hw⟩
  · intro hd W1 hb
    rw [effD_get _ _ hd]
    exact (get_any hsd (h.later hb) ok (by omega) (cutK kk) (by omega)).mono fun e w' ⟨he, hw⟩ => ⟨⟨_, _, he⟩, Went.since hb hw⟩
  · intro hd W1 hb
    rw [effD_del _ _ hd]
    exact (del_any hsd (h.later hb) ok (by omega) (cutK kk) (by omega)).mono fun e w' ⟨he, hw⟩ => ⟨⟨_, he⟩, Went.since hb hw⟩
  · intro hd W1 hb
    rw [effD_step _ _ hd]
    exact (step_any (h.later hb) ok (by omega) (min v 100)).mono fun e w' ⟨he, hw⟩ => ⟨⟨_, he⟩, Went.since hb hw⟩

theorem modeled_went {W : World} {S : Nat → Prop} {p seed : Nat} {D : Dc} {R : Rd} (hsd : seed < 4294967296) (h : RRep W p S seed R) (ok : R.Ok) (hn : R.L.length + 1 ≤ 1000000) (al : Alike D R) (inv : Inv tyI seed D) (d : Int) (kk : ByteArray) (hk : kk.size ≤ 9223372036854775807) (v : Int) :
    Calls Tryd.prog 16 #[.pointer (some ⟨p, 0, none⟩), .agg #[.int .i64 d, .string kk, .int .i64 v]] W fun e w' => e = .returned (.tuple #[]) ∧ ∃ R', RWent S W p seed R' w' ∧ Alike (effD seed D d (cutK kk) v) R' := by
  have hkz := cutK_size kk
  refine act_by16 (fun w' => ∃ R', RWent S W p seed R' w' ∧ Alike (effD seed D d (cutK kk) v) R') p d kk hk v ?_ ?_ ?_ ?_
  · intro hd W1 hb
    rw [effD_set _ _ hd]
    refine (refset_any hsd (h.later hb) ok hn (cutK kk) (by omega) v).mono fun e w' hw => ?_
    rcases hw with ⟨i, hi, hkey, he, hw⟩ | ⟨hno, he, hw⟩
    · exact ⟨⟨_, he⟩, _, RWent.since hb hw, (al.set inv ok.at_ v).1 i hi hkey⟩
    · exact ⟨⟨_, he⟩, _, RWent.since hb hw, (al.set inv ok.at_ v).2 hno⟩
  · intro hd W1 hb
    rw [effD_get _ _ hd]
    refine (refget_any (h.later hb) ok (cutK kk)).mono fun e w' ⟨he, hw⟩ => ⟨?_, _, RWent.since hb hw, al.step1 inv ok.at_⟩
    rcases he with ⟨x, _, _, he⟩ | ⟨_, he⟩
    · exact ⟨_, _, he⟩
    · exact ⟨_, _, he⟩
  · intro hd W1 hb
    rw [effD_del _ _ hd]
    refine (refdel_any (h.later hb) ok (cutK kk)).mono fun e w' hw => ?_
    rcases hw with ⟨i, hi, hkey, he, hw⟩ | ⟨hno, he, hw⟩
    · exact ⟨⟨_, he⟩, _, RWent.since hb hw, (al.del inv ok.at_).1 i hi hkey⟩
    · exact ⟨⟨_, he⟩, _, RWent.since hb hw, (al.del inv ok.at_).2 hno⟩
  · intro hd W1 hb
    rw [effD_step _ _ hd]
    exact (refstep_any (h.later hb) ok.a0 ok.a1 ok.b1 ok.at_ ok.n ok.sum (min v 100) (by omega)).mono fun e w' ⟨he, hw⟩ => ⟨⟨_, he⟩, _, RWent.since hb hw, al.stepn inv _⟩

/-- An act keeps a dict's promises, and its keys are the act's or were there. -/
theorem effD_inv {seed : Nat} {D : Dc} (inv : Inv tyI seed D) (d : Int) (key : ByteArray) (v : Int) :
    Inv tyI seed (effD seed D d key v) ∧ (∀ y ∈ (effD seed D d key v).nodes, y.key = key ∨ ∃ x ∈ D.nodes, x.key = y.key) ∧ (effD seed D d key v).nodes.length ≤ D.nodes.length + 1 := by
  unfold effD
  split
  · obtain ⟨h1, h2⟩ := inv.set key (.int .i64 v) ⟨v, rfl⟩
    rcases h2 with ⟨_, _, hp, _⟩ | ⟨ji, y, rest, _, hk, p1, p2, _⟩
    · refine ⟨h1, fun z hz => ?_, by rw [hp.length_eq]; simp⟩
      rcases List.mem_cons.1 (hp.mem_iff.1 hz) with rfl | hz
      · exact .inl rfl
      · exact .inr ⟨z, hz, rfl⟩
    · refine ⟨h1, fun z hz => ?_, by rw [p2.length_eq, p1.length_eq]; simp⟩
      rcases List.mem_cons.1 (p2.mem_iff.1 hz) with rfl | hz
      · exact .inl hk
      · exact .inr ⟨z, p1.mem_iff.2 (List.mem_cons_of_mem _ hz), rfl⟩
  · split
    · obtain ⟨h1, h2⟩ := inv.step 1
      exact ⟨h1, fun z hz => .inr ⟨z, h2.mem_iff.1 hz, rfl⟩, by rw [h2.length_eq]; omega⟩
    · split
      · obtain ⟨h1, h2⟩ := inv.del key
        rcases h2 with ⟨_, _, hp, _⟩ | ⟨ji, y, rest, _, _, p1, p2, _⟩
        · exact ⟨h1, fun z hz => .inr ⟨z, hp.mem_iff.1 hz, rfl⟩, by rw [hp.length_eq]; omega⟩
        · exact ⟨h1, fun z hz => .inr ⟨z, p1.mem_iff.2 (List.mem_cons_of_mem _ (p2.mem_iff.1 hz)), rfl⟩, by rw [p2.length_eq, p1.length_eq]; simp; omega⟩
      · obtain ⟨h1, h2⟩ := inv.step (min v 100).toNat
        exact ⟨h1, fun z hz => .inr ⟨z, h2.mem_iff.1 hz, rfl⟩, by rw [h2.length_eq]; omega⟩
end Go.Proofs.YtlfhiolkbnhinaaDoor
/- A dict and the reference's beside it, both of a law's own blocks. -/
namespace Go.Proofs.YtlfhiolkbnhinaaDoor
open Go.RowKit Go.Shelf

theorem cells_apart {W : World} {k : Nat} (h1 : CellB tyI W k) (h2 : CellB tyR W k) : False := by
  obtain ⟨t, c, ht, hb⟩ := h1
  obtain ⟨t2, c2, ht2, hb2⟩ := h2
  have := Blk.ty hb hb2
  subst this
  unfold tyI at ht
  unfold tyR at ht2
  simp only at ht ht2
  rcases ht with rfl | rfl | rfl <;> rcases ht2 with h | h | h <;> exact absurd h (by decide)
structure Pair (w : World) (p q seed k : Nat) (D : Dc) (R : Rd) (W : World) : Prop where
  a : Rep tyI W p (fresh tyI w W) seed D
  b : RRep W q (fresh tyR w W) seed R
  below : Below w.heap.size w W
  inv : Inv tyI seed D
  like : Alike D R
  n : D.nodes.length ≤ k
  short : ∀ x ∈ D.nodes, x.key.size ≤ 12
  small : D.shape.small
section
variable {w W : World} {p q seed k : Nat} {D : Dc} {R : Rd}
theorem Pair.dn (h : Pair w p q seed k D R W) : D.n = D.nodes.length := by
  have h1 := h.inv.ok.n
  unfold Dc.nodes
  rw [List.length_append]
  exact h1
theorem alike_node (h : Alike D R) (x : Rn) (hx : x ∈ R.L) : ∃ y ∈ D.nodes, y.key = x.key ∧ y.sum = x.sum := by
  have h1 : x.tri ∈ D.nodes.map Nd.tri := h.nodes.mem_iff.2 (List.mem_map_of_mem hx)
  obtain ⟨y, hy, e⟩ := List.mem_map.1 h1
  unfold Nd.tri Rn.tri at e
  injection e with e1 e2
  injection e2 with e2 e3
  exact ⟨y, hy, e1, e3⟩
theorem Pair.rok (h : Pair w p q seed k D R W) (hk : k ≤ 1000000) : R.Ok := by
  obtain ⟨eA, eB, eP, eL⟩ := h.like.len
  have ok := h.inv.ok
  have hal := isS_pos ok.a
  have hn := h.n
  have hd := h.dn
  have hb0 : D.b.length = 0 ↔ D.b = [] := List.length_eq_zero_iff
  refine ⟨by omega, by omega, ?_, fun hB => ?_, by omega, fun x hx => ?_⟩
  · by_cases hb : D.b = []
    · have := hb0.2 hb; omega
    · have := isS_pos (ok.b hb); omega
  · rw [eP, eA]
    exact ok.place fun e => hB (by rw [eB]; exact hb0.2 e)
  · obtain ⟨y, hy, _, e⟩ := alike_node h.like x hx
    rw [← e, h.inv.sum y hy]
    exact sumN_lt _ _
theorem Pair.rshort (h : Pair w p q seed k D R W) : ∀ x ∈ R.L, x.key.size ≤ 12 := fun x hx => by
  obtain ⟨y, hy, e, _⟩ := alike_node h.like x hx
  rw [← e]
  exact h.short y hy
theorem Pair.rlen (h : Pair w p q seed k D R W) : R.L.length ≤ k := by
  obtain ⟨_, _, _, eL⟩ := h.like.len
  have := h.n
  have := h.dn
  omega
theorem Pair.later {W' : World} (h : Pair w p q seed k D R W) (hb : Below W.heap.size W W') : Pair w p q seed k D R W' :=
  ⟨(h.a.later hb).wide (fun k hk => ⟨hk.1, hk.2.same (hb.block k hk.2.lt)⟩) (fun _ hk => hk.2), (h.b.later hb).wide (fun k hk => ⟨hk.1, hk.2.same (hb.block k hk.2.lt)⟩) (fun _ hk => hk.2), h.below.trans (hb.mono h.below.size), h.inv, h.like, h.n, h.short, h.small⟩
/-- The program's dict has gone on: the reference's is as it was. -/
theorem Pair.half {W1 : World} {D' : Dc} (h : Pair w p q seed k D R W) (g : Went tyI (fresh tyI w W) W p seed D' W1) :
    Rep tyI W1 p (fresh tyI w W1) seed D' ∧ RRep W1 q (fresh tyR w W1) seed R ∧ Below w.heap.size w W1 := by
  have hb : Below w.heap.size w W1 := h.below.trans (g.2.below (fun _ hk => hk.1.resolve_left (fun h => h)) h.below.size)
  refine ⟨g.1.wide (fun k hk => ⟨.inr ?_, hk.2⟩) (fun _ hk => hk.2), (h.b.far g.2 (fun k hk hs => cells_apart hs.2 hk.2)).wide (fun k hk => ⟨hk.1, hk.2.same (g.2.block k hk.2.lt fun hs => cells_apart hs.2 hk.2)⟩) (fun _ hk => hk.2), hb⟩
  rcases hk.1 with h1 | h1
  · exact h1.1.resolve_left (fun h => h)
  · exact Nat.le_trans h.below.size h1
theorem Pair.whole {W1 W2 : World} {D' : Dc} {R' : Rd} (ha : Rep tyI W1 p (fresh tyI w W1) seed D') (hb : Below w.heap.size w W1) (g : RWent (fresh tyR w W1) W1 q seed R' W2) :
    Rep tyI W2 p (fresh tyI w W2) seed D' ∧ RRep W2 q (fresh tyR w W2) seed R' ∧ Below w.heap.size w W2 := by
  refine ⟨(ha.far g.2 (fun k hk hs => cells_apart hk.2 hs.2)).wide (fun k hk => ⟨hk.1, hk.2.same (g.2.block k hk.2.lt fun hs => cells_apart hk.2 hs.2)⟩) (fun _ hk => hk.2), g.1.wide (fun k hk => ⟨.inr ?_, hk.2⟩) (fun _ hk => hk.2), hb.trans (g.2.below (fun _ hk => hk.1.resolve_left (fun h => h)) hb.size)⟩
  rcases hk.1 with h1 | h1
  · exact h1.1.resolve_left (fun h => h)
  · exact Nat.le_trans hb.size h1
theorem effD_small (inv : Inv tyI seed D) (hn : D.n + 1 ≤ 256) (hs : D.shape.small) (d : Int) (key : ByteArray) (v : Int) : (effD seed D d key v).shape.small := by
  have hn2 : D.shape.n ≤ 256 := by show D.n ≤ 256; omega
  unfold effD
  split
  · rw [shape_set inv.ok]; exact small_set hs hn2 _
  · split
    · rw [shape_step inv.ok]; exact small_steps hs _
    · split
      · rw [shape_del inv.ok]; exact small_del hs hn2 _
      · rw [shape_step inv.ok]; exact small_steps hs _
/-- An act, on both sides. -/
theorem Pair.act {W2 W1 : World} {R' : Rd} {d : Int} {kk : ByteArray} {v : Int} (h : Pair w p q seed k D R W) (hk : k + 1 ≤ 256) (g : Went tyI (fresh tyI w W) W p seed (effD seed D d (cutK kk) v) W1)
    (g2 : RWent (fresh tyR w W1) W1 q seed R' W2) (al : Alike (effD seed D d (cutK kk) v) R') : Pair w p q seed (k + 1) (effD seed D d (cutK kk) v) R' W2 := by
  obtain ⟨h1, h2, h3⟩ := h.half g
  obtain ⟨h4, h5, h6⟩ := Pair.whole h1 h3 g2
  obtain ⟨e1, e2, e3⟩ := effD_inv h.inv d (cutK kk) v
  have hn := h.n
  refine ⟨h4, h5, h6, e1, al, by omega, fun x hx => ?_, effD_small h.inv (by have := h.dn; omega) h.small d _ v⟩
  rcases e2 x hx with e | ⟨y, hy, e⟩
  · rw [e]; exact cutK_size kk
  · rw [← e]; exact h.short y hy
end
end Go.Proofs.YtlfhiolkbnhinaaDoor
/- ScanTells: a scan tells what the reference's scan tells. -/
namespace Go.Proofs.YtlfhiolkbnhinaaDoor
open Go.RowKit Go.Shelf Go.Sort
attribute [local go_sem] Oper.semAt_some

/-- Cursors in memory. -/
def Us (W : World) (a : Option Addr) (l : List Nat) : Prop := ∀ (i : Nat) (h : i < l.length), ∃ b off, a = some ⟨b, off, none⟩ ∧ W.cell? ⟨b, off + i, none⟩ = some (.int .u32 l[i])
theorem Us.below {w W : World} {a : Option Addr} {l : List Nat} (h : Us w a l) (hb : Below w.heap.size w W) : Us W a l := fun i hi => by
  obtain ⟨b, off, ha, h0⟩ := h i hi
  exact ⟨b, off, ha, (hb.cell (p := ⟨b, _, none⟩) (World.block_lt_of_cell? w ⟨b, off + i, none⟩ h0)).trans h0⟩
theorem alike_new : Alike newD ⟨[], 4, 0, 0⟩ := ⟨rfl, by rw [show newD.a.flatten = [] by decide +kernel]; exact List.Perm.refl _, by rw [show newD.b.flatten = [] by decide +kernel]; exact List.Perm.refl _⟩
theorem Pair.new {w w1 w2 w3 : World} {p q seed : Nat} (hb1 : Below w.heap.size w w1) (h2 : Rep tyI w2 p (fresh tyI w1 w2) seed newD) (hb2 : Below w1.heap.size w1 w2) (h3 : RRep w3 q (fresh tyR w2 w3) seed ⟨[], 4, 0, 0⟩) (hb3 : Below w2.heap.size w2 w3) : Pair w p q seed 0 newD ⟨[], 4, 0, 0⟩ w3 := by
  have h12 := hb1.trans (hb2.mono hb1.size)
  refine ⟨(h2.later hb3).wide (fun k hk => ⟨.inr (Nat.le_trans hb1.size (hk.1.resolve_left (fun h => h))), hk.2.same (hb3.block k hk.2.lt)⟩) (fun _ hk => hk.2), h3.wide (fun k hk => ⟨.inr (Nat.le_trans h12.size (hk.1.resolve_left (fun h => h))), hk.2⟩) (fun _ hk => hk.2), h12.trans (hb3.mono h12.size), ?_, alike_new, by decide +kernel, fun x hx => ?_, ⟨by show 4 ≤ 1024; omega, by show 0 ≤ 1024; omega⟩⟩
  · exact (Like.new tyI seed).1
  · have : newD.nodes = [] := by decide +kernel
    rw [this] at hx
    cases hx
theorem scanK_len {seed : Nat} {D : Dc} (inv : Inv tyI seed D) (hs : D.shape.small) (hn : D.n ≤ 1000000) (c : Nat) (hc : c < 4294967296) : (scanK D (turnN c)).length ≤ 1000000 := by
  have h9 := (scan_told inv hs.1 hs.2 (turnN c) (turn_lt c hc))
  have h8 := nodup_sub (K := D.nodes.map bytesK) h9.1 (fun k hk => by
    obtain ⟨⟨x, hx, he⟩, _⟩ := h9.2.1 k hk
    exact List.mem_map.2 ⟨x, hx, he⟩)
  rw [List.length_map] at h8
  have h7 : D.nodes.length = D.n := by unfold Dc.nodes; rw [List.length_append]; exact inv.ok.n.symm
  omega

set_option maxRecDepth 100000 in
set_option maxHeartbeats 8000000 in
theorem tells_walk (seed : Nat) (hsd : seed < 4294967296) (a : Option Addr) (cap : Nat) (l : List (Int × ByteArray × Int)) (_ : l.length ≤ 9223372036854775807) (hz : ∀ x ∈ l, x.2.1.size ≤ 9223372036854775807)
    (a2 : Option Addr) (cap2 : Nat) (lc : List Nat) (_ : lc.length ≤ 9223372036854775807) (hcz : ∀ x ∈ lc, x < 4294967296)
    (w : World) (hEnv : Env w) (hE : Acts w a l) (hU : Us w a2 lc) : Calls Tryd.prog 4 #[.int .u32 seed, .slice a l.length cap, .slice a2 lc.length cap2] w fun e w' => e = .returned (.bool true) ∧ Below w.heap.size w w' := by
  have HE := Lib.hid hE
  have HU := Lib.hid hU
  have HV := Lib.hid hEnv
  clear hE hU
  go_enter Tryd.func4, Tryd.ntmps4
  go_wp2_with fail
  refine (shown_any _ HV.out).mono ?_
  rintro e w1 ⟨rfl, hb1⟩
  have HB1 := Lib.hid hb1
  clear hb1 hEnv
  go_wp2_with fail
  refine (new_any seed _).mono ?_
  rintro e w2 ⟨p, rfl, h2, hb2⟩
  have H2 := Lib.hid h2
  have HB2 := Lib.hid hb2
  clear h2 hb2
  go_wp2_with fail
  refine (refnew_any seed _).mono ?_
  rintro e w3 ⟨q, rfl, h3, hb3⟩
  have HP := Lib.hid (Pair.new HB1.out H2.out HB2.out h3 hb3)
  clear h3 hb3 H2 HB2 HB1
  go_wp2
  go_loopw [10] (fun i wr => ∃ (j : Nat) (D : Dc) (R : Rd), i = .int .i64 j ∧ j ≤ l.length ∧ j ≤ 100 ∧ Pair w p q seed j D R wr) (fun i _ => l.length - (intOf i).toNat)
  case atStart => exact ⟨0, _, _, rfl, by omega, by omega, HP.out⟩
  case round =>
    obtain ⟨j, D, R, rfl, hj, hj100, hP⟩ := hrel
    by_cases hlt : j < l.length ∧ j < 100
    · obtain ⟨hjl, hj8⟩ := hlt
      obtain ⟨b, off, rfl, c0, c1, c2⟩ := (HE.out.below hP.below) j hjl
      have hACS := Lib.hid (fun (W : World) (hb : Below w.heap.size w W) => HE.out.below hb j hjl)
      have hsz := hz _ (List.getElem_mem hjl)
      generalize l[j] = x at *
      obtain ⟨d, kk, vv⟩ := x
      simp only at c0 c1 c2 hsz hACS
      have hdn := hP.dn
      have hnj := hP.n
      have hACT := Lib.hid (acted_went hsd hP.a hP.inv.ok (by omega) d kk hsz vv)
      have hMOD := Lib.hid (fun W hr => modeled_went (W := W) (S := fresh tyR w W) (p := q) hsd hr (hP.rok (by omega)) (by have := hP.rlen; omega) hP.like hP.inv d kk hsz vv)
      have HPP := Lib.hid hP
      have hj8' : (j : Int) < 100 := by omega
      clear hP hdn hnj
      go_wp2_with fail
      (with_reducible refine hACT.out.mono ?_)
      rintro e w4 ⟨rfl, hg⟩
      obtain ⟨k1, k2, k3⟩ := HPP.out.half hg
      obtain ⟨b', off', e', f0, f1, f2⟩ := hACS.out w4 k3
      cases e'
      have HG := Lib.hid hg
      have hM2 := Lib.hid (hMOD.out w4 k2)
      clear hg hMOD k1 k2 k3 hACT
      go_wp2_with fail
      (with_reducible refine hM2.out.mono ?_)
      rintro e w5 ⟨rfl, R', hg2, hal⟩
      have hP2 := HPP.out.act (by omega) HG.out hg2 hal
      generalize effD seed D d (cutK kk) vv = D2 at *
      have HP2 := Lib.hid hP2
      have hUS := Lib.hid (HU.out.below hP2.below)
      have hdn := hP2.dn
      have hnj := hP2.n
      have hSC := Lib.hid (fun c hc => scan_any hP2.a hP2.inv.ok (by omega) hP2.small.1 hP2.small.2 c hc (HV.out.below hP2.below))
      have hRS := Lib.hid (fun W (hb : Below w5.heap.size w5 W) c hc => refscan_any (hP2.b.later hb) (hP2.rok (by omega)) (fun x hx => Nat.le_trans (hP2.rshort x hx) (by omega)) hP2.like hP2.inv hP2.inv.ok (by omega) hP2.small.1 hP2.small.2 c hc)
      have hLN := Lib.hid (fun c hc => scanK_len hP2.inv hP2.small (by omega) c hc)
      clear hg2 hal hP2 HG hM2 HPP hACS f0 f1 f2 c0 c1 c2 hdn hnj
      by_cases hjc : j < lc.length
      · obtain ⟨b2, off2, rfl, g0⟩ := hUS.out j hjc
        have hcc := hcz _ (List.getElem_mem hjc)
        generalize lc[j] = c at *
        have HCC := Lib.hid hcc
        go_wp2_with fail
        refine (hSC.out c HCC.out).mono ?_
        rintro e w6 ⟨u, rfl, ho, hb6⟩
        have HO := Lib.hid ho
        have HB6 := Lib.hid hb6
        have hR6 := Lib.hid (hRS.out w6 hb6 c HCC.out)
        clear ho hb6
        go_wp2_with fail
        refine hR6.out.mono ?_
        rintro e w7 ⟨u2, rfl, ho2, hb7⟩
        have hT := Lib.hid (texts_same (HO.out.below hb7) ho2 (hLN.out c HCC.out))
        have HP7 := Lib.hid (HP2.out.later (HB6.out.trans (hb7.mono HB6.out.size)))
        clear ho2 hb7
        go_wp2_with fail
        refine hT.out.mono ?_
        rintro e w8 ⟨rfl, hb8⟩
        have HP8 := Lib.hid (HP7.out.later hb8)
        clear hb8
        go_wp2
        exact ⟨⟨j + 1, _, _, by go_num, by omega, by omega, HP8.out⟩, by simp [intOf]; omega⟩
      · have hjc2 : (lc.length : Int) ≤ j := by omega
        have HCC := Lib.hid (show 0 < 4294967296 by omega)
        go_wp2_with fail
        refine (hSC.out 0 HCC.out).mono ?_
        rintro e w6 ⟨u, rfl, ho, hb6⟩
        have HO := Lib.hid ho
        have HB6 := Lib.hid hb6
        have hR6 := Lib.hid (hRS.out w6 hb6 0 HCC.out)
        clear ho hb6
        go_wp2_with fail
        refine hR6.out.mono ?_
        rintro e w7 ⟨u2, rfl, ho2, hb7⟩
        have hT := Lib.hid (texts_same (HO.out.below hb7) ho2 (hLN.out 0 HCC.out))
        have HP7 := Lib.hid (HP2.out.later (HB6.out.trans (hb7.mono HB6.out.size)))
        clear ho2 hb7
        go_wp2_with fail
        refine hT.out.mono ?_
        rintro e w8 ⟨rfl, hb8⟩
        have HP8 := Lib.hid (HP7.out.later hb8)
        clear hb8
        go_wp2
        exact ⟨⟨j + 1, _, _, by go_num, by omega, by omega, HP8.out⟩, by simp [intOf]; omega⟩
    · have hex : (l.length : Int) ≤ j ∨ ((j : Int) < l.length ∧ (j : Int) = 100) := by omega
      have HPP := Lib.hid hP.below
      clear hP
      rcases hex with hex | ⟨hex, hex2⟩
      all_goals (
        go_wp2
        go_returns
        exact ⟨rfl, HPP.out⟩)
end Go.Proofs.YtlfhiolkbnhinaaDoor
