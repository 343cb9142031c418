/- Texts of one kind in one: Rd, Rstep, Rops. -/
import Derived.Test.YtlfhiolkbnhinaaDoorIs
import Derived.Test.YtlfhiolkbnhinaaDoorRefs
/- The reference's dict: its list of nodes, where it lies. -/
namespace Go.Proofs.YtlfhiolkbnhinaaDoor
open Go.RowKit Go.Shelf
attribute [local go_sem] Oper.semAt_some

structure Rn where
  key : ByteArray
  v : Int
  sum : Nat
  nx : Bool
def Rn.cells (x : Rn) : List Value := [.string x.key, .int .i64 x.v, .int .u32 x.sum, .bool x.nx]
def rflat (r : List Rn) : List Value := r.flatMap Rn.cells
structure Rd where
  L : List Rn
  A : Nat
  B : Nat
  At : Nat
def tyR : Ty := ⟨73, 103, 103, fun _ => True⟩

theorem rflat_cons (x : Rn) (r : List Rn) : rflat (x :: r) = x.cells ++ rflat r := rfl
theorem rflat_append (a b : List Rn) : rflat (a ++ b) = rflat a ++ rflat b := by unfold rflat; rw [List.flatMap_append]
theorem rflat_len (r : List Rn) : (rflat r).length = r.length * 4 := by
  induction r with
  | nil => rfl
  | cons x r ih => rw [rflat_cons, List.length_append, ih, List.length_cons]; simp [Rn.cells]; omega
theorem rflat_at (r : List Rn) : ∀ (i : Nat) (x : Rn), r[i]? = some x → ∀ j < 4, (rflat r)[i * 4 + j]? = x.cells[j]? := by
  induction r with
  | nil => intro i x h; simp at h
  | cons y r ih =>
    intro i x h j hj
    cases i with
    | zero =>
      simp at h; subst h
      rw [rflat_cons, List.getElem?_append_left (by simp [Rn.cells]; omega), Nat.zero_mul, Nat.zero_add]
    | succ i =>
      rw [rflat_cons, List.getElem?_append_right (by simp [Rn.cells]; omega), ← ih i x (by simpa using h) j hj]
      congr 1
      simp [Rn.cells]; omega
theorem rflat_one (r : List Rn) : ∀ u ∈ rflat r, u.oneCell' = true := by
  intro u hu
  obtain ⟨x, _, hu⟩ := List.mem_flatMap.1 hu
  simp only [Rn.cells, List.mem_cons, List.not_mem_nil, or_false] at hu
  rcases hu with rfl | rfl | rfl | rfl <;> rfl
theorem rflat_set (r : List Rn) : ∀ (i : Nat) (x : Rn) (j : Nat) (u : Value) (y : Rn), r[i]? = some x → j < 4 → x.cells.set j u = y.cells → (rflat r).set (i * 4 + j) u = rflat (r.set i y) := by
  induction r with
  | nil => intro i x j u y h; simp at h
  | cons z r ih =>
    intro i x j u y h hj he
    cases i with
    | zero =>
      simp at h; subst h
      rw [rflat_cons, List.set_append_left _ _ (by simp [Rn.cells]; omega), Nat.zero_mul, Nat.zero_add, he, List.set_cons_zero, rflat_cons]
    | succ i =>
      rw [rflat_cons, List.set_append_right _ _ (by simp [Rn.cells]; omega), List.set_cons_succ, rflat_cons, ← ih i x j u y (by simpa using h) hj he]
      congr 2
      simp [Rn.cells]; omega

def RRow (W : World) (v : Value) (r : List Rn) : Prop := W.ownsRow 0 103 4 v r.length (rflat r)
theorem RRow.nil (W : World) : RRow W (.slice none 0 0) [] := World.ownsRow_nil _ _ _ _
theorem RRow.blk {W : World} {v : Value} {r : List Rn} (h : RRow W v r) {k : Nat} (hk : v.ownBlock = some k) : ∃ c, Blk W k 103 c := by
  rcases h.2 with ⟨rfl, _⟩ | ⟨g, cap, cur, rfl, _, hg, _⟩
  · simp [Value.ownBlock] at hk
  · simp [Value.ownBlock] at hk; subst hk; exact ⟨cur, hg⟩
theorem RRow.lt {W : World} {v : Value} {r : List Rn} (h : RRow W v r) {k : Nat} (hk : v.ownBlock = some k) : k < W.heap.size := by
  obtain ⟨c, hc⟩ := h.blk hk; exact hc.lt
theorem RRow.keep {W W' : World} {v : Value} {r : List Rn} (h : RRow W v r) (hb : ∀ k, v.ownBlock = some k → W'.heap[k]? = W.heap[k]?) : RRow W' v r := by
  refine ⟨h.1, ?_⟩
  rcases h.2 with hn | ⟨g, cap, cur, rfl, hb', hg, rest⟩
  · exact .inl hn
  · exact .inr ⟨g, cap, cur, rfl, hb', (hb g rfl).trans hg, rest⟩
theorem RRow.form {W : World} {v : Value} {r : List Rn} (h : RRow W v r) : ∃ A cap, v = .slice A r.length cap ∧ r.length ≤ cap ∧ cap ≤ maxLen ∧
    (∀ i x, r[i]? = some x → ∃ g, A = some ⟨g, 0, none⟩ ∧ v.ownBlock = some g ∧ W.cell? ⟨g, i * 4, none⟩ = some (.string x.key) ∧ W.cell? ⟨g, i * 4 + 1, none⟩ = some (.int .i64 x.v) ∧ W.cell? ⟨g, i * 4 + 2, none⟩ = some (.int .u32 x.sum) ∧ W.cell? ⟨g, i * 4 + 3, none⟩ = some (.bool x.nx) ∧ ∀ o, W.frozen? ⟨g, o, none⟩ = false) := by
  have hO := h
  rcases h.2 with ⟨rfl, h0⟩ | ⟨g, cap, cur, rfl, _, hg, hl, hm, _⟩
  · have hr : r = [] := List.eq_nil_of_length_eq_zero h0
    subst hr
    exact ⟨none, 0, rfl, Nat.le_refl _, Nat.zero_le _, fun i x hx => by simp at hx⟩
  · refine ⟨some ⟨g, 0, none⟩, cap, rfl, hl, hm, fun i x hx => ⟨g, rfl, rfl, ?_⟩⟩
    obtain ⟨hi, _⟩ := List.getElem?_eq_some_iff.1 hx
    have e := rflat_at r i x hx
    have hc := fun j hj => World.ownsRow.cellAt (w := W) (base := 0) (e := 103) (size := 4) (g := g) (n := r.length) (cap := cap) (xs := rflat r) hO j hj
    have e0 : (rflat r)[i * 4]? = some (.string x.key) := e 0 (by decide)
    have e1 : (rflat r)[i * 4 + 1]? = some (.int .i64 x.v) := e 1 (by decide)
    have e2 : (rflat r)[i * 4 + 2]? = some (.int .u32 x.sum) := e 2 (by decide)
    have e3 : (rflat r)[i * 4 + 3]? = some (.bool x.nx) := e 3 (by decide)
    exact ⟨(hc _ (by omega)).trans e0, (hc _ (by omega)).trans e1, (hc _ (by omega)).trans e2, (hc _ (by omega)).trans e3, fun o => World.ownsRow.frozenAt (w := W) (base := 0) (e := 103) (size := 4) (g := g) (n := r.length) (cap := cap) (xs := rflat r) hO o⟩
/-- A cell of a node is written. -/
theorem RRow.store {W : World} {v : Value} {r : List Rn} (h : RRow W v r) {g : Nat} (hg : v.ownBlock = some g) {i j : Nat} {x y : Rn} {u : Value} (hx : r[i]? = some x) (hj : j < 4) (he : x.cells.set j u = y.cells) :
    RRow (W.setCell ⟨g, i * 4 + j, none⟩ u) v (r.set i y) := by
  obtain ⟨hi, _⟩ := List.getElem?_eq_some_iff.1 hx
  unfold RRow
  rw [List.length_set, ← rflat_set r i x j u y hx hj he]
  refine ⟨by rw [List.length_set]; exact h.1, ?_⟩
  rcases h.2 with ⟨rfl, h0⟩ | ⟨g', cap, cur, rfl, hb, hg', hl, hm, hs, ht⟩
  · omega
  · simp [Value.ownBlock] at hg
    subst hg
    refine .inr ⟨g', cap, cur.setIfInBounds (i * 4 + j) u, rfl, hb, Blk.set (i * 4 + j) u hg', hl, hm, by simp [hs], ?_⟩
    rw [Array.toList_setIfInBounds, List.take_set, ht]

structure RefAt (W : World) (p : Nat) (v : Value) (seed : Nat) (R : Rd) : Prop where
  dict : Blk W p 73 #[.int .u32 seed, v, .int .i64 R.A, .int .i64 R.B, .int .i64 R.At]
  row : RRow W v R.L
/-- The reference's dict lies in the blocks S. -/
def RRep (W : World) (p : Nat) (S : Nat → Prop) (seed : Nat) (R : Rd) : Prop :=
  ∃ v, RefAt W p v seed R ∧ S p ∧ (∀ k, v.ownBlock = some k → S k) ∧ ∀ k, S k → CellB tyR W k
def RWent (S : Nat → Prop) (W : World) (p seed : Nat) (R : Rd) (W' : World) : Prop := RRep W' p (grow tyR S W W') seed R ∧ Far S W W'

theorem RefAt.far {S : Nat → Prop} {W W' : World} {p seed : Nat} {v : Value} {R : Rd} (h : RefAt W p v seed R) (f : Far S W W') (hp : ¬ S p) (hv : ∀ k, v.ownBlock = some k → ¬ S k) : RefAt W' p v seed R :=
  ⟨f.blk h.dict hp, h.row.keep fun k hk => f.block k (h.row.lt hk) (hv k hk)⟩
theorem RefAt.later {W W' : World} {p seed : Nat} {v : Value} {R : Rd} (h : RefAt W p v seed R) (hb : Below W.heap.size W W') : RefAt W' p v seed R :=
  h.far (S := fun _ => False) (Far.of_below hb) (fun h => h) (fun _ _ h => h)
theorem RefAt.ne {W : World} {p seed : Nat} {v : Value} {R : Rd} (h : RefAt W p v seed R) : v.ownBlock ≠ some p := fun e => by
  obtain ⟨c, hc⟩ := h.row.blk e
  exact absurd (h.dict.ty hc) (by decide)
theorem RRep.far {S S1 : Nat → Prop} {W W' : World} {p seed : Nat} {R : Rd} (h : RRep W p S seed R) (f : Far S1 W W') (hd : ∀ k, S k → ¬ S1 k) : RRep W' p S seed R := by
  obtain ⟨v, hm, hp, hv, hc⟩ := h
  exact ⟨v, hm.far f (hd _ hp) (fun k hk => hd _ (hv k hk)), hp, hv, fun k hk => (hc k hk).same (f.block k (hc k hk).lt (hd k hk))⟩
theorem RRep.later {S : Nat → Prop} {W W' : World} {p seed : Nat} {R : Rd} (h : RRep W p S seed R) (hb : Below W.heap.size W W') : RRep W' p S seed R :=
  h.far (S1 := fun _ => False) (Far.of_below hb) fun _ _ h => h
theorem RRep.cells {S : Nat → Prop} {W : World} {p seed : Nat} {R : Rd} (h : RRep W p S seed R) : ∀ k, S k → CellB tyR W k := by obtain ⟨_, _, _, _, hc⟩ := h; exact hc
theorem RRep.lt {S : Nat → Prop} {W : World} {p seed : Nat} {R : Rd} (h : RRep W p S seed R) : ∀ k, S k → k < W.heap.size := fun k hk => (h.cells k hk).lt
theorem RRep.wide {S S1 : Nat → Prop} {W : World} {p seed : Nat} {R : Rd} (h : RRep W p S seed R) (hs : ∀ k, S k → S1 k) (hc : ∀ k, S1 k → CellB tyR W k) : RRep W p S1 seed R := by
  obtain ⟨v, hm, hp, hv, _⟩ := h
  exact ⟨v, hm, hs _ hp, fun k hk => hs _ (hv k hk), hc⟩
theorem RWent.start {S : Nat → Prop} {W : World} {p seed : Nat} {R : Rd} (h : RRep W p S seed R) : RWent S W p seed R W :=
  ⟨h.wide (fun k hk => ⟨.inl hk, h.cells k hk⟩) (fun _ hk => hk.2), Far.refl _ _⟩
theorem RWent.trans {S : Nat → Prop} {W W1 W2 : World} {p seed : Nat} {R R2 : Rd} (h : RWent S W p seed R W1) (g : RWent (grow tyR S W W1) W1 p seed R2 W2) : RWent S W p seed R2 W2 :=
  ⟨g.1.wide (fun k hk => ⟨by
    rcases hk.1 with h1 | h1
    · exact h1.1
    · exact .inr (Nat.le_trans h.2.size h1), hk.2⟩) (fun _ hk => hk.2), h.2.trans g.2 fun k hk => hk.1⟩
theorem RWent.later {S : Nat → Prop} {W W1 W2 : World} {p seed : Nat} {R : Rd} (h : RWent S W p seed R W1) (hb : Below W1.heap.size W1 W2) : RWent S W p seed R W2 :=
  ⟨(h.1.later hb).wide (fun k hk => ⟨hk.1, hk.2.same (hb.block k hk.2.lt)⟩) (fun _ hk => hk.2), h.2.then_below hb⟩
theorem RWent.since {S : Nat → Prop} {W W1 W2 : World} {p seed : Nat} {R : Rd} (hb : Below W.heap.size W W1) (h : RWent S W1 p seed R W2) : RWent S W p seed R W2 :=
  ⟨h.1.wide (fun k hk => ⟨by
    rcases hk.1 with h1 | h1
    · exact .inl h1
    · exact .inr (Nat.le_trans hb.size h1), hk.2⟩) (fun _ hk => hk.2), (Far.of_below hb).trans h.2 fun k hk => .inl hk⟩
theorem RWent.mk' {S : Nat → Prop} {W W' : World} {p seed : Nat} {v : Value} {R : Rd} (hm : RefAt W' p v seed R) (hf : Far S W W') (hp : S p ∨ W.heap.size ≤ p) (hv : ∀ k, v.ownBlock = some k → S k ∨ W.heap.size ≤ k) : RWent S W p seed R W' := by
  refine ⟨⟨v, hm, ⟨hp, _, _, .inl rfl, hm.dict⟩, fun k hk => ⟨hv k hk, ?_⟩, fun _ hk => hk.2⟩, hf⟩
  obtain ⟨c, hc⟩ := hm.row.blk hk
  exact ⟨_, c, .inr (.inl rfl), hc⟩
/-- The reference's five cells. -/
theorem ref_facts {W : World} {p seed : Nat} {v : Value} {R : Rd} (h : RefAt W p v seed R) :
    W.cell? ⟨p, 0, none⟩ = some (.int .u32 seed) ∧ W.cell? ⟨p, 1, none⟩ = some v ∧ W.cell? ⟨p, 2, none⟩ = some (.int .i64 R.A) ∧
    W.cell? ⟨p, 3, none⟩ = some (.int .i64 R.B) ∧ W.cell? ⟨p, 4, none⟩ = some (.int .i64 R.At) ∧ ∀ o, W.frozen? ⟨p, o, none⟩ = false :=
  ⟨h.dict.cell 0, h.dict.cell 1, h.dict.cell 2, h.dict.cell 3, h.dict.cell 4, fun o => h.dict.free o⟩

/-- New. -/
theorem refnew_any (sd : Nat) (w : World) : Calls Tryd.prog 14 #[.int .u32 sd] w fun e w' => ∃ q, e = .returned (.pointer (some ⟨q, 0, none⟩)) ∧ RRep w' q (fresh tyR w w') sd ⟨[], 4, 0, 0⟩ ∧ Below w.heap.size w w' := by
  go_enter Tryd.func14, Tryd.ntmps14
  go_wp2
  go_ret
  refine ⟨w.heap.size, rfl, ⟨.slice none 0 0, ⟨Blk.new _ _ _, RRow.nil _⟩, ⟨.inr (Nat.le_refl _), _, _, .inl rfl, Blk.new _ _ _⟩, fun k hk => by simp [Value.ownBlock] at hk, fun k hk => hk.2⟩, (Below.refl _ _).alloc (Nat.le_refl _) _⟩

section
variable {S : Nat → Prop} {p seed : Nat} {R : Rd} {w : World}
/-- The place of a key's node, or -1. -/
def atN (r : List Rn) (key : ByteArray) : Int := match r.findIdx? (·.key = key) with
  | some i => i
  | none => -1
theorem atN_some {r : List Rn} {key : ByteArray} {j : Nat} (hj : j < r.length) (hk : r[j].key = key) (hb : ∀ k x, k < j → r[k]? = some x → x.key ≠ key) : atN r key = j := by
  have h : r.findIdx? (·.key = key) = some j := by
    rw [List.findIdx?_eq_some_iff_getElem]
    refine ⟨hj, by simpa using hk, fun k hkj => ?_⟩
    simpa using hb k _ hkj (List.getElem?_eq_getElem (by omega))
  unfold atN
  rw [h]
theorem atN_none {r : List Rn} {key : ByteArray} (hb : ∀ x ∈ r, x.key ≠ key) : atN r key = -1 := by
  have h : r.findIdx? (·.key = key) = none := by
    rw [List.findIdx?_eq_none_iff]
    intro x hx
    simpa using hb x hx
  unfold atN
  rw [h]
theorem at_any (h : RRep w p S seed R) (hn : R.L.length ≤ 1000000) (key : ByteArray) : Calls Tryd.prog 59 #[.pointer (some ⟨p, 0, none⟩), .string key] w fun e w' => e = .returned (.int .i64 (atN R.L key)) ∧ w' = w := by
  obtain ⟨v, hm, hp, hv, hc⟩ := h
  obtain ⟨A, cap, rfl, hcap, hmax, hform⟩ := hm.row.form
  obtain ⟨c0, c1, c2, c3, c4, f0⟩ := ref_facts hm
  have HM := Lib.hid hm
  have HF := Lib.hid hform
  clear hform hm hv hc
  go_enter Tryd.func59, Tryd.ntmps59
  go_wp2
  go_loopw [5] (fun i wr => ∃ j : Nat, i = .int .i64 j ∧ j ≤ R.L.length ∧ (∀ k x, k < j → R.L[k]? = some x → x.key ≠ key) ∧ wr = w) (fun i _ => R.L.length - (intOf i).toNat)
  case atStart => exact ⟨0, rfl, by omega, fun k x hk => by omega, rfl⟩
  case round =>
    obtain ⟨j, rfl, hj, hb, rfl⟩ := hrel
    by_cases hlt : j < R.L.length
    · obtain ⟨g, rfl, hg, e0, e1, e2, e3, hfz⟩ := HF.out j _ (List.getElem?_eq_getElem hlt)
      obtain ⟨kk, hkk⟩ : ∃ kk, kk = R.L[j].key := ⟨_, rfl⟩
      rw [← hkk] at e0
      have HKK := Lib.hid hkk
      have HB := Lib.hid hb
      clear hkk hb e1 e2 e3 hg
      by_cases hk : kk = key
      · subst hk
        go_wp2
        go_ret
        refine ⟨?_, rfl⟩
        rw [atN_some hlt HKK.out.symm HB.out]
        rfl
      · have hk2 : (kk.toList == key.toList) = false := by rw [ByteArray.toList_eq, ByteArray.toList_eq]; simpa using fun e => hk (ByteArray.ext (Array.toList_inj.1 e))
        go_wp2
        refine ⟨⟨j + 1, by go_num, by omega, fun k x hkj hx => ?_, trivial⟩, by simp [intOf]; omega⟩
        by_cases h1 : k < j
        · exact HB.out k x h1 hx
        · obtain rfl : k = j := by omega
          rw [List.getElem?_eq_getElem hlt, Option.some.injEq] at hx
          rw [← hx, ← HKK.out]
          exact hk
    · have hj' : (R.L.length : Int) ≤ j := by omega
      go_wp2
      go_ret
      refine ⟨?_, rfl⟩
      rw [atN_none (r := R.L) (key := key) (fun x hx => by
        obtain ⟨k, hk, hkx⟩ := List.getElem_of_mem hx
        rw [← hkx]
        exact hb k _ (by omega) (List.getElem?_eq_getElem hk))]
      rfl
end
end Go.Proofs.YtlfhiolkbnhinaaDoor
/- The reference's Step. -/
namespace Go.Proofs.YtlfhiolkbnhinaaDoor
open Go.RowKit Go.Shelf
attribute [local go_sem] Oper.semAt_some

theorem RefAt.setRow {W : World} {p seed : Nat} {v : Value} {R : Rd} (h : RefAt W p v seed R) (o : Nat) (u : Value) : RRow (W.setCell ⟨p, o, none⟩ u) v R.L :=
  h.row.keep fun _ hk => Below.heap_setCell _ _ _ _ (fun e => h.ne (by rw [hk, e]))
theorem RefAt.setA {W : World} {p seed : Nat} {v : Value} {R : Rd} (h : RefAt W p v seed R) (n : Nat) : RefAt (W.setCell ⟨p, 2, none⟩ (.int .i64 n)) p v seed { R with A := n } :=
  ⟨h.dict.set 2 _, h.setRow 2 _⟩
theorem RefAt.setB {W : World} {p seed : Nat} {v : Value} {R : Rd} (h : RefAt W p v seed R) (n : Nat) : RefAt (W.setCell ⟨p, 3, none⟩ (.int .i64 n)) p v seed { R with B := n } :=
  ⟨h.dict.set 3 _, h.setRow 3 _⟩
theorem RefAt.setAt {W : World} {p seed : Nat} {v : Value} {R : Rd} (h : RefAt W p v seed R) (n : Nat) : RefAt (W.setCell ⟨p, 4, none⟩ (.int .i64 n)) p v seed { R with At := n } :=
  ⟨h.dict.set 4 _, h.setRow 4 _⟩
theorem RefAt.node {W : World} {p seed : Nat} {v : Value} {R : Rd} (h : RefAt W p v seed R) {g : Nat} (hg : v.ownBlock = some g) {i j : Nat} {x y : Rn} {u : Value} (hx : R.L[i]? = some x) (hj : j < 4) (he : x.cells.set j u = y.cells) :
    RefAt (W.setCell ⟨g, i * 4 + j, none⟩ u) p v seed { R with L := R.L.set i y } :=
  ⟨h.dict.setOther _ _ (fun e => h.ne (by rw [hg, e])), h.row.store hg hx hj he⟩

/-- The first i nodes are turned. -/
def mapTo (f : Rn → Rn) (L : List Rn) (i : Nat) : List Rn := (L.take i).map f ++ L.drop i
theorem mapTo_zero (f : Rn → Rn) (L : List Rn) : mapTo f L 0 = L := by simp [mapTo]
theorem mapTo_all (f : Rn → Rn) (L : List Rn) : mapTo f L L.length = L.map f := by simp [mapTo]
theorem mapTo_len (f : Rn → Rn) (L : List Rn) (i : Nat) : (mapTo f L i).length = L.length := by simp [mapTo]; omega
theorem mapTo_at (f : Rn → Rn) (L : List Rn) (i : Nat) (hi : i < L.length) : (mapTo f L i)[i]? = some L[i] := by
  unfold mapTo
  rw [List.getElem?_append_right (by simp; omega)]
  simp [Nat.min_eq_left (Nat.le_of_lt hi)]
theorem mapTo_succ (f : Rn → Rn) (L : List Rn) (i : Nat) (hi : i < L.length) : mapTo f L (i + 1) = (mapTo f L i).set i (f L[i]) := by
  unfold mapTo
  rw [List.take_succ_eq_append_getElem hi, List.drop_eq_getElem_cons hi, List.map_append, List.set_append_right _ _ (by simp; omega)]
  simp only [List.map_take, List.append_assoc, List.length_take, List.length_map, Nat.min_eq_left (Nat.le_of_lt hi), Nat.sub_self]
  rfl

theorem set_same {L : List Rn} {i : Nat} {x : Rn} (h : L[i]? = some x) : L.set i x = L := by
  obtain ⟨hi, rfl⟩ := List.getElem?_eq_some_iff.1 h
  exact List.set_getElem_self hi

def Rn.mark (A At : Nat) (x : Rn) : Rn := if x.sum % A = At then { x with nx := true } else x
theorem mark_at {A At : Nat} {x : Rn} (h : x.sum % A = At) : x.mark A At = { x with nx := true } := by unfold Rn.mark; rw [if_pos h]
theorem mark_not {A At : Nat} {x : Rn} (h : ¬ x.sum % A = At) : x.mark A At = x := by unfold Rn.mark; rw [if_neg h]
theorem below_drewN (w : World) (n : Nat) : Below w.heap.size w (w.drewN n) := ⟨rfl, rfl, rfl, Nat.le_refl _, fun _ _ => rfl⟩
def Rn.clear (x : Rn) : Rn := { x with nx := false }
/-- One slot moves. -/
def Rd.step1 (R : Rd) : Rd := if R.B = 0 then R else if R.At + 1 = R.A then ⟨(R.L.map (Rn.mark R.A R.At)).map Rn.clear, R.B, 0, 0⟩ else ⟨R.L.map (Rn.mark R.A R.At), R.A, R.B, R.At + 1⟩
def Rd.steps : Nat → Rd → Rd
  | 0, R => R
  | k + 1, R => (Rd.steps k R).step1
def Rd.shape (R : Rd) : Sh := ⟨R.A, R.B, R.At, R.L.length⟩
theorem rshape_step1 (R : Rd) : R.step1.shape = R.shape.step1 := by
  unfold Rd.step1 Sh.step1 Rd.shape
  by_cases h0 : R.B = 0
  · rw [if_pos h0, if_pos h0]
  · rw [if_neg h0, if_neg h0]
    by_cases h1 : R.At + 1 = R.A
    · rw [if_pos h1, if_pos h1]; simp
    · rw [if_neg h1, if_neg h1]; simp
theorem rshape_steps (R : Rd) : ∀ k, (Rd.steps k R).shape = Sh.steps k R.shape
  | 0 => rfl
  | k + 1 => by rw [Rd.steps, rshape_step1, rshape_steps R k]; rfl
theorem steps_mid {h : Sh} (hB : h.B ≠ 0) : ∀ k, k < h.left → Sh.steps k h = ⟨h.A, h.B, h.At + k, h.n⟩
  | 0, _ => rfl
  | k + 1, hk => by
    rw [Sh.steps, steps_mid hB k (by omega), Sh.step1, if_neg hB, if_neg]
    · rfl
    · unfold Sh.left at hk
      rw [if_neg hB] at hk
      show ¬ (h.At + k + 1 = h.A)
      omega
theorem steps_end {h : Sh} (hB : h.B ≠ 0) (hA : h.At < h.A) : Sh.steps h.left h = ⟨h.B, 0, 0, h.n⟩ := by
  have hl : h.left = h.A - h.At := by unfold Sh.left; rw [if_neg hB]
  obtain ⟨k, hk⟩ : ∃ k, h.left = k + 1 := ⟨h.left - 1, by omega⟩
  rw [hk, Sh.steps, steps_mid hB k (by omega), Sh.step1, if_neg hB, if_pos]
  show h.At + k + 1 = h.A
  omega

theorem steps_sums {R : Rd} (hs : ∀ x ∈ R.L, x.sum < 4294967296) : ∀ k, ∀ x ∈ (Rd.steps k R).L, x.sum < 4294967296
  | 0 => hs
  | k + 1 => by
    have ih := steps_sums hs k
    rw [Rd.steps]
    unfold Rd.step1
    split
    · exact ih
    · split
      · intro x hx
        simp only [List.map_map, List.mem_map] at hx
        obtain ⟨y, hy, rfl⟩ := hx
        have := ih y hy
        simp only [Function.comp, Rn.clear, Rn.mark]
        split <;> exact this
      · intro x hx
        simp only [List.mem_map] at hx
        obtain ⟨y, hy, rfl⟩ := hx
        have := ih y hy
        simp only [Rn.mark]
        split <;> exact this
theorem RRow.at {W : World} {Ad : Option Addr} {n cap : Nat} {r : List Rn} (h : RRow W (.slice Ad n cap) r) {i : Nat} {x : Rn} (hx : r[i]? = some x) :
    ∃ g, Ad = some ⟨g, 0, none⟩ ∧ W.cell? ⟨g, i * 4, none⟩ = some (.string x.key) ∧ W.cell? ⟨g, i * 4 + 1, none⟩ = some (.int .i64 x.v) ∧ W.cell? ⟨g, i * 4 + 2, none⟩ = some (.int .u32 x.sum) ∧ W.cell? ⟨g, i * 4 + 3, none⟩ = some (.bool x.nx) ∧ ∀ o, W.frozen? ⟨g, o, none⟩ = false := by
  obtain ⟨A, cap', he, _, _, hf⟩ := h.form
  injection he with e1 e2 e3
  subst e1
  obtain ⟨g, h1, _, h2⟩ := hf i x hx
  exact ⟨g, h1, h2⟩

section
variable {S : Nat → Prop} {p seed : Nat} {R : Rd} {w : World}
set_option maxRecDepth 100000 in
set_option maxHeartbeats 4000000 in
theorem refstep_any (h : RRep w p S seed R) (hA : 0 < R.A) (hA2 : R.A ≤ 65536) (hB2 : R.B ≤ 65536) (hAt : R.B ≠ 0 → R.At < R.A) (hn : R.L.length ≤ 1000000) (hsum : ∀ x ∈ R.L, x.sum < 4294967296) (q : Int) (hq : q ≤ 1000000) :
    Calls Tryd.prog 36 #[.pointer (some ⟨p, 0, none⟩), .int .i64 q] w fun e w' => e = .returned (.int .i64 (min q.toNat R.shape.left : Nat)) ∧ RWent S w p seed (Rd.steps (min q.toNat R.shape.left) R) w' := by
  obtain ⟨v, hm, hp, hv, hc⟩ := h
  obtain ⟨Ad, cap, rfl, hcap, hmax, _⟩ := hm.row.form
  have HM := Lib.hid hm
  have HV := Lib.hid hv
  have HSUM := Lib.hid (steps_sums hsum)
  have HLE := Lib.hid (show R.shape.left ≤ R.A by unfold Sh.left Rd.shape; simp only; split <;> omega)
  obtain ⟨NL, hNL⟩ : ∃ NL, NL = R.L.length := ⟨_, rfl⟩
  obtain ⟨lf, hlf⟩ : ∃ lf, lf = R.shape.left := ⟨_, rfl⟩
  obtain ⟨tot, htot⟩ : ∃ tot, tot = min q.toNat lf := ⟨_, rfl⟩
  have HEND : Hid (∀ wr, RefAt wr p (.slice Ad NL cap) seed (Rd.steps tot R) → Far S w wr → RWent S w p seed (Rd.steps tot R) wr) :=
    Lib.hid fun wr h1 h2 => RWent.mk' h1 h2 (.inl hp) (fun k hk => .inl (hv k (by rw [hNL] at hk; exact hk)))
  rw [← hlf, ← htot]
  rw [← hNL] at HM
  rw [← hlf] at HLE
  have HB0 : Hid (0 < lf → R.B ≠ 0) := Lib.hid fun h0 e => by
    rw [hlf] at h0
    unfold Sh.left Rd.shape at h0
    rw [if_pos e] at h0
    omega
  have HB1 : Hid (R.B ≠ 0 → lf = R.A - R.At) := Lib.hid fun e => by
    rw [hlf]
    unfold Sh.left Rd.shape
    rw [if_neg e]
  have HSH : Hid (∀ k, k ≤ lf → (k < lf → (Rd.steps k R).shape = ⟨R.A, R.B, R.At + k, NL⟩) ∧ (k = lf → (Rd.steps k R).B = 0) ∧ (Rd.steps k R).L.length = NL) := Lib.hid fun k hk => by
    have hs := rshape_steps R k
    refine ⟨fun h => ?_, fun h => ?_, ?_⟩
    · rw [hs, steps_mid (HB0.out (by omega)) k (by omega), hNL]; rfl
    · show (Rd.steps k R).shape.B = 0
      rw [hs]
      by_cases hB : R.B = 0
      · rw [steps_still hB]; exact hB
      · rw [h, hlf, steps_end hB (hAt hB)]
    · show (Rd.steps k R).shape.n = NL
      rw [hs, steps_n, hNL]; rfl
  have hNL2 : NL ≤ 1000000 := by omega
  have HCAP := Lib.hid hcap
  clear hm hv hc hsum hlf hNL hcap
  go_enter Tryd.func36, Tryd.ntmps36
  go_wp2
  go_loopw [5] (fun i wr => ∃ k : Nat, i = .int .i64 k ∧ k ≤ tot ∧ RefAt wr p (.slice Ad NL cap) seed (Rd.steps k R) ∧ Far S w wr) (fun i _ => tot - (intOf i).toNat)
  case atStart => exact ⟨0, rfl, by omega, HM.out, Far.refl _ _⟩
  case round =>
    obtain ⟨k, rfl, hk, hr, hf⟩ := hrel
    have hkl : k ≤ lf := by omega
    obtain ⟨s1, s2, s3⟩ := HSH.out k hkl
    obtain ⟨c0, c1, c2, c3, c4, f0⟩ := ref_facts hr
    by_cases hlt : k < tot
    · have s1 := s1 (by omega)
      have hkq : (k : Int) < q := by omega
      have hsums := HSUM.out k
      have HNEXT : Hid (Rd.steps (k + 1) R = (Rd.steps k R).step1) := Lib.hid rfl
      have hb0 := HB0.out (by omega)
      have hb1 := HB1.out hb0
      generalize Rd.steps k R = R1 at *
      obtain ⟨L1, A1, B1, At1⟩ := R1
      unfold Rd.shape at s1
      injection s1 with i1 i2 i3 i4
      simp only at i1 i2 i3 i4 s3 c2 c3 c4 hsums
      have hA1 : 0 < A1 := by omega
      have hA1' : A1 ≤ 65536 := by omega
      have hB1 : 0 < B1 := by omega
      have hAt1 : At1 < A1 := by omega
      have hB1' : B1 ≤ 65536 := by omega
      have hA1i : ¬ (A1 : Int) = 0 := by omega
      have hB1i : (0 : Int) < B1 := by omega
      have HI3 := Lib.hid i3
      clear i1 i2 i3 i4 s2 hb0 hb1
      have HR := Lib.hid hr
      have HFAR := Lib.hid hf
      have HS3 := Lib.hid s3
      clear hr hf s3 htot
      go_wp2
      go_loopw [6] (fun i2 wr2 => ∃ i : Nat, i2 = .int .i64 i ∧ i ≤ NL ∧ RefAt wr2 p (.slice Ad NL cap) seed ⟨mapTo (Rn.mark A1 At1) L1 i, A1, B1, At1⟩ ∧ Far S w wr2) (fun i2 _ => NL - (intOf i2).toNat)
      case atStart => exact ⟨0, rfl, by omega, by rw [mapTo_zero]; exact HR.out, HFAR.out⟩
      case round =>
        obtain ⟨i, rfl, hi, hr, hf⟩ := hrel
        have hrow := hr.row
        obtain ⟨b0, b1, b2, b3, b4, fb⟩ := ref_facts hr
        simp only at b2 b3 b4
        by_cases hil : i < NL
        · have hil1 : i < L1.length := by rw [HS3.out]; exact hil
          obtain ⟨g, rfl, e0, e1, e2, e3, ef⟩ := hrow.at (mapTo_at (Rn.mark A1 At1) L1 i hil1)
          have hs := hsums _ (List.getElem_mem hil1)
          obtain ⟨x, hx⟩ : ∃ x, x = L1[i] := ⟨_, rfl⟩
          rw [← hx] at e0 e1 e2 e3 hs
          have hsi : (x.sum : Int) < 4294967296 := by omega
          obtain ⟨mm, hmm⟩ : ∃ mm, mm = x.sum % A1 := ⟨_, rfl⟩
          have htm : (x.sum : Int).tmod (A1 : Int) = (mm : Int) := by rw [Int.tmod_eq_emod_of_nonneg (by omega), hmm]; rfl
          have HMM := Lib.hid hmm
          clear hmm
          have HX := Lib.hid hx
          have HR2 := Lib.hid hr
          have HF2 := Lib.hid hf
          have hsucc := mapTo_succ (Rn.mark A1 At1) L1 i hil1
          rw [← hx] at hsucc
          have HSUCC := Lib.hid hsucc
          have hat := mapTo_at (Rn.mark A1 At1) L1 i hil1
          rw [← hx] at hat
          have HAT := Lib.hid hat
          clear hrow hr hf hx hsucc hat e0 e1
          by_cases hm : mm = At1
          · have HM1 := Lib.hid (HMM.out.symm.trans hm)
            subst hm
            go_wp2
            go_quiet (fail)
            go_wp2
            have hN := (HR2.out.later (below_drewN _ nq)).node (g := g) (j := 3) (y := { x with nx := true }) (u := .bool true) rfl HAT.out (by decide) rfl
            refine ⟨⟨i + 1, by go_num, by omega, ?_, (HF2.out.then_below (below_drewN _ nq)).set ⟨g, i * 4 + 3, none⟩ _ (.inl (HV.out g rfl))⟩, by simp [intOf]; omega⟩
            rw [HSUCC.out, mark_at HM1.out]
            exact hN
          · have hm2 : ((mm : Int) == (At1 : Int)) = false := by rw [beq_eq_false_iff_ne]; omega
            have HM1 := Lib.hid (show ¬ x.sum % A1 = At1 by rw [← HMM.out]; exact hm)
            clear hm
            go_wp2
            go_quiet (fail)
            go_wp2
            refine ⟨⟨i + 1, by go_num, by omega, ?_, HF2.out.then_below (below_drewN _ nq)⟩, by simp [intOf]; omega⟩
            rw [HSUCC.out, mark_not HM1.out, set_same HAT.out]
            exact HR2.out.later (below_drewN _ nq)
        · obtain rfl : i = NL := by omega
          have e1 : mapTo (Rn.mark A1 At1) L1 i = L1.map (Rn.mark A1 At1) := by rw [← HS3.out, mapTo_all]
          rw [e1] at hr
          have HR2 := Lib.hid hr
          have HF2 := Lib.hid hf
          clear hrow hr hf e1
          by_cases hlast : At1 + 1 = A1
          · have hlast2 : (At1 : Int) + 1 = A1 := by omega
            go_wp2
            go_quiet (fail)
            go_wp2
            have hN := ((((HR2.out.setAt (At1 + 1)).later (below_drewN _ nq)).setA B1).setB 0).setAt 0
            have hF := ((((HF2.out.set ⟨p, 4, none⟩ (.int .i64 (At1 + 1 : Nat)) (.inl hp)).then_below (below_drewN _ nq)).set ⟨p, 2, none⟩ (.int .i64 B1) (.inl hp)).set ⟨p, 3, none⟩ (.int .i64 (0 : Nat)) (.inl hp)).set ⟨p, 4, none⟩ (.int .i64 (0 : Nat)) (.inl hp)
            have HN := Lib.hid hN
            have HFN := Lib.hid hF
            obtain ⟨L2, hL2⟩ : ∃ L2, L2 = L1.map (Rn.mark A1 At1) := ⟨_, rfl⟩
            have hl2 : L2.length = i := by rw [hL2, List.length_map]; exact HS3.out
            have HL2 := Lib.hid hL2
            have HS4 := Lib.hid hl2
            clear hN hF hL2 hl2
            go_loopw [7] (fun i3 wr3 => ∃ m : Nat, i3 = .int .i64 m ∧ m ≤ i ∧ RefAt wr3 p (.slice Ad i cap) seed ⟨mapTo Rn.clear L2 m, B1, 0, 0⟩ ∧ Far S w wr3) (fun i3 _ => i - (intOf i3).toNat)
            case atStart => exact ⟨0, rfl, by omega, by rw [mapTo_zero, HL2.out, ← hlast2]; exact HN.out, by rw [← hlast2]; exact HFN.out⟩
            case round =>
              obtain ⟨m, rfl, hm, hr, hf⟩ := hrel
              have hrow := hr.row
              obtain ⟨b0, b1, b2, b3, b4, fb⟩ := ref_facts hr
              simp only at b2 b3 b4
              by_cases hil : m < i
              · have hil1 : m < L2.length := by rw [HS4.out]; exact hil
                obtain ⟨g, rfl, e0, e1, e2, e3, ef⟩ := hrow.at (mapTo_at Rn.clear L2 m hil1)
                have hsucc := mapTo_succ Rn.clear L2 m hil1
                have hat := mapTo_at Rn.clear L2 m hil1
                generalize L2[m] = x at *
                have HR3 := Lib.hid hr
                have HF3 := Lib.hid hf
                have HSUCC := Lib.hid hsucc
                have HAT := Lib.hid hat
                clear hrow hr hf hsucc hat e0 e1 e2
                go_wp2
                have hN := HR3.out.node (g := g) (j := 3) (y := x.clear) (u := .bool false) rfl HAT.out (by decide) rfl
                refine ⟨⟨m + 1, by go_num, by omega, ?_, HF3.out.set ⟨g, m * 4 + 3, none⟩ _ (.inl (HV.out g rfl))⟩, by simp [intOf]; omega⟩
                rw [HSUCC.out]
                exact hN
              · obtain rfl : m = i := by omega
                have e1 : mapTo Rn.clear L2 m = L2.map Rn.clear := by rw [← HS4.out, mapTo_all]
                rw [e1] at hr
                have HR3 := Lib.hid hr
                have HF3 := Lib.hid hf
                clear hrow hr hf e1
                go_wp2
                refine ⟨⟨k + 1, by go_num, by omega, ?_, HF3.out⟩, by simp [intOf]; omega⟩
                rw [HNEXT.out]
                have hN2 := HR3.out
                unfold Rd.step1
                simp only
                rw [if_neg (by omega), if_pos (by omega), ← HL2.out]
                exact hN2
          · have hlast2 : ((At1 : Int) + 1 == (A1 : Int)) = false := by rw [beq_eq_false_iff_ne]; omega
            have HL := Lib.hid hlast
            clear hlast
            go_wp2
            go_quiet (fail)
            go_wp2
            have hN := HR2.out.setAt (At1 + 1)
            refine ⟨⟨k + 1, by go_num, by omega, ?_, (HF2.out.set ⟨p, 4, none⟩ _ (.inl hp)).then_below (below_drewN _ nq)⟩, by simp [intOf]; omega⟩
            rw [HNEXT.out]
            have hN2 := hN.later (below_drewN _ nq)
            unfold Rd.step1
            simp only
            rw [if_neg (by omega), if_neg HL.out]
            exact hN2
    · have hex : q ≤ (k : Int) ∨ ((k : Int) < q ∧ k = lf) := by omega
      have hkt : k = tot := by omega
      subst hkt
      rcases hex with hex | ⟨hex, hex2⟩
      · have HR := Lib.hid hr
        have HFAR := Lib.hid hf
        clear hr hf htot s2 s3
        go_wp2
        go_ret
        exact ⟨rfl, HEND.out _ HR.out HFAR.out⟩
      · have s2 := s2 hex2
        rw [s2] at c3
        have HR := Lib.hid hr
        have HFAR := Lib.hid hf
        clear hr hf htot s2 s3 hex2
        go_wp2
        go_ret
        exact ⟨rfl, HEND.out _ HR.out HFAR.out⟩
end
end Go.Proofs.YtlfhiolkbnhinaaDoor
/- The reference's Get and Set. -/
namespace Go.Proofs.YtlfhiolkbnhinaaDoor
open Go.RowKit Go.Shelf
attribute [local go_sem] Oper.semAt_some

structure Rd.Ok (R : Rd) : Prop where
  a0 : 0 < R.A
  a1 : R.A ≤ 65536
  b1 : R.B ≤ 65536
  at_ : R.B ≠ 0 → R.At < R.A
  n : R.L.length ≤ 1000000
  sum : ∀ x ∈ R.L, x.sum < 4294967296
theorem steps_one {R : Rd} (h : R.B ≠ 0 → R.At < R.A) : Rd.steps (min (1 : Int).toNat R.shape.left) R = R.step1 := by
  by_cases hB : R.B = 0
  · have : R.shape.left = 0 := by unfold Sh.left Rd.shape; rw [if_pos hB]
    rw [this]
    show R = R.step1
    unfold Rd.step1
    rw [if_pos hB]
  · have h1 := h hB
    have : R.shape.left = R.A - R.At := by unfold Sh.left Rd.shape; rw [if_neg hB]
    rw [this, Nat.min_eq_left (by simp; omega)]
    rfl
theorem step1_len (R : Rd) : R.step1.L.length = R.L.length := by
  unfold Rd.step1
  split
  · rfl
  · split <;> simp
theorem Rd.Ok.step {R : Rd} (h : R.Ok) : R.step1.Ok := by
  have hs := steps_sums h.sum 1
  have hl := step1_len R
  refine ⟨?_, ?_, ?_, ?_, by rw [hl]; exact h.n, hs⟩
  all_goals (
    have h1 := h.a0
    have h2 := h.a1
    have h3 := h.b1
    have h4 := h.at_
    unfold Rd.step1
    split
    · first | assumption
    · split
      · simp only; first | omega | (intro h0; omega)
      · simp only; first | omega | (intro h0; have := h4 (by assumption); omega))
theorem refone_any {S : Nat → Prop} {p seed : Nat} {R : Rd} {w : World} (h : RRep w p S seed R) (ok : R.Ok) :
    Calls Tryd.prog 36 #[.pointer (some ⟨p, 0, none⟩), .int .i64 1] w fun e w' => (∃ k : Int, e = .returned (.int .i64 k)) ∧ RWent S w p seed R.step1 w' :=
  (refstep_any h ok.a0 ok.a1 ok.b1 ok.at_ ok.n ok.sum 1 (by omega)).mono fun e w' ⟨h1, h2⟩ => ⟨⟨_, h1⟩, by rw [steps_one ok.at_] at h2; exact h2⟩
/-- Where the key's node stands: the first one, or none. -/
theorem atN_cases (r : List Rn) (key : ByteArray) : (∃ i, ∃ h : i < r.length, atN r key = i ∧ r[i].key = key) ∨ (atN r key = -1 ∧ ∀ x ∈ r, x.key ≠ key) := by
  cases h : r.findIdx? (·.key = key) with
  | none =>
    refine .inr ⟨by unfold atN; rw [h], ?_⟩
    rw [List.findIdx?_eq_none_iff] at h
    exact fun x hx => by simpa using h x hx
  | some i =>
    have h2 := h
    rw [List.findIdx?_eq_some_iff_getElem] at h2
    obtain ⟨hi, hk, _⟩ := h2
    exact .inl ⟨i, hi, by unfold atN; rw [h], by simpa using hk⟩

section
variable {S : Nat → Prop} {p seed : Nat} {R : Rd} {w : World}
set_option maxRecDepth 100000 in
theorem refget_any (h : RRep w p S seed R) (ok : R.Ok) (key : ByteArray) : Calls Tryd.prog 34 #[.pointer (some ⟨p, 0, none⟩), .string key] w fun e w' =>
    ((∃ x ∈ R.step1.L, x.key = key ∧ e = .returned (.tuple #[.int .i64 x.v, .bool true])) ∨ ((∀ x ∈ R.step1.L, x.key ≠ key) ∧ e = .returned (.tuple #[.int .i64 0, .bool false]))) ∧ RWent S w p seed R.step1 w' := by
  have H1 := Lib.hid (refone_any h ok)
  have ok1 := ok.step
  generalize R.step1 = R1 at *
  go_enter Tryd.func34, Tryd.ntmps34
  go_wp2_with fail
  refine H1.out.mono ?_
  rintro e w1 ⟨⟨k1, rfl⟩, hw1⟩
  have HW1 := Lib.hid hw1
  obtain ⟨h1, _⟩ := hw1
  have HAT := Lib.hid (at_any h1 ok1.n key)
  obtain ⟨v, hm, _⟩ := h1
  obtain ⟨Ad, cap, rfl, hcap, hmax, _⟩ := hm.row.form
  obtain ⟨c0, c1, c2, c3, c4, f0⟩ := ref_facts hm
  have hrow := hm.row
  have HCAP := Lib.hid hcap
  clear hm hcap
  go_wp2_with fail
  refine HAT.out.mono ?_
  rintro e w2 ⟨rfl, rfl⟩
  have hn1 := ok1.n
  rcases atN_cases R1.L key with ⟨i, hi, e1, e2⟩ | ⟨e1, e2⟩
  · obtain ⟨g, rfl, z0, z1, z2, z3, zf⟩ := hrow.at (List.getElem?_eq_getElem hi)
    have HX := Lib.hid (List.getElem_mem hi)
    have HE2 := Lib.hid e2
    generalize R1.L[i] = x at *
    rw [e1]
    clear hrow e1 e2
    go_wp2
    go_returns
    exact ⟨.inl ⟨x, HX.out, HE2.out, rfl⟩, HW1.out⟩
  · rw [e1]
    have HE2 := Lib.hid e2
    clear hrow e1 e2
    go_wp2
    go_returns
    exact ⟨.inr ⟨HE2.out, rfl⟩, HW1.out⟩
end
end Go.Proofs.YtlfhiolkbnhinaaDoor
