/- The reference's dict: its list of nodes, where it lies. -/
import Derived.Test.YtifbambalfifaaaIs
import Derived.Test.YtifbambalfifaaaRefs
namespace Go.Proofs.Ytifbambalfifaaa
open Go.RowKit Go.Shelf
attribute [local go_sem] Oper.semAt_some

structure Rn where
  key : ByteArray
  v : Int
  sum : Nat
  nx : Bool
def Rn.cells (x : Rn) : List Value := [.string x.key, .int .i64 x.v, .int .u32 x.sum, .bool x.nx]
def rflat (r : List Rn) : List Value := r.flatMap Rn.cells
structure Rd where
  L : List Rn
  A : Nat
  B : Nat
  At : Nat
def tyR : Ty := ⟨36, 69, 69, fun _ => True⟩

theorem rflat_cons (x : Rn) (r : List Rn) : rflat (x :: r) = x.cells ++ rflat r := rfl
theorem rflat_append (a b : List Rn) : rflat (a ++ b) = rflat a ++ rflat b := by unfold rflat; rw [List.flatMap_append]
theorem rflat_len (r : List Rn) : (rflat r).length = r.length * 4 := by
  induction r with
  | nil => rfl
  | cons x r ih => rw [rflat_cons, List.length_append, ih, List.length_cons]; simp [Rn.cells]; omega
theorem rflat_at (r : List Rn) : ∀ (i : Nat) (x : Rn), r[i]? = some x → ∀ j < 4, (rflat r)[i * 4 + j]? = x.cells[j]? := by
  induction r with
  | nil => intro i x h; simp at h
  | cons y r ih =>
    intro i x h j hj
    cases i with
    | zero =>
      simp at h; subst h
      rw [rflat_cons, List.getElem?_append_left (by simp [Rn.cells]; omega), Nat.zero_mul, Nat.zero_add]
    | succ i =>
      rw [rflat_cons, List.getElem?_append_right (by simp [Rn.cells]; omega), ← ih i x (by simpa using h) j hj]
      congr 1
      simp [Rn.cells]; omega
theorem rflat_one (r : List Rn) : ∀ u ∈ rflat r, u.oneCell' = true := by
  intro u hu
  obtain ⟨x, _, hu⟩ := List.mem_flatMap.1 hu
  simp only [Rn.cells, List.mem_cons, List.not_mem_nil, or_false] at hu
  rcases hu with rfl | rfl | rfl | rfl <;> rfl
theorem rflat_set (r : List Rn) : ∀ (i : Nat) (x : Rn) (j : Nat) (u : Value) (y : Rn), r[i]? = some x → j < 4 → x.cells.set j u = y.cells → (rflat r).set (i * 4 + j) u = rflat (r.set i y) := by
  induction r with
  | nil => intro i x j u y h; simp at h
  | cons z r ih =>
    intro i x j u y h hj he
    cases i with
    | zero =>
      simp at h; subst h
      rw [rflat_cons, List.set_append_left _ _ (by simp [Rn.cells]; omega), Nat.zero_mul, Nat.zero_add, he, List.set_cons_zero, rflat_cons]
    | succ i =>
      rw [rflat_cons, List.set_append_right _ _ (by simp [Rn.cells]; omega), List.set_cons_succ, rflat_cons, ← ih i x j u y (by simpa using h) hj he]
      congr 2
      simp [Rn.cells]; omega

def RRow (W : World) (v : Value) (r : List Rn) : Prop := W.ownsRow 0 69 4 v r.length (rflat r)
theorem RRow.nil (W : World) : RRow W (.slice none 0 0) [] := World.ownsRow_nil _ _ _ _
theorem RRow.blk {W : World} {v : Value} {r : List Rn} (h : RRow W v r) {k : Nat} (hk : v.ownBlock = some k) : ∃ c, Blk W k 69 c := by
  rcases h.2 with ⟨rfl, _⟩ | ⟨g, cap, cur, rfl, _, hg, _⟩
  · simp [Value.ownBlock] at hk
  · simp [Value.ownBlock] at hk; subst hk; exact ⟨cur, hg⟩
theorem RRow.lt {W : World} {v : Value} {r : List Rn} (h : RRow W v r) {k : Nat} (hk : v.ownBlock = some k) : k < W.heap.size := by
  obtain ⟨c, hc⟩ := h.blk hk; exact hc.lt
theorem RRow.keep {W W' : World} {v : Value} {r : List Rn} (h : RRow W v r) (hb : ∀ k, v.ownBlock = some k → W'.heap[k]? = W.heap[k]?) : RRow W' v r := by
  refine ⟨h.1, ?_⟩
  rcases h.2 with hn | ⟨g, cap, cur, rfl, hb', hg, rest⟩
  · exact .inl hn
  · exact .inr ⟨g, cap, cur, rfl, hb', (hb g rfl).trans hg, rest⟩
theorem RRow.form {W : World} {v : Value} {r : List Rn} (h : RRow W v r) : ∃ A cap, v = .slice A r.length cap ∧ r.length ≤ cap ∧ cap ≤ maxLen ∧
    (∀ i x, r[i]? = some x → ∃ g, A = some ⟨g, 0, none⟩ ∧ v.ownBlock = some g ∧ W.cell? ⟨g, i * 4, none⟩ = some (.string x.key) ∧ W.cell? ⟨g, i * 4 + 1, none⟩ = some (.int .i64 x.v) ∧ W.cell? ⟨g, i * 4 + 2, none⟩ = some (.int .u32 x.sum) ∧ W.cell? ⟨g, i * 4 + 3, none⟩ = some (.bool x.nx) ∧ ∀ o, W.frozen? ⟨g, o, none⟩ = false) := by
  have hO := h
  rcases h.2 with ⟨rfl, h0⟩ | ⟨g, cap, cur, rfl, _, hg, hl, hm, _⟩
  · have hr : r = [] := List.eq_nil_of_length_eq_zero h0
    subst hr
    exact ⟨none, 0, rfl, Nat.le_refl _, Nat.zero_le _, fun i x hx => by simp at hx⟩
  · refine ⟨some ⟨g, 0, none⟩, cap, rfl, hl, hm, fun i x hx => ⟨g, rfl, rfl, ?_⟩⟩
    obtain ⟨hi, _⟩ := List.getElem?_eq_some_iff.1 hx
    have e := rflat_at r i x hx
    have hc := fun j hj => World.ownsRow.cellAt (w := W) (base := 0) (e := 69) (size := 4) (g := g) (n := r.length) (cap := cap) (xs := rflat r) hO j hj
    have e0 : (rflat r)[i * 4]? = some (.string x.key) := e 0 (by decide)
    have e1 : (rflat r)[i * 4 + 1]? = some (.int .i64 x.v) := e 1 (by decide)
    have e2 : (rflat r)[i * 4 + 2]? = some (.int .u32 x.sum) := e 2 (by decide)
    have e3 : (rflat r)[i * 4 + 3]? = some (.bool x.nx) := e 3 (by decide)
    exact ⟨(hc _ (by omega)).trans e0, (hc _ (by omega)).trans e1, (hc _ (by omega)).trans e2, (hc _ (by omega)).trans e3, fun o => World.ownsRow.frozenAt (w := W) (base := 0) (e := 69) (size := 4) (g := g) (n := r.length) (cap := cap) (xs := rflat r) hO o⟩
/-- A cell of a node is written. -/
theorem RRow.store {W : World} {v : Value} {r : List Rn} (h : RRow W v r) {g : Nat} (hg : v.ownBlock = some g) {i j : Nat} {x y : Rn} {u : Value} (hx : r[i]? = some x) (hj : j < 4) (he : x.cells.set j u = y.cells) :
    RRow (W.setCell ⟨g, i * 4 + j, none⟩ u) v (r.set i y) := by
  obtain ⟨hi, _⟩ := List.getElem?_eq_some_iff.1 hx
  unfold RRow
  rw [List.length_set, ← rflat_set r i x j u y hx hj he]
  refine ⟨by rw [List.length_set]; exact h.1, ?_⟩
  rcases h.2 with ⟨rfl, h0⟩ | ⟨g', cap, cur, rfl, hb, hg', hl, hm, hs, ht⟩
  · omega
  · simp [Value.ownBlock] at hg
    subst hg
    refine .inr ⟨g', cap, cur.setIfInBounds (i * 4 + j) u, rfl, hb, Blk.set (i * 4 + j) u hg', hl, hm, by simp [hs], ?_⟩
    rw [Array.toList_setIfInBounds, List.take_set, ht]

structure RefAt (W : World) (p : Nat) (v : Value) (seed : Nat) (R : Rd) : Prop where
  dict : Blk W p 36 #[.int .u32 seed, v, .int .i64 R.A, .int .i64 R.B, .int .i64 R.At]
  row : RRow W v R.L
/-- The reference's dict lies in the blocks S. -/
def RRep (W : World) (p : Nat) (S : Nat → Prop) (seed : Nat) (R : Rd) : Prop :=
  ∃ v, RefAt W p v seed R ∧ S p ∧ (∀ k, v.ownBlock = some k → S k) ∧ ∀ k, S k → CellB tyR W k
def RWent (S : Nat → Prop) (W : World) (p seed : Nat) (R : Rd) (W' : World) : Prop := RRep W' p (grow tyR S W W') seed R ∧ Far S W W'

theorem RefAt.far {S : Nat → Prop} {W W' : World} {p seed : Nat} {v : Value} {R : Rd} (h : RefAt W p v seed R) (f : Far S W W') (hp : ¬ S p) (hv : ∀ k, v.ownBlock = some k → ¬ S k) : RefAt W' p v seed R :=
  ⟨f.blk h.dict hp, h.row.keep fun k hk => f.block k (h.row.lt hk) (hv k hk)⟩
theorem RefAt.later {W W' : World} {p seed : Nat} {v : Value} {R : Rd} (h : RefAt W p v seed R) (hb : Below W.heap.size W W') : RefAt W' p v seed R :=
  h.far (S := fun _ => False) (Far.of_below hb) (fun h => h) (fun _ _ h => h)
theorem RefAt.ne {W : World} {p seed : Nat} {v : Value} {R : Rd} (h : RefAt W p v seed R) : v.ownBlock ≠ some p := fun e => by
  obtain ⟨c, hc⟩ := h.row.blk e
  exact absurd (h.dict.ty hc) (by decide)
theorem RRep.far {S S1 : Nat → Prop} {W W' : World} {p seed : Nat} {R : Rd} (h : RRep W p S seed R) (f : Far S1 W W') (hd : ∀ k, S k → ¬ S1 k) : RRep W' p S seed R := by
  obtain ⟨v, hm, hp, hv, hc⟩ := h
  exact ⟨v, hm.far f (hd _ hp) (fun k hk => hd _ (hv k hk)), hp, hv, fun k hk => (hc k hk).same (f.block k (hc k hk).lt (hd k hk))⟩
theorem RRep.later {S : Nat → Prop} {W W' : World} {p seed : Nat} {R : Rd} (h : RRep W p S seed R) (hb : Below W.heap.size W W') : RRep W' p S seed R :=
  h.far (S1 := fun _ => False) (Far.of_below hb) fun _ _ h => h
theorem RRep.cells {S : Nat → Prop} {W : World} {p seed : Nat} {R : Rd} (h : RRep W p S seed R) : ∀ k, S k → CellB tyR W k := by obtain ⟨_, _, _, _, hc⟩ := h; exact hc
theorem RRep.lt {S : Nat → Prop} {W : World} {p seed : Nat} {R : Rd} (h : RRep W p S seed R) : ∀ k, S k → k < W.heap.size := fun k hk => (h.cells k hk).lt
theorem RRep.wide {S S1 : Nat → Prop} {W : World} {p seed : Nat} {R : Rd} (h : RRep W p S seed R) (hs : ∀ k, S k → S1 k) (hc : ∀ k, S1 k → CellB tyR W k) : RRep W p S1 seed R := by
  obtain ⟨v, hm, hp, hv, _⟩ := h
  exact ⟨v, hm, hs _ hp, fun k hk => hs _ (hv k hk), hc⟩
theorem RWent.start {S : Nat → Prop} {W : World} {p seed : Nat} {R : Rd} (h : RRep W p S seed R) : RWent S W p seed R W :=
  ⟨h.wide (fun k hk => ⟨.inl hk, h.cells k hk⟩) (fun _ hk => hk.2), Far.refl _ _⟩
theorem RWent.trans {S : Nat → Prop} {W W1 W2 : World} {p seed : Nat} {R R2 : Rd} (h : RWent S W p seed R W1) (g : RWent (grow tyR S W W1) W1 p seed R2 W2) : RWent S W p seed R2 W2 :=
  ⟨g.1.wide (fun k hk => ⟨by
    rcases hk.1 with h1 | h1
    · exact h1.1
    · exact .inr (Nat.le_trans h.2.size h1), hk.2⟩) (fun _ hk => hk.2), h.2.trans g.2 fun k hk => hk.1⟩
theorem RWent.later {S : Nat → Prop} {W W1 W2 : World} {p seed : Nat} {R : Rd} (h : RWent S W p seed R W1) (hb : Below W1.heap.size W1 W2) : RWent S W p seed R W2 :=
  ⟨(h.1.later hb).wide (fun k hk => ⟨hk.1, hk.2.same (hb.block k hk.2.lt)⟩) (fun _ hk => hk.2), h.2.then_below hb⟩
theorem RWent.since {S : Nat → Prop} {W W1 W2 : World} {p seed : Nat} {R : Rd} (hb : Below W.heap.size W W1) (h : RWent S W1 p seed R W2) : RWent S W p seed R W2 :=
  ⟨h.1.wide (fun k hk => ⟨by
    rcases hk.1 with h1 | h1
    · exact .inl h1
    · exact .inr (Nat.le_trans hb.size h1), hk.2⟩) (fun _ hk => hk.2), (Far.of_below hb).trans h.2 fun k hk => .inl hk⟩
theorem RWent.mk' {S : Nat → Prop} {W W' : World} {p seed : Nat} {v : Value} {R : Rd} (hm : RefAt W' p v seed R) (hf : Far S W W') (hp : S p ∨ W.heap.size ≤ p) (hv : ∀ k, v.ownBlock = some k → S k ∨ W.heap.size ≤ k) : RWent S W p seed R W' := by
  refine ⟨⟨v, hm, ⟨hp, _, _, .inl rfl, hm.dict⟩, fun k hk => ⟨hv k hk, ?_⟩, fun _ hk => hk.2⟩, hf⟩
  obtain ⟨c, hc⟩ := hm.row.blk hk
  exact ⟨_, c, .inr (.inl rfl), hc⟩
/-- The reference's five cells. -/
theorem ref_facts {W : World} {p seed : Nat} {v : Value} {R : Rd} (h : RefAt W p v seed R) :
    W.cell? ⟨p, 0, none⟩ = some (.int .u32 seed) ∧ W.cell? ⟨p, 1, none⟩ = some v ∧ W.cell? ⟨p, 2, none⟩ = some (.int .i64 R.A) ∧
    W.cell? ⟨p, 3, none⟩ = some (.int .i64 R.B) ∧ W.cell? ⟨p, 4, none⟩ = some (.int .i64 R.At) ∧ ∀ o, W.frozen? ⟨p, o, none⟩ = false :=
  ⟨h.dict.cell 0, h.dict.cell 1, h.dict.cell 2, h.dict.cell 3, h.dict.cell 4, fun o => h.dict.free o⟩

/-- New. -/
theorem refnew_any (sd : Nat) (w : World) : Calls Try.prog 11 #[.int .u32 sd] w fun e w' => ∃ q, e = .returned (.pointer (some ⟨q, 0, none⟩)) ∧ RRep w' q (fresh tyR w w') sd ⟨[], 4, 0, 0⟩ ∧ Below w.heap.size w w' := by
  go_enter Try.func11, Try.ntmps11
  go_wp2
  go_ret
  refine ⟨w.heap.size, rfl, ⟨.slice none 0 0, ⟨Blk.new _ _ _, RRow.nil _⟩, ⟨.inr (Nat.le_refl _), _, _, .inl rfl, Blk.new _ _ _⟩, fun k hk => by simp [Value.ownBlock] at hk, fun k hk => hk.2⟩, (Below.refl _ _).alloc (Nat.le_refl _) _⟩

section
variable {S : Nat → Prop} {p seed : Nat} {R : Rd} {w : World}
/-- The place of a key's node, or -1. -/
def atN (r : List Rn) (key : ByteArray) : Int := match r.findIdx? (·.key = key) with
  | some i => i
  | none => -1
theorem atN_some {r : List Rn} {key : ByteArray} {j : Nat} (hj : j < r.length) (hk : r[j].key = key) (hb : ∀ k x, k < j → r[k]? = some x → x.key ≠ key) : atN r key = j := by
  have h : r.findIdx? (·.key = key) = some j := by
    rw [List.findIdx?_eq_some_iff_getElem]
    refine ⟨hj, by simpa using hk, fun k hkj => ?_⟩
    simpa using hb k _ hkj (List.getElem?_eq_getElem (by omega))
  unfold atN
  rw [h]
theorem atN_none {r : List Rn} {key : ByteArray} (hb : ∀ x ∈ r, x.key ≠ key) : atN r key = -1 := by
  have h : r.findIdx? (·.key = key) = none := by
    rw [List.findIdx?_eq_none_iff]
    intro x hx
    simpa using hb x hx
  unfold atN
  rw [h]
theorem at_any (h : RRep w p S seed R) (hn : R.L.length ≤ 1000000) (key : ByteArray) : Calls Try.prog 57 #[.pointer (some ⟨p, 0, none⟩), .string key] w fun e w' => e = .returned (.int .i64 (atN R.L key)) ∧ w' = w := by
  obtain ⟨v, hm, hp, hv, hc⟩ := h
  obtain ⟨A, cap, rfl, hcap, hmax, hform⟩ := hm.row.form
  obtain ⟨c0, c1, c2, c3, c4, f0⟩ := ref_facts hm
  have HM := Lib.hid hm
  have HF := Lib.hid hform
  clear hform hm hv hc
  go_enter Try.func57, Try.ntmps57
  go_wp2
  go_loopw [5] (fun i wr => ∃ j : Nat, i = .int .i64 j ∧ j ≤ R.L.length ∧ (∀ k x, k < j → R.L[k]? = some x → x.key ≠ key) ∧ wr = w) (fun i _ => R.L.length - (intOf i).toNat)
  case atStart => exact ⟨0, rfl, by omega, fun k x hk => by omega, rfl⟩
  case round =>
    obtain ⟨j, rfl, hj, hb, rfl⟩ := hrel
    by_cases hlt : j < R.L.length
    · obtain ⟨g, rfl, hg, e0, e1, e2, e3, hfz⟩ := HF.out j _ (List.getElem?_eq_getElem hlt)
      obtain ⟨kk, hkk⟩ : ∃ kk, kk = R.L[j].key := ⟨_, rfl⟩
      rw [← hkk] at e0
      have HKK := Lib.hid hkk
      have HB := Lib.hid hb
      clear hkk hb e1 e2 e3 hg
      by_cases hk : kk = key
      · subst hk
        go_wp2
        go_ret
        refine ⟨?_, rfl⟩
        rw [atN_some hlt HKK.out.symm HB.out]
        rfl
      · have hk2 : (kk.toList == key.toList) = false := by rw [ByteArray.toList_eq, ByteArray.toList_eq]; simpa using fun e => hk (ByteArray.ext (Array.toList_inj.1 e))
        go_wp2
        refine ⟨⟨j + 1, by go_num, by omega, fun k x hkj hx => ?_, trivial⟩, by simp [intOf]; omega⟩
        by_cases h1 : k < j
        · exact HB.out k x h1 hx
        · obtain rfl : k = j := by omega
          rw [List.getElem?_eq_getElem hlt, Option.some.injEq] at hx
          rw [← hx, ← HKK.out]
          exact hk
    · have hj' : (R.L.length : Int) ≤ j := by omega
      go_wp2
      go_ret
      refine ⟨?_, rfl⟩
      rw [atN_none (r := R.L) (key := key) (fun x hx => by
        obtain ⟨k, hk, hkx⟩ := List.getElem_of_mem hx
        rw [← hkx]
        exact hb k _ (by omega) (List.getElem?_eq_getElem hk))]
      rfl
end
end Go.Proofs.Ytifbambalfifaaa
