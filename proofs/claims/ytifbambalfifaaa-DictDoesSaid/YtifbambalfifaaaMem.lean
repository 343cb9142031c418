/- A dict's memory: nodes, rows, tables, the dict; what a call leaves alone. -/
import Derived.Test.YtifbambalfifaaaRefs
import Derived.Maps.AppendAt
import Derived.Laws.OwnMore
import Derived.Deep.AppendLies
import Derived.Deep.RegionLaw
namespace Go.Proofs.Ytifbambalfifaaa
open Go.RowKit Go.Shelf

/-- A key's node. -/
structure Nd where
  sum : Nat
  key : ByteArray
  v : Value
/-- The types of a dict's cells, of its slots, of its nodes. -/
structure Ty where
  d : TypeId
  t : TypeId
  r : TypeId
  ok : Value → Prop
def tyI : Ty := ⟨65, 67, 75, fun v => ∃ n, v = .int .i64 n⟩
def tyS : Ty := ⟨87, 92, 91, fun v => ∃ s, v = .string s⟩

def Nd.cells (x : Nd) : List Value := [.int .u32 x.sum, .string x.key, x.v]
def Nd.fine (T : Ty) (x : Nd) : Prop := x.sum < 4294967296 ∧ T.ok x.v
def flat (r : List Nd) : List Value := r.flatMap Nd.cells
theorem flat_cons (x : Nd) (r : List Nd) : flat (x :: r) = x.cells ++ flat r := rfl
theorem flat_append (a b : List Nd) : flat (a ++ b) = flat a ++ flat b := by unfold flat; rw [List.flatMap_append]
theorem flat_len (r : List Nd) : (flat r).length = r.length * 3 := by
  induction r with
  | nil => rfl
  | cons x r ih => rw [flat_cons, List.length_append, ih, List.length_cons]; simp [Nd.cells]; omega
theorem flat_at (r : List Nd) : ∀ (i : Nat) (x : Nd), r[i]? = some x → (flat r)[i * 3]? = some (.int .u32 x.sum) ∧ (flat r)[i * 3 + 1]? = some (.string x.key) ∧ (flat r)[i * 3 + 2]? = some x.v := by
  induction r with
  | nil => intro i x h; simp at h
  | cons y r ih =>
    intro i x h
    cases i with
    | zero => simp at h; subst h; exact ⟨rfl, rfl, rfl⟩
    | succ i =>
      have := ih i x (by simpa using h)
      rw [flat_cons]
      have e : ∀ k, (y.cells ++ flat r)[(i + 1) * 3 + k]? = (flat r)[i * 3 + k]? := fun k => by
        rw [List.getElem?_append_right (by simp [Nd.cells]; omega)]
        congr 1
        simp [Nd.cells]; omega
      exact ⟨by rw [← this.1]; exact e 0, by rw [← this.2.1]; exact e 1, by rw [← this.2.2]; exact e 2⟩
theorem flat_one {r : List Nd} (h : ∀ x ∈ r, x.v.oneCell' = true) : ∀ u ∈ flat r, u.oneCell' = true := by
  intro u hu
  obtain ⟨x, hx, hu⟩ := List.mem_flatMap.1 hu
  simp only [Nd.cells, List.mem_cons, List.not_mem_nil, or_false] at hu
  rcases hu with rfl | rfl | rfl
  · rfl
  · rfl
  · exact h x hx
theorem one_int {v : Value} (h : tyI.ok v) : v.oneCell' = true := by obtain ⟨n, rfl⟩ := h; rfl
theorem one_str {v : Value} (h : tyS.ok v) : v.oneCell' = true := by obtain ⟨n, rfl⟩ := h; rfl

/-- What a call leaves alone: all that was there, but the blocks of S. -/
structure Far (S : Nat → Prop) (w w' : World) : Prop where
  os : w'.os = w.os
  tape : w'.tape = w.tape
  output : w'.output = w.output
  size : w.heap.size ≤ w'.heap.size
  block : ∀ k, k < w.heap.size → ¬ S k → w'.heap[k]? = w.heap[k]?

theorem Far.refl (S : Nat → Prop) (w : World) : Far S w w := ⟨rfl, rfl, rfl, Nat.le_refl _, fun _ _ _ => rfl⟩
theorem Far.trans {S S1 : Nat → Prop} {a b c : World} (h : Far S a b) (g : Far S1 b c) (hs : ∀ k, S1 k → S k ∨ a.heap.size ≤ k) : Far S a c :=
  ⟨g.os.trans h.os, g.tape.trans h.tape, g.output.trans h.output, Nat.le_trans h.size g.size, fun k hk hn =>
    (g.block k (Nat.lt_of_lt_of_le hk h.size) (fun h1 => by rcases hs k h1 with h2 | h2; exact hn h2; omega)).trans (h.block k hk hn)⟩
theorem Far.of_below {S : Nat → Prop} {a b : World} (h : Below a.heap.size a b) : Far S a b := ⟨h.os, h.tape, h.output, h.size, fun k hk _ => h.block k hk⟩
theorem Far.of_grown {S : Nat → Prop} {a b : World} {row : Option Nat} (h : a.grownBy b row) (hr : ∀ k, row = some k → S k ∨ a.heap.size ≤ k) : Far S a b :=
  ⟨h.os, h.tape, h.output, h.size, fun k hk hn => h.block k hk (fun e => by rcases hr k e.symm with h1 | h1; exact hn h1; omega)⟩
theorem Far.then_below {S : Nat → Prop} {a b c : World} (h : Far S a b) (g : Below b.heap.size b c) : Far S a c := h.trans (S1 := fun _ => False) (Far.of_below g) (fun _ h => h.elim)
theorem Far.set {S : Nat → Prop} {a b : World} (h : Far S a b) (p : Addr) (v : Value) (hp : S p.block ∨ a.heap.size ≤ p.block) : Far S a (b.setCell p v) :=
  h.trans (S1 := fun k => k = p.block) ⟨rfl, rfl, rfl, by simp [World.setCell], fun k _ hn => Below.heap_setCell _ _ _ _ hn⟩ (fun k e => by subst e; exact hp)
theorem Far.below {S : Nat → Prop} {a b : World} (h : Far S a b) {B : Nat} (hS : ∀ k, S k → B ≤ k) (hB : B ≤ a.heap.size) : Below B a b :=
  ⟨h.os, h.tape, h.output, h.size, fun k hk => h.block k (by omega) (fun h1 => by have := hS k h1; omega)⟩
theorem Far.mono {S S1 : Nat → Prop} {a b : World} (h : Far S a b) (hs : ∀ k, S k → S1 k) : Far S1 a b := ⟨h.os, h.tape, h.output, h.size, fun k hk hn => h.block k hk (fun h1 => hn (hs k h1))⟩
theorem Far.blk {S : Nat → Prop} {a b : World} (h : Far S a b) {k : Nat} {t : TypeId} {c : Array Value} (hk : Blk a k t c) (hn : ¬ S k) : Blk b k t c := (h.block k hk.lt hn).trans hk

theorem Blk.ty {W : World} {k : Nat} {t t' : TypeId} {c c' : Array Value} (h : Blk W k t c) (h' : Blk W k t' c') : t = t' := by
  unfold Blk at h h'; rw [h] at h'; injection h' with h'; injection h' with _ ht
theorem Blk.same {W : World} {k : Nat} {t t' : TypeId} {c c' : Array Value} (h : Blk W k t c) (h' : Blk W k t' c') : c = c' := by
  unfold Blk at h h'; rw [h] at h'; injection h' with h'; injection h'

/-- A row of nodes. -/
def RowAt (T : Ty) (W : World) (v : Value) (r : List Nd) : Prop := W.ownsRow 0 T.r 3 v r.length (flat r)
theorem RowAt.nil (T : Ty) (W : World) : RowAt T W (.slice none 0 0) [] := World.ownsRow_nil _ _ _ _
theorem RowAt.blk {T : Ty} {W : World} {v : Value} {r : List Nd} (h : RowAt T W v r) {k : Nat} (hk : v.ownBlock = some k) : ∃ c, Blk W k T.r c := by
  rcases h.2 with ⟨rfl, _⟩ | ⟨g, cap, cur, rfl, _, hg, _⟩
  · simp [Value.ownBlock] at hk
  · simp [Value.ownBlock] at hk; subst hk; exact ⟨cur, hg⟩
theorem RowAt.lt {T : Ty} {W : World} {v : Value} {r : List Nd} (h : RowAt T W v r) {k : Nat} (hk : v.ownBlock = some k) : k < W.heap.size := by
  obtain ⟨c, hc⟩ := h.blk hk; exact hc.lt
theorem RowAt.keep {T : Ty} {W W' : World} {v : Value} {r : List Nd} (h : RowAt T W v r) (hb : ∀ k, v.ownBlock = some k → W'.heap[k]? = W.heap[k]?) : RowAt T W' v r := by
  refine ⟨h.1, ?_⟩
  rcases h.2 with hn | ⟨g, cap, cur, rfl, hb', hg, rest⟩
  · exact .inl hn
  · exact .inr ⟨g, cap, cur, rfl, hb', (hb g rfl).trans hg, rest⟩
theorem RowAt.far {T : Ty} {S : Nat → Prop} {W W' : World} {v : Value} {r : List Nd} (h : RowAt T W v r) (f : Far S W W') (hs : ∀ k, v.ownBlock = some k → ¬ S k) : RowAt T W' v r :=
  h.keep fun k hk => f.block k (h.lt hk) (hs k hk)
/-- A row as a slice: where its cells are. -/
theorem RowAt.form {T : Ty} {W : World} {v : Value} {r : List Nd} (h : RowAt T W v r) : ∃ A cap, v = .slice A r.length cap ∧ r.length ≤ cap ∧ cap ≤ maxLen ∧
    (∀ i x, r[i]? = some x → ∃ g, A = some ⟨g, 0, none⟩ ∧ v.ownBlock = some g ∧ W.cell? ⟨g, i * 3, none⟩ = some (.int .u32 x.sum) ∧ W.cell? ⟨g, i * 3 + 1, none⟩ = some (.string x.key) ∧ W.cell? ⟨g, i * 3 + 2, none⟩ = some x.v ∧ ∀ o, W.frozen? ⟨g, o, none⟩ = false) := by
  have hO := h
  rcases h.2 with ⟨rfl, h0⟩ | ⟨g, cap, cur, rfl, _, hg, hl, hm, _⟩
  · have hr : r = [] := List.eq_nil_of_length_eq_zero h0
    subst hr
    exact ⟨none, 0, rfl, Nat.le_refl _, Nat.zero_le _, fun i x hx => by simp at hx⟩
  · refine ⟨some ⟨g, 0, none⟩, cap, rfl, hl, hm, fun i x hx => ⟨g, rfl, rfl, ?_⟩⟩
    obtain ⟨hi, _⟩ := List.getElem?_eq_some_iff.1 hx
    obtain ⟨e0, e1, e2⟩ := flat_at r i x hx
    have hc := fun j hj => World.ownsRow.cellAt (w := W) (base := 0) (e := T.r) (size := 3) (g := g) (n := r.length) (cap := cap) (xs := flat r) hO j hj
    exact ⟨(hc _ (by omega)).trans e0, (hc _ (by omega)).trans e1, (hc _ (by omega)).trans e2, fun o => World.ownsRow.frozenAt (w := W) (base := 0) (e := T.r) (size := 3) (g := g) (n := r.length) (cap := cap) (xs := flat r) hO o⟩

/-- A table of slots. -/
structure TabAt (T : Ty) (W : World) (g : Nat) (vs : List Value) (rows : List (List Nd)) : Prop where
  blk : Blk W g T.t vs.toArray
  len : vs.length = rows.length
  row : ∀ (i : Nat) (v : Value) (r : List Nd), vs[i]? = some v → rows[i]? = some r → RowAt T W v r
/-- No two slots share a row. -/
def Sep (vs : List Value) : Prop := ∀ (i j : Nat) (v u : Value) (k : Nat), vs[i]? = some v → vs[j]? = some u → v.ownBlock = some k → u.ownBlock = some k → i = j
def InTab (g : Nat) (vs : List Value) (k : Nat) : Prop := k = g ∨ ∃ v ∈ vs, v.ownBlock = some k

theorem TabAt.rows {T : Ty} {W : World} {g : Nat} {vs : List Value} {rows : List (List Nd)} (h : TabAt T W g vs rows) {i : Nat} {v : Value} (hi : vs[i]? = some v) : ∃ r, rows[i]? = some r ∧ RowAt T W v r := by
  obtain ⟨hlt, _⟩ := List.getElem?_eq_some_iff.1 hi
  rw [h.len] at hlt
  exact ⟨_, List.getElem?_eq_getElem hlt, h.row i v _ hi (List.getElem?_eq_getElem hlt)⟩
theorem TabAt.mem {T : Ty} {W : World} {g : Nat} {vs : List Value} {rows : List (List Nd)} (h : TabAt T W g vs rows) {v : Value} (hv : v ∈ vs) : ∃ r, RowAt T W v r := by
  obtain ⟨i, hi⟩ := List.getElem?_of_mem hv
  obtain ⟨r, _, hr⟩ := h.rows hi
  exact ⟨r, hr⟩
theorem TabAt.far {T : Ty} {S : Nat → Prop} {W W' : World} {g : Nat} {vs : List Value} {rows : List (List Nd)} (h : TabAt T W g vs rows) (f : Far S W W') (hs : ∀ k, InTab g vs k → ¬ S k) : TabAt T W' g vs rows :=
  ⟨f.blk h.blk (hs _ (.inl rfl)), h.len, fun i v r hv hr => (h.row i v r hv hr).far f fun k hk => hs k (.inr ⟨v, List.mem_of_getElem? hv, hk⟩)⟩
theorem TabAt.later {T : Ty} {W W' : World} {g : Nat} {vs : List Value} {rows : List (List Nd)} (h : TabAt T W g vs rows) (hb : Below W.heap.size W W') : TabAt T W' g vs rows :=
  h.far (S := fun _ => False) (Far.of_below hb) fun _ _ h => h

/-- A slot's row takes another one's place. -/
theorem Sep.set {vs : List Value} (h : Sep vs) {i : Nat} {v v' : Value} (hv : vs[i]? = some v) (hn : ∀ k, v'.ownBlock = some k → v.ownBlock = some k ∨ ∀ u ∈ vs, u.ownBlock ≠ some k) : Sep (vs.set i v') := by
  have key : ∀ (a : Nat) (x : Value) (k : Nat), (vs.set i v')[a]? = some x → x.ownBlock = some k → (a = i ∧ v'.ownBlock = some k) ∨ (a ≠ i ∧ vs[a]? = some x) := fun a x k ha hx => by
    by_cases e : a = i
    · subst e
      rw [List.getElem?_set_self (List.getElem?_eq_some_iff.1 hv).1] at ha
      cases ha
      exact .inl ⟨rfl, hx⟩
    · rw [List.getElem?_set_ne (fun h => e h.symm)] at ha
      exact .inr ⟨e, ha⟩
  intro a b x y k ha hb hx hy
  rcases key a x k ha hx with ⟨rfl, h1⟩ | ⟨h1, h2⟩ <;> rcases key b y k hb hy with ⟨rfl, h3⟩ | ⟨h3, h4⟩
  · rfl
  · rcases hn k h1 with h5 | h5
    · exact h a b v y k hv h4 h5 hy
    · exact absurd hy (h5 y (List.mem_of_getElem? h4))
  · rcases hn k h3 with h5 | h5
    · exact h a b x v k h2 hv hx h5
    · exact absurd hx (h5 x (List.mem_of_getElem? h2))
  · exact h a b x y k h2 h4 hx hy
theorem Sep.left {a b : List Value} (h : Sep (a ++ b)) : Sep a := fun i j v u k hi hj hv hu =>
  h i j v u k ((List.getElem?_append_left (List.getElem?_eq_some_iff.1 hi).1).trans hi) ((List.getElem?_append_left (List.getElem?_eq_some_iff.1 hj).1).trans hj) hv hu
theorem Sep.right {a b : List Value} (h : Sep (a ++ b)) : Sep b := fun i j v u k hi hj hv hu => by
  have e : ∀ n, (a ++ b)[a.length + n]? = b[n]? := fun n => by rw [List.getElem?_append_right (by omega)]; congr 1; omega
  have := h (a.length + i) (a.length + j) v u k ((e i).trans hi) ((e j).trans hj) hv hu
  omega
theorem Sep.apart {a b : List Value} (h : Sep (a ++ b)) {v u : Value} {k : Nat} (hv : v ∈ a) (hu : u ∈ b) (h1 : v.ownBlock = some k) : u.ownBlock ≠ some k := fun h2 => by
  obtain ⟨i, hi⟩ := List.getElem?_of_mem hv
  obtain ⟨j, hj⟩ := List.getElem?_of_mem hu
  have := h i (a.length + j) v u k ((List.getElem?_append_left (List.getElem?_eq_some_iff.1 hi).1).trans hi) (by rw [List.getElem?_append_right (by omega)]; rw [← hj]; congr 1; omega) h1 h2
  have := (List.getElem?_eq_some_iff.1 hi).1
  omega
theorem Sep.join {a b : List Value} (ha : Sep a) (hb : Sep b) (hab : ∀ v ∈ a, ∀ u ∈ b, ∀ k, v.ownBlock = some k → u.ownBlock ≠ some k) : Sep (a ++ b) := by
  intro i j v u k hi hj hv hu
  rcases Nat.lt_or_ge i a.length with h1 | h1 <;> rcases Nat.lt_or_ge j a.length with h2 | h2
  · rw [List.getElem?_append_left h1] at hi; rw [List.getElem?_append_left h2] at hj; exact ha i j v u k hi hj hv hu
  · rw [List.getElem?_append_left h1] at hi; rw [List.getElem?_append_right h2] at hj; exact absurd hu (hab v (List.mem_of_getElem? hi) u (List.mem_of_getElem? hj) k hv)
  · rw [List.getElem?_append_right h1] at hi; rw [List.getElem?_append_left h2] at hj; exact absurd hv (hab u (List.mem_of_getElem? hj) v (List.mem_of_getElem? hi) k hu)
  · rw [List.getElem?_append_right h1] at hi; rw [List.getElem?_append_right h2] at hj
    have := hb _ _ v u k hi hj hv hu; omega
theorem Sep.nil : Sep [] := fun i j v u k h => by simp at h
theorem Sep.none {vs : List Value} (h : ∀ v ∈ vs, v.ownBlock = none) : Sep vs := fun i j v u k hi _ hv _ => by rw [h v (List.mem_of_getElem? hi)] at hv; cases hv
end Go.Proofs.Ytifbambalfifaaa
