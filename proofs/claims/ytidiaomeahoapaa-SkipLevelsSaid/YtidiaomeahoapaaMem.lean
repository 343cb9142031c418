/- A list in memory: nodes, their links by levels; the next node of a level. -/
import Derived.Test.YtidiaomeahoapaaLink
namespace Go.Proofs.Ytidiaomeahoapaa
open Go.RowKit Go.Shelf

/-- What a call leaves alone: all that was there, but the blocks of S. -/
structure Far (S : Nat → Prop) (w w' : World) : Prop where
  os : w'.os = w.os
  tape : w'.tape = w.tape
  output : w'.output = w.output
  size : w.heap.size ≤ w'.heap.size
  block : ∀ k, k < w.heap.size → ¬ S k → w'.heap[k]? = w.heap[k]?

theorem Far.refl (S : Nat → Prop) (w : World) : Far S w w := ⟨rfl, rfl, rfl, Nat.le_refl _, fun _ _ _ => rfl⟩
theorem Far.trans {S S1 : Nat → Prop} {a b c : World} (h : Far S a b) (g : Far S1 b c) (hs : ∀ k, S1 k → S k ∨ a.heap.size ≤ k) : Far S a c :=
  ⟨g.os.trans h.os, g.tape.trans h.tape, g.output.trans h.output, Nat.le_trans h.size g.size, fun k hk hn =>
    (g.block k (Nat.lt_of_lt_of_le hk h.size) (fun h1 => by rcases hs k h1 with h2 | h2; exact hn h2; omega)).trans (h.block k hk hn)⟩
theorem Far.of_below {S : Nat → Prop} {a b : World} (h : Below a.heap.size a b) : Far S a b := ⟨h.os, h.tape, h.output, h.size, fun k hk _ => h.block k hk⟩
theorem Far.then_below {S : Nat → Prop} {a b c : World} (h : Far S a b) (g : Below b.heap.size b c) : Far S a c := h.trans (S1 := fun _ => False) (Far.of_below g) (fun _ h => h.elim)
theorem Far.set {S : Nat → Prop} {a b : World} (h : Far S a b) (p : Addr) (v : Value) (hp : S p.block ∨ a.heap.size ≤ p.block) : Far S a (b.setCell p v) :=
  h.trans (S1 := fun k => k = p.block) ⟨rfl, rfl, rfl, by simp [World.setCell], fun k _ hn => Below.heap_setCell _ _ _ _ hn⟩ (fun k e => by subst e; exact hp)
theorem Far.below {S : Nat → Prop} {a b : World} (h : Far S a b) {B : Nat} (hS : ∀ k, S k → B ≤ k) (hB : B ≤ a.heap.size) : Below B a b :=
  ⟨h.os, h.tape, h.output, h.size, fun k hk => h.block k (by omega) (fun h1 => by have := hS k h1; omega)⟩
theorem Far.mono {S S1 : Nat → Prop} {a b : World} (h : Far S a b) (hs : ∀ k, S k → S1 k) : Far S1 a b := ⟨h.os, h.tape, h.output, h.size, fun k hk hn => h.block k hk (fun h1 => hn (hs k h1))⟩
theorem Far.blk {S : Nat → Prop} {a b : World} (h : Far S a b) {k : Nat} {t : TypeId} {c : Array Value} (hk : Blk a k t c) (hn : ¬ S k) : Blk b k t c := (h.block k hk.lt hn).trans hk

theorem Blk.ty {W : World} {k : Nat} {t t' : TypeId} {c c' : Array Value} (h : Blk W k t c) (h' : Blk W k t' c') : t = t' := by
  unfold Blk at h h'; rw [h] at h'; injection h' with h'; injection h' with _ ht
theorem Blk.same {W : World} {k : Nat} {t t' : TypeId} {c c' : Array Value} (h : Blk W k t c) (h' : Blk W k t' c') : c = c' := by
  unfold Blk at h h'; rw [h] at h'; injection h' with h'; injection h'

/-- A node: its block, its entry, its level. -/
structure Nd where
  b : Nat
  m : ByteArray
  s : Int
  l : Nat
/-- The head is a node of every level. -/
def hd (p : Nat) : Nd := ⟨p, ⟨#[]⟩, 0, 32⟩
def lev (F : List Nd) (q : Nat) : Nat := (F[q]?.map Nd.l).getD 0
def adr (F : List Nd) (q : Nat) : Value := .pointer (F[q]?.map fun x => ⟨x.b, 0, none⟩)
def stp (F : List Nd) (k q : Nat) : Value := .agg #[adr F q, .int .i64 ((q : Int) - 1), .int .i64 k]

theorem adr_some {F : List Nd} {q : Nat} {x : Nd} (h : F[q]? = some x) : adr F q = .pointer (some ⟨x.b, 0, none⟩) := by unfold adr; rw [h]; rfl
theorem adr_none {F : List Nd} {q : Nat} (h : F.length ≤ q) : adr F q = .pointer none := by unfold adr; rw [List.getElem?_eq_none h]; rfl
theorem lev_some {F : List Nd} {q : Nat} {x : Nd} (h : F[q]? = some x) : lev F q = x.l := by unfold lev; rw [h]; rfl

/-- The places behind one that are of a level; the next one of them. -/
def steps (F : List Nd) (k q : Nat) : List Nat := (List.range' (q + 1) (F.length - (q + 1))).filter fun i => k < lev F i
def nxt (F : List Nd) (k q : Nat) : Nat := ((List.range' (q + 1) (F.length - (q + 1))).find? fun i => k < lev F i).getD F.length

theorem find_range (P : Nat → Bool) : ∀ m a, match (List.range' a m).find? P with
    | none => (List.range' a m).filter P = [] ∧ ∀ i, a ≤ i → i < a + m → P i = false
    | some y => a ≤ y ∧ y < a + m ∧ P y = true ∧ (∀ i, a ≤ i → i < y → P i = false) ∧ (List.range' a m).filter P = y :: (List.range' (y + 1) (a + m - (y + 1))).filter P := by
  intro m
  induction m with
  | zero => intro a; exact ⟨rfl, fun i h1 h2 => by omega⟩
  | succ m ih =>
    intro a
    rw [List.range'_succ]
    by_cases h : P a = true
    · rw [List.find?_cons_of_pos h, List.filter_cons_of_pos h]
      refine ⟨Nat.le_refl _, by omega, h, fun i h1 h2 => by omega, ?_⟩
      rw [show a + (m + 1) - (a + 1) = m by omega]
    · have h' : P a = false := by simpa using h
      rw [List.find?_cons_of_neg h, List.filter_cons_of_neg h]
      have := ih (a + 1)
      split at this
      · rename_i e
        refine ⟨this.1, fun i h1 h2 => ?_⟩
        by_cases e2 : i = a
        · subst e2; exact h'
        · exact this.2 i (by omega) (by omega)
      · rename_i y e
        obtain ⟨t1, t2, t3, t4, t5⟩ := this
        refine ⟨by omega, by omega, t3, fun i h1 h2 => ?_, ?_⟩
        · by_cases e2 : i = a
          · subst e2; exact h'
          · exact t4 i (by omega) (by omega)
        · rw [t5, show a + 1 + m - (y + 1) = a + (m + 1) - (y + 1) by omega]

theorem nxt_spec (F : List Nd) (k q : Nat) (hq : q < F.length) : q < nxt F k q ∧ nxt F k q ≤ F.length ∧ (∀ i, q < i → i < nxt F k q → lev F i ≤ k) ∧ (nxt F k q < F.length → k < lev F (nxt F k q)) ∧
    steps F k q = (if nxt F k q < F.length then nxt F k q :: steps F k (nxt F k q) else []) := by
  have := find_range (fun i => decide (k < lev F i)) (F.length - (q + 1)) (q + 1)
  unfold nxt steps
  split at this
  · rename_i e
    rw [e]
    refine ⟨hq, Nat.le_refl _, fun i h1 h2 => ?_, fun h => absurd h (Nat.lt_irrefl _), ?_⟩
    · have := this.2 i (by omega) (by simp at h2; omega)
      simpa using this
    · rw [this.1, if_neg]; simp
  · rename_i y e
    rw [e]
    obtain ⟨t1, t2, t3, t4, t5⟩ := this
    simp only [Option.getD_some]
    refine ⟨by omega, by omega, fun i h1 h2 => by simpa using t4 i (by omega) h2, fun _ => by simpa using t3, ?_⟩
    rw [t5, if_pos (by omega), show q + 1 + (F.length - (q + 1)) = F.length by omega]
theorem nxt_unique {F : List Nd} {k q j : Nat} (hq : q < F.length) (h1 : q < j) (h2 : j ≤ F.length) (h3 : ∀ i, q < i → i < j → lev F i ≤ k) (h4 : j < F.length → k < lev F j) : nxt F k q = j := by
  obtain ⟨a1, a2, a3, a4, _⟩ := nxt_spec F k q hq
  rcases Nat.lt_trichotomy (nxt F k q) j with h | h | h
  · have := h3 _ a1 h
    have := a4 (by omega)
    omega
  · exact h
  · have := a3 _ h1 h
    have := h4 (by omega)
    omega
theorem mem_steps {F : List Nd} {k q i : Nat} : i ∈ steps F k q ↔ q < i ∧ i < F.length ∧ k < lev F i := by
  unfold steps
  rw [List.mem_filter, List.mem_range'_1]
  simp
  omega

/-- The links that a list has. -/
def lk0 (F : List Nd) (q k : Nat) : Value × Int := (adr F (nxt F k q), (nxt F k q : Int) - q - 1)
def ah0 (F : List Nd) (q : Nat) : Value := if q = 0 then .pointer none else adr F (q - 1)

def tyq (q : Nat) : TypeId := if q = 0 then 63 else 61
def szq (q : Nat) : Nat := if q = 0 then 68 else 67
/-- A node's cells. -/
structure NodeA (A : Array Value) (q : Nat) (x : Nd) (lk : Nat → Value × Int) (ah : Value) (n : Int) : Prop where
  size : A.size = szq q
  m : A[0]? = some (.string x.m)
  s : A[1]? = some (.int .i64 x.s)
  a : A[2]? = some ah
  link : ∀ k, k < x.l → A[3 + k * 2]? = some (lk k).1 ∧ A[3 + k * 2 + 1]? = some (.int .i64 (lk k).2)
  n : q = 0 → A[67]? = some (.int .i64 n)
/-- Nodes in memory, with any links. -/
structure Sk (W : World) (F : List Nd) (lk : Nat → Nat → Value × Int) (ah : Nat → Value) (n : Int) : Prop where
  node : ∀ (q : Nat) (x : Nd), F[q]? = some x → ∃ A, Blk W x.b (tyq q) A ∧ NodeA A q x (lk q) (ah q) n
  inj : ∀ (q q' : Nat) (x x' : Nd), F[q]? = some x → F[q']? = some x' → x.b = x'.b → q = q'
  lev : ∀ (q : Nat) (x : Nd), F[q]? = some x → 0 < x.l ∧ x.l ≤ 32

theorem ty_q (q : Nat) : itT (tyq q) := by unfold tyq; split; exact .inr (.inr (.inr rfl)); exact .inr (.inr (.inl rfl))
theorem ty_ne (q : Nat) : tyq q ≠ 69 ∧ tyq q ≠ 58 ∧ tyq q ≠ 71 ∧ tyq q ≠ 32 := by unfold tyq; split <;> decide

variable {W W' : World} {F : List Nd} {lk : Nat → Nat → Value × Int} {ah : Nat → Value} {n : Int}
def isB (F : List Nd) (k : Nat) : Prop := ∃ x ∈ F, x.b = k
theorem isB_at {q : Nat} {x : Nd} (h : F[q]? = some x) : isB F x.b := ⟨x, List.mem_of_getElem? h, rfl⟩
theorem Sk.lt (h : Sk W F lk ah n) {k : Nat} (hk : isB F k) : k < W.heap.size := by
  obtain ⟨x, hx, rfl⟩ := hk
  obtain ⟨q, hq⟩ := List.mem_iff_getElem?.1 hx
  obtain ⟨A, hA, _⟩ := h.node q x hq
  exact hA.lt
theorem Sk.far (h : Sk W F lk ah n) {S : Nat → Prop} (hf : Far S W W') (hS : ∀ k, isB F k → ¬ S k) : Sk W' F lk ah n :=
  ⟨fun q x hq => by obtain ⟨A, h1, h2⟩ := h.node q x hq; exact ⟨A, hf.blk h1 (hS _ (isB_at hq)), h2⟩, h.inj, h.lev⟩
theorem Sk.later (h : Sk W F lk ah n) (hb : Below W.heap.size W W') : Sk W' F lk ah n := h.far (S := fun _ => False) (Far.of_below hb) (fun _ _ h => h)
theorem Sk.keep (h : Sk W F lk ah n) {L : List Nat} (hk : KeepC L W W') (hL : ∀ k ∈ L, ¬ isB F k) : Sk W' F lk ah n :=
  ⟨fun q x hq => by obtain ⟨A, h1, h2⟩ := h.node q x hq; exact ⟨A, h1.keep hk (fun e => hL _ e (isB_at hq)) (ty_q q), h2⟩, h.inj, h.lev⟩
theorem Sk.setOther (h : Sk W F lk ah n) (b o : Nat) (v : Value) (hb : ¬ isB F b) : Sk (W.setCell ⟨b, o, none⟩ v) F lk ah n :=
  ⟨fun q x hq => by obtain ⟨A, h1, h2⟩ := h.node q x hq; exact ⟨A, h1.setOther o v (fun e => hb (e ▸ isB_at hq)), h2⟩, h.inj, h.lev⟩
theorem Sk.not_ty (h : Sk W F lk ah n) {b t : Nat} {c : Array Value} (hb : Blk W b t c) (ht : ∀ q, tyq q ≠ t) : ¬ isB F b := fun ⟨x, hx, e⟩ => by
  obtain ⟨q, hq⟩ := List.mem_iff_getElem?.1 hx
  obtain ⟨A, hA, _⟩ := h.node q x hq
  subst e
  exact ht q (hA.ty hb)
theorem Sk.aside (h : Sk W F lk ah n) {N : Nat} (ha : Aside N W W') : Sk W' F lk ah n :=
  ⟨fun q x hq => by obtain ⟨A, h1, h2⟩ := h.node q x hq; exact ⟨A, ha.block _ _ h1 (.inr fun c e => by injection e with _ e2; exact (ty_ne q).1 e2), h2⟩, h.inj, h.lev⟩
end Go.Proofs.Ytidiaomeahoapaa
