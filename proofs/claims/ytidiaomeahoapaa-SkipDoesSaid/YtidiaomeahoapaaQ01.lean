/- Texts of one kind in one: Mem, Forth, Way. -/
import Derived.Test.YtidiaomeahoapaaQ00
import Derived.Deep.WholeRow
import Derived.Deep.MidRow
/- A list in memory: nodes, their links by levels; the next node of a level. -/
namespace Go.Proofs.Ytidiaomeahoapaa
open Go.RowKit Go.Shelf

/-- What a call leaves alone: all that was there, but the blocks of S. -/
structure Far (S : Nat → Prop) (w w' : World) : Prop where
  os : w'.os = w.os
  tape : w'.tape = w.tape
  output : w'.output = w.output
  size : w.heap.size ≤ w'.heap.size
  block : ∀ k, k < w.heap.size → ¬ S k → w'.heap[k]? = w.heap[k]?

theorem Far.refl (S : Nat → Prop) (w : World) : Far S w w := ⟨rfl, rfl, rfl, Nat.le_refl _, fun _ _ _ => rfl⟩
theorem Far.trans {S S1 : Nat → Prop} {a b c : World} (h : Far S a b) (g : Far S1 b c) (hs : ∀ k, S1 k → S k ∨ a.heap.size ≤ k) : Far S a c :=
  ⟨g.os.trans h.os, g.tape.trans h.tape, g.output.trans h.output, Nat.le_trans h.size g.size, fun k hk hn =>
    (g.block k (Nat.lt_of_lt_of_le hk h.size) (fun h1 => by rcases hs k h1 with h2 | h2; exact hn h2; omega)).trans (h.block k hk hn)⟩
theorem Far.of_below {S : Nat → Prop} {a b : World} (h : Below a.heap.size a b) : Far S a b := ⟨h.os, h.tape, h.output, h.size, fun k hk _ => h.block k hk⟩
theorem Far.then_below {S : Nat → Prop} {a b c : World} (h : Far S a b) (g : Below b.heap.size b c) : Far S a c := h.trans (S1 := fun _ => False) (Far.of_below g) (fun _ h => h.elim)
theorem Far.set {S : Nat → Prop} {a b : World} (h : Far S a b) (p : Addr) (v : Value) (hp : S p.block ∨ a.heap.size ≤ p.block) : Far S a (b.setCell p v) :=
  h.trans (S1 := fun k => k = p.block) ⟨rfl, rfl, rfl, by simp [World.setCell], fun k _ hn => Below.heap_setCell _ _ _ _ hn⟩ (fun k e => by subst e; exact hp)
theorem Far.below {S : Nat → Prop} {a b : World} (h : Far S a b) {B : Nat} (hS : ∀ k, S k → B ≤ k) (hB : B ≤ a.heap.size) : Below B a b :=
  ⟨h.os, h.tape, h.output, h.size, fun k hk => h.block k (by omega) (fun h1 => by have := hS k h1; omega)⟩
theorem Far.mono {S S1 : Nat → Prop} {a b : World} (h : Far S a b) (hs : ∀ k, S k → S1 k) : Far S1 a b := ⟨h.os, h.tape, h.output, h.size, fun k hk hn => h.block k hk (fun h1 => hn (hs k h1))⟩
theorem Far.blk {S : Nat → Prop} {a b : World} (h : Far S a b) {k : Nat} {t : TypeId} {c : Array Value} (hk : Blk a k t c) (hn : ¬ S k) : Blk b k t c := (h.block k hk.lt hn).trans hk

theorem Blk.ty {W : World} {k : Nat} {t t' : TypeId} {c c' : Array Value} (h : Blk W k t c) (h' : Blk W k t' c') : t = t' := by
  unfold Blk at h h'; rw [h] at h'; injection h' with h'; injection h' with _ ht
theorem Blk.same {W : World} {k : Nat} {t t' : TypeId} {c c' : Array Value} (h : Blk W k t c) (h' : Blk W k t' c') : c = c' := by
  unfold Blk at h h'; rw [h] at h'; injection h' with h'; injection h'

/-- A node: its block, its entry, its level. -/
structure Nd where
  b : Nat
  m : ByteArray
  s : Int
  l : Nat
/-- The head is a node of every level. -/
def hd (p : Nat) : Nd := ⟨p, ⟨#[]⟩, 0, 32⟩
def lev (F : List Nd) (q : Nat) : Nat := (F[q]?.map Nd.l).getD 0
def adr (F : List Nd) (q : Nat) : Value := .pointer (F[q]?.map fun x => ⟨x.b, 0, none⟩)
def stp (F : List Nd) (k q : Nat) : Value := .agg #[adr F q, .int .i64 ((q : Int) - 1), .int .i64 k]

theorem adr_some {F : List Nd} {q : Nat} {x : Nd} (h : F[q]? = some x) : adr F q = .pointer (some ⟨x.b, 0, none⟩) := by unfold adr; rw [h]; rfl
theorem adr_none {F : List Nd} {q : Nat} (h : F.length ≤ q) : adr F q = .pointer none := by unfold adr; rw [List.getElem?_eq_none h]; rfl
theorem lev_some {F : List Nd} {q : Nat} {x : Nd} (h : F[q]? = some x) : lev F q = x.l := by unfold lev; rw [h]; rfl

/-- The places behind one that are of a level; the next one of them. -/
def steps (F : List Nd) (k q : Nat) : List Nat := (List.range' (q + 1) (F.length - (q + 1))).filter fun i => k < lev F i
def nxt (F : List Nd) (k q : Nat) : Nat := ((List.range' (q + 1) (F.length - (q + 1))).find? fun i => k < lev F i).getD F.length

theorem find_range (P : Nat → Bool) : ∀ m a, match (List.range' a m).find? P with
    | none => (List.range' a m).filter P = [] ∧ ∀ i, a ≤ i → i < a + m → P i = false
    | some y => a ≤ y ∧ y < a + m ∧ P y = true ∧ (∀ i, a ≤ i → i < y → P i = false) ∧ (List.range' a m).filter P = y :: (List.range' (y + 1) (a + m - (y + 1))).filter P := by
  intro m
  induction m with
  | zero => intro a; exact ⟨rfl, fun i h1 h2 => by omega⟩
  | succ m ih =>
    intro a
    rw [List.range'_succ]
    by_cases h : P a = true
    · rw [List.find?_cons_of_pos h, List.filter_cons_of_pos h]
      refine ⟨Nat.le_refl _, by omega, h, fun i h1 h2 => by omega, ?_⟩
      rw [show a + (m + 1) - (a + 1) = m by omega]
    · have h' : P a = false := by simpa using h
      rw [List.find?_cons_of_neg h, List.filter_cons_of_neg h]
      have := ih (a + 1)
      split at this
      · rename_i e
        refine ⟨this.1, fun i h1 h2 => ?_⟩
        by_cases e2 : i = a
        · subst e2; exact h'
        · exact this.2 i (by omega) (by omega)
      · rename_i y e
        obtain ⟨t1, t2, t3, t4, t5⟩ := this
        refine ⟨by omega, by omega, t3, fun i h1 h2 => ?_, ?_⟩
        · by_cases e2 : i = a
          · subst e2; exact h'
          · exact t4 i (by omega) (by omega)
        · rw [t5, show a + 1 + m - (y + 1) = a + (m + 1) - (y + 1) by omega]

theorem nxt_spec (F : List Nd) (k q : Nat) (hq : q < F.length) : q < nxt F k q ∧ nxt F k q ≤ F.length ∧ (∀ i, q < i → i < nxt F k q → lev F i ≤ k) ∧ (nxt F k q < F.length → k < lev F (nxt F k q)) ∧
    steps F k q = (if nxt F k q < F.length then nxt F k q :: steps F k (nxt F k q) else []) := by
  have := find_range (fun i => decide (k < lev F i)) (F.length - (q + 1)) (q + 1)
  unfold nxt steps
  split at this
  · rename_i e
    rw [e]
    refine ⟨hq, Nat.le_refl _, fun i h1 h2 => ?_, fun h => absurd h (Nat.lt_irrefl _), ?_⟩
    · have := this.2 i (by omega) (by simp at h2; omega)
      simpa using this
    · rw [this.1, if_neg]; simp
  · rename_i y e
    rw [e]
    obtain ⟨t1, t2, t3, t4, t5⟩ := this
    simp only [Option.getD_some]
    refine ⟨by omega, by omega, fun i h1 h2 => by simpa using t4 i (by omega) h2, fun _ => by simpa using t3, ?_⟩
    rw [t5, if_pos (by omega), show q + 1 + (F.length - (q + 1)) = F.length by omega]
theorem nxt_unique {F : List Nd} {k q j : Nat} (hq : q < F.length) (h1 : q < j) (h2 : j ≤ F.length) (h3 : ∀ i, q < i → i < j → lev F i ≤ k) (h4 : j < F.length → k < lev F j) : nxt F k q = j := by
  obtain ⟨a1, a2, a3, a4, _⟩ := nxt_spec F k q hq
  rcases Nat.lt_trichotomy (nxt F k q) j with h | h | h
  · have := h3 _ a1 h
    have := a4 (by omega)
    omega
  · exact h
  · have := a3 _ h1 h
    have := h4 (by omega)
    omega
theorem mem_steps {F : List Nd} {k q i : Nat} : i ∈ steps F k q ↔ q < i ∧ i < F.length ∧ k < lev F i := by
  unfold steps
  rw [List.mem_filter, List.mem_range'_1]
  simp
  omega

/-- The links that a list has. -/
def lk0 (F : List Nd) (q k : Nat) : Value × Int := (adr F (nxt F k q), (nxt F k q : Int) - q - 1)
def ah0 (F : List Nd) (q : Nat) : Value := if q = 0 then .pointer none else adr F (q - 1)

def tyq (q : Nat) : TypeId := if q = 0 then 63 else 61
def szq (q : Nat) : Nat := if q = 0 then 68 else 67
/-- A node's cells. -/
structure NodeA (A : Array Value) (q : Nat) (x : Nd) (lk : Nat → Value × Int) (ah : Value) (n : Int) : Prop where
  size : A.size = szq q
  m : A[0]? = some (.string x.m)
  s : A[1]? = some (.int .i64 x.s)
  a : A[2]? = some ah
  link : ∀ k, k < x.l → A[3 + k * 2]? = some (lk k).1 ∧ A[3 + k * 2 + 1]? = some (.int .i64 (lk k).2)
  n : q = 0 → A[67]? = some (.int .i64 n)
/-- Nodes in memory, with any links. -/
structure Sk (W : World) (F : List Nd) (lk : Nat → Nat → Value × Int) (ah : Nat → Value) (n : Int) : Prop where
  node : ∀ (q : Nat) (x : Nd), F[q]? = some x → ∃ A, Blk W x.b (tyq q) A ∧ NodeA A q x (lk q) (ah q) n
  inj : ∀ (q q' : Nat) (x x' : Nd), F[q]? = some x → F[q']? = some x' → x.b = x'.b → q = q'
  lev : ∀ (q : Nat) (x : Nd), F[q]? = some x → 0 < x.l ∧ x.l ≤ 32

theorem ty_q (q : Nat) : itT (tyq q) := by unfold tyq; split; exact .inr (.inr (.inr rfl)); exact .inr (.inr (.inl rfl))
theorem ty_ne (q : Nat) : tyq q ≠ 69 ∧ tyq q ≠ 58 ∧ tyq q ≠ 71 ∧ tyq q ≠ 32 := by unfold tyq; split <;> decide

variable {W W' : World} {F : List Nd} {lk : Nat → Nat → Value × Int} {ah : Nat → Value} {n : Int}
def isB (F : List Nd) (k : Nat) : Prop := ∃ x ∈ F, x.b = k
theorem isB_at {q : Nat} {x : Nd} (h : F[q]? = some x) : isB F x.b := ⟨x, List.mem_of_getElem? h, rfl⟩
theorem Sk.lt (h : Sk W F lk ah n) {k : Nat} (hk : isB F k) : k < W.heap.size := by
  obtain ⟨x, hx, rfl⟩ := hk
  obtain ⟨q, hq⟩ := List.mem_iff_getElem?.1 hx
  obtain ⟨A, hA, _⟩ := h.node q x hq
  exact hA.lt
theorem Sk.far (h : Sk W F lk ah n) {S : Nat → Prop} (hf : Far S W W') (hS : ∀ k, isB F k → ¬ S k) : Sk W' F lk ah n :=
  ⟨fun q x hq => by obtain ⟨A, h1, h2⟩ := h.node q x hq; exact ⟨A, hf.blk h1 (hS _ (isB_at hq)), h2⟩, h.inj, h.lev⟩
theorem Sk.later (h : Sk W F lk ah n) (hb : Below W.heap.size W W') : Sk W' F lk ah n := h.far (S := fun _ => False) (Far.of_below hb) (fun _ _ h => h)
theorem Sk.keep (h : Sk W F lk ah n) {L : List Nat} (hk : KeepC L W W') (hL : ∀ k ∈ L, ¬ isB F k) : Sk W' F lk ah n :=
  ⟨fun q x hq => by obtain ⟨A, h1, h2⟩ := h.node q x hq; exact ⟨A, h1.keep hk (fun e => hL _ e (isB_at hq)) (ty_q q), h2⟩, h.inj, h.lev⟩
theorem Sk.setOther (h : Sk W F lk ah n) (b o : Nat) (v : Value) (hb : ¬ isB F b) : Sk (W.setCell ⟨b, o, none⟩ v) F lk ah n :=
  ⟨fun q x hq => by obtain ⟨A, h1, h2⟩ := h.node q x hq; exact ⟨A, h1.setOther o v (fun e => hb (e ▸ isB_at hq)), h2⟩, h.inj, h.lev⟩
theorem Sk.not_ty (h : Sk W F lk ah n) {b t : Nat} {c : Array Value} (hb : Blk W b t c) (ht : ∀ q, tyq q ≠ t) : ¬ isB F b := fun ⟨x, hx, e⟩ => by
  obtain ⟨q, hq⟩ := List.mem_iff_getElem?.1 hx
  obtain ⟨A, hA, _⟩ := h.node q x hq
  subst e
  exact ht q (hA.ty hb)
theorem Sk.aside (h : Sk W F lk ah n) {N : Nat} (ha : Aside N W W') : Sk W' F lk ah n :=
  ⟨fun q x hq => by obtain ⟨A, h1, h2⟩ := h.node q x hq; exact ⟨A, ha.block _ _ h1 (.inr fun c e => by injection e with _ e2; exact (ty_ne q).1 e2), h2⟩, h.inj, h.lev⟩
end Go.Proofs.Ytidiaomeahoapaa
/- forth: the nodes of a level behind one, one by one. -/
namespace Go.Proofs.Ytidiaomeahoapaa
open Go.RowKit Go.Shelf
attribute [local go_sem] Oper.semAt_some

def placeAt (W : World) (c : Nat) : Int := match W.cell? ⟨c, 1, none⟩ with | some v => intOf v | none => 0
def encQ (F : List Nd) (k : Nat) (_ : Nat) (q : Nat) : Array Value := #[stp F k q]

theorem facts3 {W : World} {b : Nat} {t : TypeId} {c0 c1 c2 : Value} (h : Blk W b t #[c0, c1, c2]) : W.cell? ⟨b, 0, none⟩ = some c0 ∧ W.cell? ⟨b, 1, none⟩ = some c1 ∧ W.cell? ⟨b, 2, none⟩ = some c2 ∧ W.frozen? ⟨b, 0, none⟩ = false ∧ W.frozen? ⟨b, 1, none⟩ = false ∧ W.frozen? ⟨b, 2, none⟩ = false :=
  ⟨h.cell 0, h.cell 1, h.cell 2, h.free 0, h.free 1, h.free 2⟩
/-- A step in its box. -/
def boxQ (F : List Nd) (k q : Nat) : Array Value := #[adr F q, .int .i64 ((q : Int) - 1), .int .i64 k]

set_option maxRecDepth 100000 in
set_option maxHeartbeats 4000000 in
theorem forth_any (F : List Nd) (ah : Nat → Value) (n : Int) (w : World) (k q0 : Nat) (x0 : Nd) (hk : k < 32) (hx0 : F[q0]? = some x0) (hl0 : k < x0.l) (hN : F.length ≤ 1000000) (L : List Nat) (hw : Sk w F (lk0 F) ah n) (hL : ∀ b ∈ L, ¬ isB F b) (hL2 : ∀ b ∈ L, b < w.heap.size) :
    SeqF Try.prog 38 #[stp F k q0] #[] (encQ F k) (steps F k q0) L w := by
  intro l J Jx W hW hJ hJx hY hJ0
  refine callsIn_of_wp Try.func38 rfl trivial ?_ rfl
  unfold stp
  simp only [Try.ntmps38, List.size_toArray, List.length_cons, List.length_nil, Nat.reduceAdd, Nat.reduceSub, Array.replicate_succ, Array.replicate_zero, List.push_toArray, List.append_toArray, List.nil_append, List.cons_append, List.append_nil]
  have HY := Lib.hid hY
  have HJ := Lib.hid hJ
  have HJX := Lib.hid hJx
  have HW := Lib.hid (hw.later hW)
  have HL := Lib.hid hL
  have hL2' : ∀ b ∈ L, b < W.heap.size := fun b hb => Nat.lt_of_lt_of_le (hL2 b hb) hW.size
  have HL2 := Lib.hid hL2'
  have HX0 := Lib.hid hx0
  have HL0 := Lib.hid hl0
  have HJ0 := Lib.hid (hJ 0 W (W.alloc (.cells (boxQ F k q0) 69)) hJ0 (Aside.of_below ((Below.refl _ _).alloc (Nat.le_refl _) _)))
  clear hY hJ hJx hW hL hL2 hw hx0 hl0 hJ0 hL2'
  gi_wp2
  gi_loopw [4] (fun _ wr => ∃ (i q : Nat) (x : Nd), F[q]? = some x ∧ k < x.l ∧ Blk wr W.heap.size 69 (boxQ F k q) ∧ (steps F k q0).drop i = steps F k q ∧ i ≤ (steps F k q0).length ∧ J i wr ∧ Sk wr F (lk0 F) ah n ∧ W.heap.size ≤ wr.heap.size)
    (fun _ wr => (F.length - placeAt wr W.heap.size).toNat)
  case atStart =>
    refine ⟨0, q0, x0, HX0.out, HL0.out, Blk.new _ _ _, rfl, Nat.zero_le _, HJ0.out, HW.out.later ((Below.refl _ _).alloc (Nat.le_refl _) _), by simp⟩
  case round =>
    obtain ⟨i, q, x, hx, hkl, kb, hd, hi, hJi, hS, hsz⟩ := hrel
    have hql : q < F.length := (List.getElem?_eq_some_iff.1 hx).1
    obtain ⟨s1, s2, s3, s4, s5⟩ := nxt_spec F k q hql
    obtain ⟨A, hA, hN1⟩ := hS.node q x hx
    obtain ⟨l1, l2⟩ := hN1.link k hkl
    have c1 := hA.cell (3 + k * 2)
    rw [l1] at c1
    have c2 := hA.cell (3 + k * 2 + 1)
    rw [l2] at c2
    have hae := adr_some hx
    have hpl : placeAt wr W.heap.size = (q : Int) - 1 := by unfold placeAt; rw [kb.cell 1]; rfl
    have HLK := fun (w : World) => Lib.hid (link_any x.b ((q : Int) - 1) k hk w)
    unfold boxQ at kb
    rw [hae] at kb
    unfold lk0 at c1 c2
    simp only at c1 c2
    have hb1 := Lib.hid hA
    obtain ⟨f0, f1, f2, f3, f4, f5⟩ := facts3 kb
    have KB := Lib.hid kb
    have HS := Lib.hid hS
    have S5 := Lib.hid s5
    have S4 := Lib.hid s4
    clear hA hN1 l1 l2 s3 s4 s5 kb hS hae
    gi_wp2_with fail
    refine ⟨trivial, ?_⟩
    refine (callsIn_wide.2 (HLK _).out).mono ?_
    rintro e w1 ⟨rfl, hb1'⟩
    have c1' := (hb1'.cell (p := ⟨x.b, 3 + k * 2, none⟩) (hb1.out.lt)).trans c1
    have c2' := (hb1'.cell (p := ⟨x.b, 3 + k * 2 + 1, none⟩) (hb1.out.lt)).trans c2
    have g0 := (hb1'.cell (p := ⟨W.heap.size, 0, none⟩) (KB.out.lt)).trans f0
    have g1 := (hb1'.cell (p := ⟨W.heap.size, 1, none⟩) (KB.out.lt)).trans f1
    have g2 := (hb1'.cell (p := ⟨W.heap.size, 2, none⟩) (KB.out.lt)).trans f2
    have kb1 := KB.out.later hb1'
    have f3' := kb1.free 0
    have f4' := kb1.free 1
    have f5' := kb1.free 2
    have z1 : W.heap.size < w1.heap.size := kb1.lt
    have KB1 := Lib.hid kb1
    have HB1 := Lib.hid hb1'
    clear f0 f1 f2 f3 f4 f5 c1 c2 kb1 hb1'
    by_cases hlast : nxt F k q < F.length
    · obtain ⟨y, hy⟩ : ∃ y, F[nxt F k q]? = some y := ⟨_, List.getElem?_eq_getElem hlast⟩
      have hay := adr_some hy
      rw [hay] at c1'
      gi_wp2_with fail
      have hp : (q : Int) - 1 + ((nxt F k q : Int) - q - 1) + 1 = (nxt F k q : Int) - 1 := by omega
      rw [hp]
      clear hp
      generalize ho : Obj.cells #[Value.pointer (some ⟨y.b, 0, none⟩), Value.int IntKind.i64 ((nxt F k q : Int) - q - 1)] 58 = o at *
      obtain ⟨W2, hW2⟩ : ∃ W2, W2 = ((((w1.setCell ⟨W.heap.size, 0, none⟩ (.pointer (some ⟨y.b, 0, none⟩))).setCell ⟨W.heap.size, 1, none⟩ (.int .i64 ((nxt F k q : Int) - 1))).setCell ⟨W.heap.size, 2, none⟩ (.int .i64 k)).alloc o) := ⟨_, rfl⟩
      rw [← hW2]
      have k2 : Blk W2 W.heap.size 69 (boxQ F k (nxt F k q)) := by
        rw [hW2]
        have := (((KB1.out.set 0 (.pointer (some ⟨y.b, 0, none⟩))).set 1 (.int .i64 ((nxt F k q : Int) - 1))).set 2 (.int .i64 k)).alloc o
        unfold boxQ
        rw [hay]
        exact this
      have hAs : Aside W.heap.size wr W2 := by
        rw [hW2]
        have q1 := KB1.out
        have q2 := q1.set 0 (.pointer (some ⟨y.b, 0, none⟩))
        have q3 := q2.set 1 (.int .i64 ((nxt F k q : Int) - 1))
        exact (Aside.of_below HB1.out).trans ((Aside.set _ _ _ _ q1 (Nat.le_refl _)).trans ((Aside.set _ _ _ _ q2 (Nat.le_refl _)).trans ((Aside.set _ _ _ _ q3 (Nat.le_refl _)).trans (Aside.of_below ((Below.refl _ _).alloc (Nat.le_refl _) _)))))
      have hJ2 := HJ.out i wr W2 hJi hAs
      have hS2 := HS.out.aside hAs
      have h5 := S5.out
      rw [if_pos hlast] at h5
      have hil : (steps F k q0)[i]? = some (nxt F k q) := by
        have := congrArg (fun l => l[0]?) (hd.trans h5)
        simpa using this
      have hz2 : W.heap.size ≤ W2.heap.size := Nat.le_trans hsz hAs.size
      obtain ⟨fn, tmps, assign, body, hy2, hR⟩ := HY.out i _ W2 hil hJ2
      unfold encQ stp at hy2
      rw [hay] at hy2
      have K2 := Lib.hid k2
      have S2 := Lib.hid hS2
      have HLE := Lib.hid (List.getElem?_eq_some_iff.1 hil).1
      have HD2 : (steps F k q0).drop (i + 1) = steps F k (nxt F k q) := by
        have := congrArg (List.drop 1) (hd.trans h5)
        simpa using this
      have HLY := Lib.hid (lev_some hy ▸ S4.out hlast)
      have HY' := Lib.hid hy
      clear c1' c2' g0 g1 g2 f3' f4' f5' hW2 k2 hAs hJ2 hS2 h5 hil hd hy hi ho
      rw [hy2]
      gi_wp2_with fail
      (try refine ⟨fun _ => by decide, ?_⟩)
      refine hR.mono ?_
      rintro e W3 (⟨rfl, hJ3, hk3⟩ | ⟨rfl, hJx3⟩)
      · have k3 := K2.out.keep hk3 (fun e => Nat.lt_irrefl _ (HL2.out _ e))
        have S3 := S2.out.keep hk3 HL.out
        clear hR hy2 K2 S2
        have hpl3 : placeAt W3 W.heap.size = (nxt F k q : Int) - 1 := by unfold placeAt; rw [k3.cell 1]; rfl
        have K3 := Lib.hid k3
        have S3' := Lib.hid S3
        clear k3 S3
        gi_wp2
        refine ⟨⟨i + 1, nxt F k q, y, HY'.out, HLY.out, K3.out, HD2, HLE.out, hJ3, S3'.out, Nat.le_trans hz2 hk3.size⟩, ?_⟩
        rw [hpl, hpl3]
        omega
      · clear hR hy2
        gi_wp2
        go_returns
        exact ⟨⟨_, rfl⟩, .inr ⟨_, hJx3⟩⟩
    · have hnone := adr_none (F := F) (q := nxt F k q) (by omega)
      rw [hnone] at c1'
      gi_wp2
      go_returns
      have h5 := S5.out
      rw [if_neg hlast] at h5
      have hie : i = (steps F k q0).length := by
        have := congrArg List.length (hd.trans h5)
        simp only [List.length_drop, List.length_nil] at this
        omega
      refine ⟨⟨_, rfl⟩, .inl ?_⟩
      rw [← hie]
      exact HJ.out i wr _ hJi (Aside.of_below (HB1.out.trans ((Below.refl _ _).alloc (HB1.out.size) _)))
end Go.Proofs.Ytidiaomeahoapaa
/- A way: of each level the last node ahead. -/
namespace Go.Proofs.Ytidiaomeahoapaa
open Go.RowKit Go.Shelf

/-- The last place up to a that is of a level. -/
def last (F : List Nd) (k : Nat) : Nat → Nat
  | 0 => 0
  | a + 1 => if k < lev F (a + 1) then a + 1 else last F k a
theorem last_spec (F : List Nd) (k : Nat) (h0 : k < lev F 0) : ∀ a, last F k a ≤ a ∧ k < lev F (last F k a) ∧ ∀ i, last F k a < i → i ≤ a → lev F i ≤ k := by
  intro a
  induction a with
  | zero => exact ⟨Nat.le_refl _, h0, fun i h1 h2 => by simp [last] at h1; omega⟩
  | succ a ih =>
    unfold last
    split
    · rename_i h; exact ⟨Nat.le_refl _, h, fun i h1 h2 => by omega⟩
    · rename_i h
      refine ⟨by omega, ih.2.1, fun i h1 h2 => ?_⟩
      by_cases e : i = a + 1
      · subst e; omega
      · exact ih.2.2 i h1 (by omega)
theorem last_unique {F : List Nd} {k a q : Nat} (h0 : k < lev F 0) (h1 : q ≤ a) (h2 : k < lev F q) (h3 : ∀ i, q < i → i ≤ a → lev F i ≤ k) : last F k a = q := by
  obtain ⟨t1, t2, t3⟩ := last_spec F k h0 a
  rcases Nat.lt_trichotomy (last F k a) q with h | h | h
  · have := t3 q h h1; omega
  · exact h
  · have := h3 _ h t1; omega
theorem last_zero (F : List Nd) (hp : ∀ i, i < F.length → 0 < lev F i) (a : Nat) (h : a < F.length) : last F 0 a = a :=
  last_unique (hp 0 (by omega)) (Nat.le_refl _) (hp a h) (fun i h1 h2 => by omega)

def wayC (F : List Nd) (a : Nat) : List Value := (List.range 32).flatMap fun k => (boxQ F k (last F k a)).toList
/-- A way's cells. -/
def wayA (F : List Nd) (a : Nat) : Array Value := (wayC F a).toArray
theorem flat3 (f : Nat → List Value) (hf : ∀ k, (f k).length = 3) : ∀ n, ((List.range n).flatMap f).length = n * 3 ∧ ∀ k i, k < n → i < 3 → ((List.range n).flatMap f)[k * 3 + i]? = (f k)[i]? := by
  intro n
  induction n with
  | zero => exact ⟨rfl, fun k i h _ => by omega⟩
  | succ n ih =>
    have hs : (List.range (n + 1)).flatMap f = (List.range n).flatMap f ++ f n := by
      rw [List.range_succ, List.flatMap_append]; simp
    rw [hs]
    refine ⟨by rw [List.length_append, ih.1, hf]; omega, fun k i hk hi => ?_⟩
    by_cases e : k = n
    · subst e
      rw [List.getElem?_append_right (by rw [ih.1]; omega), ih.1]
      congr 1
      omega
    · rw [List.getElem?_append_left (by rw [ih.1]; omega)]
      exact ih.2 k i (by omega) hi
theorem wayC_len (F : List Nd) (a : Nat) : (wayC F a).length = 96 := (flat3 _ (fun _ => rfl) 32).1
theorem wayA_size (F : List Nd) (a : Nat) : (wayA F a).size = 96 := by unfold wayA; simp [wayC_len]
theorem wayA_at (F : List Nd) (a k i : Nat) (hk : k < 32) (hi : i < 3) : (wayA F a)[k * 3 + i]? = (boxQ F k (last F k a))[i]? := by
  unfold wayA
  have := (flat3 (fun k => (boxQ F k (last F k a)).toList) (fun _ => rfl) 32).2 k i hk hi
  simpa [wayC] using this
theorem wayA_of {F : List Nd} {a : Nat} {A : Array Value} (hs : A.size = 96) (h : ∀ k i, k < 32 → i < 3 → A[k * 3 + i]? = (boxQ F k (last F k a))[i]?) : A = wayA F a := by
  apply Array.ext_getElem?
  intro j
  by_cases hj : j < 96
  · have h1 := h (j / 3) (j % 3) (by omega) (by omega)
    have h2 := wayA_at F a (j / 3) (j % 3) (by omega) (by omega)
    rw [show j / 3 * 3 + j % 3 = j by omega] at h1 h2
    rw [h1, h2]
  · rw [Array.getElem?_eq_none (by omega), Array.getElem?_eq_none (by rw [wayA_size]; omega)]
theorem way_cells (F : List Nd) (a k : Nat) (hk : k < 32) : (wayA F a)[k * 3]? = some (adr F (last F k a)) ∧ (wayA F a)[k * 3 + 1]? = some (.int .i64 ((last F k a : Int) - 1)) ∧ (wayA F a)[k * 3 + 2]? = some (.int .i64 k) :=
  ⟨wayA_at F a k 0 hk (by decide), wayA_at F a k 1 hk (by decide), wayA_at F a k 2 hk (by decide)⟩
theorem way_one (F : List Nd) (a : Nat) : (wayA F a).all (·.oneCell') = true := by
  rw [Array.all_eq_true]
  intro j hj
  rw [wayA_size] at hj
  have h2 := wayA_at F a (j / 3) (j % 3) (by omega) (by omega)
  rw [show j / 3 * 3 + j % 3 = j by omega, Array.getElem?_eq_getElem (by rw [wayA_size]; exact hj)] at h2
  have h3 : j % 3 = 0 ∨ j % 3 = 1 ∨ j % 3 = 2 := by omega
  rcases h3 with h3 | h3 | h3 <;> (rw [h3] at h2; simp [boxQ] at h2; rw [h2]; rfl)

/-- An array of 32 steps, all of them nought. -/
def zW : Array Value := ((List.range 32).flatMap fun _ => [Value.pointer none, .int .i64 0, .int .i64 0]).toArray
theorem info71 : (Try.prog.info? 71).map (fun i => (i.zero, i.size)) = some (some (.agg zW), 96) := by kernel_rfl
theorem zW_size : zW.size = 96 := by decide +kernel
theorem zero71 (w : World) : (zeroValue 71).run Try.prog w = .ok (.agg zW) w := (zero_of_info info71).1 w
theorem size71 : (Try.prog.info? 71).map (·.size) = some 96 := (zero_of_info info71).2
theorem under71 : Try.prog.underlying 71 = some (.array 32 69) := by kernel_rfl

/-- The whole of a way, by value, out of its block. -/
theorem load71 {W : World} {b : Nat} {A : Array Value} (h : Blk W b 71 A) (hs : A.size = 96) : (Instr.loadAt 71 (.pointer (some ⟨b, 0, none⟩))).run Try.prog W = .ok (.agg A) W := by
  simp only [Instr.loadAt, Instr.sureAddr, Sem.run_bind, Sem.run_pure, Result.andThen]
  exact run_loadVar_row _ _ 71 71 A (0, 0) _ h under71 rfl (by rw [size71, hs])
theorem loadVar71 {W : World} {b : Nat} {A : Array Value} (h : Blk W b 71 A) (hs : A.size = 96) : (loadVar 71 ⟨b, 0, none⟩).run Try.prog W = .ok (.agg A) W :=
  run_loadVar_row _ _ 71 71 A (0, 0) _ h under71 rfl (by rw [size71, hs])
theorem store71 {W : World} {b : Nat} {A B : Array Value} (h : Blk W b 71 A) (hs : A.size = 96) (hs' : B.size = 96) (ho : B.all (·.oneCell') = true) : (Instr.storeAt 71 (.pointer (some ⟨b, 0, none⟩)) (.agg B)).run Try.prog W = .ok () (W.setRow b B) := by
  simp only [Instr.storeAt, Instr.sureAddr, Sem.run_bind, Sem.run_pure, Result.andThen]
  exact run_storeVar_row _ _ 71 71 A B h (by rw [size71, hs']) (by rw [hs, hs']) ho
theorem Blk.setRow {W : World} {b t : Nat} {A : Array Value} (h : Blk W b t A) (B : Array Value) : Blk (W.setRow b B) b t B := by
  unfold Blk at *; simp [World.setRow, Array.getElem?_modify, h]
theorem setRow_other {W : World} {b k : Nat} (B : Array Value) (hne : k ≠ b) : (W.setRow b B).heap[k]? = W.heap[k]? := by
  simp [World.setRow, Array.getElem?_modify, Ne.symm hne]
theorem setRow_size (W : World) (b : Nat) (B : Array Value) : (W.setRow b B).heap.size = W.heap.size := by simp [World.setRow]
end Go.Proofs.Ytidiaomeahoapaa
