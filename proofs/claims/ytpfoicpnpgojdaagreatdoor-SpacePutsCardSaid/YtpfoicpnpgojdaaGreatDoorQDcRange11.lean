/- Texts of one kind in one: DcRange, DcIter, DcSize, DcSum, DcRefs. -/
import Derived.Test.YtpfoicpnpgojdaaGreatDoorRows
import Derived.RangeFuncNested
import Derived.RangeFuncBound
import Derived.RangeFuncCalls
import Derived.RangeFuncLeaves
import Derived.RangeFuncFrom
import Derived.Shelf.Abstract
import Derived.Shelf.RegionOpen
import Derived.WalkKit
import Derived.WalkSpells
import Derived.WalkLawsBesides
import Derived.OwnWalkIn
import Derived.TacticsInMore
import Derived.LoopNIn
import Derived.LoopIn
import Derived.Lib.Hide
import Derived.Deep.RegionWith
import Derived.Deep.QuietTactic
import Derived.BigQuiet
import Derived.BigRegion
import Derived.WalkSmall
import Derived.Handy
import Derived.WalkMore
import Derived.IntWalk
import Derived.ScopeJumps
/- A range over an iterator that comes to a known list of rounds; blocks known whole; how a function leaves that ranges over an iterator. -/
namespace Go.Proofs.YtpfoicpnpgojdaaGreatDoor.Dc
open Go.RowKit Go.Shelf
attribute [local go_sem] Oper.semAt_some

theorem heap_at {w : World} {o : Obj} {k : Nat} (h : k = w.heap.size) : (w.alloc o).heap[k]? = some o := by subst h; exact heap_alloc_new w o

/-- The types of an iterator's own blocks. -/
def itT (t : TypeId) : Prop := t = 9 ∨ t = 231 ∨ t = 24 ∨ t = 77
/-- All blocks of these types but those of L hold what they held. -/
structure KeepC (L : List Nat) (A B : World) : Prop where
  size : A.heap.size ≤ B.heap.size
  same : ∀ (k : Nat) (c : Array Value) (t : TypeId), k ∉ L → itT t → A.heap[k]? = some (.cells c t (0, 0)) → B.heap[k]? = some (.cells c t (0, 0))

theorem KeepC.refl (L : List Nat) (A : World) : KeepC L A A := ⟨Nat.le_refl _, fun _ _ _ _ _ h => h⟩
theorem KeepC.trans {L : List Nat} {A B C : World} (h : KeepC L A B) (g : KeepC L B C) : KeepC L A C := ⟨Nat.le_trans h.size g.size, fun k c t hk hc ho => g.same k c t hk hc (h.same k c t hk hc ho)⟩
theorem KeepC.of_below {L : List Nat} {A B : World} (h : Below A.heap.size A B) : KeepC L A B := ⟨h.size, fun k _ _ _ _ ho => (h.block k (Array.getElem?_eq_some_iff.1 ho).1).trans ho⟩
theorem KeepC.put {L : List Nat} (W : World) (l : Nat) (o o' : Obj) (hl : W.heap[l]? = some o) (hc : o.isCells = false) : KeepC L W (W.putObj l o') :=
  ⟨by simp [World.putObj], fun k c t _ _ hk => by
    by_cases e : k = l
    · subst e; rw [hl] at hk; cases hk; cases hc
    · exact (World.putObj_heap_other e).trans hk⟩
theorem KeepC.set {L : List Nat} (W : World) (b o : Nat) (v : Value) (hb : b ∈ L) : KeepC L W (W.setCell ⟨b, o, none⟩ v) :=
  ⟨by simp [World.setCell], fun k c t hk _ hx => (Below.heap_setCell _ _ _ k (fun e => hk (by rw [e]; exact hb))).trans hx⟩
/-- A row that is no block of the iterator's. -/
theorem KeepC.of_grownBy {L : List Nat} {A B : World} {row : Option Nat} (h : A.grownBy B row) (hr : ∀ k c t, row = some k → A.heap[k]? = some (.cells c t (0, 0)) → ¬ itT t) : KeepC L A B :=
  ⟨h.size, fun k c t _ ht hk => by
    by_cases e : some k = row
    · exact absurd ht (hr k c t e.symm hk)
    · exact (h.block k (Array.getElem?_eq_some_iff.1 hk).1 e).trans hk⟩

/-- What abides what is made. -/
def Abides (J : Nat → World → Prop) : Prop := ∀ i A B, J i A → Below A.heap.size A B → J i B

def RoundX (L : List Nat) (J Jx : Nat → World → Prop) (i : Nat) (W : World) (e : Ending) (W' : World) : Prop :=
  (e = .returned (.bool true) ∧ J (i + 1) W' ∧ KeepC L W W') ∨ (e = .returned (.bool false) ∧ Jx (i + 1) W')

/-- The iterator's contract. -/
def SeqX {α : Type} (P : Program) (g : Nat) (lb : Array Value) (encs : Nat → α → Array Value) (xs : List α) (L : List Nat) (w : World) : Prop :=
  ∀ (l : Nat) (J Jx : Nat → World → Prop) (W : World), Below w.heap.size w W → Abides J → Abides Jx →
    (∀ i x W1, xs[i]? = some x → J i W1 → YieldAt Fence.wide 4 P l (encs i x) W1 (RoundX L J Jx i W1)) → J 0 W →
    CallsIn Fence.wide 5 P g (#[.func (.yield l) #[] #[]] ++ lb) W fun e W' => (∃ v, e = .returned v) ∧ (J xs.length W' ∨ ∃ i, Jx i W')

/-- The same of a method value's iterator. -/
def SeqF {α : Type} (P : Program) (g : Nat) (fb lb : Array Value) (encs : Nat → α → Array Value) (xs : List α) (L : List Nat) (w : World) : Prop :=
  ∀ (l : Nat) (J Jx : Nat → World → Prop) (W : World), Below w.heap.size w W → Abides J → Abides Jx →
    (∀ i x W1, xs[i]? = some x → J i W1 → YieldAt Fence.wide 4 P l (encs i x) W1 (RoundX L J Jx i W1)) → J 0 W →
    CallsIn Fence.wide 5 P g (fb ++ #[.func (.yield l) #[] #[]] ++ lb) W fun e W' => (∃ v, e = .returned v) ∧ (J xs.length W' ∨ ∃ i, Jx i W')

def bodyX (B : Nat) (L : List Nat) (I : Nat → World → Prop) (Ix : Code → Nat → World → Prop) (i : Nat) (W : World) : Exit → Act → World → Prop
  | .normal, _, W' => KeepsFrom B W W' ∧ KeepC L W W' ∧ I (i + 1) W'
  | .ret, _, W' => KeepsFrom B W W' ∧ Ix .ret (i + 1) W'
  | .exit id, _, W' => KeepsFrom B W W' ∧ Ix (.exit id) (i + 1) W'
  | _, _, _ => False

theorem below_grown {A B : World} (h : Below A.heap.size A B) : A.grownBy B none := ⟨h.os, h.tape, h.output, h.size, fun q hq _ => h.block q hq⟩

theorem range_x {α : Type} {P : Program} {g : Operand} {ps : Array Tmp} {assign body : Code} {Q : Exit → Act → World → Prop} {a : Act} {w : World}
    {gf : Nat} {lb : Array Value} (hg : a.eval g = .func (.func gf) #[] lb) (eg : ∀ args w, (callFunc gf args).run P w = .ok (.enter gf args) w)
    {encs : Nat → α → Array Value} {xs : List α} {L : List Nat} (hseq : SeqX P gf lb encs xs L w) (hps : ∀ i x, (encs i x).size = ps.size)
    (I : Nat → World → Prop) (Ix : Code → Nat → World → Prop) (hI : OwnFrom w.heap.size I) (hIx : ∀ c, OwnFrom w.heap.size (Ix c)) (h0 : I 0 w)
    (Ax : Nat → α → Act → World → Prop) (hAx : ∀ i x a', OwnFrom w.heap.size (fun (_ : Unit) W => Ax i x a' W))
    (hassign : ∀ (l i : Nat) (x : α) (W : World) (K : Act → World → Prop), xs[i]? = some x → I i W → (∀ a' W', KeepsFrom w.heap.size W W' → KeepC L W W' → I i W' → Ax i x a' W' → K a' W') →
      assign.wpIn (Fence.wide.inRound l) 4 P (Exit.then K (fun _ _ _ => False)) { tmps := (ps.zip (encs i x)).foldl (fun t (p, v) => t.setIfInBounds p v) a.tmps, defers := [] } W)
    (hbody : ∀ (l i : Nat) (x : α) (a' : Act) (W : World), xs[i]? = some x → I i W → Ax i x a' W → body.wpIn (Fence.wide.inRound l) 4 P (bodyX w.heap.size L I Ix i W) a' W)
    (hdone : ∀ (D : Nat) (W : World), w.heap.size ≤ D → I xs.length W → W.heap[D]? = some (.deferred (some [])) → Q .normal { a with defers := { target := .collected D, args := #[] } :: a.defers } W)
    (hstop : ∀ (D : Nat) (c : Code) (i : Nat) (W : World), w.heap.size ≤ D → Ix c i W → W.heap[D]? = some (.deferred (some [])) → c.wpIn Fence.wide 6 P Q { a with defers := { target := .collected D, args := #[] } :: a.defers } W) :
    (Code.rangeFunc g ps assign body).wpIn Fence.wide 6 P Q a w := by
  refine wpIn_rangeFunc ?_
  intro fn hfn
  obtain ⟨rc, hrc⟩ : ∃ rc : LoopState → Option Code → Loop, rc = fun st pe => { state := st, pending := pe, fn, tmps := a.tmps, params := ps, assign, body, defers := w.heap.size } := ⟨_, rfl⟩
  obtain ⟨W1, hW1⟩ : ∃ W1, (w.alloc (.deferred (some []))).alloc (.loop (rc .ready none)) = W1 := ⟨_, rfl⟩
  have hL1 : W1.heap[w.heap.size + 1]? = some (.loop (rc .ready none)) := by rw [← hW1]; exact heap_at (by simp)
  have hK1 : W1.heap[w.heap.size]? = some (.deferred (some [])) := by rw [← hW1]; exact (Below.heap_alloc _ _ _ (by simp)).trans (heap_at rfl)
  have hI1 : I 0 W1 := by rw [← hW1]; exact hI.alloc _ (hI.alloc _ h0)
  have hb1 : Below w.heap.size w W1 := by rw [← hW1]; exact ((Below.refl _ w).alloc (Nat.le_refl _) _).alloc (by simp) _
  have hIb : Abides I := fun i A B hA hB => hI i A B none hA (below_grown hB) (fun r e => by cases e)
  have hIxb : ∀ c, Abides (Ix c) := fun c i A B hA hB => hIx c i A B none hA (below_grown hB) (fun r e => by cases e)
  refine ⟨w.heap.size + 1, [{ target := .collected w.heap.size, args := #[] }], W1, { target := .fn (.func gf) lb, args := #[.func (.yield (w.heap.size + 1)) #[] #[]] }, W1, gf,
    #[.func (.yield (w.heap.size + 1)) #[] #[]] ++ lb, W1, ?_, ?_, ?_, ?_, fun _ => by decide, ?_⟩
  · rw [← hW1, hrc]; exact run_enterLoop_outer _ _ _ _ _
  · simp only [resolve, hg]
    simp [go_sem]
  · intro f' _; trivial
  · simp [invoke, go_sem, eg]
  · have keep : ∀ {A B : World} {k : Nat} {o : Obj}, Below A.heap.size A B → A.heap[k]? = some o → B.heap[k]? = some o := fun hb hk => (hb.block _ (Array.getElem?_eq_some_iff.1 hk).1).trans hk
    refine (hseq (w.heap.size + 1)
      (fun i W => I i W ∧ W.heap[w.heap.size + 1]? = some (.loop (rc .ready none)) ∧ W.heap[w.heap.size]? = some (.deferred (some [])))
      (fun i W => ∃ c, Ix c i W ∧ W.heap[w.heap.size + 1]? = some (.loop (rc .done (some c))) ∧ W.heap[w.heap.size]? = some (.deferred (some [])))
      W1 hb1
      (fun i A B hs hb => ⟨hIb i A B hs.1 hb, keep hb hs.2.1, keep hb hs.2.2⟩)
      (fun i A B hs hb => by obtain ⟨c, h1, h2, h3⟩ := hs; exact ⟨c, hIxb c i A B h1 hb, keep hb h2, keep hb h3⟩)
      ?_ ⟨hI1, hL1, hK1⟩).mono ?_
    · rintro i x W hx ⟨hi, hl, hk⟩
      have hy := run_yield (P := P) (args := encs i x) hl (by rw [hrc]; exact hps i x)
      rw [hrc] at hy
      refine ⟨fn, _, assign, body, hy, roundIn_of_wpIn hfn (hassign _ i x W _ hx hi ?_)⟩
      clear hy
      intro a' Wa hkfa hkpa hia hax
      have hla := hkfa.same _ _ (by omega) hl rfl
      have hka := hkfa.same _ _ (Nat.le_refl _) hk rfl
      have hlt : w.heap.size + 1 < Wa.heap.size := (Array.getElem?_eq_some_iff.1 hla).1
      refine ⟨_, run_beginRound hla (by rw [hrc]), ?_⟩
      have hl2 : (Wa.putObj (w.heap.size + 1) (.loop { rc .ready none with state := .busy })).heap[w.heap.size + 1]? = some (.loop { rc .ready none with state := .busy }) := World.putObj_heap_same hlt
      have hk2 : (Wa.putObj (w.heap.size + 1) (.loop { rc .ready none with state := .busy })).heap[w.heap.size]? = some (.deferred (some [])) := (World.putObj_heap_other (by omega)).trans hka
      have hw2 : KeepC L Wa (Wa.putObj (w.heap.size + 1) (.loop { rc .ready none with state := .busy })) := KeepC.put _ _ _ _ hla rfl
      refine wpIn_mono (hbody _ i x a' _ hx (hI.putObj _ hia (by omega) hla rfl) ((hAx i x a').putObj (s := ()) _ hax (by omega) hla rfl)) ?_
      have fin : ∀ (jump : Option Code) (W3 : World), KeepsFrom w.heap.size (Wa.putObj (w.heap.size + 1) (.loop { rc .ready none with state := .busy })) W3 →
          (Instr.endRound (w.heap.size + 1) jump).run P W3 = .ok (.bool jump.isNone) (W3.putObj (w.heap.size + 1) (.loop (rc (if jump.isNone then .ready else .done) jump))) ∧
          W3.heap[w.heap.size + 1]? = some (.loop { rc .ready none with state := .busy }) ∧
          (W3.putObj (w.heap.size + 1) (.loop (rc (if jump.isNone then .ready else .done) jump))).heap[w.heap.size + 1]? = some (.loop (rc (if jump.isNone then .ready else .done) jump)) ∧
          (W3.putObj (w.heap.size + 1) (.loop (rc (if jump.isNone then .ready else .done) jump))).heap[w.heap.size]? = some (.deferred (some [])) := fun jump W3 hk3 => by
        have hl3 := hk3.same _ _ (by omega) hl2 rfl
        have := run_endRound (P := P) jump hl3
        rw [hrc] at this ⊢
        exact ⟨this, by rw [hrc] at hl3; exact hl3, World.putObj_heap_same (Array.getElem?_eq_some_iff.1 hl3).1, (World.putObj_heap_other (by omega)).trans (hk3.same _ _ (Nat.le_refl _) hk2 rfl)⟩
      rintro e a3 W3 hp
      cases e with
      | normal =>
        obtain ⟨hk3, hkp3, hi3⟩ := hp
        obtain ⟨hr, hl3, hl4, hk4⟩ := fin none W3 hk3
        exact ⟨_, _, hr, .inl ⟨rfl, ⟨hI.putObj _ hi3 (by omega) hl3 rfl, hl4, hk4⟩, hkpa.trans ((hw2.trans hkp3).trans (KeepC.put _ _ _ _ hl3 rfl))⟩⟩
      | ret =>
        obtain ⟨hk3, hi3⟩ := hp
        obtain ⟨hr, hl3, hl4, hk4⟩ := fin (some .ret) W3 hk3
        exact ⟨_, _, hr, .inr ⟨rfl, .ret, (hIx _).putObj _ hi3 (by omega) hl3 rfl, hl4, hk4⟩⟩
      | exit id =>
        obtain ⟨hk3, hi3⟩ := hp
        obtain ⟨hr, hl3, hl4, hk4⟩ := fin (some (.exit id)) W3 hk3
        exact ⟨_, _, hr, .inr ⟨rfl, .exit id, (hIx _).putObj _ hi3 (by omega) hl3 rfl, hl4, hk4⟩⟩
      | goto t => exact hp.elim
      | panic ch => exact hp.elim
      | outgrown => exact hp.elim
    · rintro e W2 ⟨⟨v, rfl⟩, (⟨hi, hl, hk⟩ | ⟨i, c, hi, hl, hk⟩)⟩
      · exact ⟨none, _, by have := run_endLoop (P := P) hl (by rw [hrc]; simp); rw [hrc] at this; exact this, hdone _ _ (Nat.le_refl _) (hI.putObj _ hi (by omega) hl rfl) ((World.putObj_heap_other (by omega)).trans hk)⟩
      · exact ⟨some c, _, by have := run_endLoop (P := P) hl (by rw [hrc]; simp); rw [hrc] at this; exact this, hstop _ c i _ (Nat.le_refl _) ((hIx c).putObj _ hi (by omega) hl rfl) ((World.putObj_heap_other (by omega)).trans hk)⟩

theorem range_f {α : Type} {P : Program} {g : Operand} {ps : Array Tmp} {assign body : Code} {Q : Exit → Act → World → Prop} {a : Act} {w : World}
    {gf : Nat} {fb lb : Array Value} (hg : a.eval g = .func (.func gf) fb lb) (eg : ∀ args w, (callFunc gf args).run P w = .ok (.enter gf args) w)
    {encs : Nat → α → Array Value} {xs : List α} {L : List Nat} (hseq : SeqF P gf fb lb encs xs L w) (hps : ∀ i x, (encs i x).size = ps.size)
    (I : Nat → World → Prop) (Ix : Code → Nat → World → Prop) (hI : OwnFrom w.heap.size I) (hIx : ∀ c, OwnFrom w.heap.size (Ix c)) (h0 : I 0 w)
    (Ax : Nat → α → Act → World → Prop) (hAx : ∀ i x a', OwnFrom w.heap.size (fun (_ : Unit) W => Ax i x a' W))
    (hassign : ∀ (l i : Nat) (x : α) (W : World) (K : Act → World → Prop), xs[i]? = some x → I i W → (∀ a' W', KeepsFrom w.heap.size W W' → KeepC L W W' → I i W' → Ax i x a' W' → K a' W') →
      assign.wpIn (Fence.wide.inRound l) 4 P (Exit.then K (fun _ _ _ => False)) { tmps := (ps.zip (encs i x)).foldl (fun t (p, v) => t.setIfInBounds p v) a.tmps, defers := [] } W)
    (hbody : ∀ (l i : Nat) (x : α) (a' : Act) (W : World), xs[i]? = some x → I i W → Ax i x a' W → body.wpIn (Fence.wide.inRound l) 4 P (bodyX w.heap.size L I Ix i W) a' W)
    (hdone : ∀ (D : Nat) (W : World), w.heap.size ≤ D → I xs.length W → W.heap[D]? = some (.deferred (some [])) → Q .normal { a with defers := { target := .collected D, args := #[] } :: a.defers } W)
    (hstop : ∀ (D : Nat) (c : Code) (i : Nat) (W : World), w.heap.size ≤ D → Ix c i W → W.heap[D]? = some (.deferred (some [])) → c.wpIn Fence.wide 6 P Q { a with defers := { target := .collected D, args := #[] } :: a.defers } W) :
    (Code.rangeFunc g ps assign body).wpIn Fence.wide 6 P Q a w := by
  refine wpIn_rangeFunc ?_
  intro fn hfn
  obtain ⟨rc, hrc⟩ : ∃ rc : LoopState → Option Code → Loop, rc = fun st pe => { state := st, pending := pe, fn, tmps := a.tmps, params := ps, assign, body, defers := w.heap.size } := ⟨_, rfl⟩
  obtain ⟨W1, hW1⟩ : ∃ W1, (w.alloc (.deferred (some []))).alloc (.loop (rc .ready none)) = W1 := ⟨_, rfl⟩
  have hL1 : W1.heap[w.heap.size + 1]? = some (.loop (rc .ready none)) := by rw [← hW1]; exact heap_at (by simp)
  have hK1 : W1.heap[w.heap.size]? = some (.deferred (some [])) := by rw [← hW1]; exact (Below.heap_alloc _ _ _ (by simp)).trans (heap_at rfl)
  have hI1 : I 0 W1 := by rw [← hW1]; exact hI.alloc _ (hI.alloc _ h0)
  have hb1 : Below w.heap.size w W1 := by rw [← hW1]; exact ((Below.refl _ w).alloc (Nat.le_refl _) _).alloc (by simp) _
  have hIb : Abides I := fun i A B hA hB => hI i A B none hA (below_grown hB) (fun r e => by cases e)
  have hIxb : ∀ c, Abides (Ix c) := fun c i A B hA hB => hIx c i A B none hA (below_grown hB) (fun r e => by cases e)
  refine ⟨w.heap.size + 1, [{ target := .collected w.heap.size, args := #[] }], W1, { target := .fn (.func gf) lb, args := fb ++ #[.func (.yield (w.heap.size + 1)) #[] #[]] }, W1, gf,
    fb ++ #[.func (.yield (w.heap.size + 1)) #[] #[]] ++ lb, W1, ?_, ?_, ?_, ?_, fun _ => by decide, ?_⟩
  · rw [← hW1, hrc]; exact run_enterLoop_outer _ _ _ _ _
  · simp only [resolve, hg]
    simp [go_sem]
  · intro f' _; trivial
  · simp [invoke, go_sem, eg]
  · have keep : ∀ {A B : World} {k : Nat} {o : Obj}, Below A.heap.size A B → A.heap[k]? = some o → B.heap[k]? = some o := fun hb hk => (hb.block _ (Array.getElem?_eq_some_iff.1 hk).1).trans hk
    refine (hseq (w.heap.size + 1)
      (fun i W => I i W ∧ W.heap[w.heap.size + 1]? = some (.loop (rc .ready none)) ∧ W.heap[w.heap.size]? = some (.deferred (some [])))
      (fun i W => ∃ c, Ix c i W ∧ W.heap[w.heap.size + 1]? = some (.loop (rc .done (some c))) ∧ W.heap[w.heap.size]? = some (.deferred (some [])))
      W1 hb1
      (fun i A B hs hb => ⟨hIb i A B hs.1 hb, keep hb hs.2.1, keep hb hs.2.2⟩)
      (fun i A B hs hb => by obtain ⟨c, h1, h2, h3⟩ := hs; exact ⟨c, hIxb c i A B h1 hb, keep hb h2, keep hb h3⟩)
      ?_ ⟨hI1, hL1, hK1⟩).mono ?_
    · rintro i x W hx ⟨hi, hl, hk⟩
      have hy := run_yield (P := P) (args := encs i x) hl (by rw [hrc]; exact hps i x)
      rw [hrc] at hy
      refine ⟨fn, _, assign, body, hy, roundIn_of_wpIn hfn (hassign _ i x W _ hx hi ?_)⟩
      clear hy
      intro a' Wa hkfa hkpa hia hax
      have hla := hkfa.same _ _ (by omega) hl rfl
      have hka := hkfa.same _ _ (Nat.le_refl _) hk rfl
      have hlt : w.heap.size + 1 < Wa.heap.size := (Array.getElem?_eq_some_iff.1 hla).1
      refine ⟨_, run_beginRound hla (by rw [hrc]), ?_⟩
      have hl2 : (Wa.putObj (w.heap.size + 1) (.loop { rc .ready none with state := .busy })).heap[w.heap.size + 1]? = some (.loop { rc .ready none with state := .busy }) := World.putObj_heap_same hlt
      have hk2 : (Wa.putObj (w.heap.size + 1) (.loop { rc .ready none with state := .busy })).heap[w.heap.size]? = some (.deferred (some [])) := (World.putObj_heap_other (by omega)).trans hka
      have hw2 : KeepC L Wa (Wa.putObj (w.heap.size + 1) (.loop { rc .ready none with state := .busy })) := KeepC.put _ _ _ _ hla rfl
      refine wpIn_mono (hbody _ i x a' _ hx (hI.putObj _ hia (by omega) hla rfl) ((hAx i x a').putObj (s := ()) _ hax (by omega) hla rfl)) ?_
      have fin : ∀ (jump : Option Code) (W3 : World), KeepsFrom w.heap.size (Wa.putObj (w.heap.size + 1) (.loop { rc .ready none with state := .busy })) W3 →
          (Instr.endRound (w.heap.size + 1) jump).run P W3 = .ok (.bool jump.isNone) (W3.putObj (w.heap.size + 1) (.loop (rc (if jump.isNone then .ready else .done) jump))) ∧
          W3.heap[w.heap.size + 1]? = some (.loop { rc .ready none with state := .busy }) ∧
          (W3.putObj (w.heap.size + 1) (.loop (rc (if jump.isNone then .ready else .done) jump))).heap[w.heap.size + 1]? = some (.loop (rc (if jump.isNone then .ready else .done) jump)) ∧
          (W3.putObj (w.heap.size + 1) (.loop (rc (if jump.isNone then .ready else .done) jump))).heap[w.heap.size]? = some (.deferred (some [])) := fun jump W3 hk3 => by
        have hl3 := hk3.same _ _ (by omega) hl2 rfl
        have := run_endRound (P := P) jump hl3
        rw [hrc] at this ⊢
        exact ⟨this, by rw [hrc] at hl3; exact hl3, World.putObj_heap_same (Array.getElem?_eq_some_iff.1 hl3).1, (World.putObj_heap_other (by omega)).trans (hk3.same _ _ (Nat.le_refl _) hk2 rfl)⟩
      rintro e a3 W3 hp
      cases e with
      | normal =>
        obtain ⟨hk3, hkp3, hi3⟩ := hp
        obtain ⟨hr, hl3, hl4, hk4⟩ := fin none W3 hk3
        exact ⟨_, _, hr, .inl ⟨rfl, ⟨hI.putObj _ hi3 (by omega) hl3 rfl, hl4, hk4⟩, hkpa.trans ((hw2.trans hkp3).trans (KeepC.put _ _ _ _ hl3 rfl))⟩⟩
      | ret =>
        obtain ⟨hk3, hi3⟩ := hp
        obtain ⟨hr, hl3, hl4, hk4⟩ := fin (some .ret) W3 hk3
        exact ⟨_, _, hr, .inr ⟨rfl, .ret, (hIx _).putObj _ hi3 (by omega) hl3 rfl, hl4, hk4⟩⟩
      | exit id =>
        obtain ⟨hk3, hi3⟩ := hp
        obtain ⟨hr, hl3, hl4, hk4⟩ := fin (some (.exit id)) W3 hk3
        exact ⟨_, _, hr, .inr ⟨rfl, .exit id, (hIx _).putObj _ hi3 (by omega) hl3 rfl, hl4, hk4⟩⟩
      | goto t => exact hp.elim
      | panic ch => exact hp.elim
      | outgrown => exact hp.elim
    · rintro e W2 ⟨⟨v, rfl⟩, (⟨hi, hl, hk⟩ | ⟨i, c, hi, hl, hk⟩)⟩
      · exact ⟨none, _, by have := run_endLoop (P := P) hl (by rw [hrc]; simp); rw [hrc] at this; exact this, hdone _ _ (Nat.le_refl _) (hI.putObj _ hi (by omega) hl rfl) ((World.putObj_heap_other (by omega)).trans hk)⟩
      · exact ⟨some c, _, by have := run_endLoop (P := P) hl (by rw [hrc]; simp); rw [hrc] at this; exact this, hstop _ c i _ (Nat.le_refl _) ((hIx c).putObj _ hi (by omega) hl rfl) ((World.putObj_heap_other (by omega)).trans hk)⟩

/-- A block that is known whole. -/
def Blk (W : World) (b : Nat) (t : TypeId) (c : Array Value) : Prop := W.heap[b]? = some (Obj.cells c t (0, 0))
theorem Blk.lt {W : World} {b : Nat} {t : TypeId} {c : Array Value} (h : Blk W b t c) : b < W.heap.size := (Array.getElem?_eq_some_iff.1 h).1
theorem Blk.cell {W : World} {b : Nat} {t : TypeId} {c : Array Value} (o : Nat) (h : Blk W b t c) : W.cell? ⟨b, o, none⟩ = c[o]? := by
  unfold Blk at h; simp [World.cell?, h]
theorem Blk.free {W : World} {b : Nat} {t : TypeId} {c : Array Value} (o : Nat) (h : Blk W b t c) : W.frozen? ⟨b, o, none⟩ = false := by
  unfold Blk at h; simp [World.frozen?, h]
theorem Blk.below {W W' : World} {b n : Nat} {t : TypeId} {c : Array Value} (h : Blk W b t c) (hb : Below n W W') (hn : b < n) : Blk W' b t c := (hb.block b hn).trans h
theorem Blk.later {W W' : World} {b : Nat} {t : TypeId} {c : Array Value} (h : Blk W b t c) (hb : Below W.heap.size W W') : Blk W' b t c := h.below hb h.lt
theorem Blk.keep {W W' : World} {L : List Nat} {b : Nat} {t : TypeId} {c : Array Value} (h : Blk W b t c) (hk : KeepC L W W') (hn : b ∉ L) (ht : itT t := by first | exact .inl rfl | exact .inr (.inl rfl) | exact .inr (.inr (.inl rfl)) | exact .inr (.inr (.inr rfl))) : Blk W' b t c := hk.same b c t hn ht h
theorem Blk.new (W : World) (t : TypeId) (c : Array Value) : Blk (W.alloc (.cells c t)) W.heap.size t c := heap_at rfl
theorem Blk.alloc {W : World} {b : Nat} {t : TypeId} {c : Array Value} (h : Blk W b t c) (o : Obj) : Blk (W.alloc o) b t c := (Below.heap_alloc _ _ _ h.lt).trans h
theorem Blk.set {W : World} {b : Nat} {t : TypeId} {c : Array Value} (o : Nat) (v : Value) (h : Blk W b t c) : Blk (W.setCell ⟨b, o, none⟩ v) b t (c.setIfInBounds o v) := by
  unfold Blk at *; simp [World.setCell, Array.getElem?_modify, h]
theorem Blk.setOther {W : World} {b b' : Nat} {t : TypeId} {c : Array Value} (o : Nat) (v : Value) (h : Blk W b t c) (hne : b ≠ b') : Blk (W.setCell ⟨b', o, none⟩ v) b t c := (Below.heap_setCell _ _ _ _ hne).trans h
theorem Blk.drew {W : World} {b : Nat} {t : TypeId} {c : Array Value} (h : Blk W b t c) : Blk W.drew b t c := h

theorem facts1 {W : World} {b : Nat} {t : TypeId} {c0 : Value} (h : Blk W b t #[c0]) : W.cell? ⟨b, 0, none⟩ = some c0 ∧ W.frozen? ⟨b, 0, none⟩ = false := ⟨h.cell 0, h.free 0⟩

theorem own_below {β : Type} (B : Nat) (w0 : World) (hB : w0.heap.size ≤ B) : OwnFrom B (fun (_ : β) W => Below w0.heap.size w0 W) := fun _ X Y row hs hg hr =>
  ⟨hg.os.trans hs.os, hg.tape.trans hs.tape, hg.output.trans hs.output, Nat.le_trans hs.size hg.size, fun k hk => (hg.block k (Nat.lt_of_lt_of_le hk hs.size) (fun e => by have := (hr k e.symm).1; omega)).trans (hs.block k hk)⟩
theorem own_blk {β : Type} (B b : Nat) (t : TypeId) (c : β → Array Value) : OwnFrom B (fun s W => Blk W b t (c s)) := fun s X Y row hs hg hr =>
  (hg.block b hs.lt (fun e => by obtain ⟨_, o, ho, hc⟩ := hr b e.symm; rw [show X.heap[b]? = _ from hs] at ho; cases ho; cases hc)).trans hs
theorem own_ex {β γ : Type} {B : Nat} {I : γ → β → World → Prop} (h : ∀ g, OwnFrom B (I g)) : OwnFrom B (fun s W => ∃ g, I g s W) := fun s X Y row ⟨g, hs⟩ hg hr => ⟨g, h g s X Y row hs hg hr⟩
theorem own_pure {β : Type} (B : Nat) (q : β → Prop) : OwnFrom B (fun s (_ : World) => q s) := fun _ _ _ _ h _ _ => h

theorem Blk.put {W : World} {b D : Nat} {t : TypeId} {c : Array Value} (h : Blk W b t c) (o : Obj) (hne : b ≠ D) : Blk (W.putObj D o) b t c := (World.putObj_heap_other hne).trans h
theorem Blk.put' {W : World} {b D : Nat} {t : TypeId} {c : Array Value} {ds : Option (List Deferred)} (h : Blk W b t c) (hD : W.heap[D]? = some (.deferred ds)) (o : Obj) : Blk (W.putObj D o) b t c :=
  h.put o (fun e => by subst e; have := (show W.heap[b]? = _ from h).symm.trans hD; cases this)
theorem leave {fn : Func} {R : Ending → World → Prop} {a : Act} {W : World} {D : Nat} {v : Value} (hd : a.defers = [{ target := .collected D, args := #[] }]) (hD : W.heap[D]? = some (.deferred (some [])))
    (hr : (results fn a.tmps).run Tryz.prog (W.putObj D (.deferred none)) = .ok v (W.putObj D (.deferred none))) (hR : R (.returned v) (W.putObj D (.deferred none))) : bodyPostM Fence.wide 6 Tryz.prog fn R .ret a W := by
  obtain ⟨tmps, ds⟩ := a
  simp only at hd
  subst hd
  exact ⟨by simp, .inl ⟨_, _, rfl, run_takeDeferred hD, ⟨v, hr, hR⟩⟩⟩
theorem below_put {w W : World} {D : Nat} (hb : Below w.heap.size w W) (hn : w.heap.size ≤ D) (o : Obj) : Below w.heap.size w (W.putObj D o) :=
  hb.trans ⟨rfl, rfl, rfl, by simp [World.putObj], fun k hk => World.putObj_heap_other (by omega)⟩

theorem keeps_drew (B : Nat) (W : World) : KeepsFrom B W W.drew := ⟨Nat.le_refl _, fun _ _ _ h _ => h⟩
theorem keepc_drew (L : List Nat) (W : World) : KeepC L W W.drew := ⟨Nat.le_refl _, fun _ _ _ _ _ h => h⟩


end Go.Proofs.YtpfoicpnpgojdaaGreatDoor.Dc
/- The two iterators: all sizes, the bytes of a text. -/
namespace Go.Proofs.YtpfoicpnpgojdaaGreatDoor.Dc
open Go.RowKit Go.Shelf
attribute [local go_sem] Oper.semAt_some

/-- The sizes, the least one first. -/
def sizeL : List Nat := [4, 8, 16, 32, 64, 128, 256, 512, 1024, 2048, 4096, 8192, 16384, 32768, 65536]
def encN (_ : Nat) (x : Nat) : Array Value := #[.int .i64 x]
/-- The size at a place, and the one behind the last one. -/
def sizeN (i : Nat) : Nat := sizeL.getD i 131072
theorem sizeN_facts : ∀ i : Fin 15, sizeL[i.val]? = some (sizeN i.val) ∧ sizeN i.val ≤ 65536 ∧ 4 ≤ sizeN i.val ∧ sizeN (i.val + 1) = 2 * sizeN i.val := by decide +kernel

set_option maxRecDepth 100000 in
set_option maxHeartbeats 4000000 in
theorem sizes_any (L : List Nat) (w : World) : SeqX Tryz.prog 214 #[] encN sizeL L w := by
  intro l J Jx W hW hJ hJx hY hJ0
  refine callsIn_of_wp Tryz.func214 rfl trivial ?_ rfl
  simp only [Tryz.ntmps214, List.size_toArray, List.length_cons, List.length_nil, Nat.reduceAdd, Nat.reduceSub, Array.replicate_succ, Array.replicate_zero, List.push_toArray, List.append_toArray, List.nil_append, List.cons_append, List.append_nil]
  have HY := Lib.hid hY
  clear hY
  gi_wp2
  gi_loopw [2] (fun s wr => ∃ (i : Nat), s = .int .i64 (sizeN i) ∧ i ≤ 15 ∧ J i wr)
    (fun s _ => 131072 - (intOf s).toNat)
  case atStart => exact ⟨0, rfl, by omega, hJ0⟩
  case round =>
    obtain ⟨i, rfl, hi, hJi⟩ := hrel
    by_cases hlt : i < 15
    · obtain ⟨hx, h1, h2, h3⟩ := sizeN_facts ⟨i, hlt⟩
      simp only at hx h1 h2 h3
      have HN := Lib.hid h3
      have H2 := Lib.hid h2
      clear h3 h2
      obtain ⟨fn, tmps, assign, body, hy, hR⟩ := HY.out i _ wr hx hJi
      unfold encN at hy
      generalize hs : sizeN i = s at *
      have hs2 := Lib.hid hs
      clear hs
      have h1' : (s : Int) ≤ 65536 := by omega
      gi_wp2_with fail
      (try refine ⟨fun _ => by decide, ?_⟩)
      refine hR.mono ?_
      rintro e W3 (⟨rfl, hJ3, hk3⟩ | ⟨rfl, hJx3⟩)
      · clear hR hy
        gi_wp2
        have e1 := hs2.out
        have e2 := HN.out
        have e3 := H2.out
        refine ⟨⟨i + 1, by rw [e2]; congr 1; omega, hlt, hJ3⟩, ?_⟩
        simp only [intOf]
        omega
      · gi_wp2
        go_end0
        exact ⟨⟨_, rfl⟩, .inr ⟨_, hJx3⟩⟩
    · obtain rfl : i = 15 := by omega
      have h15 : sizeN 15 = 131072 := by decide +kernel
      generalize sizeN 15 = s at *
      have h1' : ¬ ((s : Int) ≤ 65536) := by omega
      clear h15
      gi_wp2
      refine ⟨fun _ h => (by cases h), ?_⟩
      gi_wp2
      go_end0
      exact ⟨⟨_, rfl⟩, .inl hJi⟩

def encB (_ : Nat) (b : UInt8) : Array Value := #[.int .u8 b.toNat]

set_option maxRecDepth 100000 in
set_option maxHeartbeats 4000000 in
theorem bytes_any (p : ByteArray) (hp : p.size ≤ 281474976710656) (B : Nat) (L : List Nat) (w : World) (hL : B ∉ L) (h0 : Blk w B 9 #[.string p]) :
    SeqX Tryz.prog 215 #[.pointer (some ⟨B, 0, none⟩)] encB p.data.toList L w := by
  intro l J Jx W hW hJ hJx hY hJ0
  have k0 := h0.later hW
  refine callsIn_of_wp Tryz.func215 rfl trivial ?_ rfl
  simp only [Tryz.ntmps215, List.size_toArray, List.length_cons, List.length_nil, Nat.reduceAdd, Nat.reduceSub, Array.replicate_succ, Array.replicate_zero, List.push_toArray, List.append_toArray, List.nil_append, List.cons_append]
  have HY := Lib.hid hY
  clear hY
  gi_wp2
  gi_loopw [3] (fun s wr => ∃ (i : Nat), s = .int .i64 i ∧ i ≤ p.size ∧ J i wr ∧ Blk wr B 9 #[.string p])
    (fun s _ => p.size - (intOf s).toNat)
  case atStart => exact ⟨0, rfl, by omega, hJ0, k0⟩
  case round =>
    clear k0
    obtain ⟨i, rfl, hi, hJi, k0⟩ := hrel
    obtain ⟨a0, b0⟩ := facts1 k0
    by_cases hlt : i < p.size
    · have hx : p.data.toList[i]? = some p[i] := by
        rw [List.getElem?_eq_getElem (by rw [Array.length_toList]; exact hlt), Array.getElem_toList]; rfl
      obtain ⟨fn, tmps, assign, body, hy, hR⟩ := HY.out i _ wr hx hJi
      unfold encB at hy
      gi_wp2_with fail
      (try refine ⟨fun _ => by decide, ?_⟩)
      refine hR.mono ?_
      rintro e W3 (⟨rfl, hJ3, hk3⟩ | ⟨rfl, hJx3⟩)
      · have k13 := k0.keep hk3 hL
        clear hR hy
        gi_wp2
        refine ⟨⟨i + 1, by go_num, hlt, hJ3, k13⟩, ?_⟩
        simp only [intOf]
        omega
      · gi_wp2
        go_end0
        exact ⟨⟨_, rfl⟩, .inr ⟨_, hJx3⟩⟩
    · obtain rfl : i = p.size := by omega
      gi_wp2
      refine ⟨fun _ h => (by cases h), ?_⟩
      gi_wp2
      go_end0
      exact ⟨⟨_, rfl⟩, .inl (by rw [Array.length_toList]; exact hJi)⟩
end Go.Proofs.YtpfoicpnpgojdaaGreatDoor.Dc
/- SizeFor, IsSize, Slot. -/
namespace Go.Proofs.YtpfoicpnpgojdaaGreatDoor.Dc
open Go.RowKit Go.Shelf
attribute [local go_sem] Oper.semAt_some

/-- The first number of a list that is at least n; else the greatest size. -/
def fit (n : Int) (l : List Nat) : Nat := (l.find? (fun (x : Nat) => decide (n ≤ ((x : Nat) : Int)))).getD 65536
def sizeS (n : Int) : Nat := fit n sizeL
theorem fit_here (n : Int) (i x : Nat) (hx : sizeL[i]? = some x) (h : n ≤ x) : fit n (sizeL.drop i) = x := by
  obtain ⟨hi, he⟩ := List.getElem?_eq_some_iff.1 hx
  unfold fit
  rw [List.drop_eq_getElem_cons hi, he, List.find?_cons_of_pos (by simpa using h)]
  rfl
theorem fit_on (n : Int) (i x : Nat) (hx : sizeL[i]? = some x) (h : ¬ n ≤ x) : fit n (sizeL.drop i) = fit n (sizeL.drop (i + 1)) := by
  obtain ⟨hi, he⟩ := List.getElem?_eq_some_iff.1 hx
  unfold fit
  rw [List.drop_eq_getElem_cons hi, he, List.find?_cons_of_neg (by simpa using h)]

set_option maxRecDepth 100000 in
set_option maxHeartbeats 4000000 in
theorem sizeFor_any (n : Int) (w : World) : Calls Tryz.prog 190 #[.int .i64 n] w fun e w' => e = .returned (.int .i64 (sizeS n)) ∧ Below w.heap.size w w' := by
  refine (callsIn_wide (n := 6)).1 (callsIn_of_wp_marks Tryz.func190 rfl trivial ?_ rfl)
  refine wpIn_wide.2 ?_
  simp only [Tryz.ntmps190, List.size_toArray, List.length_cons, List.length_nil, Nat.reduceAdd, Nat.reduceSub, Array.replicate_succ, Array.replicate_zero, List.push_toArray, List.append_toArray, List.nil_append, List.cons_append]
  go_wp2
  refine wp_scope_straight ?_
  go_wp2
  refine wp_label ?_
  go_wp2
  have k1 := (Blk.new w 3 #[Value.int IntKind.i64 n]).alloc (Obj.cells #[Value.int IntKind.i64 65536] 3)
  have k2 := Blk.new (w.alloc (Obj.cells #[Value.int IntKind.i64 n] 3)) 3 #[Value.int IntKind.i64 65536]
  rw [World.size_alloc] at k2
  have hB := ((Below.refl w.heap.size w).alloc (Nat.le_refl _) (Obj.cells #[Value.int IntKind.i64 n] 3)).alloc (by simp) (Obj.cells #[Value.int IntKind.i64 65536] 3)
  have hsz : ((w.alloc (Obj.cells #[Value.int IntKind.i64 n] 3)).alloc (Obj.cells #[Value.int IntKind.i64 65536] 3)).heap.size = w.heap.size + 2 := by simp
  generalize ((w.alloc (Obj.cells #[Value.int IntKind.i64 n] 3)).alloc (Obj.cells #[Value.int IntKind.i64 65536] 3)) = w1 at *
  refine (wpIn_wide (n := 6)).1 (range_x (gf := 214) (lb := #[]) (encs := encN) (xs := sizeL) (L := [w.heap.size + 1]) rfl (enters_of Tryz.func214 (by kernel_rfl) rfl) (sizes_any _ _) (fun _ _ => rfl)
    (fun i W => Below w.heap.size w W ∧ Blk W w.heap.size 3 #[.int .i64 n] ∧ Blk W (w.heap.size + 1) 3 #[Value.int IntKind.i64 65536] ∧ sizeS n = fit n (sizeL.drop i))
    (fun c _ W => match c with
      | .exit id => id = 0 ∧ Below w.heap.size w W ∧ Blk W (w.heap.size + 1) 3 #[.int .i64 (sizeS n)]
      | _ => False)
    ?hI ?hIx ?h0 (fun i x a' W => a' = { tmps := #[Value.int IntKind.i64 n, Value.pointer (some { block := w.heap.size, off := 0 }), Value.int IntKind.i64 0,
          Value.pointer (some { block := w.heap.size + 1, off := 0 }), Value.int IntKind.i64 x, Value.int IntKind.i64 x, undef, undef, undef, undef, undef], defers := [] })
    (fun _ _ _ => own_pure _ _) ?assign ?body ?done ?stop)
  case hI => exact (own_below _ w (by omega)).and ((own_blk _ _ _ _).and ((own_blk _ _ _ _).and (own_pure _ _)))
  case hIx =>
    intro c
    cases c with
    | exit id => exact (own_pure _ _).and ((own_below _ w (by omega)).and (own_blk _ _ _ _))
    | _ => exact own_pure _ _
  case h0 => exact ⟨hB, k1, k2, rfl⟩
  case assign =>
    rintro l i x W K hx' ⟨hb, q1, q2, hgd⟩ hK
    unfold encN
    gi_wp2
    exact hK _ _ (KeepsFrom.refl _ _) (KeepC.refl _ _) ⟨hb, q1, q2, hgd⟩ rfl
  case body =>
    rintro l i x a' W hx' ⟨hb, q1, q2, hgd⟩ rfl
    obtain ⟨c1, c2⟩ := facts1 q1
    obtain ⟨d1, d2⟩ := facts1 q2
    have Q2 := Lib.hid q2
    have HG := Lib.hid hgd
    clear hgd q2 k1 k2
    by_cases hik : n ≤ (x : Int)
    · have hs : sizeS n = x := HG.out.trans (fit_here n i x hx' hik)
      have HS := Lib.hid hs
      clear hs
      gi_wp2
      refine ⟨(KeepsOthers.setCell _ _ _).from _, rfl, hb.setCell (p := ⟨w.heap.size + 1, 0, none⟩) (Nat.le_succ _) _, ?_⟩
      rw [HS.out]
      exact Q2.out.set 0 _
    · gi_wp2
      refine ⟨KeepsFrom.refl _ _, KeepC.refl _ _, hb, q1, Q2.out, HG.out.trans (fit_on n i x hx' (by omega))⟩
  case done =>
    rintro D W hD ⟨hb, q1, q2, hgd⟩ hK
    obtain ⟨d1, d2⟩ := facts1 q2
    have hs : sizeS n = 65536 := hgd
    have HS := Lib.hid hs
    have HK := Lib.hid hK
    clear hK q1 q2 hgd hs k1 k2
    simp only [Exit.inBlock, Exit.then]
    go_wp2
    exact leave (v := .int .i64 65536) rfl HK.out (by simp [results, Tryz.results190, go_sem]) ⟨by rw [HS.out]; rfl, below_put hb (by omega) _⟩
  case stop =>
    rintro D c j W hD hI hK
    cases c with
    | exit id =>
      obtain ⟨rfl, hb, q2⟩ := hI
      obtain ⟨d1, d2⟩ := facts1 q2
      have HK := Lib.hid hK
      clear hK q2 k1 k2
      refine wpIn_wide.2 ?_
      go_wp2
      exact leave rfl HK.out (by simp [results, Tryz.results190, go_sem]) ⟨rfl, below_put hb (by omega) _⟩
    | _ => exact hI.elim

def isS (n : Int) : Bool := decide ((sizeS n : Int) = n)
theorem isSize_any (n : Int) (w : World) : Calls Tryz.prog 186 #[.int .i64 n] w fun e w' => e = .returned (.bool (isS n)) ∧ Below w.heap.size w w' := by
  unfold isS
  go_enter Tryz.func186, Tryz.ntmps186
  go_wp2_with fail
  refine (sizeFor_any n _).mono ?_
  rintro e w1 ⟨rfl, hb1⟩
  go_wp2
  go_ret
  exact ⟨rfl, hb1⟩

/-- Slot: the place, and whether there is one. -/
def slotS (sum : Nat) (n : Int) : Value := if isS n then .tuple #[.int .i64 ((sum : Int) % n), .int .i64 0] else .tuple #[.int .i64 0, .int .i64 2]
theorem isS_pos {n : Int} (h : isS n = true) : 4 ≤ n ∧ n ≤ 65536 := by
  have h1 : ∀ l : List Nat, (∀ x ∈ l, 4 ≤ x ∧ x ≤ 65536) → 4 ≤ fit n l ∧ fit n l ≤ 65536 := fun l hl => by
    unfold fit
    cases h : l.find? (fun (x : Nat) => decide (n ≤ (x : Int))) with
    | none => simp
    | some x => exact hl x (List.mem_of_find?_eq_some h)
  have h2 := h1 sizeL (by decide)
  unfold isS sizeS at h
  have := of_decide_eq_true h
  omega
set_option maxHeartbeats 1000000 in
theorem slot_any (sum : Nat) (hs : sum < 4294967296) (n : Int) (w : World) : Calls Tryz.prog 165 #[.int .u32 sum, .int .i64 n] w fun e w' => e = .returned (slotS sum n) ∧ Below w.heap.size w w' := by
  by_cases h : isS n = true
  · have hp := isS_pos h
    unfold slotS
    rw [if_pos h]
    have HI := fun w => isSize_any n w
    rw [h] at HI
    have HP := fun w => Lib.hid (HI w)
    clear HI
    have g1 : (0 : Int) ≤ (sum : Int) := by omega
    have g2 : (sum : Int) ≤ 4294967295 := by omega
    have g3 : (0 : Int) ≤ (sum : Int) % n := Int.emod_nonneg _ (by omega)
    have g4 : (sum : Int) % n < n := Int.emod_lt_of_pos _ (by omega)
    clear h
    go_enter Tryz.func165, Tryz.ntmps165
    go_wp2_with fail
    refine wp_scope_straight ?_
    go_wp2_with fail
    refine (HP _).out.mono ?_
    rintro e w1 ⟨rfl, hb1⟩
    go_wp2
    simp only [Exit.noGoto]
    go_ret2
    exact ⟨rfl, hb1⟩
  · have h' : isS n = false := by cases hh : isS n <;> simp_all
    unfold slotS
    rw [if_neg h]
    have HI := fun w => isSize_any n w
    rw [h'] at HI
    have HP := fun w => Lib.hid (HI w)
    clear HI h h'
    go_enter Tryz.func165, Tryz.ntmps165
    go_wp2_with fail
    refine wp_scope_jumps 0 (fun a' w' => Below w.heap.size w w' ∧ a' = { tmps := #[Value.int IntKind.u32 sum, Value.int IntKind.i64 n, undef, undef, Value.int IntKind.i64 0,
            Value.int IntKind.i64 0, Value.int IntKind.i64 n, Value.bool false, Value.bool true, undef, undef, undef, undef, undef], defers := [] }) (fun _ _ => 0) rfl ?_ ?_
    · go_wp2_with fail
      refine (HP _).out.mono ?_
      rintro e w1 ⟨rfl, hb1⟩
      go_wp2
      go_step3
      exact ⟨rfl, hb1, rfl⟩
    · rintro a' w' ⟨hb, rfl⟩
      go_wp2
      simp only [Exit.jump]
      go_ret2
      exact ⟨rfl, hb⟩
end Go.Proofs.YtpfoicpnpgojdaaGreatDoor.Dc
/- Sum: the hash of a text. -/
namespace Go.Proofs.YtpfoicpnpgojdaaGreatDoor.Dc
open Go.RowKit Go.Shelf
attribute [local go_sem] Oper.semAt_some

/-- A byte's round, and the end of the hash. -/
def roundN (h b : Nat) : Nat := (h ^^^ b) * 16777619 % 4294967296
def endX (h : Nat) : Nat := h ^^^ h / 32768
def endA (h : Nat) : Nat := endX h * 2246822519 % 4294967296
def endB (h : Nat) : Nat := h ^^^ h / 8192
def endN (h : Nat) : Nat := endB (endA h)
def beginN (seed : Nat) : Nat := seed ^^^ 2166136261
def foldN (h : Nat) (l : List UInt8) : Nat := l.foldl (fun h b => roundN h b.toNat) h
def sumN (seed : Nat) (l : List UInt8) : Nat := endN (foldN (beginN seed) l)

theorem xor_lt32 {a b : Nat} (ha : a < 4294967296) (hb : b < 4294967296) : a ^^^ b < 4294967296 := Nat.xor_lt_two_pow (n := 32) ha hb
theorem roundN_lt (h b : Nat) : roundN h b < 4294967296 := Nat.mod_lt _ (by decide)
theorem beginN_lt {s : Nat} (h : s < 4294967296) : beginN s < 4294967296 := xor_lt32 h (by decide)
theorem endA_lt (h : Nat) : endA h < 4294967296 := Nat.mod_lt _ (by decide)
theorem endB_lt {h : Nat} (hh : h < 4294967296) : endB h < 4294967296 := xor_lt32 hh (by omega)
theorem endX_lt {h : Nat} (hh : h < 4294967296) : endX h < 4294967296 := xor_lt32 hh (by omega)
theorem sumN_lt (s : Nat) (l : List UInt8) : sumN s l < 4294967296 := by
  unfold sumN endN
  exact endB_lt (endA_lt _)
theorem foldN_step (h : Nat) (l : List UInt8) (i : Nat) (b : UInt8) (hb : l[i]? = some b) : foldN h (l.take (i + 1)) = roundN (foldN h (l.take i)) b.toNat := by
  obtain ⟨hi, he⟩ := List.getElem?_eq_some_iff.1 hb
  rw [List.take_succ_eq_append_getElem hi, he]
  unfold foldN
  rw [List.foldl_append, List.foldl_cons, List.foldl_nil]
theorem foldN_cons (h : Nat) (b : UInt8) (l : List UInt8) : foldN h (b :: l) = foldN (roundN h b.toNat) l := rfl
theorem foldN_nil (h : Nat) : foldN h [] = h := rfl
theorem foldN_lt (l : List UInt8) : ∀ {h : Nat}, h < 4294967296 → foldN h l < 4294967296 := by
  induction l with
  | nil => intro h hh; rw [foldN_nil]; exact hh
  | cons b l ih => intro h _; rw [foldN_cons]; exact ih (roundN_lt _ _)

theorem bits_xor32 (a b : Nat) (ha : a < 4294967296) (hb : b < 4294967296) : bits .xor .u32 (a : Int) (b : Int) = ((a ^^^ b : Nat) : Int) := by
  have hx := xor_lt32 ha hb
  unfold bits
  show IntKind.u32.wrap ((BitVec.ofInt 32 (a : Int) ^^^ BitVec.ofInt 32 (b : Int)).toNat : Int) = _
  rw [BitVec.ofInt_natCast, BitVec.ofInt_natCast, BitVec.toNat_xor, BitVec.toNat_ofNat, BitVec.toNat_ofNat, Nat.mod_eq_of_lt ha, Nat.mod_eq_of_lt hb, IntKind.wrap_u32]
  omega

theorem bytesOf_any (p : ByteArray) (w : World) : Calls Tryz.prog 191 #[.string p] w fun e w' => e = .returned (.func (.func 215) #[] #[.pointer (some ⟨w.heap.size, 0, none⟩)]) ∧ w' = w.alloc (Obj.cells #[.string p] 9) := by
  go_enter Tryz.func191, Tryz.ntmps191
  go_wp2
  go_ret
  exact ⟨rfl, rfl⟩

set_option maxRecDepth 100000 in
set_option maxHeartbeats 4000000 in
theorem sum_any (seed : Nat) (hs : seed < 4294967296) (p : ByteArray) (hp : p.size ≤ 281474976710656) (w : World) :
    Calls Tryz.prog 174 #[.int .u32 seed, .string p] w fun e w' => e = .returned (.int .u32 (sumN seed p.data.toList)) ∧ Below w.heap.size w w' := by
  refine (callsIn_wide (n := 6)).1 (callsIn_of_wp_marks Tryz.func174 rfl trivial ?_ rfl)
  refine wpIn_wide.2 ?_
  simp only [Tryz.ntmps174, List.size_toArray, List.length_cons, List.length_nil, Nat.reduceAdd, Nat.reduceSub, Array.replicate_succ, Array.replicate_zero, List.push_toArray, List.append_toArray, List.nil_append, List.cons_append]
  have hx : bits .xor .u32 (seed : Int) 2166136261 = ((beginN seed : Nat) : Int) := bits_xor32 seed 2166136261 hs (by decide)
  go_wp2_with fail
  refine (bytesOf_any p _).mono ?_
  rintro e w1 ⟨rfl, rfl⟩
  go_wp2
  have k1 := (Blk.new w 24 #[Value.int IntKind.u32 (beginN seed)]).alloc (Obj.cells #[.string p] 9)
  have k2 := Blk.new (w.alloc (Obj.cells #[Value.int IntKind.u32 (beginN seed)] 24)) 9 #[.string p]
  rw [World.size_alloc] at k2
  have hB := ((Below.refl w.heap.size w).alloc (Nat.le_refl _) (Obj.cells #[Value.int IntKind.u32 (beginN seed)] 24)).alloc (by simp) (Obj.cells #[.string p] 9)
  have hsz : ((w.alloc (Obj.cells #[Value.int IntKind.u32 (beginN seed)] 24)).alloc (Obj.cells #[.string p] 9)).heap.size = w.heap.size + 2 := by simp
  generalize ((w.alloc (Obj.cells #[Value.int IntKind.u32 (beginN seed)] 24)).alloc (Obj.cells #[.string p] 9)) = w1 at *
  refine (wpIn_wide (n := 6)).1 (range_x (gf := 215) (lb := #[.pointer (some ⟨w.heap.size + 1, 0, none⟩)]) (encs := encB) (xs := p.data.toList) (L := [w.heap.size]) rfl (enters_of Tryz.func215 (by kernel_rfl) rfl) (bytes_any p hp (w.heap.size + 1) _ _ (by simp) k2) (fun _ _ => rfl)
    (fun i W => Below w.heap.size w W ∧ Blk W w.heap.size 24 #[.int .u32 (foldN (beginN seed) (p.data.toList.take i))])
    (fun _ _ _ => False)
    ?hI ?hIx ?h0 (fun i x a' W => a' = { tmps := #[Value.int IntKind.u32 ↑seed, Value.string p, undef, undef, Value.int IntKind.u32 0,
          Value.pointer (some { block := w.heap.size, off := 0 }), Value.int .u8 x.toNat, Value.int IntKind.u32 ↑seed,
          Value.int IntKind.u32 (beginN seed), Value.string p,
          Value.func (Fn.func 215) #[] #[Value.pointer (some { block := w.heap.size + 1, off := 0 })], Value.int .u8 x.toNat, undef,
          undef, undef, undef, undef, undef, undef, undef, undef, undef, undef, undef, undef, undef], defers := [] })
    (fun _ _ _ => own_pure _ _) ?assign ?body ?done ?stop)
  case hI => exact (own_below _ w (by omega)).and (own_blk _ _ _ _)
  case hIx => exact fun c => own_pure _ _
  case h0 => exact ⟨hB, k1⟩
  case assign =>
    rintro l i x W K hx' ⟨hb, q1⟩ hK
    unfold encB
    gi_wp2
    exact hK _ _ (KeepsFrom.refl _ _) (KeepC.refl _ _) ⟨hb, q1⟩ rfl
  case body =>
    rintro l i x a' W hx' ⟨hb, q1⟩ rfl
    have HN := Lib.hid (foldN_step (beginN seed) _ i x hx')
    have hlt := foldN_lt (p.data.toList.take i) (beginN_lt hs)
    generalize foldN (beginN seed) (p.data.toList.take i) = h at *
    have hxb : x.toNat < 256 := UInt8.toNat_lt _
    generalize x.toNat = b at *
    obtain ⟨c1, c2⟩ := facts1 q1
    have Q1 := Lib.hid q1
    have hx2 := bits_xor32 h b hlt (by omega)
    have hx3 := xor_lt32 hlt (show b < 4294967296 by omega)
    have hr : roundN h b = (h ^^^ b) * 16777619 % 4294967296 := rfl
    generalize roundN h b = r at *
    generalize h ^^^ b = y at *
    have HR := Lib.hid hr
    clear k1 k2 q1 hr hx
    gi_wp2
    refine ⟨(KeepsOthers.setCell _ _ _).from _, KeepC.set _ _ _ _ (by simp), hb.setCell (p := ⟨w.heap.size, 0, none⟩) (Nat.le_refl _) _, ?_⟩
    rw [HN.out, HR.out]
    exact Q1.out.set 0 _
  case done =>
    rintro D W hD ⟨hb, q1⟩ hK
    rw [List.take_length] at q1
    have hlt := foldN_lt p.data.toList (beginN_lt hs)
    have hr : sumN seed p.data.toList = endB (endA (foldN (beginN seed) p.data.toList)) := rfl
    generalize foldN (beginN seed) p.data.toList = h at *
    have hx2 : bits .xor .u32 (h : Int) (h / 32768) = ((endX h : Nat) : Int) := bits_xor32 h (h / 32768) hlt (by omega)
    have hxl := endX_lt hlt
    have ha : ((endX h : Nat) : Int) * 2246822519 % 4294967296 = ((endA h : Nat) : Int) := by unfold endA; omega
    have hal := endA_lt h
    have hx3 : bits .xor .u32 ((endA h : Nat) : Int) ((endA h : Nat) / 8192) = ((endB (endA h) : Nat) : Int) := bits_xor32 (endA h) (endA h / 8192) hal (by omega)
    generalize endB (endA h) = z at *
    generalize endA h = y at *
    generalize endX h = x at *
    obtain ⟨d1, d2⟩ := facts1 q1
    have HK := Lib.hid hK
    have HR := Lib.hid hr
    clear hK k1 k2 hr hx q1
    simp only [Exit.inBlock, Exit.then]
    go_wp2
    have hD' := (Below.heap_setCell W (⟨w.heap.size, 0, none⟩ : Addr) (.int .u32 y) D (show D ≠ w.heap.size by omega)).trans HK.out
    exact leave (v := .int .u32 z) rfl hD' (by simp [results, Tryz.results174, go_sem]) ⟨by rw [HR.out], below_put (hb.setCell (p := ⟨w.heap.size, 0, none⟩) (Nat.le_refl _) _) (by omega) _⟩
  case stop =>
    rintro D c j W hD hI hK
    exact hI.elim
end Go.Proofs.YtpfoicpnpgojdaaGreatDoor.Dc
/- The document's own answers of stage 6: SizeFor, Sum. -/
namespace Go.Proofs.YtpfoicpnpgojdaaGreatDoor.Dc
open Go.RowKit Go.Shelf
attribute [local go_sem] Oper.semAt_some

theorem fit_last (n : Int) : fit n (sizeL.drop 14) = 65536 := by
  unfold fit
  show ((List.find? (fun (x : Nat) => decide (n ≤ (x : Int))) [65536]).getD 65536) = 65536
  cases h : List.find? (fun (x : Nat) => decide (n ≤ (x : Int))) [65536] with
  | none => rfl
  | some y => have := List.mem_of_find?_eq_some h; simp at this; subst this; rfl

theorem isS_iff (n : Int) : isS n = true ↔ ∃ x ∈ sizeL, (x : Int) = n := by
  constructor
  · intro h
    unfold isS sizeS fit at h
    have h2 := of_decide_eq_true h
    cases hh : sizeL.find? (fun (x : Nat) => decide (n ≤ (x : Int))) with
    | none => rw [hh] at h2; exact ⟨65536, by decide, h2⟩
    | some x => rw [hh] at h2; exact ⟨x, List.mem_of_find?_eq_some hh, h2⟩
  · rintro ⟨x, hx, rfl⟩
    have : ∀ x ∈ sizeL, isS (x : Int) = true := by decide +kernel
    exact this x hx

theorem bits_xor64 (a b : Nat) (ha : a < 4294967296) (hb : b < 4294967296) : bits .xor .u64 (a : Int) (b : Int) = ((a ^^^ b : Nat) : Int) := by
  have hx := xor_lt32 ha hb
  unfold bits
  show IntKind.u64.wrap ((BitVec.ofInt 64 (a : Int) ^^^ BitVec.ofInt 64 (b : Int)).toNat : Int) = _
  rw [BitVec.ofInt_natCast, BitVec.ofInt_natCast, BitVec.toNat_xor, BitVec.toNat_ofNat, BitVec.toNat_ofNat, Nat.mod_eq_of_lt (show a < 2 ^ 64 by omega), Nat.mod_eq_of_lt (show b < 2 ^ 64 by omega), IntKind.wrap_u64]
  omega

/-- A byte of a text. -/
def byteN (p : ByteArray) (i : Nat) : Nat := (p.data.toList.getD i 0).toNat
theorem byteN_lt (p : ByteArray) (i : Nat) : byteN p i < 256 := UInt8.toNat_lt _
theorem byteN_eq (p : ByteArray) (i : Nat) (h : i < p.size) : p[i].toNat = byteN p i := by
  have h2 : i < p.data.toList.length := by rw [Array.length_toList]; exact h
  unfold byteN
  rw [List.getD_eq_getElem?_getD, List.getElem?_eq_getElem h2, Array.getElem_toList]
  rfl
theorem byteN_step (h : Nat) (p : ByteArray) (i : Nat) (hi : i < p.size) : foldN h (p.data.toList.take (i + 1)) = roundN (foldN h (p.data.toList.take i)) (byteN p i) := by
  have h2 : i < p.data.toList.length := by rw [Array.length_toList]; exact hi
  rw [foldN_step h _ i _ (List.getElem?_eq_getElem h2)]
  unfold byteN
  rw [List.getD_eq_getElem?_getD, List.getElem?_eq_getElem h2]
  rfl

end Go.Proofs.YtpfoicpnpgojdaaGreatDoor.Dc
