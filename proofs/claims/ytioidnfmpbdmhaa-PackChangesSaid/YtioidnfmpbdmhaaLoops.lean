/- What the functions share that range over an iterator: their own boxes, how they leave. -/
import Derived.Test.YtioidnfmpbdmhaaWalk
import Derived.WalkMore
namespace Go.Proofs.Ytioidnfmpbdmhaa
open Go.RowKit Go.Shelf
attribute [local go_sem] Oper.semAt_some

theorem res4 {fn : Func} {tmps : Array Value} {W : World} {b k : Nat} {v0 v3 v1 v2 : Value} (hr : fn.results = #[.cell k 61]) (hk : tmps.getD k undef = .pointer (some ⟨b, 0, none⟩)) (hB : Blk W b 61 #[v0, v1, v2, v3]) :
    (results fn tmps).run Try.prog W = .ok (.agg #[v0, v1, v2, v3]) W := by
  obtain ⟨e0, e1, e2, e3, f0, f1, f2, f3⟩ := facts4 hB
  have hk2 : tmps[k]?.getD undef = .pointer (some ⟨b, 0, none⟩) := by rw [← Array.getD_eq_getD_getElem?]; exact hk
  simp [results, hr, hk2, go_sem, e0, e1, e2, e3]
theorem res1 {fn : Func} {tmps : Array Value} {W : World} {b k : Nat} {t : TypeId} {v0 : Value} (ht : t = 3 ∨ t = 4) (hr : fn.results = #[.cell k t]) (hk : tmps.getD k undef = .pointer (some ⟨b, 0, none⟩)) (hB : Blk W b t #[v0]) :
    (results fn tmps).run Try.prog W = .ok v0 W := by
  obtain ⟨e0, f0⟩ := facts1 hB
  have hk2 : tmps[k]?.getD undef = .pointer (some ⟨b, 0, none⟩) := by rw [← Array.getD_eq_getD_getElem?]; exact hk
  rcases ht with rfl | rfl <;> simp [results, hr, hk2, go_sem, e0]

theorem own_below {β : Type} (B : Nat) (w0 : World) (hB : w0.heap.size ≤ B) : OwnFrom B (fun (_ : β) W => Below w0.heap.size w0 W) := fun _ X Y row hs hg hr =>
  ⟨hg.os.trans hs.os, hg.tape.trans hs.tape, hg.output.trans hs.output, Nat.le_trans hs.size hg.size, fun k hk => (hg.block k (Nat.lt_of_lt_of_le hk hs.size) (fun e => by have := (hr k e.symm).1; omega)).trans (hs.block k hk)⟩
theorem own_blk {β : Type} (B b : Nat) (t : TypeId) (c : β → Array Value) : OwnFrom B (fun s W => Blk W b t (c s)) := fun s X Y row hs hg hr =>
  (hg.block b hs.lt (fun e => by obtain ⟨_, o, ho, hc⟩ := hr b e.symm; rw [show X.heap[b]? = _ from hs] at ho; cases ho; cases hc)).trans hs
theorem own_ex {β γ : Type} {B : Nat} {I : γ → β → World → Prop} (h : ∀ g, OwnFrom B (I g)) : OwnFrom B (fun s W => ∃ g, I g s W) := fun s X Y row ⟨g, hs⟩ hg hr => ⟨g, h g s X Y row hs hg hr⟩
theorem own_pure {β : Type} (B : Nat) (q : β → Prop) : OwnFrom B (fun s (_ : World) => q s) := fun _ _ _ _ h _ _ => h

theorem Blk.put {W : World} {b D : Nat} {t : TypeId} {c : Array Value} (h : Blk W b t c) (o : Obj) (hne : b ≠ D) : Blk (W.putObj D o) b t c := (World.putObj_heap_other hne).trans h
theorem Blk.put' {W : World} {b D : Nat} {t : TypeId} {c : Array Value} {ds : Option (List Deferred)} (h : Blk W b t c) (hD : W.heap[D]? = some (.deferred ds)) (o : Obj) : Blk (W.putObj D o) b t c :=
  h.put o (fun e => by subst e; have := (show W.heap[b]? = _ from h).symm.trans hD; cases this)
theorem leave {fn : Func} {R : Ending → World → Prop} {a : Act} {W : World} {D : Nat} {v : Value} (hd : a.defers = [{ target := .collected D, args := #[] }]) (hD : W.heap[D]? = some (.deferred (some [])))
    (hr : (results fn a.tmps).run Try.prog (W.putObj D (.deferred none)) = .ok v (W.putObj D (.deferred none))) (hR : R (.returned v) (W.putObj D (.deferred none))) : bodyPostM Fence.wide 6 Try.prog fn R .ret a W := by
  obtain ⟨tmps, ds⟩ := a
  simp only at hd
  subst hd
  exact ⟨by simp, .inl ⟨_, _, rfl, run_takeDeferred hD, ⟨v, hr, hR⟩⟩⟩
theorem below_put {w W : World} {D : Nat} (hb : Below w.heap.size w W) (hn : w.heap.size ≤ D) (o : Obj) : Below w.heap.size w (W.putObj D o) :=
  hb.trans ⟨rfl, rfl, rfl, by simp [World.putObj], fun k hk => World.putObj_heap_other (by omega)⟩

theorem keeps_drew (B : Nat) (W : World) : KeepsFrom B W W.drew := ⟨Nat.le_refl _, fun _ _ _ h _ => h⟩
theorem keepc_drew (L : List Nat) (W : World) : KeepC L W W.drew := ⟨Nat.le_refl _, fun _ _ _ _ _ h => h⟩


end Go.Proofs.Ytioidnfmpbdmhaa
