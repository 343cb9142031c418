/- Uses that came in, one or a list. -/
import Derived.Test.YtpjggdmfgoajbaaUse
import Derived.WalkKit
import Derived.ProofKit
import Derived.OpenShut
import Derived.ShutString
import Derived.Carry
import Derived.Lib.SmallJoins
import Derived.Deep.Slices
import Derived.Deep.Fields
import Derived.ChangeArms
import Derived.ChangeSame
import Derived.SizedLaws
namespace Go.Proofs.Ytpjggdmfgoajbaa
open Go.ChangeShapes Go.WideShapes Go.ChangeAt Go.RowKit Go.Deep
open Go.ChangeMaps (open_string shut_string)

theorem laidOut0 : laidOutB Try.prog = true := by kernel_rfl
theorem own0 : ownKnob Try.prog.godebug = none := by kernel_rfl
theorem cells23 : Try.prog.cellsOf 23 = 2 := by kernel_rfl
theorem bounds_u32 {a : Int} (h : (Lit.int .u32 a).wf = true) : 0 ≤ a ∧ a ≤ 4294967295 := by
  have h1 : IntKind.u32.min = 0 := by decide
  have h2 : IntKind.u32.max = 4294967295 := by decide
  simp [Lit.wf] at h
  omega
theorem two {α : Type} {l : List α} (h : l.length = 2) : ∃ a b, l = [a, b] := by
  rcases l with _ | ⟨a, _ | ⟨b, _ | ⟨c, l⟩⟩⟩ <;> simp at h
  exact ⟨a, b, rfl⟩
theorem add_add (a : Addr) (p q : Nat) : (a.add p).add q = a.add (p + q) := by
  unfold Addr.add
  by_cases h1 : p = 0 <;> by_cases h2 : q = 0 <;> simp [h1, h2, Nat.add_assoc]

theorem open_use {H : Type} {enc : TypeId × Value → H} {W : World} {b0 : Nat} {v : Value} {d : DataW H} {ps : List MemPlace} (hv : Value.okWide Try.prog W .any b0 23 v) (h : DataW.Trod enc Try.prog W 0 (fun _ => true) true 23 v d ps) :
    ∃ u : Use, v = valU u ∧ I64U u := by
  obtain ⟨cs, rfl, hsz⟩ := okWide_struct under23 hv
  obtain ⟨l⟩ := cs
  obtain ⟨fuel, hf⟩ := h
  obtain ⟨xs, n, _, _, _, hxl, hfs⟩ := DataW.trod_struct under23 hf
  have hl : l.length = 2 := hsz.trans cells23
  have f0 := hfs 0 fieldC rfl
  have f1 := hfs 1 fieldA rfl
  obtain ⟨v0, v1, rfl⟩ := two hl
  replace hxl : xs.length = 2 := hxl
  rw [show (Value.cells (.agg ⟨[v0, v1]⟩)).toList = [v0, v1] from rfl] at f0 f1
  simp only [fieldC, fieldA, cells3, List.drop_zero, List.take_succ_cons, List.take_zero, List.drop_succ_cons] at f0 f1
  rw [List.getElem?_eq_getElem (show 0 < xs.length by omega)] at f0
  rw [List.getElem?_eq_getElem (show 1 < xs.length by omega)] at f1
  obtain ⟨k0, hk0, _, w0⟩ := DataW.trod_int Try.underlying3 f0
  obtain ⟨k1, hk1, _, w1⟩ := DataW.trod_int Try.underlying3 f1
  simp only [List.cons.injEq, and_true] at hk0 hk1
  subst hk0 hk1
  exact ⟨(k0, k1), rfl, I64.of_wf w0, I64.of_wf w1⟩

/-- A list of uses that came in, nil or not. -/
theorem open_uses {H : Type} {enc : TypeId × Value → H} {W : World} {b0 : Nat} {v : Value} {d : DataW H} {ps : List MemPlace} (hv : Value.okWide Try.prog W .any b0 34 v) (h : DataW.Trod enc Try.prog W 0 (fun _ => true) true 34 v d ps) :
    ∃ (a : Option Addr) (cap : Nat) (l : List Use), v = .slice a l.length cap ∧ Uses W a l ∧ l.length ≤ cap ∧ l.length ≤ 9223372036854775807 ∧ ∀ u ∈ l, I64U u := by
  obtain ⟨a, len, cap, rfl⟩ := okWide_slice Try.underlying34 hv
  obtain ⟨fuel, hf⟩ := h
  rcases Go.Deep.open_slice Try.underlying34 hf with ⟨hcs, _⟩ | ⟨a', len', cap', m, n, D, Pl, hcs, _, hl, hm, hmm, _, hx⟩
  · simp [Value.cells] at hcs
    obtain ⟨rfl, rfl, rfl⟩ := hcs
    exact ⟨none, 0, [], rfl, fun i hi => by simp at hi, by simp, by simp, fun e he => by simp at he⟩
  · simp [Value.cells] at hcs
    obtain ⟨rfl, rfl, rfl⟩ := hcs
    simp only [if_true] at hmm
    rw [cells23] at hx
    have each : ∀ i, i < len → ∃ x : Use, W.cell? (a'.add (i * 2)) = some (.int .i64 x.1) ∧ W.cell? (a'.add (i * 2 + 1)) = some (.int .i64 x.2) ∧ I64U x := fun i hi => by
      obtain ⟨cs, h1, h2⟩ := hx i (by omega)
      obtain ⟨xs, n', _, _, _, hxl, hfs⟩ := DataW.trod_struct under23 h2
      obtain ⟨_, hlen, hat⟩ := World.cells?_some h1
      have f0 := hfs 0 fieldC rfl
      have f1 := hfs 1 fieldA rfl
      obtain ⟨v0, v1, rfl⟩ := two hlen
      simp only [fieldC, fieldA, cells3, List.drop_zero, List.take_succ_cons, List.take_zero, List.drop_succ_cons] at f0 f1
      replace hxl : xs.length = 2 := hxl
      rw [List.getElem?_eq_getElem (show 0 < xs.length by omega)] at f0
      rw [List.getElem?_eq_getElem (show 1 < xs.length by omega)] at f1
      obtain ⟨k0, hk0, _, w0⟩ := DataW.trod_int Try.underlying3 f0
      obtain ⟨k1, hk1, _, w1⟩ := DataW.trod_int Try.underlying3 f1
      simp only [List.cons.injEq, and_true] at hk0 hk1
      subst hk0 hk1
      have a0 := hat 0 (by omega)
      have a1 := hat 1 (by omega)
      rw [add_add] at a0 a1
      exact ⟨(k0, k1), a0, a1, I64.of_wf w0, I64.of_wf w1⟩
    obtain ⟨E, hE⟩ := Go.Deep.choose_lt each
    unfold maxLen at hm
    refine ⟨some a', cap, (List.range len).map E, by simp, fun i hi => ?_, by simp; omega, by simp; omega, fun e he => ?_⟩
    · have hi' : i < len := by simpa using hi
      obtain ⟨c0, c1, _⟩ := hE i hi'
      obtain ⟨b, off, spot⟩ := a'
      have hspot : spot = none := by simpa [Addr.add] using World.cell?_spot (hE 0 (by omega)).1
      subst hspot
      refine ⟨b, off, rfl, ?_, ?_⟩
      · rw [Addr.add_lit] at c0
        simpa using c0
      · rw [Addr.add_lit] at c1
        simpa [Nat.add_assoc] using c1
    · obtain ⟨i, hi, rfl⟩ := List.mem_map.1 he
      exact (hE i (List.mem_range.1 hi)).2.2
end Go.Proofs.Ytpjggdmfgoajbaa
