/- Entries that came in. -/
import Derived.Test.YtioidnfmpbdmhaaLaw
import Derived.WalkKit
import Derived.ProofKit
import Derived.OpenShut
import Derived.ShutString
import Derived.Carry
import Derived.Lib.SmallJoins
import Derived.Deep.SlicePairs
import Derived.ChangeArms
namespace Go.Proofs.Ytioidnfmpbdmhaa
open Go.ChangeShapes Go.WideShapes Go.ChangeAt Go.RowKit
open Go.ChangeMaps (open_string shut_string)

theorem cells35 : Try.prog.cellsOf 35 = 2 := by kernel_rfl
theorem cells9 : Try.prog.cellsOf 9 = 1 := by kernel_rfl
theorem cells2 : Try.prog.cellsOf 2 = 1 := by kernel_rfl
theorem laidOut0 : laidOutB Try.prog = true := by kernel_rfl
theorem own0 : ownKnob Try.prog.godebug = none := by kernel_rfl
theorem i64_of_wf {n : Int} (h : (Lit.int .i64 n).wf = true) : scoreOk n := by
  unfold scoreOk
  have h1 : IntKind.i64.min = -9223372036854775808 := by decide
  simp [Lit.wf] at h
  omega

/-- An entry that came in. -/
theorem ent_open {H : Type} {enc : TypeId × Value → H} {W : World} {base : Nat} {v : Value} {d : DataW H} {ps : List MemPlace} (hv : Value.okWide Try.prog W .any base 35 v) (h : DataW.Trod enc Try.prog W 0 (fun _ => true) true 35 v d ps) :
    ∃ x : Ent, v = .agg #[.string x.1, .int .i64 x.2] ∧ x.1.size ≤ 9223372036854775807 ∧ scoreOk x.2 := by
  obtain ⟨v0, v1, y0, y1, n, rfl, _, _, h0, h1⟩ := Go.Joins.open_agg2 Try.underlying35 (by kernel_rfl) cells35 hv h
  obtain ⟨s, hs, _, hz⟩ := DataW.trod_string Try.underlying9 h0
  obtain ⟨k, hk, _, hw⟩ := DataW.trod_int Try.underlying2 h1
  simp only [List.cons.injEq, and_true] at hs hk
  subst hs hk
  exact ⟨(s, k), rfl, by unfold maxLen at hz; omega, i64_of_wf hw⟩

/-- A list of entries that came in, nil or not. -/
theorem ents_open {H : Type} {enc : TypeId × Value → H} {W : World} {a : Option Addr} {len cap : Nat} {d : DataW H} {ps : List MemPlace} (h : DataW.Trod enc Try.prog W 0 (fun _ => true) true 22 (.slice a len cap) d ps) :
    ∃ l : List Ent, l.length = len ∧ Ents W a l ∧ l.length ≤ 9223372036854775807 ∧ ∀ e ∈ l, e.1.size ≤ 9223372036854775807 ∧ scoreOk e.2 := by
  obtain ⟨fuel, hf⟩ := h
  rcases Go.Deep.open_slice_pairs Try.underlying22 Try.underlying35 cells35 rfl rfl cells9 cells2 hf with ⟨hcs, _⟩ | ⟨a', len', cap', m, n, V0, V1, D0, D1, P0, P1, hcs, _, hl, hm, hmm, _, hx⟩
  · simp [Value.cells] at hcs
    obtain ⟨rfl, rfl, rfl⟩ := hcs
    exact ⟨[], rfl, fun i hi => by simp at hi, by simp, fun e he => by simp at he⟩
  · simp [Value.cells] at hcs
    obtain ⟨rfl, rfl, rfl⟩ := hcs
    simp only [if_true] at hmm
    have each : ∀ i, i < len → ∃ e : Ent, W.cell? (a'.add (i * 2)) = some (.string e.1) ∧ W.cell? (a'.add (i * 2 + 1)) = some (.int .i64 e.2) ∧ e.1.size ≤ 9223372036854775807 ∧ scoreOk e.2 := fun i hi => by
      obtain ⟨c0, c1, h0, h1⟩ := hx i (by omega)
      obtain ⟨s, hs, _, hz⟩ := DataW.trod_string Try.underlying9 h0
      obtain ⟨k, hk, _, hw⟩ := DataW.trod_int Try.underlying2 h1
      simp only [List.cons.injEq, and_true] at hs hk
      rw [hs] at c0
      rw [hk] at c1
      exact ⟨(s, k), c0, c1, by unfold maxLen at hz; omega, i64_of_wf hw⟩
    obtain ⟨E, hE⟩ := Go.Deep.choose_lt each
    unfold maxLen at hm
    refine ⟨(List.range len).map E, by simp, fun i hi => ?_, by simp; omega, fun e he => ?_⟩
    · have hi' : i < len := by simpa using hi
      obtain ⟨c0, c1, _⟩ := hE i hi'
      obtain ⟨b, off, spot⟩ := a'
      have hspot : spot = none := by simpa [Addr.add] using World.cell?_spot (hE 0 (by omega)).1
      subst hspot
      refine ⟨b, off, rfl, ?_, ?_⟩
      · rw [Addr.add_lit] at c0
        simpa using c0
      · rw [Addr.add_lit] at c1
        simpa [Nat.add_assoc] using c1
    · obtain ⟨i, hi, rfl⟩ := List.mem_map.1 he
      exact (hE i (List.mem_range.1 hi)).2.2
end Go.Proofs.Ytioidnfmpbdmhaa
