/- Numbers that came in. -/
import Derived.Test.YtpaphfofjfjdlaaGreatQZTwo
namespace Go.Proofs.YtpaphfofjfjdlaaGreat
open Go.ChangeShapes Go.WideShapes Go.ChangeAt Go.RowKit

theorem cells3 : Tryz.prog.cellsOf 3 = 1 := by kernel_rfl
/-- Numbers behind an address or none. -/
def Ints (w : World) (a : Option Addr) (l : List Int) : Prop := ∀ i n, l[i]? = some n → ∃ b off, a = some ⟨b, off, none⟩ ∧ w.cell? ⟨b, off + i, none⟩ = some (.int .i64 n)
theorem Ints.later {w w' : World} {a : Option Addr} {l : List Int} (h : Ints w a l) (hb : Below w.heap.size w w') : Ints w' a l := fun i n hi => by
  obtain ⟨b, off, rfl, hc⟩ := h i n hi
  exact ⟨b, off, rfl, (hb.cell (World.block_lt_of_cell? w _ hc)).trans hc⟩
theorem ints_open {H : Type} {enc : TypeId × Value → H} {W : World} {a : Option Addr} {len cap : Nat} {d : DataW H} {ps : List MemPlace} (h : DataW.Trod enc Tryz.prog W 0 (fun _ => true) true 60 (.slice a len cap) d ps) :
    ∃ l : List Int, l.length = len ∧ Ints W a l ∧ l.length ≤ 9223372036854775807 ∧ ∀ x ∈ l, i64 x := by
  obtain ⟨fuel, hf⟩ := h
  rcases Go.Deep.open_slice Tryz.underlying60 hf with ⟨hcs, _⟩ | ⟨a', len', cap', m, n, D, Pl, hcs, _, hl, hm, hmm, _, hx⟩
  · simp [Value.cells] at hcs
    obtain ⟨rfl, rfl, rfl⟩ := hcs
    exact ⟨[], rfl, fun i n hi => by simp at hi, by simp, fun e he => by simp at he⟩
  · simp [Value.cells] at hcs
    obtain ⟨rfl, rfl, rfl⟩ := hcs
    simp only [if_true] at hmm
    rw [cells3] at hx
    have each : ∀ i, i < len → ∃ x : Int, W.cell? (a'.add i) = some (.int .i64 x) ∧ i64 x := fun i hi => by
      obtain ⟨cs, h1, h2⟩ := hx i (by omega)
      obtain ⟨k0, hk0, _, w0⟩ := DataW.trod_int Tryz.underlying3 h2
      subst hk0
      obtain ⟨_, hlen, hat⟩ := World.cells?_some h1
      have a0 := hat 0 (by simp)
      have hadd : (a'.add (i * 1)).add 0 = a'.add i := by
        unfold Addr.add
        by_cases h1 : i = 0 <;> simp [h1]
      rw [hadd] at a0
      exact ⟨k0, a0, i64_of_wf w0⟩
    obtain ⟨E, hE⟩ := Go.Deep.choose_lt each
    unfold maxLen at hm
    refine ⟨(List.range len).map E, by simp, fun i n hi => ?_, by simp; omega, fun e he => ?_⟩
    · have hi' : i < len := by simpa using (List.getElem?_eq_some_iff.1 hi).1
      have hn : E i = n := by
        rw [List.getElem?_map, List.getElem?_range hi'] at hi
        simpa using hi
      subst hn
      obtain ⟨b, off, spot⟩ := a'
      have c0 := (hE i hi').1
      have hspot : spot = none := by
        have := (hE 0 (by omega)).1
        simpa [Addr.add] using World.cell?_spot this
      subst hspot
      refine ⟨b, off, rfl, ?_⟩
      rw [Addr.add_lit] at c0
      exact c0
    · obtain ⟨i, hi, rfl⟩ := List.mem_map.1 he
      exact (hE i (List.mem_range.1 hi)).2
end Go.Proofs.YtpaphfofjfjdlaaGreat
