/- Lists that came in. -/
import Derived.Test.YtjilfgkoibbcnaaDoorLaid
import Derived.Carry
import Derived.Deep.Slices
import Derived.Deep.Fields
import Derived.ChangeArms
namespace Go.Proofs.YtjilfgkoibbcnaaDoor
open Go.ChangeShapes Go.WideShapes Go.ChangeAt Go.RowKit

theorem i64_of_wf {n : Int} (h : (Lit.int .i64 n).wf = true) : I64 n := by
  have h1 : IntKind.i64.min = -9223372036854775808 := by decide
  simp [Lit.wf] at h
  unfold I64
  omega
theorem cells38 : Tryd.prog.cellsOf 38 = 2 := by kernel_rfl
theorem cells26 : Tryd.prog.cellsOf 26 = 1 := by kernel_rfl
theorem cells2 : Tryd.prog.cellsOf 2 = 1 := by kernel_rfl
def fieldM : Field := { name := "Member", type := 9, offset := 0, embedded := false, tag := "", pkgPath := "", byteOffset := 0 }
def fieldS : Field := { name := "Score", type := 2, offset := 1, embedded := false, tag := "", pkgPath := "", byteOffset := 16 }
theorem ent38 : Tryd.prog.underlying 38 = some (.struct #[fieldM, fieldS]) := Tryd.underlying38
theorem two {α : Type} {l : List α} (h : l.length = 2) : ∃ a b, l = [a, b] := by
  rcases l with _ | ⟨a, _ | ⟨b, _ | ⟨c, l⟩⟩⟩ <;> simp at h
  exact ⟨a, b, rfl⟩
theorem add_add (a : Addr) (p q : Nat) : (a.add p).add q = a.add (p + q) := by
  unfold Addr.add
  by_cases h1 : p = 0 <;> by_cases h2 : q = 0 <;> simp [h1, h2, Nat.add_assoc]
/-- What a list of entries tells that came in. -/
def EntsOk (l : List Ent) : Prop := l.length ≤ 9223372036854775807 ∧ ∀ e ∈ l, e.1.size ≤ 9223372036854775807 ∧ I64 e.2
theorem ents_cs {H : Type} {enc : TypeId × Value → H} {W : World} {fuel : Nat} {cs : List Value} {x : DataW H × List MemPlace} (hf : DataW.trod enc Tryd.prog W 0 (fun _ => true) true fuel 26 cs = some x) :
    ∃ a cap, ∃ l : List Ent, cs = [.slice a l.length cap] ∧ Ents W a l ∧ EntsOk l := by
  rcases Go.Deep.open_slice Tryd.underlying26 hf with ⟨rfl, _⟩ | ⟨a', len', cap', m, n, D, Pl, rfl, _, hl, hm, hmm, _, hx⟩
  · exact ⟨none, 0, [], rfl, fun i hi => by simp at hi, by simp, fun e he => by simp at he⟩
  · simp only [if_true] at hmm
    rw [cells38] at hx
    have each : ∀ i, i < len' → ∃ x : Ent, W.cell? (a'.add (i * 2)) = some (.string x.1) ∧ W.cell? (a'.add (i * 2 + 1)) = some (.int .i64 x.2) ∧ x.1.size ≤ 9223372036854775807 ∧ I64 x.2 := fun i hi => by
      obtain ⟨cs, h1, h2⟩ := hx i (by omega)
      obtain ⟨xs, n', _, _, _, hxl, hfs⟩ := DataW.trod_struct ent38 h2
      obtain ⟨_, hlen, hat⟩ := World.cells?_some h1
      have f0 := hfs 0 fieldM rfl
      have f1 := hfs 1 fieldS rfl
      obtain ⟨v0, v1, rfl⟩ := two hlen
      simp only [fieldM, fieldS, cells2, cells9, List.drop_zero, List.take_succ_cons, List.take_zero, List.drop_succ_cons] at f0 f1
      replace hxl : xs.length = 2 := hxl
      rw [List.getElem?_eq_getElem (show 0 < xs.length by omega)] at f0
      rw [List.getElem?_eq_getElem (show 1 < xs.length by omega)] at f1
      obtain ⟨s1, hs1, _, hz⟩ := DataW.trod_string Tryd.underlying9 f0
      obtain ⟨k0, hk0, _, hwf⟩ := DataW.trod_int Tryd.underlying2 f1
      simp only [List.cons.injEq, and_true] at hk0 hs1
      subst hk0 hs1
      have a0 := hat 0 (by omega)
      have a1 := hat 1 (by omega)
      rw [add_add] at a0 a1
      exact ⟨(s1, k0), a0, a1, by unfold maxLen at hz; omega, i64_of_wf hwf⟩
    obtain ⟨E, hE⟩ := Go.Deep.choose_lt each
    unfold maxLen at hm
    refine ⟨some a', cap', (List.range len').map E, by simp, fun i hi => ?_, by simp; omega, fun e he => ?_⟩
    · have hi' : i < len' := by simpa using hi
      obtain ⟨c0, c1, _⟩ := hE i hi'
      obtain ⟨b, off, spot⟩ := a'
      have hspot : spot = none := by simpa [Addr.add] using World.cell?_spot (hE 0 (by omega)).1
      subst hspot
      refine ⟨b, off, rfl, ?_, ?_⟩
      · rw [Addr.add_lit] at c0
        simpa using c0
      · rw [Addr.add_lit] at c1
        simpa [Nat.add_assoc] using c1
    · obtain ⟨i, hi, rfl⟩ := List.mem_map.1 he
      exact (hE i (List.mem_range.1 hi)).2.2
/-- A list of entries that came in, nil or not. -/
theorem ents_open {H : Type} {enc : TypeId × Value → H} {W : World} {a : Option Addr} {len cap : Nat} {d : DataW H} {ps : List MemPlace} (h : DataW.Trod enc Tryd.prog W 0 (fun _ => true) true 26 (.slice a len cap) d ps) :
    ∃ l : List Ent, l.length = len ∧ Ents W a l ∧ EntsOk l := by
  obtain ⟨fuel, hf⟩ := h
  obtain ⟨a', cap', l, h1, h2, h3⟩ := ents_cs hf
  simp [Value.cells] at h1
  obtain ⟨rfl, rfl, rfl⟩ := h1
  exact ⟨l, rfl, h2, h3⟩
/-- A list of lists that came in. -/
theorem sets_open {H : Type} {enc : TypeId × Value → H} {W : World} {a : Option Addr} {len cap : Nat} {d : DataW H} {ps : List MemPlace} (h : DataW.Trod enc Tryd.prog W 0 (fun _ => true) true 22 (.slice a len cap) d ps) :
    ∃ ls : List (List Ent), ls.length = len ∧ SetsE W a ls ∧ In ls := by
  obtain ⟨fuel, hf⟩ := h
  rcases Go.Deep.open_slice Tryd.underlying22 hf with ⟨hcs, _⟩ | ⟨a', len', cap', m, n, D, Pl, hcs, _, hl, hm, hmm, _, hx⟩
  · simp [Value.cells] at hcs
    obtain ⟨rfl, rfl, rfl⟩ := hcs
    exact ⟨[], rfl, fun i hi => by simp at hi, by simp, fun e he => by simp at he⟩
  · simp [Value.cells] at hcs
    obtain ⟨rfl, rfl, rfl⟩ := hcs
    simp only [if_true] at hmm
    rw [cells26] at hx
    have each : ∀ i, i < len → ∃ l : List Ent, (∃ ar cr, W.cell? (a'.add (i * 1)) = some (.slice ar l.length cr) ∧ Ents W ar l) ∧ EntsOk l := fun i hi => by
      obtain ⟨cs, h1, h2⟩ := hx i (by omega)
      obtain ⟨_, hlen, hat⟩ := World.cells?_some h1
      obtain ⟨ar, cr, l, rfl, hE, hO⟩ := ents_cs h2
      have a0 := hat 0 (by omega)
      rw [add_add] at a0
      exact ⟨l, ⟨ar, cr, a0, hE⟩, hO⟩
    obtain ⟨E, hE⟩ := Go.Deep.choose_lt each
    unfold maxLen at hm
    refine ⟨(List.range len).map E, by simp, fun i hi => ?_, by simp; omega, fun e he => ?_⟩
    · have hi' : i < len := by simpa using hi
      obtain ⟨⟨ar, cr, c0, hEn⟩, _⟩ := hE i hi'
      obtain ⟨b, off, spot⟩ := a'
      have hspot : spot = none := by
        obtain ⟨⟨_, _, c1, _⟩, _⟩ := hE 0 (by omega)
        simpa [Addr.add] using World.cell?_spot c1
      subst hspot
      rw [Addr.add_lit] at c0
      exact ⟨b, off, ar, cr, rfl, by simpa using c0, by simpa using hEn⟩
    · obtain ⟨i, hi, rfl⟩ := List.mem_map.1 he
      exact (hE i (List.mem_range.1 hi)).2
/-- A list of numbers that came in, nil or not. -/
theorem nums_open {H : Type} {enc : TypeId × Value → H} {W : World} {a : Option Addr} {len cap : Nat} {d : DataW H} {ps : List MemPlace} (h : DataW.Trod enc Tryd.prog W 0 (fun _ => true) true 23 (.slice a len cap) d ps) :
    ∃ l : List Int, l.length = len ∧ Nums W a l ∧ ∀ x ∈ l, I64 x := by
  obtain ⟨fuel, hf⟩ := h
  rcases Go.Deep.open_slice Tryd.underlying23 hf with ⟨hcs, _⟩ | ⟨a', len', cap', m, n, D, Pl, hcs, _, hl, hm, hmm, _, hx⟩
  · simp [Value.cells] at hcs
    obtain ⟨rfl, rfl, rfl⟩ := hcs
    exact ⟨[], rfl, fun i hi => by simp at hi, fun x hx => by simp at hx⟩
  · simp [Value.cells] at hcs
    obtain ⟨rfl, rfl, rfl⟩ := hcs
    simp only [if_true] at hmm
    rw [cells2] at hx
    have each : ∀ i, i < len → ∃ x : Int, W.cell? (a'.add (i * 1)) = some (.int .i64 x) ∧ I64 x := fun i hi => by
      obtain ⟨cs, h1, h2⟩ := hx i (by omega)
      obtain ⟨_, hlen, hat⟩ := World.cells?_some h1
      obtain ⟨k0, rfl, _, hwf⟩ := DataW.trod_int Tryd.underlying2 h2
      have a0 := hat 0 (by omega)
      rw [add_add] at a0
      exact ⟨k0, a0, i64_of_wf hwf⟩
    obtain ⟨E, hE⟩ := Go.Deep.choose_lt each
    refine ⟨(List.range len).map E, by simp, fun i hi => ?_, fun x hx => ?_⟩
    · have hi' : i < len := by simpa using hi
      have c0 := (hE i hi').1
      obtain ⟨b, off, spot⟩ := a'
      have hspot : spot = none := by simpa [Addr.add] using World.cell?_spot (hE 0 (by omega)).1
      subst hspot
      refine ⟨b, off, rfl, ?_⟩
      rw [Addr.add_lit] at c0
      simpa using c0
    · obtain ⟨i, hi, rfl⟩ := List.mem_map.1 hx
      exact (hE i (List.mem_range.1 hi)).2
theorem in_one {l : List Ent} (h : EntsOk l) : In [l] := ⟨by simp, fun x hx => by rw [List.mem_singleton.1 hx]; exact h⟩
theorem in_two {l m : List Ent} (h : EntsOk l) (h2 : EntsOk m) : In [l, m] := ⟨by simp, fun x hx => by
  rcases List.mem_cons.1 hx with rfl | hx
  · exact h
  · rw [List.mem_singleton.1 hx]; exact h2⟩
end Go.Proofs.YtjilfgkoibbcnaaDoor
