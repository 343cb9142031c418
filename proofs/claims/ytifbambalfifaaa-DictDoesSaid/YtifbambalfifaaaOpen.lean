/- Acts that came in. -/
import Derived.Test.YtifbambalfifaaaTwice
import Derived.WalkKit
import Derived.ProofKit
import Derived.OpenShut
import Derived.ShutString
import Derived.Carry
import Derived.Lib.SmallJoins
import Derived.Deep.Slices
import Derived.Deep.Fields
import Derived.ChangeArms
import Derived.ChangeSame
import Derived.SizedLaws
namespace Go.Proofs.Ytifbambalfifaaa
open Go.ChangeShapes Go.WideShapes Go.ChangeAt Go.RowKit
open Go.ChangeMaps (open_string shut_string)

theorem cells31 : Try.prog.cellsOf 31 = 3 := by kernel_rfl
theorem laidOut0 : laidOutB Try.prog = true := by kernel_rfl
theorem own0 : ownKnob Try.prog.godebug = none := by kernel_rfl
theorem i64_of_wf {n : Int} (h : (Lit.int .i64 n).wf = true) : -9223372036854775808 ≤ n ∧ n ≤ 9223372036854775807 := by
  have h1 : IntKind.i64.min = -9223372036854775808 := by decide
  simp [Lit.wf] at h
  omega

def fieldD : Field := { name := "Do", type := 3, offset := 0, embedded := false, tag := "", pkgPath := "", byteOffset := 0 }
def fieldK : Field := { name := "Key", type := 9, offset := 1, embedded := false, tag := "", pkgPath := "", byteOffset := 8 }
def fieldV : Field := { name := "V", type := 3, offset := 2, embedded := false, tag := "", pkgPath := "", byteOffset := 24 }
theorem act31 : Try.prog.underlying 31 = some (.struct #[fieldD, fieldK, fieldV]) := Try.underlying31
theorem three {α : Type} {l : List α} (h : l.length = 3) : ∃ a b c, l = [a, b, c] := by
  rcases l with _ | ⟨a, _ | ⟨b, _ | ⟨c, _ | ⟨d, l⟩⟩⟩⟩ <;> simp at h
  exact ⟨a, b, c, rfl⟩
/-- A list of acts that came in, nil or not. -/
theorem acts_open {H : Type} {enc : TypeId × Value → H} {W : World} {a : Option Addr} {len cap : Nat} {d : DataW H} {ps : List MemPlace} (h : DataW.Trod enc Try.prog W 0 (fun _ => true) true 23 (.slice a len cap) d ps) :
    ∃ l : List (Int × ByteArray × Int), l.length = len ∧ Acts W a l ∧ l.length ≤ 9223372036854775807 ∧ ∀ x ∈ l, x.2.1.size ≤ 9223372036854775807 := by
  obtain ⟨fuel, hf⟩ := h
  rcases Go.Deep.open_slice Try.underlying23 hf with ⟨hcs, _⟩ | ⟨a', len', cap', m, n, D, Pl, hcs, _, hl, hm, hmm, _, hx⟩
  · simp [Value.cells] at hcs
    obtain ⟨rfl, rfl, rfl⟩ := hcs
    exact ⟨[], rfl, fun i hi => by simp at hi, by simp, fun e he => by simp at he⟩
  · simp [Value.cells] at hcs
    obtain ⟨rfl, rfl, rfl⟩ := hcs
    simp only [if_true] at hmm
    rw [cells31] at hx
    have each : ∀ i, i < len → ∃ x : Int × ByteArray × Int, W.cell? (a'.add (i * 3)) = some (.int .i64 x.1) ∧ W.cell? (a'.add (i * 3 + 1)) = some (.string x.2.1) ∧ W.cell? (a'.add (i * 3 + 2)) = some (.int .i64 x.2.2) ∧ x.2.1.size ≤ 9223372036854775807 := fun i hi => by
      obtain ⟨cs, h1, h2⟩ := hx i (by omega)
      obtain ⟨xs, n', _, _, _, hxl, hfs⟩ := DataW.trod_struct act31 h2
      obtain ⟨_, hlen, hat⟩ := World.cells?_some h1
      have f0 := hfs 0 fieldD rfl
      have f1 := hfs 1 fieldK rfl
      have f2 := hfs 2 fieldV rfl
      obtain ⟨v0, v1, v2, rfl⟩ := three hlen
      have o3 : Try.prog.cellsOf 3 = 1 := by kernel_rfl
      have o9 : Try.prog.cellsOf 9 = 1 := by kernel_rfl
      simp only [fieldD, fieldK, fieldV, o3, o9, List.drop_zero, List.take_succ_cons, List.take_zero, List.drop_succ_cons] at f0 f1 f2
      replace hxl : xs.length = 3 := hxl
      rw [List.getElem?_eq_getElem (show 0 < xs.length by omega)] at f0
      rw [List.getElem?_eq_getElem (show 1 < xs.length by omega)] at f1
      rw [List.getElem?_eq_getElem (show 2 < xs.length by omega)] at f2
      obtain ⟨k0, hk0, _, _⟩ := DataW.trod_int Try.underlying3 f0
      obtain ⟨s1, hs1, _, hz⟩ := DataW.trod_string Try.underlying9 f1
      obtain ⟨k2, hk2, _, _⟩ := DataW.trod_int Try.underlying3 f2
      simp only [List.cons.injEq, and_true] at hk0 hs1 hk2
      subst hk0 hs1 hk2
      have a0 := hat 0 (by omega)
      have a1 := hat 1 (by omega)
      have a2 := hat 2 (by omega)
      have hadd : ∀ q, (a'.add (i * 3)).add q = a'.add (i * 3 + q) := fun q => by
        unfold Addr.add
        by_cases h1 : i * 3 = 0 <;> by_cases h2 : q = 0 <;> simp [h1, h2, Nat.add_assoc]
      rw [hadd] at a0 a1 a2
      exact ⟨(k0, s1, k2), a0, a1, a2, by unfold maxLen at hz; omega⟩
    obtain ⟨E, hE⟩ := Go.Deep.choose_lt each
    unfold maxLen at hm
    refine ⟨(List.range len).map E, by simp, fun i hi => ?_, by simp; omega, fun e he => ?_⟩
    · have hi' : i < len := by simpa using hi
      obtain ⟨c0, c1, c2, _⟩ := hE i hi'
      obtain ⟨b, off, spot⟩ := a'
      have hspot : spot = none := by simpa [Addr.add] using World.cell?_spot (hE 0 (by omega)).1
      subst hspot
      refine ⟨b, off, rfl, ?_, ?_, ?_⟩
      · rw [Addr.add_lit] at c0
        simpa using c0
      · rw [Addr.add_lit] at c1
        simpa [Nat.add_assoc] using c1
      · rw [Addr.add_lit] at c2
        simpa [Nat.add_assoc] using c2
    · obtain ⟨i, hi, rfl⟩ := List.mem_map.1 he
      exact (hE i (List.mem_range.1 hi)).2.2.2
end Go.Proofs.Ytifbambalfifaaa
