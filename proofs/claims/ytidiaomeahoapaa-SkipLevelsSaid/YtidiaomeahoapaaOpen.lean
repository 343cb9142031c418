/- Acts that came in. -/
import Derived.Test.YtidiaomeahoapaaRows
import Derived.WalkKit
import Derived.ProofKit
import Derived.OpenShut
import Derived.ShutString
import Derived.Carry
import Derived.Lib.SmallJoins
import Derived.Deep.Slices
import Derived.Deep.Fields
import Derived.ChangeArms
import Derived.ChangeSame
import Derived.SizedLaws
namespace Go.Proofs.Ytidiaomeahoapaa
open Go.ChangeShapes Go.WideShapes Go.ChangeAt Go.RowKit
open Go.ChangeMaps (open_string shut_string)

theorem laidOut0 : laidOutB Try.prog = true := by kernel_rfl
theorem own0 : ownKnob Try.prog.godebug = none := by kernel_rfl
theorem cells34 : Try.prog.cellsOf 34 = 6 := by kernel_rfl

/-- An act. -/
structure Ac where
  d : Int
  m : ByteArray
  s : Int
  l : Int
  f : Int
  t : Int
instance : Inhabited Ac := ⟨⟨0, ⟨#[]⟩, 0, 0, 0, 0⟩⟩
def Ac.cells (x : Ac) : List Value := [.int .i64 x.d, .string x.m, .int .i64 x.s, .int .i64 x.l, .int .i64 x.f, .int .i64 x.t]
def Ac.val (x : Ac) : Value := .agg #[.int .i64 x.d, .string x.m, .int .i64 x.s, .int .i64 x.l, .int .i64 x.f, .int .i64 x.t]
/-- Whole numbers that fit. -/
def i64 (n : Int) : Prop := -9223372036854775808 ≤ n ∧ n ≤ 9223372036854775807
structure Ac.Fit (x : Ac) : Prop where
  d : i64 x.d
  l : i64 x.l
  f : i64 x.f
  t : i64 x.t
  m : x.m.size ≤ 9223372036854775807
theorem i64_of_wf {n : Int} (h : (Lit.int .i64 n).wf = true) : i64 n := by
  have h1 : IntKind.i64.min = -9223372036854775808 := by decide
  simp [Lit.wf] at h
  unfold i64
  omega

def fieldD : Field := { name := "Do", type := 3, offset := 0, embedded := false, tag := "", pkgPath := "", byteOffset := 0 }
def fieldE : Field := { name := "E", type := 32, offset := 1, embedded := false, tag := "", pkgPath := "", byteOffset := 8 }
def fieldL : Field := { name := "Level", type := 3, offset := 3, embedded := false, tag := "", pkgPath := "", byteOffset := 32 }
def fieldF : Field := { name := "From", type := 3, offset := 4, embedded := false, tag := "", pkgPath := "", byteOffset := 40 }
def fieldT : Field := { name := "To", type := 3, offset := 5, embedded := false, tag := "", pkgPath := "", byteOffset := 48 }
def fieldM : Field := { name := "Member", type := 9, offset := 0, embedded := false, tag := "", pkgPath := "", byteOffset := 0 }
def fieldC : Field := { name := "Score", type := 2, offset := 1, embedded := false, tag := "", pkgPath := "", byteOffset := 16 }
theorem act34 : Try.prog.underlying 34 = some (.struct #[fieldD, fieldE, fieldL, fieldF, fieldT]) := Try.underlying34
theorem ent32 : Try.prog.underlying 32 = some (.struct #[fieldM, fieldC]) := Try.underlying32
theorem six {α : Type} {l : List α} (h : l.length = 6) : ∃ a b c d e f, l = [a, b, c, d, e, f] := by
  rcases l with _ | ⟨a, _ | ⟨b, _ | ⟨c, _ | ⟨d, _ | ⟨e, _ | ⟨f, _ | ⟨g, l⟩⟩⟩⟩⟩⟩⟩ <;> simp at h
  exact ⟨a, b, c, d, e, f, rfl⟩
theorem act_cells {H : Type} {enc : TypeId × Value → H} {W : World} {fuel : Nat} {cs : List Value} {x : DataW H × List MemPlace} (h : DataW.trod enc Try.prog W 0 (fun _ => true) true fuel 34 cs = some x) : ∃ y : Ac, cs = y.cells ∧ y.Fit := by
  obtain ⟨xs, n, _, _, hlen0, hxl, hfs⟩ := DataW.trod_struct act34 h
  rw [cells34] at hlen0
  have f0 := hfs 0 fieldD rfl
  have f1 := hfs 1 fieldE rfl
  have f2 := hfs 2 fieldL rfl
  have f3 := hfs 3 fieldF rfl
  have f4 := hfs 4 fieldT rfl
  obtain ⟨v0, v1, v2, v3, v4, v5, rfl⟩ := six hlen0
  have o3 : Try.prog.cellsOf 3 = 1 := by kernel_rfl
  have o9 : Try.prog.cellsOf 9 = 1 := by kernel_rfl
  have o2 : Try.prog.cellsOf 2 = 1 := by kernel_rfl
  have o32 : Try.prog.cellsOf 32 = 2 := by kernel_rfl
  simp only [fieldD, fieldE, fieldL, fieldF, fieldT, o3, o32, List.drop_zero, List.take_succ_cons, List.take_zero, List.drop_succ_cons] at f0 f1 f2 f3 f4
  replace hxl : xs.length = 5 := hxl
  rw [List.getElem?_eq_getElem (show 0 < xs.length by omega)] at f0
  rw [List.getElem?_eq_getElem (show 1 < xs.length by omega)] at f1
  rw [List.getElem?_eq_getElem (show 2 < xs.length by omega)] at f2
  rw [List.getElem?_eq_getElem (show 3 < xs.length by omega)] at f3
  rw [List.getElem?_eq_getElem (show 4 < xs.length by omega)] at f4
  obtain ⟨k0, hk0, _, w0⟩ := DataW.trod_int Try.underlying3 f0
  obtain ⟨k2, hk2, _, w2⟩ := DataW.trod_int Try.underlying3 f2
  obtain ⟨k3, hk3, _, w3⟩ := DataW.trod_int Try.underlying3 f3
  obtain ⟨k4, hk4, _, w4⟩ := DataW.trod_int Try.underlying3 f4
  obtain ⟨ys, n', _, _, _, hyl, hgs⟩ := DataW.trod_struct ent32 f1
  have g0 := hgs 0 fieldM rfl
  have g1 := hgs 1 fieldC rfl
  simp only [fieldM, fieldC, o9, o2, List.drop_zero, List.take_succ_cons, List.take_zero, List.drop_succ_cons] at g0 g1
  replace hyl : ys.length = 2 := hyl
  rw [List.getElem?_eq_getElem (show 0 < ys.length by omega)] at g0
  rw [List.getElem?_eq_getElem (show 1 < ys.length by omega)] at g1
  obtain ⟨s0, hs0, _, hz⟩ := DataW.trod_string Try.underlying9 g0
  obtain ⟨k1, hk1, _, _⟩ := DataW.trod_int Try.underlying2 g1
  simp only [List.cons.injEq, and_true] at hk0 hs0 hk1 hk2 hk3 hk4
  subst hk0 hs0 hk1 hk2 hk3 hk4
  exact ⟨⟨k0, s0, k1, k2, k3, k4⟩, rfl, i64_of_wf w0, i64_of_wf w2, i64_of_wf w3, i64_of_wf w4, by unfold maxLen at hz; show s0.size ≤ _; omega⟩
theorem open_act {H : Type} {enc : TypeId × Value → H} {W : World} {b0 : Nat} {v : Value} {d : DataW H} {ps : List MemPlace} (hv : Value.okWide Try.prog W .any b0 34 v) (h : DataW.Trod enc Try.prog W 0 (fun _ => true) true 34 v d ps) : ∃ y : Ac, v = y.val ∧ y.Fit := by
  obtain ⟨cs, rfl, hsz⟩ := okWide_struct act34 hv
  obtain ⟨fuel, hf⟩ := h
  obtain ⟨y, hy, hfit⟩ := act_cells hf
  refine ⟨y, ?_, hfit⟩
  have : cs = y.cells.toArray := by
    have h2 : cs.toList = y.cells := hy
    rw [← h2]
  rw [this]; rfl

/-- A list of acts behind an address or none. -/
def Acts (w : World) (a : Option Addr) (l : List Ac) : Prop := ∀ i (h : i < l.length), ∃ b off, a = some ⟨b, off, none⟩ ∧ ∀ j u, (l[i]).cells[j]? = some u → w.cell? ⟨b, off + i * 6 + j, none⟩ = some u
theorem Acts.far {w w' : World} {a : Option Addr} {l : List Ac} (h : Acts w a l) (hb : ∀ (b : Nat) (o : Obj), w.heap[b]? = some o → w'.heap[b]? = some o) : Acts w' a l := fun i hi => by
  obtain ⟨b, off, rfl, hc⟩ := h i hi
  refine ⟨b, off, rfl, fun j u hu => ?_⟩
  have := hc j u hu
  have hlt := World.block_lt_of_cell? w _ this
  have hb' := hb b _ (Array.getElem?_eq_getElem hlt)
  rw [← this]
  unfold World.cell?
  simp only [hb', Array.getElem?_eq_getElem hlt]
theorem acts_open {H : Type} {enc : TypeId × Value → H} {W : World} {a : Option Addr} {len cap : Nat} {d : DataW H} {ps : List MemPlace} (h : DataW.Trod enc Try.prog W 0 (fun _ => true) true 22 (.slice a len cap) d ps) :
    ∃ l : List Ac, l.length = len ∧ Acts W a l ∧ l.length ≤ 9223372036854775807 ∧ ∀ x ∈ l, x.Fit := by
  obtain ⟨fuel, hf⟩ := h
  rcases Go.Deep.open_slice Try.underlying22 hf with ⟨hcs, _⟩ | ⟨a', len', cap', m, n, D, Pl, hcs, _, hl, hm, hmm, _, hx⟩
  · simp [Value.cells] at hcs
    obtain ⟨rfl, rfl, rfl⟩ := hcs
    exact ⟨[], rfl, fun i hi => by simp at hi, by simp, fun e he => by simp at he⟩
  · simp [Value.cells] at hcs
    obtain ⟨rfl, rfl, rfl⟩ := hcs
    simp only [if_true] at hmm
    rw [cells34] at hx
    have each : ∀ i, i < len → ∃ x : Ac, (∀ j u, x.cells[j]? = some u → W.cell? (a'.add (i * 6 + j)) = some u) ∧ x.Fit := fun i hi => by
      obtain ⟨cs, h1, h2⟩ := hx i (by omega)
      obtain ⟨x, hxc, hfit⟩ := act_cells h2
      obtain ⟨_, hlen, hat⟩ := World.cells?_some h1
      refine ⟨x, fun j u hu => ?_, hfit⟩
      have hj : j < cs.length := by
        rw [hxc]; exact (List.getElem?_eq_some_iff.1 hu).1
      have a0 := hat j (by omega)
      have hadd : ∀ q, (a'.add (i * 6)).add q = a'.add (i * 6 + q) := fun q => by
        unfold Addr.add
        by_cases h1 : i * 6 = 0 <;> by_cases h2 : q = 0 <;> simp [h1, h2, Nat.add_assoc]
      rw [hadd] at a0
      rw [← hxc] at hu
      rw [a0]
      exact hu
    obtain ⟨E, hE⟩ := Go.Deep.choose_lt each
    unfold maxLen at hm
    refine ⟨(List.range len).map E, by simp, fun i hi => ?_, by simp; omega, fun e he => ?_⟩
    · have hi' : i < len := by simpa using hi
      obtain ⟨b, off, spot⟩ := a'
      have hspot : spot = none := by
        have := (hE 0 (by omega)).1 0 (.int .i64 (E 0).d) rfl
        simpa [Addr.add] using World.cell?_spot this
      subst hspot
      refine ⟨b, off, rfl, fun j u hu => ?_⟩
      have c0 := (hE i hi').1 j u (by simpa using hu)
      rw [Addr.add_lit] at c0
      simpa [Nat.add_assoc] using c0
    · obtain ⟨i, hi, rfl⟩ := List.mem_map.1 he
      exact (hE i (List.mem_range.1 hi)).2
end Go.Proofs.Ytidiaomeahoapaa
