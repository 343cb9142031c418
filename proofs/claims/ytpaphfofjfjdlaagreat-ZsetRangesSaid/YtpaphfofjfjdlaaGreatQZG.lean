/- Texts of one kind in one: ZActs, ZOpen. -/
import Derived.Test.YtpaphfofjfjdlaaGreatQZF
import Derived.WalkKit
import Derived.ProofKit
import Derived.OpenShut
import Derived.ShutString
import Derived.Carry
import Derived.Lib.SmallJoins
import Derived.Deep.Slices
import Derived.Deep.Fields
import Derived.ChangeArms
import Derived.ChangeSame
import Derived.SizedLaws
/- Acts that came in. -/
namespace Go.Proofs.YtpaphfofjfjdlaaGreat
open Go.ChangeShapes Go.WideShapes Go.ChangeAt Go.RowKit
open Go.ChangeMaps (open_string shut_string)

theorem laidOut0 : laidOutB Tryz.prog = true := by kernel_rfl
theorem own0 : ownKnob Tryz.prog.godebug = none := by kernel_rfl
theorem cells32 : Tryz.prog.cellsOf 32 = 6 := by kernel_rfl

/-- An act. -/
structure Ac where
  d : Int
  m : ByteArray
  s : Int
  l : Int
  f : Int
  t : Int
instance : Inhabited Ac := ⟨⟨0, ⟨#[]⟩, 0, 0, 0, 0⟩⟩
def Ac.cells (x : Ac) : List Value := [.int .i64 x.d, .string x.m, .int .i64 x.s, .int .i64 x.l, .int .i64 x.f, .int .i64 x.t]
def Ac.val (x : Ac) : Value := .agg #[.int .i64 x.d, .string x.m, .int .i64 x.s, .int .i64 x.l, .int .i64 x.f, .int .i64 x.t]
/-- Whole numbers that fit. -/
def i64 (n : Int) : Prop := -9223372036854775808 ≤ n ∧ n ≤ 9223372036854775807
structure Ac.Fit (x : Ac) : Prop where
  d : i64 x.d
  s : i64 x.s
  l : i64 x.l
  f : i64 x.f
  t : i64 x.t
  m : x.m.size ≤ 9223372036854775807
theorem i64_of_wf {n : Int} (h : (Lit.int .i64 n).wf = true) : i64 n := by
  have h1 : IntKind.i64.min = -9223372036854775808 := by decide
  simp [Lit.wf] at h
  unfold i64
  omega

def fieldD : Field := { name := "Do", type := 3, offset := 0, embedded := false, tag := "", pkgPath := "", byteOffset := 0 }
def fieldM : Field := { name := "Member", type := 9, offset := 1, embedded := false, tag := "", pkgPath := "", byteOffset := 8 }
def fieldC : Field := { name := "Score", type := 2, offset := 2, embedded := false, tag := "", pkgPath := "", byteOffset := 24 }
def fieldL : Field := { name := "Level", type := 3, offset := 3, embedded := false, tag := "", pkgPath := "", byteOffset := 32 }
def fieldF : Field := { name := "From", type := 3, offset := 4, embedded := false, tag := "", pkgPath := "", byteOffset := 40 }
def fieldT : Field := { name := "To", type := 3, offset := 5, embedded := false, tag := "", pkgPath := "", byteOffset := 48 }
theorem act32 : Tryz.prog.underlying 32 = some (.struct #[fieldD, fieldM, fieldC, fieldL, fieldF, fieldT]) := Tryz.underlying32
theorem six {α : Type} {l : List α} (h : l.length = 6) : ∃ a b c d e f, l = [a, b, c, d, e, f] := by
  rcases l with _ | ⟨a, _ | ⟨b, _ | ⟨c, _ | ⟨d, _ | ⟨e, _ | ⟨f, _ | ⟨g, l⟩⟩⟩⟩⟩⟩⟩ <;> simp at h
  exact ⟨a, b, c, d, e, f, rfl⟩
theorem act_cells {H : Type} {enc : TypeId × Value → H} {W : World} {fuel : Nat} {cs : List Value} {x : DataW H × List MemPlace} (h : DataW.trod enc Tryz.prog W 0 (fun _ => true) true fuel 32 cs = some x) : ∃ y : Ac, cs = y.cells ∧ y.Fit := by
  obtain ⟨xs, n, _, _, hlen0, hxl, hfs⟩ := DataW.trod_struct act32 h
  rw [cells32] at hlen0
  have f0 := hfs 0 fieldD rfl
  have f1 := hfs 1 fieldM rfl
  have f2 := hfs 2 fieldC rfl
  have f3 := hfs 3 fieldL rfl
  have f4 := hfs 4 fieldF rfl
  have f5 := hfs 5 fieldT rfl
  obtain ⟨v0, v1, v2, v3, v4, v5, rfl⟩ := six hlen0
  have o3 : Tryz.prog.cellsOf 3 = 1 := by kernel_rfl
  have o9 : Tryz.prog.cellsOf 9 = 1 := by kernel_rfl
  have o2 : Tryz.prog.cellsOf 2 = 1 := by kernel_rfl
  simp only [fieldD, fieldM, fieldC, fieldL, fieldF, fieldT, o3, o9, o2, List.drop_zero, List.take_succ_cons, List.take_zero, List.drop_succ_cons] at f0 f1 f2 f3 f4 f5
  replace hxl : xs.length = 6 := hxl
  rw [List.getElem?_eq_getElem (show 0 < xs.length by omega)] at f0
  rw [List.getElem?_eq_getElem (show 1 < xs.length by omega)] at f1
  rw [List.getElem?_eq_getElem (show 2 < xs.length by omega)] at f2
  rw [List.getElem?_eq_getElem (show 3 < xs.length by omega)] at f3
  rw [List.getElem?_eq_getElem (show 4 < xs.length by omega)] at f4
  rw [List.getElem?_eq_getElem (show 5 < xs.length by omega)] at f5
  obtain ⟨k0, hk0, _, w0⟩ := DataW.trod_int Tryz.underlying3 f0
  obtain ⟨s0, hs0, _, hz⟩ := DataW.trod_string Tryz.underlying9 f1
  obtain ⟨k1, hk1, _, w1⟩ := DataW.trod_int Tryz.underlying2 f2
  obtain ⟨k2, hk2, _, w2⟩ := DataW.trod_int Tryz.underlying3 f3
  obtain ⟨k3, hk3, _, w3⟩ := DataW.trod_int Tryz.underlying3 f4
  obtain ⟨k4, hk4, _, w4⟩ := DataW.trod_int Tryz.underlying3 f5
  simp only [List.cons.injEq, and_true] at hk0 hs0 hk1 hk2 hk3 hk4
  subst hk0 hs0 hk1 hk2 hk3 hk4
  exact ⟨⟨k0, s0, k1, k2, k3, k4⟩, rfl, i64_of_wf w0, i64_of_wf w1, i64_of_wf w2, i64_of_wf w3, i64_of_wf w4, by unfold maxLen at hz; show s0.size ≤ _; omega⟩

/-- A list of acts behind an address or none. -/
def Acts (w : World) (a : Option Addr) (l : List Ac) : Prop := ∀ i (h : i < l.length), ∃ b off, a = some ⟨b, off, none⟩ ∧ ∀ j u, (l[i]).cells[j]? = some u → w.cell? ⟨b, off + i * 6 + j, none⟩ = some u
theorem Acts.later {w w' : World} {a : Option Addr} {l : List Ac} (h : Acts w a l) (hb : Below w.heap.size w w') : Acts w' a l := fun i hi => by
  obtain ⟨b, off, rfl, hc⟩ := h i hi
  exact ⟨b, off, rfl, fun j u hu => (hb.cell (World.block_lt_of_cell? w _ (hc j u hu))).trans (hc j u hu)⟩
theorem Acts.far {w w' : World} {a : Option Addr} {l : List Ac} (h : Acts w a l) (hb : ∀ (b : Nat) (o : Obj), w.heap[b]? = some o → w'.heap[b]? = some o) : Acts w' a l := fun i hi => by
  obtain ⟨b, off, rfl, hc⟩ := h i hi
  refine ⟨b, off, rfl, fun j u hu => ?_⟩
  have := hc j u hu
  have hlt := World.block_lt_of_cell? w _ this
  have hb' := hb b _ (Array.getElem?_eq_getElem hlt)
  rw [← this]
  unfold World.cell?
  simp only [hb', Array.getElem?_eq_getElem hlt]
theorem acts_open {H : Type} {enc : TypeId × Value → H} {W : World} {a : Option Addr} {len cap : Nat} {d : DataW H} {ps : List MemPlace} (h : DataW.Trod enc Tryz.prog W 0 (fun _ => true) true 25 (.slice a len cap) d ps) :
    ∃ l : List Ac, l.length = len ∧ Acts W a l ∧ l.length ≤ 9223372036854775807 ∧ ∀ x ∈ l, x.Fit := by
  obtain ⟨fuel, hf⟩ := h
  rcases Go.Deep.open_slice Tryz.underlying25 hf with ⟨hcs, _⟩ | ⟨a', len', cap', m, n, D, Pl, hcs, _, hl, hm, hmm, _, hx⟩
  · simp [Value.cells] at hcs
    obtain ⟨rfl, rfl, rfl⟩ := hcs
    exact ⟨[], rfl, fun i hi => by simp at hi, by simp, fun e he => by simp at he⟩
  · simp [Value.cells] at hcs
    obtain ⟨rfl, rfl, rfl⟩ := hcs
    simp only [if_true] at hmm
    rw [cells32] at hx
    have each : ∀ i, i < len → ∃ x : Ac, (∀ j u, x.cells[j]? = some u → W.cell? (a'.add (i * 6 + j)) = some u) ∧ x.Fit := fun i hi => by
      obtain ⟨cs, h1, h2⟩ := hx i (by omega)
      obtain ⟨x, hxc, hfit⟩ := act_cells h2
      obtain ⟨_, hlen, hat⟩ := World.cells?_some h1
      refine ⟨x, fun j u hu => ?_, hfit⟩
      have hj : j < cs.length := by
        rw [hxc]; exact (List.getElem?_eq_some_iff.1 hu).1
      have a0 := hat j (by omega)
      have hadd : ∀ q, (a'.add (i * 6)).add q = a'.add (i * 6 + q) := fun q => by
        unfold Addr.add
        by_cases h1 : i * 6 = 0 <;> by_cases h2 : q = 0 <;> simp [h1, h2, Nat.add_assoc]
      rw [hadd] at a0
      rw [← hxc] at hu
      rw [a0]
      exact hu
    obtain ⟨E, hE⟩ := Go.Deep.choose_lt each
    unfold maxLen at hm
    refine ⟨(List.range len).map E, by simp, fun i hi => ?_, by simp; omega, fun e he => ?_⟩
    · have hi' : i < len := by simpa using hi
      obtain ⟨b, off, spot⟩ := a'
      have hspot : spot = none := by
        have := (hE 0 (by omega)).1 0 (.int .i64 (E 0).d) rfl
        simpa [Addr.add] using World.cell?_spot this
      subst hspot
      refine ⟨b, off, rfl, fun j u hu => ?_⟩
      have c0 := (hE i hi').1 j u (by simpa using hu)
      rw [Addr.add_lit] at c0
      simpa [Nat.add_assoc] using c0
    · obtain ⟨i, hi, rfl⟩ := List.mem_map.1 he
      exact (hE i (List.mem_range.1 hi)).2
/-- What is done, by number. -/
def kd (x : Ac) : Int := x.d % 8
theorem kd_wrap (x : Ac) : (IntKind.u64.wrap x.d).tmod 8 = kd x := by
  unfold kd
  have h1 : IntKind.u64.wrap x.d = x.d % 18446744073709551616 := by
    rfl
  rw [h1, Int.tmod_eq_emod_of_nonneg (by omega)]
  omega
end Go.Proofs.YtpaphfofjfjdlaaGreat
/- Limits and numbers that came in. -/
namespace Go.Proofs.YtpaphfofjfjdlaaGreat
open Go.ChangeShapes Go.WideShapes Go.ChangeAt Go.RowKit
open Go.ChangeMaps (open_string shut_string)

def fieldN : Field := { name := "Entries", type := 3, offset := 0, embedded := false, tag := "", pkgPath := "", byteOffset := 0 }
def fieldB : Field := { name := "Member", type := 3, offset := 1, embedded := false, tag := "", pkgPath := "", byteOffset := 8 }
theorem under23 : Tryz.prog.underlying 23 = some (.struct #[fieldN, fieldB]) := Tryz.underlying23
theorem c23 : Tryz.prog.cellsOf 23 = 2 := by kernel_rfl
theorem n23 : Go.Deep.oneCellFields Tryz.prog #[fieldN, fieldB] = true := by kernel_rfl
set_option maxRecDepth 100000 in
theorem open_limits {H : Type} {enc : TypeId × Value → H} {W : World} {b0 : Nat} {v : Value} {d : DataW H} {ps : List MemPlace} (hv : Value.okWide Tryz.prog W .any b0 23 v) (h : DataW.Trod enc Tryz.prog W 0 (fun _ => true) true 23 v d ps) :
    ∃ (a i : Int), v = .agg #[.int .i64 a, .int .i64 i] := by
  obtain ⟨v0, v1, y0, y1, n, rfl, _, _, t0, t1⟩ := Go.Joins.open_agg2 under23 n23 c23 hv h
  obtain ⟨a, ha, _, _⟩ := DataW.trod_int Tryz.underlying3 t0
  obtain ⟨i, hi, _, _⟩ := DataW.trod_int Tryz.underlying3 t1
  simp only [List.cons.injEq, and_true] at ha hi
  subst ha hi
  exact ⟨a, i, rfl⟩
theorem bounds_u32 {n : Int} (h : (Lit.int .u32 n).wf = true) : 0 ≤ n ∧ n < 4294967296 := by
  have h1 : IntKind.u32.min = 0 := by decide
  have h2 : IntKind.u32.max = 4294967295 := by decide
  simp [Lit.wf] at h
  omega
end Go.Proofs.YtpaphfofjfjdlaaGreat
