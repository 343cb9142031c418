/- Ends and entries that came in. -/
import Derived.Test.YtfnofnilcflcmaaRows
import Derived.WalkKit
import Derived.ProofKit
import Derived.OpenShut
import Derived.ShutString
import Derived.Carry
import Derived.Lib.SmallJoins
import Derived.Deep.Slices
import Derived.Deep.Fields
import Derived.ChangeArms
import Derived.ChangeSame
import Derived.SizedLaws
namespace Go.Proofs.Ytfnofnilcflcmaa
open Go.ChangeShapes Go.WideShapes Go.ChangeAt Go.RowKit
open Go.ChangeMaps (open_string shut_string)

theorem laidOut0 : laidOutB Try.prog = true := by kernel_rfl
theorem own0 : ownKnob Try.prog.godebug = none := by kernel_rfl

def fieldN : Field := { name := "N", type := 2, offset := 0, embedded := false, tag := "", pkgPath := "", byteOffset := 0 }
def fieldO : Field := { name := "Out", type := 4, offset := 1, embedded := false, tag := "", pkgPath := "", byteOffset := 8 }
def fieldI : Field := { name := "Inf", type := 3, offset := 2, embedded := false, tag := "", pkgPath := "", byteOffset := 16 }
def fieldS : Field := { name := "S", type := 9, offset := 0, embedded := false, tag := "", pkgPath := "", byteOffset := 0 }
def fieldO' : Field := { name := "Out", type := 4, offset := 1, embedded := false, tag := "", pkgPath := "", byteOffset := 16 }
def fieldI' : Field := { name := "Inf", type := 3, offset := 2, embedded := false, tag := "", pkgPath := "", byteOffset := 24 }
def fieldM : Field := { name := "Member", type := 9, offset := 0, embedded := false, tag := "", pkgPath := "", byteOffset := 0 }
def fieldC : Field := { name := "Score", type := 2, offset := 1, embedded := false, tag := "", pkgPath := "", byteOffset := 16 }
theorem under23 : Try.prog.underlying 23 = some (.struct #[fieldN, fieldO, fieldI]) := Try.underlying23
theorem under33 : Try.prog.underlying 33 = some (.struct #[fieldS, fieldO', fieldI']) := Try.underlying33
theorem under39 : Try.prog.underlying 39 = some (.struct #[fieldM, fieldC]) := Try.underlying39

theorem c23 : Try.prog.cellsOf 23 = 3 := by kernel_rfl
theorem c33 : Try.prog.cellsOf 33 = 3 := by kernel_rfl
theorem c39 : Try.prog.cellsOf 39 = 2 := by kernel_rfl
theorem n23 : Go.Deep.oneCellFields Try.prog #[fieldN, fieldO, fieldI] = true := by kernel_rfl
theorem n33 : Go.Deep.oneCellFields Try.prog #[fieldS, fieldO', fieldI'] = true := by kernel_rfl
theorem n39 : Go.Deep.oneCellFields Try.prog #[fieldM, fieldC] = true := by kernel_rfl
set_option maxRecDepth 100000 in
theorem open_bound {H : Type} {enc : TypeId × Value → H} {W : World} {b0 : Nat} {v : Value} {d : DataW H} {ps : List MemPlace} (hv : Value.okWide Try.prog W .any b0 23 v) (h : DataW.Trod enc Try.prog W 0 (fun _ => true) true 23 v d ps) :
    ∃ (a : Int) (o : Bool) (i : Int), v = .agg #[.int .i64 a, .bool o, .int .i64 i] := by
  obtain ⟨v0, v1, v2, y0, y1, y2, n, rfl, _, _, t0, t1, t2⟩ := Go.Joins.open_agg3 under23 n23 c23 hv h
  obtain ⟨a, ha, _, _⟩ := DataW.trod_int Try.underlying2 t0
  obtain ⟨o, ho, _⟩ := DataW.trod_bool Try.underlying4 t1
  obtain ⟨i, hi, _, _⟩ := DataW.trod_int Try.underlying3 t2
  simp only [List.cons.injEq, and_true] at ha ho hi
  subst ha ho hi
  exact ⟨a, o, i, rfl⟩
set_option maxRecDepth 100000 in
theorem open_edge {H : Type} {enc : TypeId × Value → H} {W : World} {b0 : Nat} {v : Value} {d : DataW H} {ps : List MemPlace} (hv : Value.okWide Try.prog W .any b0 33 v) (h : DataW.Trod enc Try.prog W 0 (fun _ => true) true 33 v d ps) :
    ∃ (a : ByteArray) (o : Bool) (i : Int), v = .agg #[.string a, .bool o, .int .i64 i] ∧ ∃ n ∈ d.weights Try.prog 33, n = a.size := by
  obtain ⟨v0, v1, v2, y0, y1, y2, n, rfl, rfl, _, t0, t1, t2⟩ := Go.Joins.open_agg3 under33 n33 c33 hv h
  obtain ⟨a, ha, rfl, _⟩ := DataW.trod_string Try.underlying9 t0
  obtain ⟨o, ho, rfl⟩ := DataW.trod_bool Try.underlying4 t1
  obtain ⟨i, hi, rfl, _⟩ := DataW.trod_int Try.underlying3 t2
  simp only [List.cons.injEq, and_true] at ha ho hi
  subst ha ho hi
  exact ⟨a, o, i, rfl, a.size, by simp [DataW.weights, DataW.weightsEach], rfl⟩
set_option maxRecDepth 100000 in
theorem open_entry {H : Type} {enc : TypeId × Value → H} {W : World} {b0 : Nat} {v : Value} {d : DataW H} {ps : List MemPlace} (hv : Value.okWide Try.prog W .any b0 39 v) (h : DataW.Trod enc Try.prog W 0 (fun _ => true) true 39 v d ps) :
    ∃ (a : ByteArray) (i : Int), v = .agg #[.string a, .int .i64 i] ∧ ∃ n ∈ d.weights Try.prog 39, n = a.size := by
  obtain ⟨v0, v1, y0, y1, n, rfl, rfl, _, t0, t1⟩ := Go.Joins.open_agg2 under39 n39 c39 hv h
  obtain ⟨a, ha, rfl, _⟩ := DataW.trod_string Try.underlying9 t0
  obtain ⟨i, hi, rfl, _⟩ := DataW.trod_int Try.underlying2 t1
  simp only [List.cons.injEq, and_true] at ha hi
  subst ha hi
  exact ⟨a, i, rfl, a.size, by simp [DataW.weights, DataW.weightsEach], rfl⟩
end Go.Proofs.Ytfnofnilcflcmaa
