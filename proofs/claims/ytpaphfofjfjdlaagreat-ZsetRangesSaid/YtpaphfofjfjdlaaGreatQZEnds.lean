/- Ends of ranges that came in. -/
import Derived.Test.YtpaphfofjfjdlaaGreatQZG
namespace Go.Proofs.YtpaphfofjfjdlaaGreat.Bo
open Go.ChangeShapes Go.WideShapes Go.ChangeAt Go.RowKit
open Go.ChangeMaps (open_string shut_string)

def fieldN : Field := { name := "N", type := 2, offset := 0, embedded := false, tag := "", pkgPath := "", byteOffset := 0 }
def fieldO : Field := { name := "Out", type := 4, offset := 1, embedded := false, tag := "", pkgPath := "", byteOffset := 8 }
def fieldI : Field := { name := "Inf", type := 3, offset := 2, embedded := false, tag := "", pkgPath := "", byteOffset := 16 }
def fieldS : Field := { name := "S", type := 9, offset := 0, embedded := false, tag := "", pkgPath := "", byteOffset := 0 }
def fieldO' : Field := { name := "Out", type := 4, offset := 1, embedded := false, tag := "", pkgPath := "", byteOffset := 16 }
def fieldI' : Field := { name := "Inf", type := 3, offset := 2, embedded := false, tag := "", pkgPath := "", byteOffset := 24 }
theorem under51 : Tryz.prog.underlying 51 = some (.struct #[fieldN, fieldO, fieldI]) := Tryz.underlying51
theorem under53 : Tryz.prog.underlying 53 = some (.struct #[fieldS, fieldO', fieldI']) := Tryz.underlying53

theorem c51 : Tryz.prog.cellsOf 51 = 3 := by kernel_rfl
theorem c53 : Tryz.prog.cellsOf 53 = 3 := by kernel_rfl
theorem n51 : Go.Deep.oneCellFields Tryz.prog #[fieldN, fieldO, fieldI] = true := by kernel_rfl
theorem n53 : Go.Deep.oneCellFields Tryz.prog #[fieldS, fieldO', fieldI'] = true := by kernel_rfl
set_option maxRecDepth 100000 in
theorem open_bound {H : Type} {enc : TypeId × Value → H} {W : World} {b0 : Nat} {v : Value} {d : DataW H} {ps : List MemPlace} (hv : Value.okWide Tryz.prog W .any b0 51 v) (h : DataW.Trod enc Tryz.prog W 0 (fun _ => true) true 51 v d ps) :
    ∃ (a : Int) (o : Bool) (i : Int), v = .agg #[.int .i64 a, .bool o, .int .i64 i] := by
  obtain ⟨v0, v1, v2, y0, y1, y2, n, rfl, _, _, t0, t1, t2⟩ := Go.Joins.open_agg3 under51 n51 c51 hv h
  obtain ⟨a, ha, _, _⟩ := DataW.trod_int Tryz.underlying2 t0
  obtain ⟨o, ho, _⟩ := DataW.trod_bool Tryz.underlying4 t1
  obtain ⟨i, hi, _, _⟩ := DataW.trod_int Tryz.underlying3 t2
  simp only [List.cons.injEq, and_true] at ha ho hi
  subst ha ho hi
  exact ⟨a, o, i, rfl⟩
set_option maxRecDepth 100000 in
theorem open_edge {H : Type} {enc : TypeId × Value → H} {W : World} {b0 : Nat} {v : Value} {d : DataW H} {ps : List MemPlace} (hv : Value.okWide Tryz.prog W .any b0 53 v) (h : DataW.Trod enc Tryz.prog W 0 (fun _ => true) true 53 v d ps) :
    ∃ (a : ByteArray) (o : Bool) (i : Int), v = .agg #[.string a, .bool o, .int .i64 i] ∧ ∃ n ∈ d.weights Tryz.prog 53, n = a.size := by
  obtain ⟨v0, v1, v2, y0, y1, y2, n, rfl, rfl, _, t0, t1, t2⟩ := Go.Joins.open_agg3 under53 n53 c53 hv h
  obtain ⟨a, ha, rfl, _⟩ := DataW.trod_string Tryz.underlying9 t0
  obtain ⟨o, ho, rfl⟩ := DataW.trod_bool Tryz.underlying4 t1
  obtain ⟨i, hi, rfl, _⟩ := DataW.trod_int Tryz.underlying3 t2
  simp only [List.cons.injEq, and_true] at ha ho hi
  subst ha ho hi
  exact ⟨a, o, i, rfl, a.size, by simp [DataW.weights, DataW.weightsEach], rfl⟩
end Go.Proofs.YtpaphfofjfjdlaaGreat.Bo
