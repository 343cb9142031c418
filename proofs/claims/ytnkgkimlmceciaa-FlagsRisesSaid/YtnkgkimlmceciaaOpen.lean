/- Flags that came in. -/
import Derived.Test.YtnkgkimlmceciaaSum
import Derived.WalkKit
import Derived.ProofKit
import Derived.OpenShut
import Derived.ShutString
import Derived.Carry
import Derived.Lib.SmallJoins
import Derived.Deep.Slices
import Derived.Deep.Fields
import Derived.ChangeArms
import Derived.ChangeSame
import Derived.SizedLaws
namespace Go.Proofs.Ytnkgkimlmceciaa
open Go.ChangeShapes Go.WideShapes Go.ChangeAt Go.RowKit Go.Deep
open Go.ChangeMaps (open_string shut_string)

theorem laidOut0 : laidOutB Try.prog = true := by kernel_rfl
theorem own0 : ownKnob Try.prog.godebug = none := by kernel_rfl

theorem i64_of {a : Int} (h : (Lit.int .i64 a).wf = true) : I64 a := by
  simp only [Lit.wf, IntKind.min, IntKind.max, IntKind.signed, IntKind.bits, Bool.and_eq_true, decide_eq_true_eq, if_true] at h
  exact ⟨by omega, by omega⟩
def fieldOf (name : String) (k : Nat) : Field := { name := name, type := 4, offset := k, embedded := false, tag := "", pkgPath := "", byteOffset := k }
theorem under23 : Try.prog.underlying 23 = some (.struct #[fieldOf "NX" 0, fieldOf "XX" 1, fieldOf "GT" 2, fieldOf "LT" 3, fieldOf "CH" 4, fieldOf "Incr" 5]) := Try.underlying23
theorem c23 : Try.prog.cellsOf 23 = 6 := by kernel_rfl
theorem c4 : Try.prog.cellsOf 4 = 1 := by kernel_rfl

set_option maxRecDepth 100000 in
theorem open_flags {H : Type} {enc : TypeId × Value → H} {W : World} {b0 : Nat} {v : Value} {d : DataW H} {ps : List MemPlace} (hv : Value.okWide Try.prog W .any b0 23 v) (h : DataW.Trod enc Try.prog W 0 (fun _ => true) true 23 v d ps) :
    ∃ nx xx gt lt ch inc : Bool, v = .agg #[.bool nx, .bool xx, .bool gt, .bool lt, .bool ch, .bool inc] := by
  obtain ⟨cs, rfl, hsz⟩ := okWide_struct under23 hv
  obtain ⟨l⟩ := cs
  obtain ⟨fuel, hf⟩ := h
  obtain ⟨ys, n, _, _, _, hlen, hg⟩ := DataW.trod_struct under23 hf
  have hl : l.length = 6 := hsz.trans c23
  have at_ : ∀ (j : Nat), j < 6 → ∃ b, l[j]? = some (.bool b) := by
    intro j hj
    obtain ⟨f, hfj, hoff⟩ : ∃ f : Field, (#[fieldOf "NX" 0, fieldOf "XX" 1, fieldOf "GT" 2, fieldOf "LT" 3, fieldOf "CH" 4, fieldOf "Incr" 5] : Array Field)[j]? = some f ∧ f.type = 4 ∧ f.offset = j := by
      match j, hj with
      | 0, _ => exact ⟨_, rfl, rfl, rfl⟩
      | 1, _ => exact ⟨_, rfl, rfl, rfl⟩
      | 2, _ => exact ⟨_, rfl, rfl, rfl⟩
      | 3, _ => exact ⟨_, rfl, rfl, rfl⟩
      | 4, _ => exact ⟨_, rfl, rfl, rfl⟩
      | 5, _ => exact ⟨_, rfl, rfl, rfl⟩
    have h1 := hg j f hfj
    rw [hoff.1, hoff.2, c4] at h1
    have e : (List.drop j (Value.cells (.agg ⟨l⟩)).toList).take 1 = [l[j]'(by omega)] := by
      show (List.drop j l).take 1 = _
      rw [List.drop_eq_getElem_cons (by omega)]
      rfl
    rw [e] at h1
    have hy : j < ys.length := by rw [hlen]; simpa using hj
    rw [List.getElem?_eq_getElem hy] at h1
    obtain ⟨b, hb, _⟩ := DataW.trod_bool Try.underlying4 h1
    simp only [List.cons.injEq, and_true] at hb
    exact ⟨b, by rw [List.getElem?_eq_getElem (by omega), hb]⟩
  clear hg hf hlen hv hsz
  match l, hl, at_ with
  | [x0, x1, x2, x3, x4, x5], _, at_ =>
    obtain ⟨b0, h0⟩ := at_ 0 (by omega)
    obtain ⟨b1, h1⟩ := at_ 1 (by omega)
    obtain ⟨b2, h2⟩ := at_ 2 (by omega)
    obtain ⟨b3, h3⟩ := at_ 3 (by omega)
    obtain ⟨b4, h4⟩ := at_ 4 (by omega)
    obtain ⟨b5, h5⟩ := at_ 5 (by omega)
    obtain rfl : x0 = .bool b0 := by simpa using h0
    obtain rfl : x1 = .bool b1 := by simpa using h1
    obtain rfl : x2 = .bool b2 := by simpa using h2
    obtain rfl : x3 = .bool b3 := by simpa using h3
    obtain rfl : x4 = .bool b4 := by simpa using h4
    obtain rfl : x5 = .bool b5 := by simpa using h5
    exact ⟨b0, b1, b2, b3, b4, b5, rfl⟩
end Go.Proofs.Ytnkgkimlmceciaa
