/- What a head says, and its first byte. -/
import Derived.Test.YtjcgfbmkgfhnaaaDoorFits
namespace Go.Proofs.YtjcgfbmkgfhnaaaDoor
open Go.RowKit Go.Shelf

def markS : Hd → UInt8
  | .none => 0
  | .simple _ => 43
  | .failure _ => 45
  | .number _ => 58
  | .length _ => 36
  | .nothing => 36
  | .count _ => 42
def saidS (dg : Int → ByteArray) : Hd → ByteArray
  | .none => ⟨#[]⟩
  | .simple s => s
  | .failure s => s
  | .number n => dg n
  | .length n => dg n
  | .nothing => ⟨#[45, 49]⟩
  | .count n => dg n
def Hd.isLen : Hd → Bool
  | .length _ => true
  | _ => false
/-- A number that a head writes is of a kind. -/
def Hd.okN (p : Int → Prop) : Hd → Prop
  | .number n => p n
  | .length n => p n
  | .count n => p n
  | _ => True

theorem mark_simple (s : ByteArray) (w : World) : Calls Tryd.prog 81 #[.string s] w fun e w' => e = .returned (.int .u8 43) ∧ Below w.heap.size w w' := by
  go_enter Tryd.func81, Tryd.ntmps81
  go_wp2
  go_ret
  exact ⟨rfl, Below.refl _ _⟩
theorem mark_failure (s : ByteArray) (w : World) : Calls Tryd.prog 83 #[.string s] w fun e w' => e = .returned (.int .u8 45) ∧ Below w.heap.size w w' := by
  go_enter Tryd.func83, Tryd.ntmps83
  go_wp2
  go_ret
  exact ⟨rfl, Below.refl _ _⟩
theorem mark_number (n : Int) (w : World) : Calls Tryd.prog 85 #[.int .i64 n] w fun e w' => e = .returned (.int .u8 58) ∧ Below w.heap.size w w' := by
  go_enter Tryd.func85, Tryd.ntmps85
  go_wp2
  go_ret
  exact ⟨rfl, Below.refl _ _⟩
theorem mark_length (n : Int) (w : World) : Calls Tryd.prog 78 #[.int .i64 n] w fun e w' => e = .returned (.int .u8 36) ∧ Below w.heap.size w w' := by
  go_enter Tryd.func78, Tryd.ntmps78
  go_wp2
  go_ret
  exact ⟨rfl, Below.refl _ _⟩
theorem mark_nothing (w : World) : Calls Tryd.prog 87 #[.agg #[]] w fun e w' => e = .returned (.int .u8 36) ∧ Below w.heap.size w w' := by
  go_enter Tryd.func87, Tryd.ntmps87
  go_wp2
  go_ret
  exact ⟨rfl, (Below.refl _ _).alloc (Nat.le_refl _) _⟩
theorem mark_count (n : Int) (w : World) : Calls Tryd.prog 89 #[.int .i64 n] w fun e w' => e = .returned (.int .u8 42) ∧ Below w.heap.size w w' := by
  go_enter Tryd.func89, Tryd.ntmps89
  go_wp2
  go_ret
  exact ⟨rfl, Below.refl _ _⟩

def Writes (dg : Int → ByteArray) (n : Int) (w : World) : Prop := Calls Tryd.prog 80 #[.int .i64 n] w fun e w' => e = .returned (.string (dg n)) ∧ Below w.heap.size w w'

theorem said_number (dg : Int → ByteArray) (n : Int) (w : World) (h : Writes dg n w) : Calls Tryd.prog 86 #[.int .i64 n] w fun e w' => e = .returned (.string (dg n)) ∧ Below w.heap.size w w' := by
  have H := Lib.hid h
  clear h
  go_enter Tryd.func86, Tryd.ntmps86
  go_wp2_with fail
  refine Calls.mono H.out ?_
  rintro e w' ⟨rfl, hb⟩
  go_wp2
  go_ret
  exact ⟨rfl, hb⟩
theorem said_length (dg : Int → ByteArray) (n : Int) (w : World) (h : Writes dg n w) : Calls Tryd.prog 79 #[.int .i64 n] w fun e w' => e = .returned (.string (dg n)) ∧ Below w.heap.size w w' := by
  have H := Lib.hid h
  clear h
  go_enter Tryd.func79, Tryd.ntmps79
  go_wp2_with fail
  refine Calls.mono H.out ?_
  rintro e w' ⟨rfl, hb⟩
  go_wp2
  go_ret
  exact ⟨rfl, hb⟩
theorem said_count (dg : Int → ByteArray) (n : Int) (w : World) (h : Writes dg n w) : Calls Tryd.prog 90 #[.int .i64 n] w fun e w' => e = .returned (.string (dg n)) ∧ Below w.heap.size w w' := by
  have H := Lib.hid h
  clear h
  go_enter Tryd.func90, Tryd.ntmps90
  go_wp2_with fail
  refine Calls.mono H.out ?_
  rintro e w' ⟨rfl, hb⟩
  go_wp2
  go_ret
  exact ⟨rfl, hb⟩
theorem said_nothing (w : World) : Calls Tryd.prog 88 #[.agg #[]] w fun e w' => e = .returned (.string ⟨#[45, 49]⟩) ∧ Below w.heap.size w w' := by
  go_enter Tryd.func88, Tryd.ntmps88
  go_wp2
  go_ret
  exact ⟨rfl, (Below.refl _ _).alloc (Nat.le_refl _) _⟩

/-- All that a walk wants to know of a head. -/
structure Kit (n1 n2 : String) (dg : Int → ByteArray) (p : Int → Prop) (h : Hd) (T : TypeId) (v : Value) (fm fs : FuncId) : Prop where
  val : h.val = .iface T v
  mark : ∀ W, (method 286 T v n1).run Tryd.prog W = .ok (fm, v) W
  said : ∀ W, (method 286 T v n2).run Tryd.prog W = .ok (fs, v) W
  enterM : ∀ args W, (callFunc fm args).run Tryd.prog W = .ok (.enter fm args) W
  enterS : ∀ args W, (callFunc fs args).run Tryd.prog W = .ok (.enter fs args) W
  isLen : ∃ u, ∀ W, (Instr.typeAssert (.iface T v) 49 53 true).run Tryd.prog W = .ok (.tuple #[u, .bool h.isLen]) W
  callM : ∀ W, Calls Tryd.prog fm #[v] W fun e w' => e = .returned (.int .u8 ((markS h).toNat : Int)) ∧ Below W.heap.size W w'
  callS : h.okN p → ∀ W, (∀ n, p n → Writes dg n W) → Calls Tryd.prog fs #[v] W fun e w' => e = .returned (.string (saidS dg h)) ∧ Below W.heap.size W w'

theorem same_below {w w' : World} (h : w' = w) : Below w.heap.size w w' := by subst h; exact Below.refl _ _

theorem head_kit {n1 n2 : String} {s1 s2 : TypeId} (h : Tryd.prog.underlying 49 = some (.interface #[(n1, s1), (n2, s2)])) (dg : Int → ByteArray) (p : Int → Prop) (x : Hd) (hx : x ≠ .none) : ∃ T v fm fs, Kit n1 n2 dg p x T v fm fs := by
  have hn := fun u W => head_names h u W
  cases x with
  | none => exact absurd rfl hx
  | simple s => exact ⟨68, .string s, 81, 82, rfl, fun W => (hn _ W).2.1, fun W => (hn _ W).1.1, fun _ _ => by kernel_rfl, fun _ _ => by kernel_rfl, ⟨_, fun W => (as68 _ W).2.2.1⟩, mark_simple s, fun _ W _ => (said_simple s W).mono fun _ _ ⟨a, b⟩ => ⟨a, same_below b⟩⟩
  | failure s => exact ⟨69, .string s, 83, 84, rfl, fun W => (hn _ W).2.2.1, fun W => (hn _ W).1.2.1, fun _ _ => by kernel_rfl, fun _ _ => by kernel_rfl, ⟨_, fun W => (as69 _ W).2.2.1⟩, mark_failure s, fun _ W _ => (said_failure s W).mono fun _ _ ⟨a, b⟩ => ⟨a, same_below b⟩⟩
  | number n => exact ⟨70, .int .i64 n, 85, 86, rfl, fun W => (hn _ W).2.2.2.1, fun W => (hn _ W).1.2.2.1, fun _ _ => by kernel_rfl, fun _ _ => by kernel_rfl, ⟨_, fun W => (as70 _ W).2.2.1⟩, mark_number n, fun ho W hw => said_number dg n W (hw n ho)⟩
  | length n => exact ⟨53, .int .i64 n, 78, 79, rfl, fun W => (hn _ W).2.2.2.2.1, fun W => (hn _ W).1.2.2.2.1, fun _ _ => by kernel_rfl, fun _ _ => by kernel_rfl, ⟨_, fun W => (as53 _ W).2.2.1⟩, mark_length n, fun ho W hw => said_length dg n W (hw n ho)⟩
  | nothing => exact ⟨72, .agg #[], 87, 88, rfl, fun W => (hn _ W).2.2.2.2.2.1, fun W => (hn _ W).1.2.2.2.2.1, fun _ _ => by kernel_rfl, fun _ _ => by kernel_rfl, ⟨_, fun W => (as72 _ W).2.2.1⟩, mark_nothing, fun _ W _ => said_nothing W⟩
  | count n => exact ⟨73, .int .i64 n, 89, 90, rfl, fun W => (hn _ W).2.2.2.2.2.2, fun W => (hn _ W).1.2.2.2.2.2, fun _ _ => by kernel_rfl, fun _ _ => by kernel_rfl, ⟨_, fun W => (as73 _ W).2.2.1⟩, mark_count n, fun ho W hw => said_count dg n W (hw n ho)⟩

end Go.Proofs.YtjcgfbmkgfhnaaaDoor
