/- A request's first line, and a request. -/
import Derived.Test.YtbjjgkicjnoegaaDoorWords
namespace Go.Proofs.YtbjjgkicjnoegaaDoor
open Go.RowKit Go.Shelf

theorem size_name {n1 : String} {s1 : TypeId} (h : Tryd.prog.underlying 66 = some (.interface #[(n1, s1)])) (u : Value) (W : World) :
    (method 271 93 u n1).run Tryd.prog W = .ok (88, u) W ∧ (method 271 70 u n1).run Tryd.prog W = .ok (84, u) W := by
  have e := Tryd.underlying66.symm.trans h
  simp at e
  obtain ⟨e1, _⟩ := e
  subst e1
  exact ⟨by kernel_rfl, by kernel_rfl⟩
theorem isWorded (u : Value) (W : World) : (Instr.typeAssert (.iface 93 u) 66 70 true).run Tryd.prog W = .ok (.tuple #[.slice none 0 0, .bool false]) W ∧ (Instr.typeAssert (.iface 70 u) 66 70 true).run Tryd.prog W = .ok (.tuple #[u, .bool true]) W := ⟨by kernel_rfl, by kernel_rfl⟩
theorem size_counted (n : Int) (w : World) : Calls Tryd.prog 88 #[.int .i64 n] w fun e w' => e = .returned (.int .i64 n) ∧ w' = w := by
  go_enter Tryd.func88, Tryd.ntmps88
  go_wp2
  go_ret
  exact ⟨rfl, rfl⟩
theorem size_worded (a : Option Addr) (n c : Nat) (w : World) : Calls Tryd.prog 84 #[.slice a n c] w fun e w' => e = .returned (.int .i64 n) ∧ w' = w := by
  go_enter Tryd.func84, Tryd.ntmps84
  go_wp2
  go_ret
  exact ⟨rfl, rfl⟩

def cntV (n : Int) : Value := .iface 93 (.int .i64 n)
def starL : List UInt8 := [42]

set_option maxRecDepth 100000 in
set_option maxHeartbeats 2000000 in
theorem request_counted {T : Nat → Int} (b : Nat) (hb4 : 4 ≤ b) (t : ByteArray) (ht : t.size ≤ 9223372036854775807) (w : World) (hE : Env T w) (hb : Box w b t) (hs : Lib.hasPrefix t.data.toList starL = true) :
    Calls Tryd.prog 26 #[.pointer (some ⟨b, 0, none⟩)] w (TellsW cntV (cntV 0) b w (numberS T t.data.toList)) := by
  have cb := hb.cell
  have hne : Lib.hasPrefix t.data.toList endL = false := by
    cases hx : t.data.toList with
    | nil => rfl
    | cons c l =>
      rw [hx] at hs
      have : c = 42 := by
        have := List.isPrefixOf_iff_prefix.1 hs
        obtain ⟨r, hr⟩ := this
        simp [starL] at hr
        exact hr.1.symm
      subst this
      rfl
  have HN := number_any b hb4 t ht w hE hb hne
  have HP := Tryd.strings_HasPrefix t ⟨#[42]⟩ w
  rw [show (⟨#[42]⟩ : ByteArray).data.toList = starL from rfl, hs] at HP
  have H1 := Lib.hid HN
  have H2 := Lib.hid HP
  clear HN HP hne hs hb hE
  cases hn : numberS T t.data.toList with
  | more =>
    rw [hn] at H1
    go_enter Tryd.func26, Tryd.ntmps26
    go_wp2_with (first
      | (go_at_call 32; refine H2.out.mono ?_; rintro e w1 ⟨rfl, rfl⟩)
      | (go_at_call 33; refine H1.out.mono ?_; rintro e w2 ⟨rfl, hg⟩; simp only [errV, intV]))
    go_ret2
    exact ⟨rfl, hg⟩
  | wrong =>
    rw [hn] at H1
    go_enter Tryd.func26, Tryd.ntmps26
    go_wp2_with (first
      | (go_at_call 32; refine H2.out.mono ?_; rintro e w1 ⟨rfl, rfl⟩)
      | (go_at_call 33; refine H1.out.mono ?_; rintro e w2 ⟨rfl, hg⟩; simp only [errV, intV]))
    go_ret2
    exact ⟨rfl, hg⟩
  | ok n r =>
    rw [hn] at H1
    go_enter Tryd.func26, Tryd.ntmps26
    go_wp2_with (first
      | (go_at_call 32; refine H2.out.mono ?_; rintro e w1 ⟨rfl, rfl⟩)
      | (go_at_call 33; refine H1.out.mono ?_; rintro e w2 ⟨rfl, hg, hbx⟩; simp only [intV]))
    go_ret2
    exact ⟨rfl, hg, hbx⟩

def lf : List UInt8 := [10]
/-- The line without a 0D that is the last of it. -/
def trimS (p : List UInt8) : List UInt8 := Lib.trimSuffix p [13]
theorem trimS_size (p : List UInt8) : (trimS p).length ≤ p.length := by
  unfold trimS Lib.trimSuffix
  split <;> simp

/-- A line's words. -/
def TellsR (b : Nat) (W : World) (g : Got (List UInt8)) (e : Ending) (W' : World) : Prop :=
  match g with
  | .ok p r => ∃ v, e = .returned (.tuple #[.iface 70 v, .nilIface]) ∧ W.grownBy W' (some b) ∧ Box W' b (ba r) ∧ Owned W' W.heap.size v (wordsS (ba (trimS p)))
  | .more => ∃ v, e = .returned (.tuple #[.iface 70 v, errV 31]) ∧ W.grownBy W' (some b)
  | .wrong => ∃ v, e = .returned (.tuple #[.iface 70 v, errV 40]) ∧ W.grownBy W' (some b)

set_option maxRecDepth 100000 in
set_option maxHeartbeats 2000000 in
theorem request_worded (b : Nat) (t : ByteArray) (ht : t.size ≤ 9223372036854775807) (w : World) (hb : Box w b t) (hs : Lib.hasPrefix t.data.toList starL = false) :
    Calls Tryd.prog 26 #[.pointer (some ⟨b, 0, none⟩)] w (TellsR b w (lineS lf 1024 t.data.toList)) := by
  have cb := hb.cell
  have HL := line_any b t ⟨#[10]⟩ 1024 (by decide) ht (by decide) w hb
  rw [show (⟨#[10]⟩ : ByteArray).data.toList = lf from rfl] at HL
  have HP := Tryd.strings_HasPrefix t ⟨#[42]⟩ w
  rw [show (⟨#[42]⟩ : ByteArray).data.toList = starL from rfl, hs] at HP
  have H1 := Lib.hid HL
  have H2 := Lib.hid HP
  have HT := fun (p : List UInt8) (hp : p.length ≤ 1024) W => Lib.hid (Tryd.strings_TrimSuffix (ba p) ⟨#[13]⟩ W (by rw [← size_list, ba_list]; omega))
  have HW := fun (p : List UInt8) (hp : p.length ≤ 1024) W => Lib.hid (words_any (ba (trimS p)) (by rw [← size_list, ba_list]; have := trimS_size p; omega) W)
  have hsz := fun p r (h : lineS lf 1024 t.data.toList = .ok p r) => (lineS_size h).1
  have hemp : (⟨#[]⟩ : ByteArray) = ba [] := rfl
  clear HL HP hs hb
  cases hl : lineS lf 1024 t.data.toList with
  | more =>
    rw [hl] at H1
    have HT0 := HT [] (by decide)
    have HW0 := HW [] (by decide)
    clear hl hsz HT HW
    go_enter Tryd.func26, Tryd.ntmps26
    go_wp2_with (first
      | (go_at_call 32; refine H2.out.mono ?_; rintro e w1 ⟨rfl, rfl⟩)
      | (go_at_call 34; refine H1.out.mono ?_; rintro e w2 ⟨rfl, hg⟩; simp only [errV, emptyV])
      | (go_at_call 36; refine (HT0 _).out.mono ?_; rintro e w3 ⟨rfl, rfl⟩)
      | (go_at_call 35; refine (HW0 _).out.mono ?_; rintro e w4 ⟨v, rfl, hb4, how⟩))
    go_ret2
    exact ⟨v, rfl, (grown_of_below hg).trans (grown_of_below hb4)⟩
  | wrong =>
    rw [hl] at H1
    have HT0 := HT [] (by decide)
    have HW0 := HW [] (by decide)
    clear hl hsz HT HW
    go_enter Tryd.func26, Tryd.ntmps26
    go_wp2_with (first
      | (go_at_call 32; refine H2.out.mono ?_; rintro e w1 ⟨rfl, rfl⟩)
      | (go_at_call 34; refine H1.out.mono ?_; rintro e w2 ⟨rfl, hg⟩; simp only [errV, emptyV])
      | (go_at_call 36; refine (HT0 _).out.mono ?_; rintro e w3 ⟨rfl, rfl⟩)
      | (go_at_call 35; refine (HW0 _).out.mono ?_; rintro e w4 ⟨v, rfl, hb4, how⟩))
    go_ret2
    exact ⟨v, rfl, (grown_of_below hg).trans (grown_of_below hb4)⟩
  | ok p r =>
    rw [hl] at H1
    have hp := hsz _ _ hl
    have HT0 := HT p hp
    have HW0 := HW p hp
    clear hl hsz HT HW
    go_enter Tryd.func26, Tryd.ntmps26
    go_wp2_with (first
      | (go_at_call 32; refine H2.out.mono ?_; rintro e w1 ⟨rfl, rfl⟩)
      | (go_at_call 34; refine H1.out.mono ?_; rintro e w2 ⟨rfl, hg, hbx⟩; simp only [strV])
      | (go_at_call 36; refine (HT0 _).out.mono ?_; rintro e w3 ⟨rfl, rfl⟩)
      | (go_at_call 35; refine (HW0 _).out.mono ?_; rintro e w4 ⟨v, rfl, hb4, how⟩))
    go_ret2
    exact ⟨v, rfl, hg.trans (grown_of_below hb4), hbx.below hb4 hbx.lt, World.ownsRow.mono how hg.size⟩

end Go.Proofs.YtbjjgkicjnoegaaDoor
