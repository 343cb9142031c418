/- The six flags and their words. -/
import Derived.Test.YtnkgkimlmceciaaLaws
import Derived.Laws.RangeAny
import Derived.Deep.LoopGhost
import Derived.Laws.EntriesVeiled
namespace Go.Proofs.Ytnkgkimlmceciaa
open Go.RowKit Go.Shelf
attribute [local go_sem] Oper.semAt_some

/-- The words. -/
def kw : Nat → ByteArray
  | 0 => ⟨#[78, 88]⟩
  | 1 => ⟨#[88, 88]⟩
  | 2 => ⟨#[71, 84]⟩
  | 3 => ⟨#[76, 84]⟩
  | 4 => ⟨#[67, 72]⟩
  | _ => ⟨#[73, 78, 67, 82]⟩
/-- A flag set. -/
def Fl.set (f : Fl) : Nat → Fl
  | 0 => { f with nx := true }
  | 1 => { f with xx := true }
  | 2 => { f with gt := true }
  | 3 => { f with lt := true }
  | 4 => { f with ch := true }
  | _ => { f with inc := true }
def Fl.get (f : Fl) : Nat → Bool
  | 0 => f.nx
  | 1 => f.xx
  | 2 => f.gt
  | 3 => f.lt
  | 4 => f.ch
  | _ => f.inc
theorem kw_size (k : Nat) : (kw k).size = 2 ∨ (kw k).size = 4 := by
  unfold kw; split <;> first | exact .inl rfl | exact .inr rfl
/-- A flag as the program holds it. -/
def fn_ (k : Nat) : Value := .func (.func (31 + k)) #[] #[]
def flagC (k : Nat) : Array Value := #[.string (kw k), fn_ k]

def allV : Value := .agg #[.string (kw 0), fn_ 0, .string (kw 1), fn_ 1, .string (kw 2), fn_ 2, .string (kw 3), fn_ 3, .string (kw 4), fn_ 4, .string (kw 5), fn_ 5]
theorem index_all (k : Nat) (h : k < 6) (W : World) : (Instr.index 49 allV (.int .i64 k)).run Try.prog W = .ok (.agg (flagC k)) W := by
  obtain rfl | rfl | rfl | rfl | rfl | rfl : k = 0 ∨ k = 1 ∨ k = 2 ∨ k = 3 ∨ k = 4 ∨ k = 5 := by omega
  all_goals kernel_rfl
set_option maxRecDepth 100000 in
theorem all_any (w : World) : Calls Try.prog 25 #[] w fun e w' => e = .returned allV ∧ Below w.heap.size w w' := by
  go_enter Try.func25, Try.ntmps25
  go_wp2
  exact bodyPost_ret (v := allV) (by simp [results, Try.results25, go_sem, allV, kw, fn_]) rfl ⟨rfl, (Below.refl _ _).alloc (Nat.le_refl _) _⟩
theorem set0_any (f : Fl) (w : World) : Calls Try.prog 31 #[f.v] w fun e w' => e = .returned (f.set 0).v ∧ Below w.heap.size w w' := by
  obtain ⟨nx, xx, gt, lt, ch, inc⟩ := f
  simp only [Fl.v, Fl.c, Fl.set]
  go_enter Try.func31, Try.ntmps31
  go_wp2
  exact bodyPost_ret (v := (Fl.set ⟨nx, xx, gt, lt, ch, inc⟩ 0).v) (by simp [results, Try.results31, go_sem, Fl.v, Fl.c, Fl.set]) rfl ⟨rfl, ((Below.refl _ _).alloc (Nat.le_refl _) _).alloc (by simp) _⟩
theorem set1_any (f : Fl) (w : World) : Calls Try.prog 32 #[f.v] w fun e w' => e = .returned (f.set 1).v ∧ Below w.heap.size w w' := by
  obtain ⟨nx, xx, gt, lt, ch, inc⟩ := f
  simp only [Fl.v, Fl.c, Fl.set]
  go_enter Try.func32, Try.ntmps32
  go_wp2
  exact bodyPost_ret (v := (Fl.set ⟨nx, xx, gt, lt, ch, inc⟩ 1).v) (by simp [results, Try.results32, go_sem, Fl.v, Fl.c, Fl.set]) rfl ⟨rfl, ((Below.refl _ _).alloc (Nat.le_refl _) _).alloc (by simp) _⟩
theorem set2_any (f : Fl) (w : World) : Calls Try.prog 33 #[f.v] w fun e w' => e = .returned (f.set 2).v ∧ Below w.heap.size w w' := by
  obtain ⟨nx, xx, gt, lt, ch, inc⟩ := f
  simp only [Fl.v, Fl.c, Fl.set]
  go_enter Try.func33, Try.ntmps33
  go_wp2
  exact bodyPost_ret (v := (Fl.set ⟨nx, xx, gt, lt, ch, inc⟩ 2).v) (by simp [results, Try.results33, go_sem, Fl.v, Fl.c, Fl.set]) rfl ⟨rfl, ((Below.refl _ _).alloc (Nat.le_refl _) _).alloc (by simp) _⟩
theorem set3_any (f : Fl) (w : World) : Calls Try.prog 34 #[f.v] w fun e w' => e = .returned (f.set 3).v ∧ Below w.heap.size w w' := by
  obtain ⟨nx, xx, gt, lt, ch, inc⟩ := f
  simp only [Fl.v, Fl.c, Fl.set]
  go_enter Try.func34, Try.ntmps34
  go_wp2
  exact bodyPost_ret (v := (Fl.set ⟨nx, xx, gt, lt, ch, inc⟩ 3).v) (by simp [results, Try.results34, go_sem, Fl.v, Fl.c, Fl.set]) rfl ⟨rfl, ((Below.refl _ _).alloc (Nat.le_refl _) _).alloc (by simp) _⟩
theorem set4_any (f : Fl) (w : World) : Calls Try.prog 35 #[f.v] w fun e w' => e = .returned (f.set 4).v ∧ Below w.heap.size w w' := by
  obtain ⟨nx, xx, gt, lt, ch, inc⟩ := f
  simp only [Fl.v, Fl.c, Fl.set]
  go_enter Try.func35, Try.ntmps35
  go_wp2
  exact bodyPost_ret (v := (Fl.set ⟨nx, xx, gt, lt, ch, inc⟩ 4).v) (by simp [results, Try.results35, go_sem, Fl.v, Fl.c, Fl.set]) rfl ⟨rfl, ((Below.refl _ _).alloc (Nat.le_refl _) _).alloc (by simp) _⟩
theorem set5_any (f : Fl) (w : World) : Calls Try.prog 36 #[f.v] w fun e w' => e = .returned (f.set 5).v ∧ Below w.heap.size w w' := by
  obtain ⟨nx, xx, gt, lt, ch, inc⟩ := f
  simp only [Fl.v, Fl.c, Fl.set]
  go_enter Try.func36, Try.ntmps36
  go_wp2
  exact bodyPost_ret (v := (Fl.set ⟨nx, xx, gt, lt, ch, inc⟩ 5).v) (by simp [results, Try.results36, go_sem, Fl.v, Fl.c, Fl.set]) rfl ⟨rfl, ((Below.refl _ _).alloc (Nat.le_refl _) _).alloc (by simp) _⟩
theorem set_any (k : Nat) (h : k < 6) (f : Fl) (w : World) : Calls Try.prog (31 + k) #[f.v] w fun e w' => e = .returned (f.set k).v ∧ Below w.heap.size w w' := by
  match k, h with
  | 0, _ => exact set0_any f w
  | 1, _ => exact set1_any f w
  | 2, _ => exact set2_any f w
  | 3, _ => exact set3_any f w
  | 4, _ => exact set4_any f w
  | 5, _ => exact set5_any f w

def capI (r : Int) : Int := if 97 ≤ r ∧ r ≤ 122 then r - 97 + 65 else r
theorem capital_any (r : Int) (w : World) (h1 : 0 ≤ r) (h2 : r ≤ 2147483647) : Calls Try.prog 38 #[.int .i32 r] w fun e w' => e = .returned (.int .i32 (capI r)) ∧ w' = w := by
  go_enter Try.func38, Try.ntmps38
  go_wp2
  all_goals go_ret
  all_goals refine ⟨ret_int ?_, rfl⟩
  all_goals unfold capI
  all_goals (repeat' split)
  all_goals omega

/-- A byte in capitals; whether a text is a flag's word. -/
def upB (b : UInt8) : UInt8 := if 97 ≤ b.toNat ∧ b.toNat ≤ 122 then UInt8.ofNat (b.toNat - 32) else b
def upL (s : ByteArray) : List UInt8 := s.data.toList.map upB
def matchK (s : ByteArray) (k : Nat) : Bool := upL s == (kw k).data.toList
theorem upB_nat (b : UInt8) : (upB b).toNat = if 97 ≤ b.toNat ∧ b.toNat ≤ 122 then b.toNat - 32 else b.toNat := by
  unfold upB
  split
  · have := b.toNat_lt
    rw [UInt8.toNat_ofNat', Nat.mod_eq_of_lt (by omega)]
  · rfl
theorem cap_up (b : UInt8) : capI (b.toNat : Int) = ((upB b).toNat : Int) := by
  rw [upB_nat]
  unfold capI
  split
  · rename_i h
    rw [if_pos (by omega)]; omega
  · rename_i h
    rw [if_neg (by omega)]
theorem kw_low (k : Nat) : ∀ b ∈ (kw k).data.toList, 65 ≤ b.toNat ∧ b.toNat ≤ 90 := by
  unfold kw; split <;> decide
theorem up_low {b : UInt8} (h : (upB b).toNat ≤ 90) : b.toNat < 128 := by
  rw [upB_nat] at h
  split at h <;> omega
theorem get_b (s : ByteArray) (pos : Nat) (h : pos < s.size) : s.data.toList[pos]'(by rw [Array.length_toList]; exact h) = s[pos] := by
  rw [Array.getElem_toList]; rfl
/-- Of a place: is it as it is in the flag's word? -/
def okAt (s : ByteArray) (k pos : Nat) : Bool := (upL s)[pos]? == (kw k).data.toList[pos]?
theorem match_all {s : ByteArray} {k : Nat} (hs : s.size = (kw k).size) (h : ∀ j, j < s.size → okAt s k j = true) : matchK s k = true := by
  unfold matchK
  rw [beq_iff_eq]
  apply List.ext_getElem?
  intro j
  by_cases hj : j < s.size
  · have := h j hj
    unfold okAt at this
    simpa using this
  · rw [List.getElem?_eq_none (by unfold upL; rw [List.length_map, Array.length_toList]; show s.size ≤ j; omega), List.getElem?_eq_none (by rw [Array.length_toList]; show (kw k).size ≤ j; omega)]
theorem match_not {s : ByteArray} {k pos : Nat} (h : okAt s k pos = false) : matchK s k = false := by
  unfold okAt at h
  unfold matchK
  rw [beq_eq_false_iff_ne] at h ⊢
  exact fun e => h (by rw [e])
theorem match_size {s : ByteArray} {k : Nat} (h : s.size ≠ (kw k).size) : matchK s k = false := by
  unfold matchK
  rw [beq_eq_false_iff_ne]
  intro e
  have := congrArg List.length e
  unfold upL at this
  rw [List.length_map, Array.length_toList, Array.length_toList] at this
  exact h this
theorem decode_ascii (s : ByteArray) (pos : Nat) (h : pos < s.size) (ha : (s[pos]'h).toNat < 128) : Utf8.decode s pos = ((s[pos]'h).toNat, 1) := by
  simp only [Utf8.decode, get_at s pos h, ha, if_true]
/-- What the program finds at a place. -/
theorem at_step {s : ByteArray} {k pos : Nat} (h : pos < s.size) (hk : pos < (kw k).size) :
    (okAt s k pos = true ∧ (Utf8.decode s pos).2 = 1 ∧ capI ((Utf8.decode s pos).1 : Int) = ((kw k)[pos].toNat : Int)) ∨
    (okAt s k pos = false ∧ capI ((Utf8.decode s pos).1 : Int) ≠ ((kw k)[pos].toNat : Int)) := by
  have e1 : (upL s)[pos]? = some (upB s[pos]) := by
    unfold upL
    rw [List.getElem?_map, List.getElem?_eq_getElem (by rw [Array.length_toList]; exact h), get_b s pos h]; rfl
  have e2 : (kw k).data.toList[pos]? = some (kw k)[pos] := by
    rw [List.getElem?_eq_getElem (by rw [Array.length_toList]; exact hk), get_b _ pos hk]
  have hl := kw_low k (kw k)[pos] (List.mem_of_getElem? e2)
  have eo : okAt s k pos = (upB s[pos] == (kw k)[pos]) := by unfold okAt; rw [e1, e2]; rfl
  rw [eo]
  by_cases ha : (s[pos]).toNat < 128
  · rw [decode_ascii s pos h ha, cap_up]
    by_cases e : upB s[pos] = (kw k)[pos]
    · left; rw [e]; simp
    · right
      refine ⟨by simpa using e, fun h2 => e ?_⟩
      have : (upB s[pos]).toNat = (kw k)[pos].toNat := by omega
      exact UInt8.toNat_inj.1 this
  · right
    have hd := (decode_high s pos h (by omega)).1
    refine ⟨?_, ?_⟩
    · rw [beq_eq_false_iff_ne]
      intro e
      exact ha (up_low (by rw [e]; omega))
    · unfold capI
      split <;> omega
end Go.Proofs.Ytnkgkimlmceciaa
