/- Plain facts on a text's characters: lists of bytes, lists of code points. Nothing of the program. -/
import Derived.Test.YtbjjgkicjnoegaaDoorBase
import Derived.Laws.RangeAny
import Derived.Laws.Cover4
namespace Go.Proofs.YtbjjgkicjnoegaaDoor

def cont (b : UInt8) : Bool := b.toNat / 64 == 2

/-- The first character of a list of bytes, and how many it takes. -/
def decL (l : List UInt8) : Nat × Nat := Utf8.decode ⟨l.toArray⟩ 0

theorem get_getD (s : ByteArray) (n : Nat) : s.get! n = s.data.toList.getD n 0 := by
  show s.data[n]! = _
  by_cases h : n < s.data.size
  · rw [getElem!_pos s.data n h, List.getD_eq_getElem?_getD, List.getElem?_eq_getElem (by simpa using h)]
    simp
  · rw [getElem!_neg s.data n h, List.getD_eq_getElem?_getD, List.getElem?_eq_none (by simpa using h)]
    rfl

theorem get_list (l : List UInt8) (k : Nat) : ByteArray.get! ⟨l.toArray⟩ (0 + k) = l.getD k 0 := by
  rw [get_getD, Nat.zero_add]
theorem lt_list (l : List UInt8) (k : Nat) : decide (0 + k < ByteArray.size ⟨l.toArray⟩) = decide (k < l.length) := by
  rw [Nat.zero_add, decide_eq_decide]
  show k < l.toArray.size ↔ _
  simp

theorem dec_eq (s : ByteArray) (i : Nat) : Utf8.decode s i = decL (s.data.toList.drop i) := by
  have h1 : ∀ k, s.get! (i + k) = (s.data.toList.drop i).getD k 0 := fun k => by
    rw [get_getD]; simp [List.getD, List.getElem?_drop]
  have h2 : ∀ k, decide (i + k < s.size) = decide (k < (s.data.toList.drop i).length) := fun k => by
    rw [decide_eq_decide, List.length_drop, Array.length_toList]
    show i + k < s.data.size ↔ _
    omega
  simp only [decL, Utf8.decode, get_list, lt_list, h1, h2]

theorem decL_width (l : List UInt8) : 1 ≤ (decL l).2 ∧ ((decL l).2 ≤ 1 ∨ (decL l).2 ≤ l.length) := by
  simp only [decL, Utf8.decode, get_list, lt_list]
  repeat' split
  all_goals simp_all
  all_goals omega

/-- The first character hangs on the first byte and the continuation bytes behind it alone. -/
theorem decL_cont (b : UInt8) (l : List UInt8) : decL (b :: l) = decL (b :: l.takeWhile cont) := by
  match l with
  | [] => rfl
  | [x] => by_cases hx : cont x <;> simp [hx] <;> simp only [decL, Utf8.decode, get_list, lt_list] <;> simp_all [cont]
  | [x, y] => by_cases hx : cont x <;> by_cases hy : cont y <;> simp [hx, hy] <;> simp only [decL, Utf8.decode, get_list, lt_list] <;> simp_all [cont]
  | x :: y :: z :: r => by_cases hx : cont x <;> by_cases hy : cont y <;> by_cases hz : cont z <;> simp [hx, hy, hz] <;> simp only [decL, Utf8.decode, get_list, lt_list] <;> simp_all [cont]

theorem decL_width_run (b : UInt8) (l : List UInt8) : 1 ≤ (decL (b :: l)).2 ∧ (decL (b :: l)).2 ≤ 1 + (l.takeWhile cont).length := by
  have h := decL_width (b :: l.takeWhile cont)
  rw [← decL_cont] at h
  simp only [List.length_cons] at h
  omega

/-- A list's characters. -/
def rl : Nat → List UInt8 → List Int
  | 0, _ => []
  | _ + 1, [] => []
  | f + 1, b :: l => ((decL (b :: l)).1 : Int) :: rl f ((b :: l).drop (decL (b :: l)).2)
def runesL (l : List UInt8) : List Int := rl l.length l

theorem rl_more : ∀ (f : Nat) (l : List UInt8), l.length ≤ f → rl f l = rl l.length l := by
  intro f
  induction f using Nat.strongRecOn with
  | ind f ih =>
    intro l h
    cases l with
    | nil => cases f <;> rfl
    | cons b l =>
      cases f with
      | zero => simp at h
      | succ f =>
        have hw := decL_width_run b l
        simp only [List.length_cons] at h
        simp only [List.length_cons, rl]
        rw [ih f (by omega) _ (by simp; omega), ih l.length (by omega) ((b :: l).drop (decL (b :: l)).2) (by simp; omega)]
theorem runesL_nil : runesL [] = [] := rfl
theorem runesL_cons (b : UInt8) (l : List UInt8) : runesL (b :: l) = ((decL (b :: l)).1 : Int) :: runesL ((b :: l).drop (decL (b :: l)).2) := by
  have hw := decL_width_run b l
  show rl (l.length + 1) (b :: l) = _
  rw [rl, rl_more l.length _ (by simp; omega)]
  rfl

theorem takeWhile_stop {a b : List UInt8} (h : ∀ x l, b = x :: l → cont x = false) : (a ++ b).takeWhile cont = a.takeWhile cont := by
  induction a with
  | nil =>
    cases b with
    | nil => rfl
    | cons x l => simp [h x l rfl]
  | cons c a ih => simp only [List.cons_append, List.takeWhile_cons, ih]

/-- Two texts' characters, if the second does not begin in the middle of one. -/
theorem runesL_append : ∀ (n : Nat) (a b : List UInt8), a.length ≤ n → (∀ x l, b = x :: l → cont x = false) → runesL (a ++ b) = runesL a ++ runesL b := by
  intro n
  induction n with
  | zero =>
    intro a b h _
    have : a = [] := List.eq_nil_of_length_eq_zero (by omega)
    subst this; simp [runesL_nil]
  | succ n ih =>
    intro a b h hb
    cases a with
    | nil => simp [runesL_nil]
    | cons c a =>
      have hw := decL_width_run c a
      have hl : (a.takeWhile cont).length ≤ a.length := (List.takeWhile_sublist cont).length_le
      have e : decL (c :: (a ++ b)) = decL (c :: a) := by rw [decL_cont, takeWhile_stop hb, ← decL_cont]
      rw [List.cons_append, runesL_cons, runesL_cons, e]
      have e2 : (c :: (a ++ b)).drop (decL (c :: a)).2 = (c :: a).drop (decL (c :: a)).2 ++ b := by
        rw [← List.cons_append, List.drop_append_of_le_length (by simp; omega)]
      rw [e2, ih _ _ (by simp at h ⊢; omega) hb]
      rfl

theorem decL_ascii (b : UInt8) (l : List UInt8) (h : b.toNat < 128) : decL (b :: l) = (b.toNat, 1) := by
  simp only [decL, Utf8.decode, get_list, lt_list]
  simp [h]
theorem runesL_ascii (b : UInt8) (l : List UInt8) (h : b.toNat < 128) : runesL (b :: l) = (b.toNat : Int) :: runesL l := by
  rw [runesL_cons, decL_ascii b l h]; rfl
theorem cont_ascii {b : UInt8} (h : b.toNat < 128) : cont b = false := by
  simp [cont]; omega
theorem high_cont {b : UInt8} (h : cont b = true) : 128 ≤ b.toNat := by
  simp [cont] at h; omega

/-- A byte that is no ASCII one begins a character that is none. -/
theorem decL_high (b : UInt8) (l : List UInt8) (h : 128 ≤ b.toNat) : 128 ≤ (decL (b :: l)).1 := by
  have hn : ¬ b.toNat < 128 := by omega
  simp only [decL, Utf8.decode, get_list, lt_list, List.getD_cons_zero, hn, if_false]
  repeat' split
  all_goals simp_all [Utf8.runeError]
  all_goals omega


end Go.Proofs.YtbjjgkicjnoegaaDoor
