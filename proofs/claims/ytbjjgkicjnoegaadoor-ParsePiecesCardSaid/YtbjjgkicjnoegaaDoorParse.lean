/- ints.Parse, whatever the library's table holds. -/
import Derived.Test.YtbjjgkicjnoegaaDoorTurn
namespace Go.Proofs.YtbjjgkicjnoegaaDoor
open Go.RowKit Go.Shelf

theorem number_value (n : Int) (w : World) : Calls Tryd.prog 46 #[.iface 64 (.int .i64 n)] w fun e w' => e = .returned (.tuple #[.int .i64 n, .bool true]) ∧ w' = w := by
  have t1 := fun u W => (as64 u W).2
  go_enter Tryd.func46, Tryd.ntmps46
  go_wp2
  go_ret2
  exact ⟨rfl, rfl⟩
theorem number_digits (s : ByteArray) (w : World) : Calls Tryd.prog 46 #[.iface 87 (.string s)] w fun e w' => e = .returned (.tuple #[.int .i64 0, .bool false]) ∧ w' = w := by
  have t1 := fun u W => (as87 u W).2
  go_enter Tryd.func46, Tryd.ntmps46
  go_wp2
  go_ret2
  exact ⟨rfl, rfl⟩

/-- What Parse answers. -/
def parseV : Option Int → Value
  | some n => .tuple #[.int .i64 n, .int .i64 0]
  | none => .tuple #[.int .i64 0, .int .i64 10]

theorem parse_yes (s : ByteArray) (n : Int) (w : World) (HT : Calls Tryd.prog 47 #[.string s] w fun e w' => e = .returned (.iface 64 (.int .i64 n)) ∧ Below w.heap.size w w') :
    Calls Tryd.prog 42 #[.string s] w fun e w' => e = .returned (parseV (some n)) ∧ Below w.heap.size w w' := by
  have HH := Lib.hid HT
  have HN := fun w => Lib.hid (number_value n w)
  go_enter Tryd.func42, Tryd.ntmps42
  go_wp2_with (first
    | (go_at_call 47; refine HH.out.mono ?_; rintro e w1 ⟨rfl, hb⟩)
    | (go_at_call 46; refine (HN _).out.mono ?_; rintro e w2 ⟨rfl, rfl⟩))
  go_ret2
  exact ⟨rfl, hb⟩
theorem parse_no (s : ByteArray) (w : World) (HT : Calls Tryd.prog 47 #[.string s] w fun e w' => e = .returned (.iface 87 (.string s)) ∧ Below w.heap.size w w') :
    Calls Tryd.prog 42 #[.string s] w fun e w' => e = .returned (parseV none) ∧ Below w.heap.size w w' := by
  have HH := Lib.hid HT
  have HN := fun w => Lib.hid (number_digits s w)
  go_enter Tryd.func42, Tryd.ntmps42
  go_wp2_with (first
    | (go_at_call 47; refine HH.out.mono ?_; rintro e w1 ⟨rfl, hb⟩)
    | (go_at_call 46; refine (HN _).out.mono ?_; rintro e w2 ⟨rfl, rfl⟩))
  go_ret2
  exact ⟨rfl, hb⟩

theorem parse_any (T : Nat → Int) (s : ByteArray) (hs : s.size ≤ 9223372036854775807) (w : World) (hT : Tab T w) (h2 : 1 < w.heap.size) :
    Calls Tryd.prog 42 #[.string s] w fun e w' => e = .returned (parseV (parseS T s.data.toList)) ∧ Below w.heap.size w w' := by
  unfold parseS
  rw [size_list, ba_of]
  rcases Nat.lt_or_ge 20 s.size with h | h
  · rw [if_pos h]
    refine parse_no s w ((turn_long s h hs w).mono ?_)
    rintro e w' ⟨rfl, rfl⟩
    exact ⟨rfl, Below.refl _ _⟩
  · rw [if_neg (by omega)]
    have ht := turn_short T s h w hT h2
    unfold TurnPost at ht
    split
    · rename_i he
      rw [if_pos he] at ht
      exact parse_yes s _ w ht
    · rename_i he
      rw [if_neg he] at ht
      exact parse_no s w ht

theorem looseR_i64 : ∀ (rs : List Int) (n sg : Int), i64R n → i64R (looseR n sg rs)
  | [], n, sg, h => h
  | r :: rs, n, sg, h => by
    unfold looseR
    split
    · exact looseR_i64 rs _ _ h
    · split
      · exact looseR_i64 rs _ _ (wrap64_i64 _)
      · exact h
theorem parseS_i64 {T : Nat → Int} {l : List UInt8} {n : Int} (h : parseS T l = some n) : i64R n := by
  unfold parseS at h
  split at h
  · cases h
  · split at h
    · cases h; exact looseR_i64 _ _ _ (by unfold i64R; omega)
    · cases h

/-- Small numbers are read whatever the table holds. -/
theorem parseS_small (T : Nat → Int) (l : List UInt8) (n : Nat) (hn : n < 100) (hl : ¬ 20 < l.length) (hr : looseR 0 1 (runesS (ba l)) = n) : parseS T l = if Lib.decDigits n = l then some (n : Int) else none := by
  unfold parseS
  rw [if_neg hl, hr, fmtS_small T hn]
theorem parse_two (T : Nat → Int) : parseS T [50] = some 2 := by rw [parseS_small T [50] 2 (by decide) (by decide) (by decide +kernel)]; decide +kernel
theorem parse_three (T : Nat → Int) : parseS T [51] = some 3 := by rw [parseS_small T [51] 3 (by decide) (by decide) (by decide +kernel)]; decide +kernel
theorem parse_one (T : Nat → Int) : parseS T [49] = some 1 := by rw [parseS_small T [49] 1 (by decide) (by decide) (by decide +kernel)]; decide +kernel
theorem parse_x (T : Nat → Int) : parseS T [120] = none := by rw [parseS_small T [120] 0 (by decide) (by decide) (by decide +kernel)]; decide +kernel

end Go.Proofs.YtbjjgkicjnoegaaDoor
