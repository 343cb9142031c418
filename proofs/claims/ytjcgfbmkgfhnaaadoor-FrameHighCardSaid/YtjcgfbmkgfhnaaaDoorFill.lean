/- A number's digits in a row, which may be one place too short: what the row then holds. -/
import Derived.Test.YtjcgfbmkgfhnaaaDoorBase
import Derived.Lib.Itoa
import Derived.Lib.ItoaMem
namespace Go.Proofs.YtjcgfbmkgfhnaaaDoor
open Go.RowKit Go.Shelf

/-- A text of bytes. -/
def ba (l : List UInt8) : ByteArray := ⟨l.toArray⟩
abbrev e8 (b : UInt8) : Value := .int .u8 (b.toNat : Int)

/-- The byte at place t of a row of m: a digit, but at the first place of an odd row, where all stands that is left. -/
def tgt (u m t : Nat) : UInt8 := if t = 0 ∧ m % 2 = 1 then UInt8.ofNat (48 + u / 10 ^ (m - 1)) else Lib.dg u (m - 1 - t)

/-- The places from nd on are filled, v is left of u. -/
structure Fill (m u nd v : Nat) (d : Array UInt8) : Prop where
  size : d.size = m
  le : nd ≤ m
  par : nd = 0 ∨ nd % 2 = m % 2
  rest : v = u / 10 ^ (m - nd)
  small : v < 10 ^ (nd + 1)
  done : ∀ t, nd ≤ t → t < m → d[t]! = tgt u m t

theorem Fill.start (d : Array UInt8) (u : Nat) (h : u < 10 ^ (d.size + 1)) : Fill d.size u d.size u d := ⟨rfl, Nat.le_refl _, .inr rfl, by simp, h, fun t h1 h2 => by omega⟩

theorem Fill.pair {m u k v : Nat} {d : Array UInt8} (h : Fill m u (k + 2) v d) : Fill m u k (v / 100) ((d.setIfInBounds (k + 1) (Lib.sm (v % 100 * 2 + 1))).setIfInBounds k (Lib.sm (v % 100 * 2))) := by
  have hle := h.le
  have hpar := h.par
  have hp : v % 100 < 100 := Nat.mod_lt _ (by decide)
  have hr := h.rest
  refine ⟨by simp [h.size], by omega, by omega, ?_, ?_, fun t h1 h3 => ?_⟩
  · rw [hr, Nat.div_div_eq_div_mul, show m - k = m - (k + 2) + 2 by omega, Nat.pow_add]
  · have hs := h.small
    rw [show k + 2 + 1 = k + 1 + 2 by omega, Nat.pow_add] at hs
    exact Nat.div_lt_of_lt_mul (by rw [Nat.mul_comm]; exact hs)
  · rcases Nat.lt_or_ge t (k + 2) with h2 | h2
    · rcases Nat.lt_or_ge t (k + 1) with h4 | h4
      · obtain rfl : t = k := by omega
        rw [Lib.get_set_same _ _ _ (by simp [h.size]; omega), Lib.sm_hi _ hp]
        unfold tgt Lib.dg
        rw [if_neg (by omega), show m - 1 - t = m - (t + 2) + 1 by omega, Nat.pow_succ, ← Nat.div_div_eq_div_mul, ← hr]
        congr 2
        omega
      · obtain rfl : t = k + 1 := by omega
        rw [Lib.get_set_other _ _ _ _ (by omega), Lib.get_set_same _ _ _ (by rw [h.size]; omega), Lib.sm_lo _ hp]
        unfold tgt Lib.dg
        rw [if_neg (by omega), show m - 1 - (k + 1) = m - (k + 2) by omega, ← hr]
        congr 2
        omega
    · rw [Lib.get_set_other _ _ _ _ (by omega), Lib.get_set_other _ _ _ _ (by omega)]
      exact h.done t h2 h3

theorem Fill.last {m u v : Nat} {d : Array UInt8} (h : Fill m u 1 v d) : Fill m u 0 (v / 10) (d.setIfInBounds 0 (UInt8.ofNat (48 + v))) := by
  have hle := h.le
  have hpar := h.par
  have hs := h.small
  have hr := h.rest
  refine ⟨by simp [h.size], Nat.zero_le _, .inl rfl, ?_, ?_, fun t _ h3 => ?_⟩
  · rw [hr, Nat.div_div_eq_div_mul, show m - 0 = m - 1 + 1 by omega, Nat.pow_succ]
  · simp at hs ⊢; omega
  · by_cases e0 : t = 0
    · subst e0
      rw [Lib.get_set_same _ _ _ (by rw [h.size]; omega)]
      unfold tgt
      rw [if_pos (by omega), ← hr]
    · rw [Lib.get_set_other _ _ _ _ e0]
      exact h.done t (by omega) h3

theorem Fill.small8 {m u nd v : Nat} {d : Array UInt8} (h : Fill m u nd v d) (h8 : nd < 8) : v < 100000000 :=
  Nat.lt_of_lt_of_le h.small (by have := Nat.pow_le_pow_right (n := 10) (by decide) (show nd + 1 ≤ 8 by omega); simpa using this)
theorem Fill.small2 {m u v : Nat} {d : Array UInt8} (h : Fill m u 1 v d) : v < 100 := by simpa using h.small

/-- What the row holds in the end. -/
def tgtL (u m : Nat) : List UInt8 := (List.range m).map (tgt u m)
theorem tgtL_length (u m : Nat) : (tgtL u m).length = m := by simp [tgtL]
theorem Fill.at {m u v : Nat} {d : Array UInt8} (h : Fill m u 0 v d) (j : Nat) (hj : j < (tgtL u m).length) : (tgtL u m)[j] = d[j]! := by
  rw [tgtL_length] at hj
  rw [h.done j (Nat.zero_le _) hj]
  simp [tgtL]

end Go.Proofs.YtjcgfbmkgfhnaaaDoor
