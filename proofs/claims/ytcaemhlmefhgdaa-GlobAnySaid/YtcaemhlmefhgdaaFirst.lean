/- class, classEnd, first: the part that a pattern's characters begin with. -/
import Derived.Test.YtcaemhlmefhgdaaAmong
namespace Go.Proofs.Ytcaemhlmefhgdaa
open Go.RowKit

/-- What a class's characters take. -/
def amongP (cs : List Int) (r : Int) : Bool := (spans cs).any fun p => inSpan p.1 p.2 r
def classP (cs : List Int) (r : Int) : Bool := if cs.getD 0 0 = 94 then !amongP (cs.drop 1) r else amongP cs r

theorem Runes.nil {w : World} {a : Option Addr} : Runes w a [] := ⟨by simp, fun j hj => by simp at hj⟩

theorem Runes.cut {w : World} {a : Option Addr} {cs : List Int} (h : Runes w a cs) (l n : Nat) (hn : l + n ≤ cs.length) : Runes w (a.map (·.add l)) ((cs.drop l).take n) := by
  refine ⟨by have := h.small; simp; omega, fun j hj => ?_⟩
  simp at hj
  obtain ⟨g, off, rfl, hc, hg⟩ := h.at' (l + j) (by omega)
  refine ⟨g, off + l, by simp [Addr.add], ?_, hg⟩
  rw [show off + l + j = off + (l + j) by omega, hc]
  simp [List.getD, hj]
  rw [List.getElem?_eq_getElem (by omega)]
  simp

/-- chars[l:], behind the first l. -/
theorem Runes.rest {w : World} {g off : Nat} {cs : List Int} (h : Runes w (some ⟨g, off, none⟩) cs) (l : Nat) (h1 : l ≤ cs.length) : Runes w (some ⟨g, off + l, none⟩) (cs.drop l) := by
  have := h.cut l (cs.length - l) (by omega)
  rw [List.take_of_length_le (by simp)] at this
  have hadd : (⟨g, off, none⟩ : Addr).add l = ⟨g, off + l, none⟩ := by unfold Addr.add; split <;> simp_all
  rw [Option.map_some, hadd] at this
  exact this
theorem Runes.rest_nil {w : World} {a : Option Addr} {cs : List Int} {cap l : Nat} (hc : cs.length ≤ cap) (h1 : cap = l) : Runes w a (cs.drop l) := by
  rw [List.drop_eq_nil_of_le (by omega)]; exact Runes.nil

theorem among_len (a : Option Addr) (n cap : Nat) (cs : List Int) (w : World) (h : Runes w a cs) (hn : cs.length = n) :
    Calls Try.prog 28 #[.slice a n cap] w fun e w' => ∃ u, e = .returned u ∧ Takes okAll w' u (amongP cs) ∧ Below w.heap.size w w' := by
  subst hn; exact among_any a cap cs w h

theorem classP_not {cs : List Int} {x0 : Int} (h : (x0 == 94) = true) (E0 : Hid (cs.getD 0 0 = x0)) : classP cs = fun r => !amongP (cs.drop 1) r := by
  funext r; rw [classP, E0.out, if_pos (by simpa using h)]
theorem classP_yes {cs : List Int} {x0 : Int} (h : (x0 == 94) = false) (E0 : Hid (cs.getD 0 0 = x0)) : classP cs = amongP cs := by
  funext r; rw [classP, E0.out, if_neg (by simpa using h)]

set_option maxHeartbeats 400000 in
theorem class_any (a : Option Addr) (cap : Nat) (cs : List Int) (w : World) (h : Runes w a cs) (hcap : cs.length ≤ cap) (hp : 1 ≤ cs.length) :
    Calls Try.prog 27 #[.slice a cs.length cap] w fun e w' => ∃ u, e = .returned u ∧ Takes okAll w' u (classP cs) ∧ Below w.heap.size w w' := by
  obtain ⟨g, off, rfl, hg, hcs⟩ := h.cells (by omega)
  have hc0 := hcs 0 (by omega)
  rw [Nat.add_zero] at hc0
  have hsm := h.small
  clear hcs
  generalize ex0 : cs.getD 0 0 = x0 at *
  have E0 := Lib.hid ex0
  clear ex0
  by_cases h94 : (x0 == 94) = true
  · have ht := Lib.hid (h.rest 1 hp)
    have hn := Lib.hid (fun e : cap = 1 => Runes.rest_nil (w := w) (a := some ⟨g, off, none⟩) hcap e)
    go_enter Try.func27, Try.ntmps27
    go_wp2_with fail
    all_goals refine (among_len _ _ _ (cs.drop 1) _ (by first | exact ht.out | exact hn.out (by assumption)) (by simp)).mono ?_
    all_goals rintro e w1 ⟨u, rfl, hu, hb⟩
    all_goals go_wp2_with fail
    all_goals refine (not_any u _ w1 hu).mono ?_
    all_goals rintro e w2 ⟨u2, rfl, hu2, hb2⟩
    all_goals go_wp2
    all_goals go_ret
    all_goals exact ⟨u2, rfl, by rw [classP_not h94 E0]; exact hu2, hb.trans (hb2.mono hb.size)⟩
  · have h94' : (x0 == 94) = false := by simpa using h94
    clear h94
    have HA := Lib.hid (among_len _ _ cap cs w h rfl)
    go_enter Try.func27, Try.ntmps27
    go_wp2_with fail
    refine HA.out.mono ?_
    rintro e w1 ⟨u, rfl, hu, hb⟩
    go_wp2
    go_ret
    exact ⟨u, rfl, by rw [classP_yes h94' E0]; exact hu, hb⟩

/-- Where the class that these characters begin with ends; 0: there is none. -/
def leastS (cs : List Int) : Nat := if 1 < cs.length ∧ cs.getD 1 0 = 94 then 3 else 2
def endP (cs : List Int) (l i : Nat) : Bool := decide (l ≤ i) && (cs.getD i 0 == 93)
def classEndS (cs : List Int) : Nat := ((List.range cs.length).find? (endP cs (leastS cs))).getD 0

theorem find_first {n k : Nat} {p : Nat → Bool} (hk : k < n) (h : p k = true) (hno : ∀ j, j < k → p j = false) : (List.range n).find? p = some k := by
  rw [List.find?_eq_some_iff_getElem]
  refine ⟨h, k, by simpa using hk, by simp, fun j hj => ?_⟩
  simpa using hno j hj
theorem find_none {n : Nat} {p : Nat → Bool} (hno : ∀ j, j < n → p j = false) : (List.range n).find? p = none := by
  rw [List.find?_eq_none]
  intro j hj
  simpa using hno j (by simpa using hj)

def NoEnd (cs : List Int) (l k : Nat) : Prop := ∀ j, j < k → endP cs l j = false

theorem noEnd_step {cs : List Int} {l k : Nat} (h : NoEnd cs l k) (he : endP cs l k = false) : NoEnd cs l (k + 1) := fun j hj => by
  by_cases e : j = k
  · subst e; exact he
  · exact h j (by omega)
theorem end_not {cs : List Int} {l k : Nat} {x : Int} (EX : Hid (cs.getD k 0 = x)) (hx : (x == 93) = false) : endP cs l k = false := by
  rw [endP, EX.out, hx, Bool.and_false]
theorem end_low {cs : List Int} {l k : Nat} (h : ¬ l ≤ k) : endP cs l k = false := by
  rw [endP, decide_eq_false h, Bool.false_and]
theorem end_found {cs : List Int} {l k : Nat} {x : Int} (HL : Hid (leastS cs = l)) (hk : k < cs.length) (hl : l ≤ k) (EX : Hid (cs.getD k 0 = x)) (hx : (x == 93) = true) (hno : NoEnd cs l k) : k = classEndS cs := by
  rw [classEndS, HL.out, find_first hk (by rw [endP, EX.out, hx, decide_eq_true hl]; rfl) hno]; rfl
theorem end_none {cs : List Int} {l k : Nat} (HL : Hid (leastS cs = l)) (hk : cs.length ≤ k) (hno : NoEnd cs l k) : 0 = classEndS cs := by
  rw [classEndS, HL.out, find_none fun j hj => hno j (by omega)]; rfl
theorem ret_nat {a b : Nat} (h : a = b) : Ending.returned (.int .i64 (a : Int)) = .returned (.int .i64 (b : Int)) := by rw [h]

set_option maxHeartbeats 400000 in
theorem classEnd_any (a : Option Addr) (cap : Nat) (cs : List Int) (w : World) (h : Runes w a cs) (hp : 1 ≤ cs.length) :
    Calls Try.prog 26 #[.slice a cs.length cap] w fun e w' => e = .returned (.int .i64 (classEndS cs)) ∧ w' = w := by
  obtain ⟨g, off, rfl, hg, hcs⟩ := h.cells (by omega)
  have hsm := h.small
  clear h
  by_cases h1 : 1 < cs.length
  · have hc1 := hcs 1 h1
    by_cases h94 : (cs.getD 1 0 == 94) = true
    · have hl : leastS cs = 3 := by unfold leastS; rw [if_pos ⟨h1, by simpa using h94⟩]
      have HL := Lib.hid hl
      clear hl
      generalize ex1 : cs.getD 1 0 = x1 at hc1 h94
      clear ex1
      have HC := Lib.hid hcs
      clear hcs
      go_enter Try.func26, Try.ntmps26
      go_wp2
      go_loop [17] (fun i => ∃ k : Nat, k ≤ cs.length ∧ i = .int .i64 k ∧ NoEnd cs 3 k) (fun i => cs.length - (intOf i).toNat)
      case atStart => exact ⟨0, Nat.zero_le _, rfl, fun j hj => by omega⟩
      case round =>
        obtain ⟨k, hk, rfl, hno⟩ := hrel
        by_cases hlt : k < cs.length
        · have hc := HC.out k hlt
          generalize ex : cs.getD k 0 = x at hc
          have EX := Lib.hid ex
          clear ex
          by_cases hlk : 3 ≤ k
          · cases hx : (x == 93)
            · have HX := Lib.hid hx
              go_wp2
              go_round
              case rel => exact ⟨k + 1, by omega, by go_num, noEnd_step hno (end_not EX HX.out)⟩
              case measure => simp [intOf]; omega
            · have HX := Lib.hid hx
              go_wp2
              go_ret
              exact ⟨ret_nat (end_found HL hlt hlk EX HX.out hno), rfl⟩
          · go_wp2
            go_round
            case rel => exact ⟨k + 1, by omega, by go_num, noEnd_step hno (end_low hlk)⟩
            case measure => simp [intOf]; omega
        · go_wp2
          go_ret
          exact ⟨ret_nat (end_none HL (by omega) hno), rfl⟩
    · have hl : leastS cs = 2 := by unfold leastS; rw [if_neg (fun h => h94 (by simpa using h.2))]
      have h94' : (cs.getD 1 0 == 94) = false := by simpa using h94
      clear h94
      have HL := Lib.hid hl
      clear hl
      generalize ex1 : cs.getD 1 0 = x1 at hc1 h94'
      clear ex1
      have HC := Lib.hid hcs
      clear hcs
      go_enter Try.func26, Try.ntmps26
      go_wp2
      go_loop [17] (fun i => ∃ k : Nat, k ≤ cs.length ∧ i = .int .i64 k ∧ NoEnd cs 2 k) (fun i => cs.length - (intOf i).toNat)
      case atStart => exact ⟨0, Nat.zero_le _, rfl, fun j hj => by omega⟩
      case round =>
        obtain ⟨k, hk, rfl, hno⟩ := hrel
        by_cases hlt : k < cs.length
        · have hc := HC.out k hlt
          generalize ex : cs.getD k 0 = x at hc
          have EX := Lib.hid ex
          clear ex
          by_cases hlk : 2 ≤ k
          · cases hx : (x == 93)
            · have HX := Lib.hid hx
              go_wp2
              go_round
              case rel => exact ⟨k + 1, by omega, by go_num, noEnd_step hno (end_not EX HX.out)⟩
              case measure => simp [intOf]; omega
            · have HX := Lib.hid hx
              go_wp2
              go_ret
              exact ⟨ret_nat (end_found HL hlt hlk EX HX.out hno), rfl⟩
          · go_wp2
            go_round
            case rel => exact ⟨k + 1, by omega, by go_num, noEnd_step hno (end_low hlk)⟩
            case measure => simp [intOf]; omega
        · go_wp2
          go_ret
          exact ⟨ret_nat (end_none HL (by omega) hno), rfl⟩
  · have hl : leastS cs = 2 := by unfold leastS; rw [if_neg (fun h => h1 h.1)]
    have HL := Lib.hid hl
    clear hl
    have HC := Lib.hid hcs
    clear hcs
    go_enter Try.func26, Try.ntmps26
    go_wp2
    go_loop [17] (fun i => ∃ k : Nat, k ≤ cs.length ∧ i = .int .i64 k ∧ NoEnd cs 2 k) (fun i => cs.length - (intOf i).toNat)
    case atStart => exact ⟨0, Nat.zero_le _, rfl, fun j hj => by omega⟩
    case round =>
      obtain ⟨k, hk, rfl, hno⟩ := hrel
      by_cases hlt : k < cs.length
      · have hc := HC.out k hlt
        generalize ex : cs.getD k 0 = x at hc
        have EX := Lib.hid ex
        clear ex
        have hlk : ¬ 2 ≤ k := by omega
        · go_wp2
          go_round
          case rel => exact ⟨k + 1, by omega, by go_num, noEnd_step hno (end_low hlk)⟩
          case measure => simp [intOf] <;> omega
      · go_wp2
        go_ret
        exact ⟨ret_nat (end_none HL (by omega) hno), rfl⟩

end Go.Proofs.Ytcaemhlmefhgdaa
