/- ParseEdge of any text, Parse of two. -/
import Derived.Test.YtfnofnilcflcmaaOpened
namespace Go.Proofs.Ytfnofnilcflcmaa
open Go.RowKit
attribute [local go_sem] Oper.semAt_some

theorem opened_any (s : ByteArray) (hs : s.size ≤ maxLen) (w : World) : Calls Try.prog 27 #[.string s] w fun e w' => e = .returned (.tuple #[.int .i32 (markS s), .string (restS s)]) ∧ Below w.heap.size w w' := by
  by_cases h : 0 < s.size
  · exact opened_some s h hs w
  · obtain rfl : s = ⟨#[]⟩ := by
      cases s with | mk d => congr; exact Array.eq_empty_of_size_eq_zero (by simpa [ByteArray.size] using h)
    exact opened_none w

/-- What ParseEdge answers. -/
def edgeS (s : ByteArray) : Value :=
  if s = ⟨#[45]⟩ then .tuple #[.agg #[.string ⟨#[]⟩, .bool false, .int .i64 (-1)], .int .i64 0]
  else if s = ⟨#[43]⟩ then .tuple #[.agg #[.string ⟨#[]⟩, .bool false, .int .i64 1], .int .i64 0]
  else if markS s = 0 then .tuple #[.agg #[.string ⟨#[]⟩, .bool false, .int .i64 0], .int .i64 80]
  else .tuple #[.agg #[.string (restS s), .bool (markS s == 40), .int .i64 0], .int .i64 0]

theorem lit_true {s : ByteArray} (l : List UInt8) (h : s = ⟨l.toArray⟩) : (s.toList == l) = true := by subst h; rw [Lib.toList_data]; simp
theorem lit_false {s : ByteArray} (l : List UInt8) (h : ¬ s = ⟨l.toArray⟩) : (s.toList == l) = false := by
  rw [beq_eq_false_iff_ne]; intro e; apply h; rw [Lib.toList_data] at e; cases s; simp_all [← e]
theorem seq_true {a b : ByteArray} (h : a = b) : (a.toList == b.toList) = true := by subst h; simp
theorem seq_false {a b : ByteArray} (h : ¬ a = b) : (a.toList == b.toList) = false := by rw [beq_eq_false_iff_ne]; exact fun e => h (toList_inj e)

set_option maxRecDepth 100000 in
set_option maxHeartbeats 1000000 in
theorem parseEdge_any (s : ByteArray) (hs : s.size ≤ maxLen) (w : World) : Calls Try.prog 17 #[.string s] w fun e w' => e = .returned (edgeS s) ∧ Below w.heap.size w w' := by
  have HO := fun w => Lib.hid (opened_any s hs w)
  by_cases h1 : s = ⟨#[45]⟩
  · have e1 := lit_true [45] h1
    have HE := Lib.hid (show edgeS s = _ from if_pos h1)
    clear h1
    go_enter Try.func17, Try.ntmps17
    go_wp2
    exact bodyPost_ret (v := .tuple #[.agg #[.string ⟨#[]⟩, .bool false, .int .i64 (-1)], .int .i64 0]) (by simp [results, Try.results17, go_sem]) rfl ⟨by rw [HE.out], (((Below.refl _ _).alloc (Nat.le_refl _) _))⟩
  · have e1 := lit_false [45] h1
    by_cases h2 : s = ⟨#[43]⟩
    · have e2 := lit_true [43] h2
      have HE := Lib.hid (show edgeS s = _ from (if_neg h1).trans (if_pos h2))
      clear h2 h1
      go_enter Try.func17, Try.ntmps17
      go_wp2
      exact bodyPost_ret (v := .tuple #[.agg #[.string ⟨#[]⟩, .bool false, .int .i64 1], .int .i64 0]) (by simp [results, Try.results17, go_sem]) rfl ⟨by rw [HE.out], (((Below.refl _ _).alloc (Nat.le_refl _) _))⟩
    · have e2 := lit_false [43] h2
      by_cases h3 : markS s = 0
      · have e3 : (markS s == 0) = true := by simpa using h3
        have HE := Lib.hid (show edgeS s = _ from (if_neg h1).trans ((if_neg h2).trans (if_pos h3)))
        clear h2 h1 h3
        generalize markS s = M at *
        generalize restS s = R at *
        go_enter Try.func17, Try.ntmps17
        go_wp2_with fail
        refine (HO _).out.mono ?_
        rintro e w1 ⟨rfl, hb⟩
        obtain ⟨hc, hf⟩ := bcell hb
        have hz : w.heap.size < w1.heap.size := by have := hb.size; simp at this; omega
        go_wp2_with fail
        exact bodyPost_ret (v := .tuple #[.agg #[.string ⟨#[]⟩, .bool false, .int .i64 0], .int .i64 80]) (by simp [results, Try.results17, go_sem, hc]) rfl ⟨by rw [HE.out], (((((Below.refl _ _).alloc (Nat.le_refl _) _).trans (hb.mono (by simp))).setCell (by simp) _).setCell (by simp) _).setCell (by simp) _⟩
      · have e3 : (markS s == 0) = false := by simpa using h3
        have HE := Lib.hid (show edgeS s = _ from (if_neg h1).trans ((if_neg h2).trans (if_neg h3)))
        clear h2 h1 h3
        generalize markS s = M at *
        generalize restS s = R at *
        go_enter Try.func17, Try.ntmps17
        go_wp2_with fail
        refine (HO _).out.mono ?_
        rintro e w1 ⟨rfl, hb⟩
        obtain ⟨hc, hf⟩ := bcell hb
        have hz : w.heap.size < w1.heap.size := by have := hb.size; simp at this; omega
        go_wp2_with fail
        exact bodyPost_ret (v := .tuple #[.agg #[.string R, .bool (M == 40), .int .i64 0], .int .i64 0]) (by simp [results, Try.results17, go_sem, hc]) rfl ⟨by rw [HE.out], (((((Below.refl _ _).alloc (Nat.le_refl _) _).trans (hb.mono (by simp))).setCell (by simp) _).setCell (by simp) _).setCell (by simp) _⟩

/-- What Parse answers of (5 and 05. -/
theorem number_five (w : World) : Calls Try.prog 38 #[.iface 68 (.int .i64 5)] w fun e w' => e = .returned (.tuple #[.int .i64 5, .bool true]) ∧ w' = w := by
  have t1 := fun u W => (as68 u W).2
  go_enter Try.func38, Try.ntmps38
  go_wp2
  go_ret2
  exact ⟨rfl, rfl⟩
theorem number_digits (s : ByteArray) (w : World) : Calls Try.prog 38 #[.iface 65 (.string s)] w fun e w' => e = .returned (.tuple #[.int .i64 0, .bool false]) ∧ w' = w := by
  have t1 := fun u W => (as65 u W).2
  go_enter Try.func38, Try.ntmps38
  go_wp2
  go_ret2
  exact ⟨rfl, rfl⟩
theorem all53 : allD (runesS ⟨#[53]⟩) := by
  have : runesS ⟨#[53]⟩ = [53] := by decide +kernel
  rw [this]; simp [allD]
theorem all4853 : allD (runesS ⟨#[48, 53]⟩) := by
  have : runesS ⟨#[48, 53]⟩ = [48, 53] := by decide +kernel
  rw [this]; simp [allD]
theorem parse_yes (w : World) : Calls Try.prog 28 #[.string ⟨#[53]⟩] w fun e w' => e = .returned (.tuple #[.int .i64 5, .int .i64 0]) ∧ Below w.heap.size w w' := by
  have HH := fun w => Lib.hid (turn_digits ⟨#[53]⟩ (by decide) all53 (by decide +kernel) w)
  have HN := fun w => Lib.hid (number_five w)
  have hx : five = ⟨#[53]⟩ := rfl
  unfold TurnPost at HH
  simp only [if_pos hx] at HH
  clear hx
  go_enter Try.func28, Try.ntmps28
  go_wp2_with (first
    | (go_at_call 39; refine (HH _).out.mono ?_; rintro e w1 ⟨rfl, hb⟩)
    | (go_at_call 38; refine (HN _).out.mono ?_; rintro e w2 ⟨rfl, rfl⟩))
  go_ret2
  exact ⟨rfl, hb⟩
theorem parse_no (w : World) : Calls Try.prog 28 #[.string ⟨#[48, 53]⟩] w fun e w' => e = .returned (.tuple #[.int .i64 0, .int .i64 10]) ∧ Below w.heap.size w w' := by
  have HH := fun w => Lib.hid (turn_digits ⟨#[48, 53]⟩ (by decide) all4853 (by decide +kernel) w)
  have HN := fun s w => Lib.hid (number_digits s w)
  have hx : ¬ five = ⟨#[48, 53]⟩ := by unfold five; intro h; injection h with h; injection h with h; cases h
  unfold TurnPost at HH
  simp only [if_neg hx] at HH
  clear hx
  go_enter Try.func28, Try.ntmps28
  go_wp2_with (first
    | (go_at_call 39; refine (HH _).out.mono ?_; rintro e w1 ⟨rfl, hb⟩)
    | (go_at_call 38; refine (HN _ _).out.mono ?_; rintro e w2 ⟨rfl, rfl⟩))
  go_ret2
  exact ⟨rfl, hb⟩
set_option maxRecDepth 100000 in
set_option maxHeartbeats 1000000 in
theorem bound_yes (w : World) : Calls Try.prog 12 #[.string ⟨#[40, 53]⟩] w fun e w' => e = .returned (.tuple #[.agg #[.int .i64 5, .bool true, .int .i64 0], .int .i64 0]) ∧ Below w.heap.size w w' := by
  have HO := fun w => opened_any ⟨#[40, 53]⟩ (by decide) w
  have e1 : markS ⟨#[40, 53]⟩ = 40 := by decide +kernel
  have e2 : restS ⟨#[40, 53]⟩ = ⟨#[53]⟩ := by decide +kernel
  rw [e1, e2] at HO
  have HO := fun w => Lib.hid (HO w)
  have HP := fun w => Lib.hid (parse_yes w)
  clear e1 e2
  have e1 : ((⟨#[40, 53]⟩ : ByteArray).toList == [45, 105, 110, 102]) = false := by rw [Lib.toList_data]; decide
  have e2 : ((⟨#[40, 53]⟩ : ByteArray).toList == [43, 105, 110, 102]) = false := by rw [Lib.toList_data]; decide
  have e3 : ((⟨#[40, 53]⟩ : ByteArray).toList == [105, 110, 102]) = false := by rw [Lib.toList_data]; decide
  go_enter Try.func12, Try.ntmps12
  go_wp2_with fail
  refine (HO _).out.mono ?_
  rintro e w1 ⟨rfl, hb⟩
  have hz : w.heap.size < w1.heap.size := by have := hb.size; simp at this; omega
  go_wp2_with fail
  refine (HP _).out.mono ?_
  rintro e w2 ⟨rfl, hb2⟩
  have hb3 := hb.trans (hb2.mono hb.size)
  obtain ⟨hc, hf⟩ := bcell hb3
  have hz2 : w.heap.size < w2.heap.size := by have := hb2.size; omega
  go_wp2_with fail
  exact bodyPost_ret (v := .tuple #[.agg #[.int .i64 5, .bool true, .int .i64 0], .int .i64 0]) (by simp [results, Try.results12, go_sem, hc]) rfl ⟨rfl, (((((Below.refl _ _).alloc (Nat.le_refl _) _).trans (hb3.mono (by simp))).setCell (by simp) _).setCell (by simp) _).setCell (by simp) _⟩
set_option maxRecDepth 100000 in
set_option maxHeartbeats 1000000 in
theorem bound_no (w : World) : Calls Try.prog 12 #[.string ⟨#[48, 53]⟩] w fun e w' => e = .returned (.tuple #[.agg #[.int .i64 0, .bool false, .int .i64 0], .int .i64 80]) ∧ Below w.heap.size w w' := by
  have HO := fun w => opened_any ⟨#[48, 53]⟩ (by decide) w
  have e1 : markS ⟨#[48, 53]⟩ = 0 := by decide +kernel
  have e2 : restS ⟨#[48, 53]⟩ = ⟨#[48, 53]⟩ := by decide +kernel
  rw [e1, e2] at HO
  have HO := fun w => Lib.hid (HO w)
  have HP := fun w => Lib.hid (parse_no w)
  clear e1 e2
  have e1 : ((⟨#[48, 53]⟩ : ByteArray).toList == [45, 105, 110, 102]) = false := by rw [Lib.toList_data]; decide
  have e2 : ((⟨#[48, 53]⟩ : ByteArray).toList == [43, 105, 110, 102]) = false := by rw [Lib.toList_data]; decide
  have e3 : ((⟨#[48, 53]⟩ : ByteArray).toList == [105, 110, 102]) = false := by rw [Lib.toList_data]; decide
  go_enter Try.func12, Try.ntmps12
  go_wp2_with fail
  refine (HO _).out.mono ?_
  rintro e w1 ⟨rfl, hb⟩
  have hz : w.heap.size < w1.heap.size := by have := hb.size; simp at this; omega
  go_wp2_with fail
  refine (HP _).out.mono ?_
  rintro e w2 ⟨rfl, hb2⟩
  have hb3 := hb.trans (hb2.mono hb.size)
  obtain ⟨hc, hf⟩ := bcell hb3
  have hz2 : w.heap.size < w2.heap.size := by have := hb2.size; omega
  go_wp2_with fail
  exact bodyPost_ret (v := .tuple #[.agg #[.int .i64 0, .bool false, .int .i64 0], .int .i64 80]) (by simp [results, Try.results12, go_sem, hc]) rfl ⟨rfl, (((((Below.refl _ _).alloc (Nat.le_refl _) _).trans (hb3.mono (by simp))).setCell (by simp) _).setCell (by simp) _).setCell (by simp) _⟩
end Go.Proofs.Ytfnofnilcflcmaa
