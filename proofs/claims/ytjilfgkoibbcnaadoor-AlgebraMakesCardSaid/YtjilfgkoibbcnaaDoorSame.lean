/- Are two lists of entries the same? -/
import Derived.Test.YtjilfgkoibbcnaaDoorSortE
import Derived.BigQuiet
namespace Go.Proofs.YtjilfgkoibbcnaaDoor
open Go.RowKit Go.Shelf
attribute [local go_sem] Oper.semAt_some

theorem ent_neq (x y : Ent) (h : x ≠ y) (W : World) : (binOp .neq 38 (.agg #[.string x.1, .int .i64 x.2]) (.agg #[.string y.1, .int .i64 y.2])).run Tryd.prog W = .ok (.bool true) W := by
  obtain ⟨m, s⟩ := x
  obtain ⟨m', s'⟩ := y
  simp [go_sem]
  intro h1 h2
  rw [ByteArray.toList_eq, ByteArray.toList_eq] at h1
  exact h (by rw [ByteArray.ext (Array.ext' h1), h2])
theorem ent_same (x : Ent) (W : World) : (binOp .neq 38 (.agg #[.string x.1, .int .i64 x.2]) (.agg #[.string x.1, .int .i64 x.2])).run Tryd.prog W = .ok (.bool false) W := by
  simp [go_sem]

set_option maxRecDepth 100000 in
set_option maxHeartbeats 2000000 in
theorem same_any (a b : Option Addr) (ca cb : Nat) (A B : List Ent) (hA : A.length ≤ 1000000) (hB : B.length ≤ 1000000) (w : World) (ha : Ents w a A) (hb : Ents w b B) :
    Calls Tryd.prog 18 #[.slice a A.length ca, .slice b B.length cb] w fun e w' => e = .returned (.bool (decide (A = B))) ∧ Below w.heap.size w w' := by
  by_cases hl : A.length = B.length
  · have hl' : ((A.length : Int) != B.length) = false := by simp [hl]
    have HL := Lib.hid hl
    clear hl
    go_enter Tryd.func18, Tryd.ntmps18
    go_wp2
    go_loopw [5] (fun i wr => ∃ (k : Nat), i = .int .i64 k ∧ k ≤ A.length ∧ Below w.heap.size w wr ∧ Hid (A.take k = B.take k)) (fun i _ => A.length - (intOf i).toNat)
    case atStart => exact ⟨0, rfl, Nat.zero_le _, Below.refl _ _, Lib.hid (by simp)⟩
    case round =>
      obtain ⟨k, rfl, hk, hbw, ht⟩ := hrel
      by_cases hlt : k < A.length
      · obtain ⟨g1, o1, e1, x0, x1⟩ := (ha.below hbw) k hlt
        have hlt2 : k < B.length := by have := HL.out; omega
        obtain ⟨g2, o2, e2, y0, y1⟩ := (hb.below hbw) k hlt2
        subst e1 e2
        have hak : A.take (k + 1) = A.take k ++ [A[k]] := List.take_succ_eq_append_getElem hlt
        have hbk : B.take (k + 1) = B.take k ++ [B[k]] := List.take_succ_eq_append_getElem hlt2
        have hne : A[k] ≠ B[k] → A ≠ B := fun h e => by subst e; exact h rfl
        have HA := Lib.hid hak
        have HB := Lib.hid hbk
        have HN := Lib.hid hne
        have HW := Lib.hid hbw
        clear hak hbk hne hbw
        by_cases hxy : A[k] = B[k]
        · rw [← hxy] at y0 y1 HB
          have hq := ent_same A[k]
          generalize A[k] = x at *
          obtain ⟨m, s⟩ := x
          clear ha hb hxy HN
          go_wp2
          go_quiet (fail)
          go_wp2
          go_roundw
          case rel => exact ⟨k + 1, by go_num, hlt, HW.out.trans ⟨rfl, rfl, rfl, Nat.le_refl _, fun _ _ => rfl⟩, Lib.hid (by rw [HA.out, HB.out, ht.out])⟩
          case measure => simp [intOf]; omega
        · have hq := ent_neq A[k] B[k] hxy
          have HD := Lib.hid (decide_eq_false (HN.out hxy))
          generalize A[k] = x at *
          generalize B[k] = y at *
          obtain ⟨m, s⟩ := x
          obtain ⟨m', s'⟩ := y
          clear ha hb hxy HN
          go_wp2
          go_quiet (fail)
          go_wp2
          go_ret
          rw [HD.out]
          exact ⟨rfl, HW.out.trans ⟨rfl, rfl, rfl, Nat.le_refl _, fun _ _ => rfl⟩⟩
      · have HT := Lib.hid (show decide (A = B) = true by
          rw [decide_eq_true_iff]
          have := ht.out
          have hl := HL.out
          rwa [List.take_of_length_le (by omega), List.take_of_length_le (by omega)] at this)
        clear ha hb
        go_wp2
        go_ret
        rw [HT.out]
        exact ⟨rfl, hbw⟩
  · have hl' : ((A.length : Int) != B.length) = true := by simp; omega
    have HD := Lib.hid (decide_eq_false (fun e : A = B => hl (by rw [e])))
    clear ha hb
    go_enter Tryd.func18, Tryd.ntmps18
    go_wp2
    go_ret
    rw [HD.out]
    exact ⟨rfl, Below.refl _ _⟩
set_option maxRecDepth 100000 in
set_option maxHeartbeats 2000000 in
theorem equal_any (a b : Option Addr) (ca cb : Nat) (A B : List Ent) (hA : A.length ≤ 1000000) (hB : B.length ≤ 1000000) (w : World) (ha : Ents w a A) (hb : Ents w b B) :
    Calls Tryd.prog 32 #[.slice a A.length ca, .slice b B.length cb] w fun e w' => e = .returned (.bool (decide (A = B))) ∧ Below w.heap.size w w' := by
  by_cases hl : A.length = B.length
  · have hl' : ((A.length : Int) != B.length) = false := by simp [hl]
    have HL := Lib.hid hl
    clear hl
    go_enter Tryd.func32, Tryd.ntmps32
    go_wp2
    go_loopw [13] (fun i wr => ∃ (k : Nat), i = .int .i64 k ∧ k ≤ A.length ∧ Below w.heap.size w wr ∧ Hid (A.take k = B.take k)) (fun i _ => A.length - (intOf i).toNat)
    case atStart => exact ⟨0, rfl, Nat.zero_le _, Below.refl _ _, Lib.hid (by simp)⟩
    case round =>
      obtain ⟨k, rfl, hk, hbw, ht⟩ := hrel
      by_cases hlt : k < A.length
      · obtain ⟨g1, o1, e1, x0, x1⟩ := (ha.below hbw) k hlt
        have hlt2 : k < B.length := by have := HL.out; omega
        obtain ⟨g2, o2, e2, y0, y1⟩ := (hb.below hbw) k hlt2
        subst e1 e2
        have hak : A.take (k + 1) = A.take k ++ [A[k]] := List.take_succ_eq_append_getElem hlt
        have hbk : B.take (k + 1) = B.take k ++ [B[k]] := List.take_succ_eq_append_getElem hlt2
        have hne : A[k] ≠ B[k] → A ≠ B := fun h e => by subst e; exact h rfl
        have HA := Lib.hid hak
        have HB := Lib.hid hbk
        have HN := Lib.hid hne
        have HW := Lib.hid hbw
        clear hak hbk hne hbw
        by_cases hxy : A[k] = B[k]
        · rw [← hxy] at y0 y1 HB
          have hq := ent_same A[k]
          generalize A[k] = x at *
          obtain ⟨m, s⟩ := x
          clear ha hb hxy HN
          go_wp2
          go_quiet (fail)
          go_wp2
          go_roundw
          case rel => exact ⟨k + 1, by go_num, hlt, HW.out.trans ⟨rfl, rfl, rfl, Nat.le_refl _, fun _ _ => rfl⟩, Lib.hid (by rw [HA.out, HB.out, ht.out])⟩
          case measure => simp [intOf]; omega
        · have hq := ent_neq A[k] B[k] hxy
          have HD := Lib.hid (decide_eq_false (HN.out hxy))
          generalize A[k] = x at *
          generalize B[k] = y at *
          obtain ⟨m, s⟩ := x
          obtain ⟨m', s'⟩ := y
          clear ha hb hxy HN
          go_wp2
          go_quiet (fail)
          go_wp2
          go_ret
          rw [HD.out]
          exact ⟨rfl, HW.out.trans ⟨rfl, rfl, rfl, Nat.le_refl _, fun _ _ => rfl⟩⟩
      · have HT := Lib.hid (show decide (A = B) = true by
          rw [decide_eq_true_iff]
          have := ht.out
          have hl := HL.out
          rwa [List.take_of_length_le (by omega), List.take_of_length_le (by omega)] at this)
        clear ha hb
        go_wp2
        go_ret
        rw [HT.out]
        exact ⟨rfl, hbw⟩
  · have hl' : ((A.length : Int) != B.length) = true := by simp; omega
    have HD := Lib.hid (decide_eq_false (fun e : A = B => hl (by rw [e])))
    clear ha hb
    go_enter Tryd.func32, Tryd.ntmps32
    go_wp2
    go_ret
    rw [HD.out]
    exact ⟨rfl, Below.refl _ _⟩
end Go.Proofs.YtjilfgkoibbcnaaDoor
