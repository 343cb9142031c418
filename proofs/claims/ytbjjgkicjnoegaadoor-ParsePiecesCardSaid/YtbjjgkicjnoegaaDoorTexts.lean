/- Whether two lists of texts are the same. -/
import Derived.Test.YtbjjgkicjnoegaaDoorParser
namespace Go.Proofs.YtbjjgkicjnoegaaDoor
open Go.RowKit Go.Shelf

/-- A list of texts that can be read. -/
def Strs (W : World) (v : Value) (ss : List (List UInt8)) : Prop :=
  ∃ a c, v = .slice a ss.length c ∧ ∀ i (h : i < ss.length), ∃ g o, a = some ⟨g, o, none⟩ ∧ W.cell? ⟨g, o + i, none⟩ = some (strV ss[i])

theorem Strs.of_owned {W : World} {base : Nat} {v : Value} {ss : List (List UInt8)} (h : Owned W base v ss) : Strs W v ss := by
  rcases h.2 with ⟨rfl, h0⟩ | ⟨g, cap, cur, rfl, _⟩
  · exact ⟨none, 0, by rw [h0], fun i hi => by omega⟩
  · refine ⟨_, _, rfl, fun i hi => ⟨g, 0, rfl, ?_⟩⟩
    have := World.ownsRow.cells h rfl i (strV ss[i]) (by simp [hi])
    rw [Nat.zero_add, ← this]
    cases i <;> simp [Addr.add]

theorem Strs.below {W W' : World} {n : Nat} {v : Value} {ss : List (List UInt8)} (h : Strs W v ss) (hb : Below n W W') (hn : W.heap.size ≤ n) : Strs W' v ss := by
  obtain ⟨a, c, rfl, hc⟩ := h
  refine ⟨a, c, rfl, fun i hi => ?_⟩
  obtain ⟨g, o, e, hx⟩ := hc i hi
  exact ⟨g, o, e, (hb.cell (p := ⟨g, o + i, none⟩) (by have := World.block_lt_of_cell? _ _ hx; simp at this ⊢; omega)).trans hx⟩
theorem Strs.later {W W' : World} {v : Value} {ss : List (List UInt8)} (h : Strs W v ss) (hb : Below W.heap.size W W') : Strs W' v ss := h.below hb (Nat.le_refl _)

theorem strV_ne {a b : List UInt8} : ((ba a).toList != (ba b).toList) = decide (a ≠ b) := by
  rw [Lib.toList_data, Lib.toList_data, ba_list, ba_list, Bool.eq_iff_iff]
  simp [bne_iff_ne]

set_option maxRecDepth 100000 in
set_option maxHeartbeats 2000000 in
theorem texts_any (va vb : Value) (A B : List (List UInt8)) (hA : A.length ≤ 100000) (hB : B.length ≤ 1000000) (w : World) (ha : Strs w va A) (hb : Strs w vb B) :
    Calls Tryd.prog 12 #[va, vb] w fun e w' => e = .returned (.bool (decide (A = B))) ∧ ∃ n, w' = w.drewN n := by
  obtain ⟨a1, c1, rfl, h1⟩ := ha
  obtain ⟨a2, c2, rfl, h2⟩ := hb
  by_cases hl : A.length = B.length
  · have hl' : ((A.length : Int) != B.length) = false := by simp [hl]
    go_enter Tryd.func12, Tryd.ntmps12
    go_wp2
    go_loopw [5] (fun i wr => ∃ (k m : Nat), i = .int .i64 k ∧ k ≤ A.length ∧ wr = w.drewN m ∧ Hid (A.take k = B.take k)) (fun i _ => A.length - (intOf i).toNat)
    case atStart => exact ⟨0, 0, rfl, Nat.zero_le _, rfl, Lib.hid (by simp)⟩
    case round =>
      obtain ⟨k, m, rfl, hk, rfl, ht⟩ := hrel
      by_cases hlt : k < A.length
      · obtain ⟨g1, o1, e1, x1⟩ := h1 k hlt
        obtain ⟨g2, o2, e2, x2⟩ := h2 k (by omega)
        subst e1 e2
        have hlt2 : k < B.length := by omega
        unfold strV at x1 x2
        have d := strV_ne (a := A[k]) (b := B[k])
        have HD := Lib.hid d
        clear d
        generalize hak : A[k] = p at *
        generalize hbk : B[k] = q at *
        have HA1 := Lib.hid hak
        have HB1 := Lib.hid hbk
        clear hak hbk h1 h2
        go_wp2
        go_quiet (fail)
        go_wp2
        · have hx : (!(ba p).toList == (ba q).toList) = true := by assumption
          have hpq : p ≠ q := by
            have := HD.out
            rw [show ((ba p).toList != (ba q).toList) = true from hx] at this
            simpa using this.symm
          go_ret
          exact ⟨by rw [decide_eq_false (fun e : A = B => by subst e; exact hpq (HA1.out.symm.trans HB1.out))]; rfl, _, World.drewN_drewN _ _ _⟩
        · have hx : (!(ba p).toList == (ba q).toList) = false := by assumption
          have hpq : p = q := by
            have := HD.out
            rw [show ((ba p).toList != (ba q).toList) = false from hx] at this
            simpa using this.symm
          go_roundw
          case rel => exact ⟨k + 1, _, by go_num, hlt, rfl, Lib.hid (by
            rw [List.take_succ_eq_append_getElem hlt, List.take_succ_eq_append_getElem hlt2, ht.out, HA1.out, HB1.out, hpq])⟩
          case measure => simp [intOf]; omega
      · have HT := Lib.hid (show decide (A = B) = true by
          rw [decide_eq_true_iff]
          have := ht.out
          rwa [List.take_of_length_le (by omega), List.take_of_length_le (by omega)] at this)
        clear h1 h2
        go_wp2
        go_ret
        exact ⟨by rw [HT.out]; rfl, _, rfl⟩
  · have hl' : ((A.length : Int) != B.length) = true := by simp; omega
    go_enter Tryd.func12, Tryd.ntmps12
    go_wp2
    go_ret
    exact ⟨by rw [decide_eq_false (fun e => hl (by rw [e]))]; rfl, 0, rfl⟩

end Go.Proofs.YtbjjgkicjnoegaaDoor
