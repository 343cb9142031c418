/- The places of a text: the iterator's contract. -/
import Derived.Test.YtbjjgkicjnoegaaDoorBase
namespace Go.Proofs.YtbjjgkicjnoegaaDoor
open Go.RowKit Go.Shelf
attribute [local go_sem] Oper.semAt_some

theorem range_prefix {k n : Nat} (h : k ≤ n) : List.range k <+: List.range n := by
  obtain ⟨m, rfl⟩ := Nat.exists_eq_add_of_le h
  exact ⟨_, List.range_add.symm⟩

/-- A place, and what stands from there on. -/
def encP (t : ByteArray) (i : Nat) : Array Value := #[.int .i64 i, .string (t.extract i t.size)]

theorem places_any (b : Nat) (w : World) :
    Calls Tryd.prog 43 #[.pointer (some ⟨b, 0, none⟩)] w fun e w' => e = .returned (.func (.func 48) #[] #[.pointer (some ⟨w.heap.size, 0, none⟩)]) ∧ w' = w.alloc (.cells #[.pointer (some ⟨b, 0, none⟩)] 55) := by
  have hmf : ∀ (fn : Fn) (first cap : Array Value) (w : World), (Instr.makeFunc fn first cap).run Tryd.prog w = .ok (.func fn first cap) w := fun _ _ _ _ => rfl
  go_enter Tryd.func43, Tryd.ntmps43
  go_wp2
  go_ret
  exact ⟨rfl, rfl⟩

set_option maxRecDepth 100000 in
set_option maxHeartbeats 2000000 in
theorem places1_in (F : Fence) (n : Nat) (h48 : F.fn 48) (hro : F.round = none) (hn : 1 ≤ n) (l B b n₀ : Nat) (t : ByteArray) (ht : t.size ≤ 9223372036854775807) (J Jx : List Nat → World → Prop)
    (hY : ∀ pre x W, J pre W → pre.length < t.size → YieldAt F (n - 1) Tryd.prog l (encP t x) W fun e W' =>
      (e = .returned (.bool true) ∧ J (pre ++ [x]) W' ∧ Below n₀ W W') ∨ (e = .returned (.bool false) ∧ Jx (pre ++ [x]) W'))
    (W : World) (hBn : B < n₀) (hbn : b < n₀) (hB : W.cell? ⟨B, 0, none⟩ = some (.pointer (some ⟨b, 0, none⟩))) (hb : W.cell? ⟨b, 0, none⟩ = some (.string t)) (h0 : J [] W) :
    CallsIn F n Tryd.prog 48 #[.func (.yield l) #[] #[], .pointer (some ⟨B, 0, none⟩)] W fun e W' => (∃ v, e = .returned v) ∧
      ((∃ ys, ys = List.range t.size ∧ J ys W') ∨ (∃ pre, pre <+: List.range t.size ∧ Jx pre W')) := by
  refine callsIn_of_wp Tryd.func48 rfl h48 ?_ hro
  simp only [Tryd.ntmps48, List.size_toArray, List.length_cons, List.length_nil, Nat.reduceAdd, Nat.reduceSub, Array.replicate_succ, Array.replicate_zero, List.push_toArray, List.append_toArray, List.nil_append, List.cons_append]
  gi_wp2
  gi_loopw [9] (fun i wr => ∃ (k : Nat), i = .int .i64 k ∧ k ≤ t.size ∧ wr.cell? ⟨B, 0, none⟩ = some (.pointer (some ⟨b, 0, none⟩)) ∧ wr.cell? ⟨b, 0, none⟩ = some (.string t) ∧ J (List.range k) wr)
    (fun i _ => t.size - (intOf i).toNat)
  case atStart => exact ⟨0, rfl, Nat.zero_le _, hB, hb, by simpa using h0⟩
  case round =>
    obtain ⟨k, rfl, hk, hBr, hbr, hJr⟩ := hrel
    by_cases hlt : k < t.size
    · obtain ⟨fn, tmps, assign, body, hy, hR⟩ := hY (List.range k) k wr hJr (by simpa using hlt)
      rw [← List.range_succ] at hR
      dsimp only [encP] at hy
      gi_wp2
      refine hR.mono ?_
      rintro e W3 (⟨rfl, hJ3, hk3⟩ | ⟨rfl, hJx3⟩)
      · have hB3 := (hk3.cell (p := ⟨B, 0, none⟩) hBn).trans hBr
        have hb3 := (hk3.cell (p := ⟨b, 0, none⟩) hbn).trans hbr
        gi_wp2
        go_roundw
        case rel => exact ⟨k + 1, by go_num, hlt, hB3, hb3, hJ3⟩
        case measure => simp [intOf]; omega
      · gi_wp2
        refine bodyPost_ret (results_none rfl _ _ _) rfl ?_
        exact ⟨⟨_, rfl⟩, .inr ⟨List.range (k + 1), range_prefix hlt, hJx3⟩⟩
    · obtain rfl : k = t.size := by omega
      gi_wp2
      go_end0
      exact ⟨⟨_, rfl⟩, .inl ⟨_, rfl, hJr⟩⟩

theorem places_stops (F : Fence) (n : Nat) (h48 : F.fn 48) (hro : F.round = none) (hn : 1 ≤ n) (B b : Nat) (t : ByteArray) (ht : t.size ≤ 9223372036854775807) (w : World) (hBn : B < w.heap.size) (hbn : b < w.heap.size)
    (hB : w.cell? ⟨B, 0, none⟩ = some (.pointer (some ⟨b, 0, none⟩))) (hb : w.cell? ⟨b, 0, none⟩ = some (.string t)) :
    SeqStopsK F n Tryd.prog 48 #[.pointer (some ⟨B, 0, none⟩)] (encP t) (Below w.heap.size) (fun ys => ys = List.range t.size) (fun pre => pre <+: List.range t.size) t.size w := fun l J Jx W hW _ _ hY h0 =>
  places1_in F n h48 hro hn l B b w.heap.size t ht J Jx hY W hBn hbn ((hW.cell (p := ⟨B, 0, none⟩) hBn).trans hB) ((hW.cell (p := ⟨b, 0, none⟩) hbn).trans hb) h0

end Go.Proofs.YtbjjgkicjnoegaaDoor
