/- The reference's bytes of a score. -/
import Derived.Test.YtioidnfmpbdmhaaSame
namespace Go.Proofs.Ytioidnfmpbdmhaa
open Go.RowKit Go.Shelf
attribute [local go_sem] Oper.semAt_some

/-- A slice of known bytes, made just now. -/
theorem str_one (W : World) (b : UInt8) (v : Int) (h : (b.toNat : Int) = v) : (convert 50 9 (.slice (some ⟨W.heap.size, 0, none⟩) 1 1)).run Try.prog (W.alloc (.cells #[.int .u8 v] 5)) = .ok (.string ⟨#[b]⟩) (W.alloc (.cells #[.int .u8 v] 5)) := by
  refine run_back _ _ [b] (.some W.heap.size 0 1 [b] fun j u hj => ?_)
  have hB := Blk.new W 5 #[.int .u8 v]
  match j, hj with
  | 0, hj => simp at hj; subst hj; rw [h]; exact hB.cell 0
  | j + 1, hj => simp at hj

def lowB (n : Int) (k : Nat) : List UInt8 := (List.range k).reverse.map (scoreB n)
theorem lowB_succ (n : Int) (k : Nat) : lowB n (k + 1) = scoreB n k :: lowB n k := by
  unfold lowB
  rw [List.range_succ, List.reverse_append]
  rfl

theorem append_ba (a b : List UInt8) : (⟨a.toArray⟩ : ByteArray) ++ ⟨b.toArray⟩ = ⟨(a ++ b).toArray⟩ := by
  apply ba_ext
  simp

set_option maxHeartbeats 2000000 in
theorem refScore_any (n : Int) (w : World) :
    Calls Try.prog 31 #[.int .i64 n] w fun e w' => e = .returned (.string ⟨(score8 n).toArray⟩) ∧ Below w.heap.size w w' := by
  go_enter Try.func31, Try.ntmps31
  go_wp2
  go_loopw [3, 4] (fun v i wr => ∃ (k : Nat), i = .int .i64 k ∧ k ≤ 8 ∧ Below w.heap.size w wr ∧ v = .string ⟨(lowB n k).toArray⟩)
    (fun _ i _ => 8 - (intOf i).toNat)
  case atStart => exact ⟨0, rfl, by omega, Below.refl _ _, rfl⟩
  case round =>
    obtain ⟨k, rfl, hk, hb, rfl⟩ := hrel
    by_cases hlt : k < 8
    · have h8 : (k : Int) < 8 := by omega
      have h0 : (0 : Int) ≤ k := by omega
      have hso := str_one wr (scoreB n k) _ (scoreB_val n k)
      have HS := Lib.hid (lowB_succ n k)
      have HB := Lib.hid hb
      have happ := append_ba [scoreB n k] (lowB n k)
      have hll : ¬ 9223372036854775807 < 1 + (lowB n k).length := by unfold lowB; simp; omega
      generalize lowB n k = lk at *
      clear hb
      go_wp2
      exact ⟨⟨k + 1, by go_num, by omega, HB.out.alloc HB.out.size _, by rw [HS.out]⟩, by simp [intOf]; omega⟩
    · obtain rfl : k = 8 := by omega
      go_wp2
      go_ret
      exact ⟨rfl, hb⟩
end Go.Proofs.Ytioidnfmpbdmhaa
