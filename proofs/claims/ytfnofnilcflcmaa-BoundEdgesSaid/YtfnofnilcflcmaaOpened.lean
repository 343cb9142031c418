/- The mark that a text begins with. -/
import Derived.Test.YtfnofnilcflcmaaTurn
namespace Go.Proofs.Ytfnofnilcflcmaa
open Go.RowKit
attribute [local go_sem] Oper.semAt_some

/-- The first byte's mark, and what is behind it. -/
def markS (s : ByteArray) : Int := if 0 < s.size ∧ ((Utf8.decode s 0).1 = 40 ∨ (Utf8.decode s 0).1 = 91) then (Utf8.decode s 0).1 else 0
def restS (s : ByteArray) : ByteArray := if markS s = 0 then s else s.extract (Utf8.decode s 0).2 s.size

set_option maxRecDepth 100000 in
set_option maxHeartbeats 2000000 in
theorem opened_none (w : World) : Calls Try.prog 27 #[.string ⟨#[]⟩] w fun e w' => e = .returned (.tuple #[.int .i32 0, .string ⟨#[]⟩]) ∧ Below w.heap.size w w' := by
  go_enter Try.func27, Try.ntmps27
  go_wp2
  go_step3
  go_wp2
  go_step3
  go_wp2
  go_loopg [4, 5, 6, 7] 1 (fun _ m r _ _ wr => m = .int .i32 0 ∧ r = .string ⟨#[]⟩ ∧ IterRel ⟨#[]⟩ w wr 0 0)
  case atStart => exact ⟨rfl, rfl, IterRel.start ⟨#[]⟩ w⟩
  case round =>
    obtain ⟨rfl, rfl, hR⟩ := hrel
    have hit := hR.iter
    have hnx : ∀ ty, (Instr.next (.pointer (some ⟨w.heap.size, 0, none⟩)) true ty).run Try.prog wr = _ := fun ty => Lib.run_next_end_at wr w.heap.size ⟨#[]⟩ 0 ty hit (by decide)
    clear hit
    go_wp2
    rw [Exit.noGoto_ret]
    go_ret2
    exact ⟨rfl, hR.below⟩

set_option maxRecDepth 100000 in
set_option maxHeartbeats 2000000 in
theorem opened_some (s : ByteArray) (h0 : 0 < s.size) (hs : s.size ≤ maxLen) (w : World) : Calls Try.prog 27 #[.string s] w fun e w' => e = .returned (.tuple #[.int .i32 (markS s), .string (restS s)]) ∧ Below w.heap.size w w' := by
  unfold maxLen at hs
  obtain ⟨M, hM⟩ : ∃ M, M = markS s := ⟨_, rfl⟩
  obtain ⟨R, hR⟩ : ∃ R, R = restS s := ⟨_, rfl⟩
  rw [← hM, ← hR]
  have HM := Lib.hid hM
  have HR := Lib.hid hR
  clear hM hR
  have H00 := Lib.hid h0
  have hwid := Go.Lib.hid (width_pos s 0)
  go_enter Try.func27, Try.ntmps27
  go_wp2
  go_step3
  go_wp2
  go_step3
  go_wp2
  go_loopg [4, 5, 6, 7] 2 (fun g m r p q wr => (g = 2 ∧ m = .int .i32 0 ∧ r = .string ⟨#[]⟩ ∧ IterRel s w wr s.size 0) ∨ (g = 1 ∧ m = .int .i32 M ∧ M ≠ 0 ∧ r = .string ⟨#[]⟩ ∧ IterRel s w wr (s.size - 1) (Utf8.decode s 0).2))
  case atStart => exact .inl ⟨rfl, rfl, rfl, IterRel.start s w⟩
  case round =>
    rcases hrel with ⟨rfl, rfl, rfl, hR⟩ | ⟨rfl, rfl, hM0, rfl, hR⟩
    · have hit := hR.iter
      have hnx : ∀ ty, (Instr.next (.pointer (some ⟨w.heap.size, 0, none⟩)) true ty).run Try.prog wr = _ := fun ty => Lib.run_next_any_at wr w.heap.size s 0 ty hit h0
      clear hit
      have hR2 : IterRel s w (wr.iterAt w.heap.size s (0 + (Utf8.decode s 0).2)) (s.size - 1) (0 + (Utf8.decode s 0).2) := ⟨Lib.iterAt_heap _ _ _ _ _ hR.iter, Lib.below_iterAt hR.below (Nat.le_refl _) _ _, by have := hwid.out; omega⟩
      generalize wr.iterAt w.heap.size s (0 + (Utf8.decode s 0).2) = wi at *
      rw [Nat.zero_add] at hR2
      have hr0 : 0 ≤ ((Utf8.decode s 0).1 : Int) := by omega
      have HM2 := Lib.hid (show M = if (((Utf8.decode s 0).1 : Int) = 40 ∨ ((Utf8.decode s 0).1 : Int) = 91) then ((Utf8.decode s 0).1 : Int) else 0 by rw [HM.out]; unfold markS; simp only [H00.out, true_and]; split <;> split <;> first | rfl | omega)
      generalize (Utf8.decode s 0).2 = wd at *
      generalize ((Utf8.decode s 0).1 : Int) = r at *
      by_cases h40 : r = 40
      · subst h40
        go_wp2
        go_roundg 1
        case measure => omega
        case rel => exact .inr ⟨rfl, by rw [HM2.out]; rfl, by rw [HM2.out]; decide, rfl, hR2⟩
      · by_cases h91 : r = 91
        · subst h91
          go_wp2
          go_roundg 1
          case measure => omega
          case rel => exact .inr ⟨rfl, by rw [HM2.out]; rfl, by rw [HM2.out]; decide, rfl, hR2⟩
        · have e40 : (r == 40) = false := by simpa using h40
          have e91 : (r == 91) = false := by simpa using h91
          have hm0 := HM2.out
          rw [if_neg (by omega)] at hm0
          have HR2 := Lib.hid (show R = s by rw [HR.out]; unfold restS; rw [if_pos (by rw [← HM.out, hm0])])
          have HM3 := Lib.hid hm0
          clear hm0
          go_wp2
          rw [Exit.noGoto_ret]
          go_ret2
          exact ⟨by rw [HR2.out, HM3.out]; rfl, hR2.below⟩
    · have hit := hR.iter
      have hsz := HR.out
      unfold restS at hsz
      rw [if_neg (by rw [← HM.out]; exact hM0)] at hsz
      have HR2 := Lib.hid hsz
      clear hsz
      generalize (Utf8.decode s 0).2 = pos at *
      have hp0 : ((pos : Int) == 0) = false := by have := hwid.out; simp; omega
      by_cases hp : pos < s.size
      · have hnx : ∀ ty, (Instr.next (.pointer (some ⟨w.heap.size, 0, none⟩)) true ty).run Try.prog wr = _ := fun ty => Lib.run_next_any_at wr w.heap.size s pos ty hit hp
        clear hit
        have hb2 : Below w.heap.size w (wr.iterAt w.heap.size s (pos + (Utf8.decode s pos).2)) := Lib.below_iterAt hR.below (Nat.le_refl _) _ _
        generalize wr.iterAt w.heap.size s (pos + (Utf8.decode s pos).2) = wi at *
        have hr0 : 0 ≤ ((Utf8.decode s pos).1 : Int) := by omega
        generalize ((Utf8.decode s pos).1 : Int) = r at *
        go_wp2
        rw [Exit.noGoto_ret]
        go_ret2
        exact ⟨by rw [HR2.out]; rfl, hb2⟩
      · have hnx : ∀ ty, (Instr.next (.pointer (some ⟨w.heap.size, 0, none⟩)) true ty).run Try.prog wr = _ := fun ty => Lib.run_next_end_at wr w.heap.size s pos ty hit hp
        clear hit
        have HE := Lib.hid (show s.extract pos s.size = ⟨#[]⟩ by
          apply ByteArray.ext
          rw [ByteArray.data_extract]
          exact Array.extract_empty_of_size_le_start (by simpa using hp))
        go_wp2
        rw [Exit.noGoto_ret]
        go_ret2
        exact ⟨by rw [HR2.out, HE.out]; rfl, hR.below⟩
end Go.Proofs.Ytfnofnilcflcmaa
