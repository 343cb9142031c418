/- special, Plain, Quote, Count, and the reference's: what they answer. -/
import Derived.Test.YtcaemhlmefhgdaaMean
import Derived.Test.YtcaemhlmefhgdaaShown
namespace Go.Proofs.Ytcaemhlmefhgdaa
open Go.RowKit

theorem special_any (r : Int) (w : World) : Calls Try.prog 18 #[.int .i32 r] w fun e w' => e = .returned (.bool (specialR r)) ∧ w = w' := by
  cases h1 : (r == 42)
  all_goals cases h2 : (r == 63)
  all_goals cases h3 : (r == 91)
  all_goals cases h4 : (r == 92)
  all_goals have H := Lib.hid (show specialR r = _ from by rw [specialR, h1, h2, h3, h4])
  all_goals go_enter Try.func18, Try.ntmps18
  all_goals go_wp2
  all_goals go_ret
  all_goals exact ⟨ret_bool (by rw [H.out]; rfl), rfl⟩

theorem special_ref (b : UInt8) (w : World) : Calls Try.prog 19 #[.int .u8 (b.toNat : Int)] w fun e w' => e = .returned (.bool (specialB b)) ∧ w = w' := by
  rw [← special_byte]
  generalize (b.toNat : Int) = r
  cases h1 : (r == 42)
  all_goals cases h2 : (r == 63)
  all_goals cases h3 : (r == 91)
  all_goals cases h4 : (r == 92)
  all_goals have H := Lib.hid (show specialR r = _ from by rw [specialR, h1, h2, h3, h4])
  all_goals go_enter Try.func19, Try.ntmps19
  all_goals go_wp2
  all_goals go_ret
  all_goals exact ⟨ret_bool (by rw [H.out]; rfl), rfl⟩

/-- The first n bytes. -/
def cutB (s : ByteArray) (n : Nat) : ByteArray := s.extract 0 (min s.size n)
theorem cutB_size (s : ByteArray) (n : Nat) : (cutB s n).size ≤ n := by
  rw [cutB, ByteArray.size_extract]; omega

theorem cutB_long {s : ByteArray} {n : Nat} (h : n < s.size) : cutB s n = s.extract 0 n := by rw [cutB, Nat.min_eq_right (by omega)]
theorem cutB_short {s : ByteArray} {n : Nat} (h : s.size ≤ n) : cutB s n = s := by rw [cutB, Nat.min_eq_left h]; exact ByteArray.extract_zero_size
theorem ret_string {a b : ByteArray} (h : a = b) : Ending.returned (.string a) = .returned (.string b) := by rw [h]

theorem cut_any (s : ByteArray) (hs : s.size ≤ 9223372036854775807) (w : World) : Calls Try.prog 10 #[.string s] w fun e w' => e = .returned (.string (cutB s 520)) ∧ w = w' := by
  go_enter Try.func10, Try.ntmps10
  go_wp2
  · go_ret
    exact ⟨ret_string (cutB_long (by omega)).symm, rfl⟩
  · go_ret
    exact ⟨ret_string (cutB_short (by omega)).symm, rfl⟩

/-- What holds at the head of a round over a text's characters. -/
structure IterRel (s : ByteArray) (w wr : World) (g pos : Nat) : Prop where
  iter : wr.heap[w.heap.size]? = some (.stringIter s pos)
  below : Below w.heap.size w wr
  fuel : s.size ≤ pos + g
theorem IterRel.start (s : ByteArray) (w : World) : IterRel s w (w.alloc (.stringIter s 0)) s.size 0 := ⟨heap_at rfl, (Below.refl _ _).alloc (Nat.le_refl _) _, by omega⟩
theorem IterRel.next {s : ByteArray} {w wr : World} {f pos : Nat} (h : IterRel s w wr (f + 1) pos) :
    IterRel s w (wr.iterAt w.heap.size s (pos + (Utf8.decode s pos).2)) f (pos + (Utf8.decode s pos).2) :=
  ⟨Lib.iterAt_heap _ _ _ _ _ h.iter, Lib.below_iterAt h.below (Nat.le_refl _) _ _, by have := h.fuel; have := width_pos s pos; omega⟩
theorem runesAt_step {s : ByteArray} {f pos : Nat} (hp : pos < s.size) : runesAt s (f + 1) pos = ((Utf8.decode s pos).1 : Int) :: runesAt s f (pos + (Utf8.decode s pos).2) := by
  simp [runesAt, hp]

set_option maxHeartbeats 400000 in
theorem count_any (s : ByteArray) (w : World) (hs : s.size ≤ 100000) : Calls Try.prog 15 #[.string s] w fun e w' => e = .returned (.int .i64 ((runesS s).length : Int)) ∧ Below w.heap.size w w' := by
  have HL := Lib.hid (runesS_length s)
  go_enter Try.func15, Try.ntmps15
  go_wp2
  go_loopg [3] s.size (fun g n wr => ∃ (pos k : Nat), n = .int .i64 k ∧ IterRel s w wr g pos ∧ Aside (k + (runesAt s g pos).length = (runesS s).length))
  case atStart => exact ⟨0, 0, rfl, IterRel.start s w, by show _ = _; rw [Nat.zero_add]; rfl⟩
  case round =>
    obtain ⟨pos, k, rfl, hR, hk⟩ := hrel
    have hit := hR.iter
    have hkb : k ≤ 100000 := by have := hk.out; have := HL.out; omega
    by_cases hp : pos < s.size
    · obtain ⟨f, rfl⟩ : ∃ f, gk = f + 1 := ⟨gk - 1, by have := hR.fuel; omega⟩
      have hnx : ∀ ty, (Instr.next (.pointer (some ⟨w.heap.size, 0, none⟩)) true ty).run Try.prog wr = _ := fun ty => Lib.run_next_any_at wr w.heap.size s pos ty hit hp
      have hR2 := hR.next
      have HK2 := Lib.hid (runesAt_step (f := f) hp)
      generalize wr.iterAt w.heap.size s (pos + (Utf8.decode s pos).2) = wi at *
      generalize pos + (Utf8.decode s pos).2 = pos' at *
      clear hit
      go_wp2
      go_roundg f
      case measure => omega
      case rel => exact ⟨pos', k + 1, by go_num, hR2, by show _ = _; have := hk.out; rw [HK2.out] at this; simp at this; omega⟩
    · have hnx : ∀ ty, (Instr.next (.pointer (some ⟨w.heap.size, 0, none⟩)) true ty).run Try.prog wr = _ := fun ty => Lib.run_next_end_at wr w.heap.size s pos ty hit hp
      clear hit
      go_wp2
      go_ret
      exact ⟨ret_nat (by have := hk.out; rw [runesAt_end hp] at this; simpa using this), hR.below⟩

def plainS (s : ByteArray) : Bool := !(runesS s).any specialR

set_option maxHeartbeats 400000 in
theorem plain_any (s : ByteArray) (w : World) : Calls Try.prog 11 #[.string s] w fun e w' => e = .returned (.bool (plainS s)) ∧ Below w.heap.size w w' := by
  go_enter Try.func11, Try.ntmps11
  go_wp2
  go_loopg [] s.size (fun g wr => ∃ pos : Nat, IterRel s w wr g pos ∧ Aside ((runesAt s g pos).any specialR = (runesS s).any specialR))
  case atStart => exact ⟨0, IterRel.start s w, rfl⟩
  case round =>
    obtain ⟨pos, hR, hk⟩ := hrel
    have hit := hR.iter
    by_cases hp : pos < s.size
    · obtain ⟨f, rfl⟩ : ∃ f, gk = f + 1 := ⟨gk - 1, by have := hR.fuel; omega⟩
      have hnx : ∀ ty, (Instr.next (.pointer (some ⟨w.heap.size, 0, none⟩)) true ty).run Try.prog wr = _ := fun ty => Lib.run_next_any_at wr w.heap.size s pos ty hit hp
      have hR2 := hR.next
      have HK2 := Lib.hid (runesAt_step (f := f) hp)
      generalize wr.iterAt w.heap.size s (pos + (Utf8.decode s pos).2) = wi at *
      generalize pos + (Utf8.decode s pos).2 = pos' at *
      generalize ((Utf8.decode s pos).1 : Int) = r at *
      clear hit
      have HS := Lib.hid (special_any r wi)
      cases hs : specialR r
      · rw [hs] at HS
        have HH := Lib.hid hs
        clear hs
        go_wp2_with fail
        refine HS.out.mono ?_
        rintro e w1 ⟨rfl, rfl⟩
        go_wp2
        go_roundg f
        case measure => omega
        case rel => exact ⟨pos', hR2, by show _ = _; have := hk.out; rw [HK2.out] at this; simpa [HH.out] using this⟩
      · rw [hs] at HS
        have HH := Lib.hid hs
        clear hs
        go_wp2_with fail
        refine HS.out.mono ?_
        rintro e w1 ⟨rfl, rfl⟩
        go_wp2
        go_ret
        exact ⟨ret_bool (by rw [plainS, ← hk.out, HK2.out]; simp [HH.out]), hR2.below⟩
    · have hnx : ∀ ty, (Instr.next (.pointer (some ⟨w.heap.size, 0, none⟩)) true ty).run Try.prog wr = _ := fun ty => Lib.run_next_end_at wr w.heap.size s pos ty hit hp
      clear hit
      go_wp2
      go_ret
      exact ⟨ret_bool (by rw [plainS, ← hk.out, runesAt_end hp]; rfl), hR.below⟩

end Go.Proofs.Ytcaemhlmefhgdaa
