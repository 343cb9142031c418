/- What digits that come to 5 turn into. -/
import Derived.Test.YtfnofnilcflcmaaDigits
import Derived.Lib.OthersKept
namespace Go.Proofs.Ytfnofnilcflcmaa
open Go.RowKit
attribute [local go_sem] Oper.semAt_some

theorem heap_at {w : World} {o : Obj} {k : Nat} (h : k = w.heap.size) : (w.alloc o).heap[k]? = some o := by subst h; exact heap_alloc_new w o
/-- A text's characters from a place on. -/
def runesAt (s : ByteArray) : Nat → Nat → List Int
  | 0, _ => []
  | f + 1, pos => if pos < s.size then ((Utf8.decode s pos).1 : Int) :: runesAt s f (pos + (Utf8.decode s pos).2) else []
def runesS (s : ByteArray) : List Int := runesAt s s.size 0

/-- A decoded character takes at least one byte. -/
theorem width_pos (s : ByteArray) (pos : Nat) : 1 ≤ (Utf8.decode s pos).2 := by
  simp only [Utf8.decode]
  repeat' split
  all_goals simp
theorem runesAt_end {s : ByteArray} {f pos : Nat} (hp : ¬ pos < s.size) : runesAt s f pos = [] := by
  cases f <;> simp [runesAt, hp]

/-- What holds at the head of a round over a text's characters. -/
structure IterRel (s : ByteArray) (w wr : World) (g pos : Nat) : Prop where
  iter : wr.heap[w.heap.size]? = some (.stringIter s pos)
  below : Below w.heap.size w wr
  fuel : s.size ≤ pos + g
theorem IterRel.start (s : ByteArray) (w : World) : IterRel s w (w.alloc (.stringIter s 0)) s.size 0 := ⟨heap_at rfl, (Below.refl _ _).alloc (Nat.le_refl _) _, by omega⟩
theorem IterRel.next {s : ByteArray} {w wr : World} {f pos : Nat} (h : IterRel s w wr (f + 1) pos) :
    IterRel s w (wr.iterAt w.heap.size s (pos + (Utf8.decode s pos).2)) f (pos + (Utf8.decode s pos).2) :=
  ⟨Lib.iterAt_heap _ _ _ _ _ h.iter, Lib.below_iterAt h.below (Nat.le_refl _) _ _, by have := h.fuel; have := width_pos s pos; omega⟩
theorem runesAt_step {s : ByteArray} {f pos : Nat} (hp : pos < s.size) : runesAt s (f + 1) pos = ((Utf8.decode s pos).1 : Int) :: runesAt s f (pos + (Utf8.decode s pos).2) := by
  simp [runesAt, hp]


/-- What characters are read as, till one is no digit. -/
def looseR (n sg : Int) : List Int → Int
  | [] => n
  | r :: rs => if r = 45 then looseR n (-1) rs else if 48 ≤ r ∧ r ≤ 57 then looseR (wrap64 (wrap64 (n * 10) + wrap64 (sg * (r - 48)))) sg rs else n


def i64R (n : Int) : Prop := -9223372036854775808 ≤ n ∧ n ≤ 9223372036854775807
theorem wrap64_i64 (z : Int) : i64R (wrap64 z) := by unfold i64R wrap64; omega
/-- Digits alone. -/
def allD : List Int → Prop
  | [] => True
  | r :: rs => (48 ≤ r ∧ r ≤ 57) ∧ allD rs

def TurnPost (s : ByteArray) (w : World) (e : Ending) (w' : World) : Prop :=
  e = .returned (if five = s then .iface 68 (.int .i64 5) else .iface 65 (.string s)) ∧ Below w.heap.size w w'

set_option maxRecDepth 100000 in
set_option maxHeartbeats 2000000 in
theorem turn_digits (s : ByteArray) (hs : s.size ≤ 20) (hd : allD (runesS s)) (h5 : looseR 0 1 (runesS s) = 5) (w : World) : Calls Try.prog 39 #[.string s] w (TurnPost s w) := by
  have HX : ∀ (n : Int), n = 5 → ∀ W, Hid (Calls Try.prog 40 #[.iface 68 (.int .i64 n)] W fun e w' => e = .returned (.string five) ∧ w' = W) := fun n h W => by subst h; exact Lib.hid (text_five W)
  go_enter Try.func39, Try.ntmps39
  go_wp2
  go_step3
  go_wp2
  go_step3
  go_wp2
  go_loopg [3, 4] s.size (fun g vn vs wr => ∃ (pos : Nat) (n : Int), vn = .int .i64 n ∧ vs = .int .i64 1 ∧ i64R n ∧ IterRel s w wr g pos ∧ Aside (looseR n 1 (runesAt s g pos) = 5) ∧ Aside (allD (runesAt s g pos)))
  case atStart => exact ⟨0, 0, rfl, rfl, by unfold i64R; omega, IterRel.start s w, h5, hd⟩
  case round =>
    obtain ⟨pos, n, rfl, rfl, hn, hR, hk, hq⟩ := hrel
    have hit := hR.iter
    by_cases hp : pos < s.size
    · obtain ⟨f, rfl⟩ : ∃ f, gk = f + 1 := ⟨gk - 1, by have := hR.fuel; omega⟩
      have hnx : ∀ ty, (Instr.next (.pointer (some ⟨w.heap.size, 0, none⟩)) true ty).run Try.prog wr = _ := fun ty => Lib.run_next_any_at wr w.heap.size s pos ty hit hp
      have hR2 := hR.next
      have HK2 := Lib.hid (runesAt_step (f := f) hp)
      generalize wr.iterAt w.heap.size s (pos + (Utf8.decode s pos).2) = wi at *
      generalize pos + (Utf8.decode s pos).2 = pos' at *
      have hr0 : 0 ≤ ((Utf8.decode s pos).1 : Int) := by omega
      generalize ((Utf8.decode s pos).1 : Int) = r at *
      clear hit
      have hq2 := hq.out
      rw [HK2.out] at hq2
      obtain ⟨⟨h48, h57⟩, hq3⟩ := hq2
      have HQ := Lib.hid hq3
      clear hq3
      have hr : (r == 45) = false := by simp; omega
      go_wp2_with (fail)
      go_roundg f
      case measure => omega
      case rel => exact ⟨pos', _, rfl, rfl, wrap64_i64 _, hR2, by show _ = _; rw [← hk.out, HK2.out, looseR, if_neg (by simpa using hr), if_pos ⟨h48, h57⟩, show wrap64 (1 * (r - 48)) = r - 48 by unfold wrap64; omega], HQ.out⟩
    · have hnx : ∀ ty, (Instr.next (.pointer (some ⟨w.heap.size, 0, none⟩)) true ty).run Try.prog wr = _ := fun ty => Lib.run_next_end_at wr w.heap.size s pos ty hit hp
      have hn5 : n = 5 := by have := hk.out; rw [runesAt_end hp, looseR] at this; exact this
      subst hn5
      clear hit
      have HZ := HX 5 rfl
      clear HX
      by_cases hs5 : five = s
      · have e1 : (five.toList == s.toList) = true := by rw [hs5]; simp
        have HS := Lib.hid hs5
        clear hs5
        go_wp2_with (go_at_call 40; refine (HZ _).out.mono ?_; rintro e w1 ⟨rfl, rfl⟩)
        rw [Exit.noGoto_ret]
        go_ret
        exact ⟨by rw [if_pos HS.out]; rfl, hR.below⟩
      · have e1 : (five.toList == s.toList) = false := by rw [beq_eq_false_iff_ne]; exact fun e => hs5 (toList_inj e)
        have HS := Lib.hid hs5
        clear hs5
        go_wp2_with (go_at_call 40; refine (HZ _).out.mono ?_; rintro e w1 ⟨rfl, rfl⟩)
        go_step3
        go_wp2
        rw [Exit.noGoto_ret]
        go_ret
        exact ⟨by rw [if_neg HS.out]; rfl, hR.below⟩
end Go.Proofs.Ytfnofnilcflcmaa
