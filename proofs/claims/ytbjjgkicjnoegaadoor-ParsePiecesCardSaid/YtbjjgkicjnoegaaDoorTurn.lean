/- What digits turn into. -/
import Derived.Test.YtbjjgkicjnoegaaDoorInts
import Derived.ScopeJumps
namespace Go.Proofs.YtbjjgkicjnoegaaDoor
open Go.RowKit Go.Shelf

/-- A text's characters from a place on. -/
def runesAt (s : ByteArray) : Nat → Nat → List Int
  | 0, _ => []
  | f + 1, pos => if pos < s.size then ((Utf8.decode s pos).1 : Int) :: runesAt s f (pos + (Utf8.decode s pos).2) else []
def runesS (s : ByteArray) : List Int := runesAt s s.size 0

/-- A decoded character takes at least one byte. -/
theorem width_pos (s : ByteArray) (pos : Nat) : 1 ≤ (Utf8.decode s pos).2 := by
  simp only [Utf8.decode]
  repeat' split
  all_goals simp
theorem runesAt_end {s : ByteArray} {f pos : Nat} (hp : ¬ pos < s.size) : runesAt s f pos = [] := by
  cases f <;> simp [runesAt, hp]

/-- What holds at the head of a round over a text's characters. -/
structure IterRel (s : ByteArray) (w wr : World) (g pos : Nat) : Prop where
  iter : wr.heap[w.heap.size]? = some (.stringIter s pos)
  below : Below w.heap.size w wr
  fuel : s.size ≤ pos + g
theorem IterRel.start (s : ByteArray) (w : World) : IterRel s w (w.alloc (.stringIter s 0)) s.size 0 := ⟨heap_at rfl, (Below.refl _ _).alloc (Nat.le_refl _) _, by omega⟩
theorem IterRel.next {s : ByteArray} {w wr : World} {f pos : Nat} (h : IterRel s w wr (f + 1) pos) :
    IterRel s w (wr.iterAt w.heap.size s (pos + (Utf8.decode s pos).2)) f (pos + (Utf8.decode s pos).2) :=
  ⟨Lib.iterAt_heap _ _ _ _ _ h.iter, Lib.below_iterAt h.below (Nat.le_refl _) _ _, by have := h.fuel; have := width_pos s pos; omega⟩
theorem runesAt_step {s : ByteArray} {f pos : Nat} (hp : pos < s.size) : runesAt s (f + 1) pos = ((Utf8.decode s pos).1 : Int) :: runesAt s f (pos + (Utf8.decode s pos).2) := by
  simp [runesAt, hp]


/-- What characters are read as, till one is no digit. -/
def looseR (n sg : Int) : List Int → Int
  | [] => n
  | r :: rs => if r = 45 then looseR n (-1) rs else if 48 ≤ r ∧ r ≤ 57 then looseR (wrap64 (wrap64 (n * 10) + wrap64 (sg * (r - 48)))) sg rs else n

/-- The number of a text. -/
def parseS (T : Nat → Int) (l : List UInt8) : Option Int :=
  if 20 < l.length then none else if fmtS T (looseR 0 1 (runesS (ba l))) = l then some (looseR 0 1 (runesS (ba l))) else none

set_option maxRecDepth 100000 in
set_option maxHeartbeats 2000000 in
theorem turn_long (s : ByteArray) (hs : 20 < s.size) (hs2 : s.size ≤ 9223372036854775807) (w : World) : Calls Tryd.prog 47 #[.string s] w fun e w' => e = .returned (.iface 87 (.string s)) ∧ w' = w := by
  go_enter Tryd.func47, Tryd.ntmps47
  go_wp2
  refine wp_scope_jumps 0 (fun a' w' => w' = w ∧ a' = { tmps := #[.string s, undef, .nilIface, .int .i64 0, .int .i64 1, undef, undef, .string s, .int .i64 s.size, .bool (decide ((20 : Int) < s.size)), undef, undef, undef, undef, undef, undef, undef, undef, undef, undef, undef, undef, undef, undef, undef, undef, undef, undef, undef, undef, undef, undef, undef, undef, undef, undef, undef, undef, undef, undef, undef, undef], defers := [] }) (fun _ _ => 0) rfl ?_ ?_
  · go_wp2
    go_step3
    exact ⟨rfl, rfl, rfl⟩
  · rintro a' w' ⟨rfl, rfl⟩
    go_wp2
    simp only [Exit.jump]
    go_ret
    exact ⟨rfl, rfl⟩

theorem wrap64_i64 (z : Int) : i64R (wrap64 z) := by unfold i64R wrap64; omega

theorem bytes_eq {l : List UInt8} {s : ByteArray} (h : ((ba l).toList == s.toList) = true) : l = s.data.toList := by
  have := eq_of_beq h
  rwa [Lib.toList_data, Lib.toList_data] at this
theorem bytes_ne {l : List UInt8} {s : ByteArray} (h : ((ba l).toList == s.toList) = false) : l ≠ s.data.toList := fun e => by
  rw [Lib.toList_data, Lib.toList_data, ← e] at h
  simp [ba] at h

def TurnPost (T : Nat → Int) (s : ByteArray) (w : World) (e : Ending) (w' : World) : Prop :=
  e = .returned (if fmtS T (looseR 0 1 (runesS s)) = s.data.toList then .iface 64 (.int .i64 (looseR 0 1 (runesS s))) else .iface 87 (.string s)) ∧ Below w.heap.size w w'

theorem turn_yes {T : Nat → Int} {s : ByteArray} {w w' : World} {n : Int} (hn : n = looseR 0 1 (runesS s)) (h : ((ba (fmtS T n)).toList == s.toList) = true) (hb : Below w.heap.size w w') : TurnPost T s w (.returned (.iface 64 (.int .i64 n))) w' := by
  subst hn
  exact ⟨by rw [if_pos (bytes_eq h)], hb⟩
theorem turn_no {T : Nat → Int} {s : ByteArray} {w w' : World} {n : Int} (hn : n = looseR 0 1 (runesS s)) (h : ((ba (fmtS T n)).toList == s.toList) = false) (hb : Below w.heap.size w w') : TurnPost T s w (.returned (.iface 87 (.string s))) w' := by
  subst hn
  exact ⟨by rw [if_neg (bytes_ne h)], hb⟩

set_option maxRecDepth 100000 in
set_option maxHeartbeats 2000000 in
theorem turn_short (T : Nat → Int) (s : ByteArray) (hs : s.size ≤ 20) (w : World) (hT : Tab T w) (h2 : 1 < w.heap.size) : Calls Tryd.prog 47 #[.string s] w (TurnPost T s w) := by
  have HX := fun n (h : i64R n) wi (hb : Below w.heap.size w wi) => Lib.hid (text_value T n h wi (hT.below hb h2))
  go_enter Tryd.func47, Tryd.ntmps47
  go_wp2
  go_step3
  go_wp2
  go_step3
  go_wp2
  go_loopg [3, 4] s.size (fun g vn vs wr => ∃ (pos : Nat) (n sg : Int), vn = .int .i64 n ∧ vs = .int .i64 sg ∧ i64R n ∧ (sg = 1 ∨ sg = -1) ∧ IterRel s w wr g pos ∧ Aside (looseR n sg (runesAt s g pos) = looseR 0 1 (runesS s)))
  case atStart => exact ⟨0, 0, 1, rfl, rfl, by unfold i64R; omega, .inl rfl, IterRel.start s w, rfl⟩
  case round =>
    obtain ⟨pos, n, sg, rfl, rfl, hn, hsg, hR, hk⟩ := hrel
    have hit := hR.iter
    by_cases hp : pos < s.size
    · obtain ⟨f, rfl⟩ : ∃ f, gk = f + 1 := ⟨gk - 1, by have := hR.fuel; omega⟩
      have hnx : ∀ ty, (Instr.next (.pointer (some ⟨w.heap.size, 0, none⟩)) true ty).run Tryd.prog wr = _ := fun ty => Lib.run_next_any_at wr w.heap.size s pos ty hit hp
      have hR2 := hR.next
      have HK2 := Lib.hid (runesAt_step (f := f) hp)
      generalize wr.iterAt w.heap.size s (pos + (Utf8.decode s pos).2) = wi at *
      generalize pos + (Utf8.decode s pos).2 = pos' at *
      have hr0 : 0 ≤ ((Utf8.decode s pos).1 : Int) := by omega
      generalize ((Utf8.decode s pos).1 : Int) = r at *
      clear hit
      have HZ := Lib.hid (HX n hn wi hR2.below)
      clear HX
      go_wp2_with (go_at_call 25; refine HZ.out.mono ?_; rintro e w1 ⟨rfl, hb1⟩)
      · go_roundg f
        case measure => omega
        case rel =>
          have hr : (r == 45) = true := by assumption
          exact ⟨pos', n, -1, rfl, rfl, hn, .inr rfl, hR2, by show _ = _; rw [← hk.out, HK2.out, looseR, if_pos (eq_of_beq hr)]⟩
      · have hr : (r == 45) = false := by assumption
        have h48 : 48 ≤ r := by assumption
        have h57 : r ≤ 57 := by assumption
        go_roundg f
        case measure => omega
        case rel => exact ⟨pos', _, sg, rfl, rfl, wrap64_i64 _, hsg, hR2, by show _ = _; rw [← hk.out, HK2.out, looseR, if_neg (by simpa using hr), if_pos ⟨h48, h57⟩]⟩
      · have hr : (r == 45) = false := by assumption
        have h57 : 57 < r := by assumption
        rw [Exit.noGoto_ret]
        go_ret
        exact turn_yes (by rw [← hk.out, HK2.out, looseR, if_neg (by simpa using hr), if_neg (by omega)]) (by assumption) (hR2.below.trans (hb1.mono hR2.below.size))
      · have hr : (r == 45) = false := by assumption
        have h57 : 57 < r := by assumption
        go_step3
        go_wp2
        rw [Exit.noGoto_ret]
        go_ret
        exact turn_no (by rw [← hk.out, HK2.out, looseR, if_neg (by simpa using hr), if_neg (by omega)]) (by assumption) (hR2.below.trans (hb1.mono hR2.below.size))
      · have hr : (r == 45) = false := by assumption
        have h57 : r < 48 := by assumption
        rw [Exit.noGoto_ret]
        go_ret
        exact turn_yes (by rw [← hk.out, HK2.out, looseR, if_neg (by simpa using hr), if_neg (by omega)]) (by assumption) (hR2.below.trans (hb1.mono hR2.below.size))
      · have hr : (r == 45) = false := by assumption
        have h57 : r < 48 := by assumption
        go_step3
        go_wp2
        rw [Exit.noGoto_ret]
        go_ret
        exact turn_no (by rw [← hk.out, HK2.out, looseR, if_neg (by simpa using hr), if_neg (by omega)]) (by assumption) (hR2.below.trans (hb1.mono hR2.below.size))
    · have hnx : ∀ ty, (Instr.next (.pointer (some ⟨w.heap.size, 0, none⟩)) true ty).run Tryd.prog wr = _ := fun ty => Lib.run_next_end_at wr w.heap.size s pos ty hit hp
      have HZ := Lib.hid (HX n hn wr hR.below)
      clear hit HX
      go_wp2_with (go_at_call 25; refine HZ.out.mono ?_; rintro e w1 ⟨rfl, hb1⟩)
      · rw [Exit.noGoto_ret]
        go_ret
        exact turn_yes (by rw [← hk.out, runesAt_end hp, looseR]) (by assumption) (hR.below.trans (hb1.mono hR.below.size))
      · go_step3
        go_wp2
        rw [Exit.noGoto_ret]
        go_ret
        exact turn_no (by rw [← hk.out, runesAt_end hp, looseR]) (by assumption) (hR.below.trans (hb1.mono hR.below.size))

end Go.Proofs.YtbjjgkicjnoegaaDoor
