/- Whether a text has a byte of an END: what strings.ContainsAny answers of it, for every text. -/
import Derived.Test.YtjcgfbmkgfhnaaaDoorThrough
import Derived.Test.YtjcgfbmkgfhnaaaDoorShelf
import Derived.Test.YtjcgfbmkgfhnaaaDoorText
import Derived.Deep.QuietTactic
import Derived.BigQuiet
import Derived.Deep.LoopGhost
namespace Go.Proofs.YtjcgfbmkgfhnaaaDoor
open Go.RowKit Go.Shelf

theorem quiet_same' {P : Program} {f : FuncId} {args : Array Value} {w : World} {n : Nat} {v : Value} (h : Calls P f args (w.drewN n) fun e w' => e = .returned v ∧ w' = w.drewN n) :
    Calls P f args (w.drewN n) fun e w'' => e = .returned v ∧ ∃ m, w'' = w.drewN m :=
  h.mono fun _ _ ⟨he, hm⟩ => ⟨he, n, hm⟩
theorem quiet_add_same {P : Program} {f : FuncId} {args : Array Value} {w : World} {a n : Nat} {v : Value}
    (h : Calls P f args (w.drewN (a + n)) fun e w' => e = .returned v ∧ w' = w.drewN (a + n)) :
    Calls P f args (w.drewN (a + n)) fun e w'' => e = .returned v ∧ ∃ m, w'' = w.drewN (a + m) :=
  h.mono fun _ _ ⟨he, hm⟩ => ⟨he, n, hm⟩
theorem below_drewN {B : Nat} {a w : World} (h : Below B a w) (n : Nat) : Below B a (w.drewN n) := ⟨h.os, h.tape, h.output, h.size, h.block⟩
def endB : ByteArray := ⟨#[13, 10]⟩
def endR (r : Int) : Bool := r == 13 || r == 10

theorem low_end : ∀ n : Nat, n < 128 → decide (0 ≤ Lib.indexByte [13, 10] n.toUInt8) = endR (n : Int) := by decide

def RunePost (r : Int) (w : World) (e : Ending) (w' : World) : Prop := ∃ x : Int, e = .returned (.int .i64 x) ∧ decide (0 ≤ x) = endR r ∧ Below w.heap.size w w'

theorem rune_low (r : Int) (w : World) (h0 : 0 ≤ r) (h1 : r < 128) :
    Calls Tryd.prog 45 #[.string ⟨#[13, 10]⟩, .int .i32 r] w (RunePost r w) := by
  refine (Tryd.strings_IndexRune_ascii ⟨#[13, 10]⟩ r w h0 h1).mono ?_
  rintro e w' ⟨rfl, rfl⟩
  refine ⟨_, rfl, ?_, Below.refl _ _⟩
  obtain ⟨n, rfl⟩ := Int.eq_ofNat_of_zero_le h0
  exact low_end n (by omega)

set_option maxRecDepth 100000 in
set_option maxHeartbeats 2000000 in
theorem rune_err (w : World) : Calls Tryd.prog 45 #[.string ⟨#[13, 10]⟩, .int .i32 65533] w (RunePost 65533 w) := by
  have n0 := fun ty => run_next_ascii (P := Tryd.prog) w ⟨#[13, 10]⟩ 0 ty (by decide) (by decide)
  have n1 := fun ty => run_next_ascii (P := Tryd.prog) w ⟨#[13, 10]⟩ 1 ty (by decide) (by decide)
  have n2 := run_next_end (P := Tryd.prog) w ⟨#[13, 10]⟩ 2
  go_enter Tryd.func45, Tryd.ntmps45
  go_wp2
  refine wp_loop_rounds 3 ?_
  rw [rounds_succ]
  go_wp2
  rw [rounds_succ]
  go_wp2
  rw [rounds_succ]
  go_wp2
  go_ret
  exact ⟨-1, rfl, by decide, (Below.refl _ _).alloc (Nat.le_refl _) _⟩

/-- A character from 128 on, as bytes. -/
theorem enc_high (r : Int) (hv : ValidR r) (h : 128 ≤ r) : (∃ a b : UInt8, Utf8.encode r = ⟨#[a, b]⟩ ∧ 128 ≤ b.toNat) ∨ (3 ≤ (Utf8.encode r).size ∧ (Utf8.encode r).size ≤ 4) := by
  have hs : (Utf8.encode r).size = (encL r).length := by unfold encL; rw [Array.length_toList]; rfl
  have h0 : ¬ r.toNat < 128 := by omega
  by_cases h2 : r.toNat < 2048
  · left
    have e := encL_two hv.1 h0 h2
    refine ⟨UInt8.ofNat (192 + r.toNat / 64), UInt8.ofNat (128 + r.toNat % 64), ?_, ?_⟩
    · apply ByteArray.ext
      apply Array.ext'
      exact e
    · rw [ofNat_toNat (by omega)]; omega
  · right
    by_cases h3 : r.toNat < 65536
    · rw [hs, encL_three hv.1 h0 h2 h3]; simp
    · rw [hs, encL_four hv.1 h0 h2 h3]; simp

theorem valid_rune (r : Int) (hv : ValidR r) : Lib.validRune r = true := by
  have h := hv.1
  simp [Utf8.valid] at h
  simp [Lib.validRune]
  omega

set_option maxRecDepth 100000 in
set_option maxHeartbeats 2000000 in
theorem rune_high (r : Int) (w : World) (hv : ValidR r) (h : 128 ≤ r) (hne : r ≠ 65533) : Calls Tryd.prog 45 #[.string ⟨#[13, 10]⟩, .int .i32 r] w (RunePost r w) := by
  have hV := Lib.hid (Tryd.utf8_ValidRune r w)
  rw [valid_rune r hv] at hV
  have hE := Lib.hid (enc_high r hv h)
  have he : endR r = false := by simp [endR]; omega
  have HE := Lib.hid he
  clear hv he
  rcases hE.out with ⟨a, b, he, hb⟩ | ⟨he1, he2⟩
  · have hi : Lib.indexByte [] b = -1 := by simp [Lib.indexByte]
    have hne10 : ((((⟨#[13, 10]⟩ : ByteArray)[1]'(by decide)).toNat : Int) != ((((⟨#[a, b]⟩ : ByteArray)[1]'(by decide : 1 < 2)).toNat : Nat) : Int)) = true := by
      show (((10 : UInt8).toNat : Int) != (b.toNat : Int)) = true
      simp; omega
    have hx : (⟨#[13, 10]⟩ : ByteArray).extract 2 2 = ⟨#[]⟩ := by decide
    go_enter Tryd.func45, Tryd.ntmps45
    go_wp2_with (go_at_call 54; refine hV.out.mono ?_; rintro e w' ⟨rfl, rfl⟩)
    go_step3
    go_wp2
    refine wp_loop_rounds 1 ?_
    rw [rounds_succ]
    go_wp2
    go_step3
    go_wp2
    go_quiet (fail)
    go_wp2
    go_quiet ((go_at_call 40; exact quiet_add_same (Tryd.strings_IndexByte _ _ _)))
    go_wp2
    rw [Exit.noGoto_ret]
    show Exit.noGoto (bodyPost Tryd.prog Tryd.f45 (RunePost r w')) Exit.ret _ _
    rw [Exit.noGoto_ret]
    go_ret
    exact ⟨-1, rfl, HE.out.symm ▸ rfl, below_drewN (Below.refl _ _) _⟩
  · go_enter Tryd.func45, Tryd.ntmps45
    go_wp2_with (go_at_call 54; refine hV.out.mono ?_; rintro e w' ⟨rfl, rfl⟩)
    go_step3
    go_wp2
    refine wp_loop_rounds 1 ?_
    rw [rounds_succ]
    go_wp2
    rw [Exit.noGoto_ret]
    go_ret
    exact ⟨-1, rfl, HE.out.symm ▸ rfl, Below.refl _ _⟩

theorem rune_any (r : Int) (w : World) (hv : ValidR r) : Calls Tryd.prog 45 #[.string ⟨#[13, 10]⟩, .int .i32 r] w (RunePost r w) := by
  by_cases h : r < 128
  · exact rune_low r w hv.2.1 h
  · by_cases he : r = 65533
    · subst he; exact rune_err w
    · exact rune_high r w hv (by omega) he

/-- Whether there is a byte of an END. -/
def brkS (s : ByteArray) : Bool := if 8 < s.size then decide (0 ≤ Lib.indexAny s.data.toList [13, 10]) else (runesL s.data.toList).any endR

theorem width_pos (s : ByteArray) (pos : Nat) : 1 ≤ (Utf8.decode s pos).2 := by
  rw [dec_eq]; exact (decL_width _).1

/-- The characters from a place on. -/
theorem runes_at (s : ByteArray) (pos : Nat) (h : pos < s.size) : runesL (s.data.toList.drop pos) = ((Utf8.decode s pos).1 : Int) :: runesL (s.data.toList.drop (pos + (Utf8.decode s pos).2)) ∧ ValidR ((Utf8.decode s pos).1 : Int) := by
  have hl : pos < s.data.toList.length := by rw [Array.length_toList]; exact h
  rw [dec_eq]
  cases hd : s.data.toList.drop pos with
  | nil => have := congrArg List.length hd; simp at this; omega
  | cons b l =>
    refine ⟨?_, decL_valid b l⟩
    rw [runesL_cons, ← hd, List.drop_drop]

def AnyPost (s : ByteArray) (w : World) (e : Ending) (w' : World) : Prop := ∃ x : Int, e = .returned (.int .i64 x) ∧ decide (0 ≤ x) = brkS s ∧ Below w.heap.size w w'

structure IterRel (s : ByteArray) (w wr : World) (f pos : Nat) : Prop where
  iter : wr.heap[w.heap.size]? = some (.stringIter s pos)
  below : Below w.heap.size w wr
  fuel : s.size ≤ pos + f

theorem IterRel.next {s : ByteArray} {w wr : World} {f pos : Nat} (h : IterRel s w wr (f + 1) pos) :
    IterRel s w (wr.iterAt w.heap.size s (pos + (Utf8.decode s pos).2)) f (pos + (Utf8.decode s pos).2) :=
  ⟨Lib.iterAt_heap _ _ _ _ _ h.iter, Lib.below_iterAt h.below (Nat.le_refl _) _ _, by have := h.fuel; have := width_pos s pos; omega⟩
theorem IterRel.later {s : ByteArray} {w wr wr' : World} {f pos : Nat} (h : IterRel s w wr f pos) (hb : Below wr.heap.size wr wr') : IterRel s w wr' f pos :=
  ⟨(hb.block _ (Array.getElem?_eq_some_iff.1 h.iter).1).trans h.iter, h.below.trans (hb.mono h.below.size), h.fuel⟩

set_option maxRecDepth 100000 in
set_option maxHeartbeats 2000000 in
theorem any_short (s : ByteArray) (w : World) (h8 : s.size ≤ 8) : Calls Tryd.prog 39 #[.string s, .string ⟨#[13, 10]⟩] w (AnyPost s w) := by
  have hb0 : brkS s = (runesL (s.data.toList.drop 0)).any endR := by unfold brkS; rw [if_neg (by omega)]; rfl
  have HB := Lib.hid hb0
  clear hb0
  have h8z : decide ((8 : Int) < (s.size : Int)) = false := decide_eq_false (by omega)
  have hA := Tryd.strings_shouldUseASCIISet s.size
  rw [h8z] at hA
  have HA := fun w => Lib.hid (hA w)
  clear hA h8z
  go_enter Tryd.func39, Tryd.ntmps39
  go_wp2_with (go_at_call 46; refine (HA _).out.mono ?_; rintro e w' ⟨rfl, rfl⟩)
  go_loopg [9, 10] s.size (fun g _ _ wr => ∃ pos : Nat, IterRel s w' wr g pos ∧ Aside (brkS s = (runesL (s.data.toList.drop pos)).any endR))
  case atStart => exact ⟨0, ⟨heap_at rfl, (Below.refl _ _).alloc (Nat.le_refl _) _, by omega⟩, HB.out⟩
  case round =>
    obtain ⟨pos, hR, hk⟩ := hrel
    have hit := hR.iter
    by_cases hp : pos < s.size
    · obtain ⟨f, rfl⟩ : ∃ f, gk = f + 1 := ⟨gk - 1, by have := hR.fuel; omega⟩
      have hnx : ∀ ty, (Instr.next (.pointer (some ⟨w'.heap.size, 0, none⟩)) true ty).run Tryd.prog wr = _ := fun ty => Lib.run_next_any_at wr w'.heap.size s pos ty hit hp
      have hR2 := hR.next
      obtain ⟨hk2, hv⟩ := runes_at s pos hp
      have HK2 := Lib.hid hk2
      clear hk2 hR
      have hpb : pos ≤ 8 := by omega
      generalize wr.iterAt w'.heap.size s (pos + (Utf8.decode s pos).2) = wi at *
      generalize pos + (Utf8.decode s pos).2 = pos' at *
      generalize ((Utf8.decode s pos).1 : Int) = r at *
      clear hit
      have HS := Lib.hid (rune_any r wi hv)
      go_wp2_with fail
      refine HS.out.mono ?_
      rintro e w1 ⟨x, rfl, hx, hb1⟩
      cases hs : endR r
      all_goals rw [hs] at hx
      all_goals have HSS := Lib.hid hs
      all_goals clear hs HS
      · go_wp2
        go_roundg f
        case measure => omega
        case rel => exact ⟨pos', hR2.later hb1, by show _ = _; rw [hk.out, HK2.out, List.any_cons, HSS.out]; rfl⟩
      · go_wp2
        go_ret
        exact ⟨pos, rfl, by rw [hk.out, HK2.out, List.any_cons, HSS.out]; simp, (hR2.later hb1).below⟩
    · have hnx : ∀ ty, (Instr.next (.pointer (some ⟨w'.heap.size, 0, none⟩)) true ty).run Tryd.prog wr = _ := fun ty => Lib.run_next_end_at wr w'.heap.size s pos ty hit hp
      clear hit
      go_wp2
      go_ret
      exact ⟨-1, rfl, by rw [hk.out, List.drop_eq_nil_of_le (by rw [Array.length_toList]; show s.size ≤ pos; omega)]; rfl, hR.below⟩

theorem any_long (s : ByteArray) (w : World) (h8 : 8 < s.size) (hs : s.size < 4294967281) : Calls Tryd.prog 39 #[.string s, .string ⟨#[13, 10]⟩] w (AnyPost s w) := by
  refine (Tryd.strings_IndexAny_long (zero_of_info (n := 256) (by kernel_rfl)).1 s ⟨#[13, 10]⟩ w (by decide) h8 hs (by decide) ?_).mono ?_
  · intro j b hb
    match j, hb with
    | 0, hb => cases hb; decide
    | 1, hb => cases hb; decide
    | j + 2, hb => simp at hb
  · rintro e w' ⟨rfl, rfl⟩
    refine ⟨_, rfl, ?_, ((Below.refl _ _).alloc (Nat.le_refl _) _).alloc (by simp) _⟩
    unfold brkS; rw [if_pos h8]

theorem contains_end (s : ByteArray) (w : World) (hs : s.size < 4294967281) :
    Calls Tryd.prog 34 #[.string s, .string ⟨#[13, 10]⟩] w fun e w' => e = .returned (.bool (brkS s)) ∧ Below w.heap.size w w' := by
  have HA : Hid (Calls Tryd.prog 39 #[.string s, .string ⟨#[13, 10]⟩] w (AnyPost s w)) := by
    by_cases h8 : s.size ≤ 8
    · exact any_short s w h8
    · exact any_long s w (by omega) hs
  go_enter Tryd.func34, Tryd.ntmps34
  go_wp2_with fail
  refine HA.out.mono ?_
  rintro e w1 ⟨x, rfl, hx, hb1⟩
  have HX := Lib.hid hx
  clear hx
  go_wp2
  go_ret
  exact ⟨by rw [HX.out]; rfl, hb1⟩

end Go.Proofs.YtjcgfbmkgfhnaaaDoor
