/- FlagsRead: its walk. -/
import Derived.Test.YtnkgkimlmceciaaRefWrite
import Derived.Test.YtnkgkimlmceciaaRefRead
import Derived.Test.YtnkgkimlmceciaaRead
namespace Go.Proofs.Ytnkgkimlmceciaa
open Go.RowKit Go.Shelf
attribute [local go_sem] Oper.semAt_some

set_option maxRecDepth 100000 in
set_option maxHeartbeats 4000000 in
theorem refRead_nil (w : World) : Calls Try.prog 16 #[.slice none 0 0] w fun e w' => e = .returned (readT []) ∧ Below w.heap.size w w' := by
  have HR := fun w => Lib.hid (refRight_any Fl.zero w)
  have hr : Fl.zero.right = true := rfl
  rw [hr] at HR
  unfold Fl.v Fl.c Fl.zero at HR
  simp only at HR
  go_enter Try.func16, Try.ntmps16
  go_wp2
  go_loopw [6] (fun i wr => i = .int .i64 0 ∧ wr = (w.alloc (.cells #[.bool false, .bool false, .bool false, .bool false, .bool false, .bool false] 23)).alloc (.cells #[.bool false, .bool false, .bool false, .bool false, .bool false, .bool false] 23)) (fun _ _ => 0)
  case atStart => exact ⟨rfl, rfl⟩
  case round =>
    obtain ⟨rfl, rfl⟩ := hrel
    go_wp2_with fail
    refine (HR _).out.mono ?_
    rintro e W5 ⟨rfl, hb5⟩
    have hb := (((Below.refl _ w).alloc (Nat.le_refl _) (.cells #[.bool false, .bool false, .bool false, .bool false, .bool false, .bool false] 23)).alloc (by simp) (.cells #[.bool false, .bool false, .bool false, .bool false, .bool false, .bool false] 23))
    have B5 := Lib.hid (hb.trans (hb5.mono hb.size))
    have k0 := ((Blk.new w 23 #[.bool false, .bool false, .bool false, .bool false, .bool false, .bool false]).alloc (.cells #[.bool false, .bool false, .bool false, .bool false, .bool false, .bool false] 23)).later hb5
    have h := Blk.new (w.alloc (.cells #[.bool false, .bool false, .bool false, .bool false, .bool false, .bool false] 23)) 23 #[.bool false, .bool false, .bool false, .bool false, .bool false, .bool false]
    rw [World.size_alloc] at h
    have k1 := h.later hb5
    have a0 := k1.cell 0
    have a1 := k1.cell 1
    have a2 := k1.cell 2
    have a3 := k1.cell 3
    have a4 := k1.cell 4
    have a5 := k1.cell 5
    have b0 := k0.cell 0
    have b1 := k0.cell 1
    have b2 := k0.cell 2
    have b3 := k0.cell 3
    have b4 := k0.cell 4
    have b5 := k0.cell 5
    have g0 := k0.free 0
    have g1 := k0.free 1
    have g2 := k0.free 2
    have g3 := k0.free 3
    have g4 := k0.free 4
    have g5 := k0.free 5
    simp at a0 a1 a2 a3 a4 a5 b0 b1 b2 b3 b4 b5
    have K0 := Lib.hid k0
    clear hb5 hb k0 k1 h HR
    go_wp2_with fail
    have KF := set6_blk K0.out (.bool false) (.bool false) (.bool false) (.bool false) (.bool false) (.bool false)
    have r0 := KF.cell 0
    have r1 := KF.cell 1
    have r2 := KF.cell 2
    have r3 := KF.cell 3
    have r4 := KF.cell 4
    have r5 := KF.cell 5
    simp only [set6] at r0 r1 r2 r3 r4 r5
    simp at r0 r1 r2 r3 r4 r5
    have hBF := set6_below B5.out (Nat.le_refl _) (.bool false) (.bool false) (.bool false) (.bool false) (.bool false) (.bool false)
    simp only [set6] at hBF
    refine bodyPost_ret (v := .tuple #[.agg #[.bool false, .bool false, .bool false, .bool false, .bool false, .bool false], .int .i64 0, .int .i64 0]) ?_ rfl ⟨rfl, hBF⟩
    simp [results, Try.results16, go_sem, r0, r1, r2, r3, r4, r5]
theorem refRead_any (l : List ByteArray) (hl : l.length ≤ 1000000000) (hsz : ∀ s ∈ l, s.size ≤ 100000000000000) (v : Value) (w : World) (hv : Words w v l) : Calls Try.prog 16 #[v] w fun e w' => e = .returned (readT l) ∧ Below w.heap.size w w' := by
  rcases hv with ⟨rfl, rfl⟩ | ⟨b, cap, cur, rfl, h2, h3⟩
  · exact refRead_nil w
  · exact refRead_some l hl hsz b cap cur w h2 h3
/-- What Read answers: flags, how many, an error. -/
theorem readT_shape (l : List ByteArray) : ∃ (f : Fl) (n e : Int), readT l = .tuple #[f.v, .int .i64 n, .int .i64 e] := by
  unfold readT
  split
  · exact ⟨_, _, _, rfl⟩
  · exact ⟨_, _, _, rfl⟩
theorem row_strs {w W W' : World} {r : Value} {l : List ByteArray} (h : RowW w W r l) (hb : Below W.heap.size W W') : ∃ a cap, r = .slice a l.length cap ∧ Strs W' a l := by
  obtain ⟨a, cap, h1, h2⟩ := (row_words h).strs
  exact ⟨a, cap, h1, h2.below hb⟩

set_option maxRecDepth 100000 in
set_option maxHeartbeats 4000000 in
/-- FlagsRead. -/
theorem read_walk (a : Option Addr) (cap : Nat) (l : List ByteArray) (hl : l.length ≤ 9223372036854775807) (hz : ∀ e ∈ l, e.size ≤ 9223372036854775807) (f : Fl) (w : World) (hE : Strs w a l) :
    Calls Try.prog 4 #[.slice a l.length cap, f.v] w fun e w' => e = .returned (.bool true) ∧ Below w.heap.size w w' := by
  have HS := fun w => Lib.hid (shown_any w)
  have HF := fun w h => Lib.hid (few_any a cap l hl hz w h)
  have HE := Lib.hid hE
  have HR := fun v w h => Lib.hid (read_any (fewS l) (by have := few_len l; omega) v w h)
  have HQ := fun v w h => Lib.hid (refRead_any (fewS l) (by have := few_len l; omega) (fun s hs => by have := few_small l s hs; omega) v w h)
  have HW := fun w => Lib.hid (write_any f w)
  have HV := fun w => Lib.hid (refWrite_any f w)
  obtain ⟨g, n, c, hrt⟩ := readT_shape (fewS l)
  rw [hrt] at HR HQ
  have HLEN := Lib.hid (words_len f 6)
  clear hrt hE hl hz
  obtain ⟨nx, xx, gt, lt, ch, inc⟩ := f
  obtain ⟨mx, yx, kt, mt, dh, jnc⟩ := g
  unfold Fl.v Fl.c at HR HQ HW HV
  unfold Fl.v Fl.c
  simp only at HR HQ HW HV ⊢
  go_enter Try.func4, Try.ntmps4
  go_wp2_with fail
  refine (HS _).out.mono ?_
  rintro e w1 ⟨rfl, hb1⟩
  have B1 := Lib.hid (((Below.refl _ _).alloc (Nat.le_refl _) _).trans (hb1.mono (by simp)))
  have K1 := Lib.hid ((Blk.new w 23 #[.bool nx, .bool xx, .bool gt, .bool lt, .bool ch, .bool inc]).later hb1)
  clear hb1
  go_wp2_with fail
  refine (HF _ (HE.out.below B1.out)).out.mono ?_
  rintro e w2 ⟨r2, rfl, hw2, hb2⟩
  have B2 := Lib.hid (B1.out.trans (hb2.mono B1.out.size))
  have K2 := Lib.hid (K1.out.later hb2)
  have HW2 := Lib.hid hw2
  clear hb2 hw2 K1 B1
  go_wp2_with fail
  refine (HR _ _ HW2.out).out.mono ?_
  rintro e w3 ⟨rfl, hb3⟩
  have B3 := Lib.hid ((B2.out.trans (hb3.mono B2.out.size)).alloc (Nat.le_trans B2.out.size hb3.size) (.cells #[.bool mx, .bool yx, .bool kt, .bool mt, .bool dh, .bool jnc] 23))
  have K3 := Lib.hid ((K2.out.later hb3).alloc (.cells #[.bool mx, .bool yx, .bool kt, .bool mt, .bool dh, .bool jnc] 23))
  have X3 := Lib.hid (Blk.new w3 23 #[.bool mx, .bool yx, .bool kt, .bool mt, .bool dh, .bool jnc])
  clear hb3 K2 B2 HW2
  go_wp2_with fail
  refine (HF _ (HE.out.below B3.out)).out.mono ?_
  rintro e w4 ⟨r4, rfl, hw4, hb4⟩
  have B4 := Lib.hid (B3.out.trans (hb4.mono B3.out.size))
  have K4 := Lib.hid (K3.out.later hb4)
  have X4 := Lib.hid (X3.out.later hb4)
  have HW4 := Lib.hid hw4
  clear hb4 hw4 K3 B3 X3
  go_wp2_with fail
  refine (HQ _ _ HW4.out).out.mono ?_
  rintro e w5 ⟨rfl, hb5⟩
  have B5 := Lib.hid (((B4.out.trans (hb5.mono B4.out.size)).alloc (Nat.le_trans B4.out.size hb5.size) (.cells #[.bool mx, .bool yx, .bool kt, .bool mt, .bool dh, .bool jnc] 23)).drew)
  have K5 := Lib.hid (((K4.out.later hb5).alloc (.cells #[.bool mx, .bool yx, .bool kt, .bool mt, .bool dh, .bool jnc] 23)).drew)
  have X5 := Lib.hid (((X4.out.later hb5).alloc (.cells #[.bool mx, .bool yx, .bool kt, .bool mt, .bool dh, .bool jnc] 23)).drew)
  have Y5 := Lib.hid ((Blk.new w5 23 #[.bool mx, .bool yx, .bool kt, .bool mt, .bool dh, .bool jnc]).drew)
  have S1 : ((w5.alloc (.cells #[.bool mx, .bool yx, .bool kt, .bool mt, .bool dh, .bool jnc] 23)).drew).cell? ⟨w.heap.size, 0, none⟩ = some (.bool nx) ∧ ((w5.alloc (.cells #[.bool mx, .bool yx, .bool kt, .bool mt, .bool dh, .bool jnc] 23)).drew).cell? ⟨w.heap.size, 1, none⟩ = some (.bool xx) ∧ ((w5.alloc (.cells #[.bool mx, .bool yx, .bool kt, .bool mt, .bool dh, .bool jnc] 23)).drew).cell? ⟨w.heap.size, 2, none⟩ = some (.bool gt) ∧ ((w5.alloc (.cells #[.bool mx, .bool yx, .bool kt, .bool mt, .bool dh, .bool jnc] 23)).drew).cell? ⟨w.heap.size, 3, none⟩ = some (.bool lt) ∧ ((w5.alloc (.cells #[.bool mx, .bool yx, .bool kt, .bool mt, .bool dh, .bool jnc] 23)).drew).cell? ⟨w.heap.size, 4, none⟩ = some (.bool ch) ∧ ((w5.alloc (.cells #[.bool mx, .bool yx, .bool kt, .bool mt, .bool dh, .bool jnc] 23)).drew).cell? ⟨w.heap.size, 5, none⟩ = some (.bool inc) ∧ ((w5.alloc (.cells #[.bool mx, .bool yx, .bool kt, .bool mt, .bool dh, .bool jnc] 23)).drew).cell? ⟨w3.heap.size, 0, none⟩ = some (.bool mx) ∧ ((w5.alloc (.cells #[.bool mx, .bool yx, .bool kt, .bool mt, .bool dh, .bool jnc] 23)).drew).cell? ⟨w3.heap.size, 1, none⟩ = some (.bool yx) ∧ ((w5.alloc (.cells #[.bool mx, .bool yx, .bool kt, .bool mt, .bool dh, .bool jnc] 23)).drew).cell? ⟨w3.heap.size, 2, none⟩ = some (.bool kt) ∧ ((w5.alloc (.cells #[.bool mx, .bool yx, .bool kt, .bool mt, .bool dh, .bool jnc] 23)).drew).cell? ⟨w3.heap.size, 3, none⟩ = some (.bool mt) ∧ ((w5.alloc (.cells #[.bool mx, .bool yx, .bool kt, .bool mt, .bool dh, .bool jnc] 23)).drew).cell? ⟨w3.heap.size, 4, none⟩ = some (.bool dh) ∧ ((w5.alloc (.cells #[.bool mx, .bool yx, .bool kt, .bool mt, .bool dh, .bool jnc] 23)).drew).cell? ⟨w3.heap.size, 5, none⟩ = some (.bool jnc) ∧ ((w5.alloc (.cells #[.bool mx, .bool yx, .bool kt, .bool mt, .bool dh, .bool jnc] 23)).drew).cell? ⟨w5.heap.size, 0, none⟩ = some (.bool mx) ∧ ((w5.alloc (.cells #[.bool mx, .bool yx, .bool kt, .bool mt, .bool dh, .bool jnc] 23)).drew).cell? ⟨w5.heap.size, 1, none⟩ = some (.bool yx) ∧ ((w5.alloc (.cells #[.bool mx, .bool yx, .bool kt, .bool mt, .bool dh, .bool jnc] 23)).drew).cell? ⟨w5.heap.size, 2, none⟩ = some (.bool kt) ∧ ((w5.alloc (.cells #[.bool mx, .bool yx, .bool kt, .bool mt, .bool dh, .bool jnc] 23)).drew).cell? ⟨w5.heap.size, 3, none⟩ = some (.bool mt) ∧ ((w5.alloc (.cells #[.bool mx, .bool yx, .bool kt, .bool mt, .bool dh, .bool jnc] 23)).drew).cell? ⟨w5.heap.size, 4, none⟩ = some (.bool dh) ∧ ((w5.alloc (.cells #[.bool mx, .bool yx, .bool kt, .bool mt, .bool dh, .bool jnc] 23)).drew).cell? ⟨w5.heap.size, 5, none⟩ = some (.bool jnc) := ⟨K5.out.cell 0, K5.out.cell 1, K5.out.cell 2, K5.out.cell 3, K5.out.cell 4, K5.out.cell 5, X5.out.cell 0, X5.out.cell 1, X5.out.cell 2, X5.out.cell 3, X5.out.cell 4, X5.out.cell 5, Y5.out.cell 0, Y5.out.cell 1, Y5.out.cell 2, Y5.out.cell 3, Y5.out.cell 4, Y5.out.cell 5⟩
  clear hb5 K4 B4 X4 HW4
  go_wp2_with fail
  generalize wordsK ⟨nx, xx, gt, lt, ch, inc⟩ 6 = L at *
  have hL6 : L.length ≤ 1000000000 := by have := HLEN.out; omega
  go_region_held (fun W => W.cell? ⟨w.heap.size, 0, none⟩ = some (.bool nx) ∧ W.cell? ⟨w.heap.size, 1, none⟩ = some (.bool xx) ∧ W.cell? ⟨w.heap.size, 2, none⟩ = some (.bool gt) ∧ W.cell? ⟨w.heap.size, 3, none⟩ = some (.bool lt) ∧ W.cell? ⟨w.heap.size, 4, none⟩ = some (.bool ch) ∧ W.cell? ⟨w.heap.size, 5, none⟩ = some (.bool inc) ∧ W.cell? ⟨w3.heap.size, 0, none⟩ = some (.bool mx) ∧ W.cell? ⟨w3.heap.size, 1, none⟩ = some (.bool yx) ∧ W.cell? ⟨w3.heap.size, 2, none⟩ = some (.bool kt) ∧ W.cell? ⟨w3.heap.size, 3, none⟩ = some (.bool mt) ∧ W.cell? ⟨w3.heap.size, 4, none⟩ = some (.bool dh) ∧ W.cell? ⟨w3.heap.size, 5, none⟩ = some (.bool jnc) ∧ W.cell? ⟨w5.heap.size, 0, none⟩ = some (.bool mx) ∧ W.cell? ⟨w5.heap.size, 1, none⟩ = some (.bool yx) ∧ W.cell? ⟨w5.heap.size, 2, none⟩ = some (.bool kt) ∧ W.cell? ⟨w5.heap.size, 3, none⟩ = some (.bool mt) ∧ W.cell? ⟨w5.heap.size, 4, none⟩ = some (.bool dh) ∧ W.cell? ⟨w5.heap.size, 5, none⟩ = some (.bool jnc)) (first | exact S1 | exact S7 | exact S8 | assumption)
    (first
      | (go_at_call 18; refine (HW _).out.mono ?_; rintro e w7 ⟨r7, rfl, hr7, hb7⟩
         obtain ⟨a7, c7, rfl, hs7⟩ := row_strs hr7 (Below.refl _ _)
         have B7 := Lib.hid (B5.out.trans (hb7.mono B5.out.size))
         have K7 := Lib.hid (K5.out.later hb7)
         have X7 := Lib.hid (X5.out.later hb7)
         have Y7 := Lib.hid (Y5.out.later hb7)
         have H7 := Lib.hid hs7
         have S7 : w7.cell? ⟨w.heap.size, 0, none⟩ = some (.bool nx) ∧ w7.cell? ⟨w.heap.size, 1, none⟩ = some (.bool xx) ∧ w7.cell? ⟨w.heap.size, 2, none⟩ = some (.bool gt) ∧ w7.cell? ⟨w.heap.size, 3, none⟩ = some (.bool lt) ∧ w7.cell? ⟨w.heap.size, 4, none⟩ = some (.bool ch) ∧ w7.cell? ⟨w.heap.size, 5, none⟩ = some (.bool inc) ∧ w7.cell? ⟨w3.heap.size, 0, none⟩ = some (.bool mx) ∧ w7.cell? ⟨w3.heap.size, 1, none⟩ = some (.bool yx) ∧ w7.cell? ⟨w3.heap.size, 2, none⟩ = some (.bool kt) ∧ w7.cell? ⟨w3.heap.size, 3, none⟩ = some (.bool mt) ∧ w7.cell? ⟨w3.heap.size, 4, none⟩ = some (.bool dh) ∧ w7.cell? ⟨w3.heap.size, 5, none⟩ = some (.bool jnc) ∧ w7.cell? ⟨w5.heap.size, 0, none⟩ = some (.bool mx) ∧ w7.cell? ⟨w5.heap.size, 1, none⟩ = some (.bool yx) ∧ w7.cell? ⟨w5.heap.size, 2, none⟩ = some (.bool kt) ∧ w7.cell? ⟨w5.heap.size, 3, none⟩ = some (.bool mt) ∧ w7.cell? ⟨w5.heap.size, 4, none⟩ = some (.bool dh) ∧ w7.cell? ⟨w5.heap.size, 5, none⟩ = some (.bool jnc) := ⟨K7.out.cell 0, K7.out.cell 1, K7.out.cell 2, K7.out.cell 3, K7.out.cell 4, K7.out.cell 5, X7.out.cell 0, X7.out.cell 1, X7.out.cell 2, X7.out.cell 3, X7.out.cell 4, X7.out.cell 5, Y7.out.cell 0, Y7.out.cell 1, Y7.out.cell 2, Y7.out.cell 3, Y7.out.cell 4, Y7.out.cell 5⟩
         clear hb7 hr7 hs7)
      | (go_at_call 19; refine (HV _).out.mono ?_; rintro e w8 ⟨r8, rfl, hr8, hb8⟩
         obtain ⟨a8, c8, rfl, hs8⟩ := row_strs hr8 (Below.refl _ _)
         have B8 := Lib.hid (B7.out.trans (hb8.mono B7.out.size))
         have K8 := Lib.hid (K7.out.later hb8)
         have X8 := Lib.hid (X7.out.later hb8)
         have Y8 := Lib.hid (Y7.out.later hb8)
         have H8 := Lib.hid hs8
         have G8 := Lib.hid (H7.out.below hb8)
         have S8 : w8.cell? ⟨w.heap.size, 0, none⟩ = some (.bool nx) ∧ w8.cell? ⟨w.heap.size, 1, none⟩ = some (.bool xx) ∧ w8.cell? ⟨w.heap.size, 2, none⟩ = some (.bool gt) ∧ w8.cell? ⟨w.heap.size, 3, none⟩ = some (.bool lt) ∧ w8.cell? ⟨w.heap.size, 4, none⟩ = some (.bool ch) ∧ w8.cell? ⟨w.heap.size, 5, none⟩ = some (.bool inc) ∧ w8.cell? ⟨w3.heap.size, 0, none⟩ = some (.bool mx) ∧ w8.cell? ⟨w3.heap.size, 1, none⟩ = some (.bool yx) ∧ w8.cell? ⟨w3.heap.size, 2, none⟩ = some (.bool kt) ∧ w8.cell? ⟨w3.heap.size, 3, none⟩ = some (.bool mt) ∧ w8.cell? ⟨w3.heap.size, 4, none⟩ = some (.bool dh) ∧ w8.cell? ⟨w3.heap.size, 5, none⟩ = some (.bool jnc) ∧ w8.cell? ⟨w5.heap.size, 0, none⟩ = some (.bool mx) ∧ w8.cell? ⟨w5.heap.size, 1, none⟩ = some (.bool yx) ∧ w8.cell? ⟨w5.heap.size, 2, none⟩ = some (.bool kt) ∧ w8.cell? ⟨w5.heap.size, 3, none⟩ = some (.bool mt) ∧ w8.cell? ⟨w5.heap.size, 4, none⟩ = some (.bool dh) ∧ w8.cell? ⟨w5.heap.size, 5, none⟩ = some (.bool jnc) := ⟨K8.out.cell 0, K8.out.cell 1, K8.out.cell 2, K8.out.cell 3, K8.out.cell 4, K8.out.cell 5, X8.out.cell 0, X8.out.cell 1, X8.out.cell 2, X8.out.cell 3, X8.out.cell 4, X8.out.cell 5, Y8.out.cell 0, Y8.out.cell 1, Y8.out.cell 2, Y8.out.cell 3, Y8.out.cell 4, Y8.out.cell 5⟩
         clear hb8 hr8 hs8)
      | (go_at_call 17; refine (texts_same _ _ _ _ L hL6 _ G8.out H8.out).mono ?_; rintro e w9 ⟨rfl, hb9⟩
         have B9 := Lib.hid (B8.out.trans (hb9.mono B8.out.size))
         have S9 : w9.cell? ⟨w.heap.size, 0, none⟩ = some (.bool nx) ∧ w9.cell? ⟨w.heap.size, 1, none⟩ = some (.bool xx) ∧ w9.cell? ⟨w.heap.size, 2, none⟩ = some (.bool gt) ∧ w9.cell? ⟨w.heap.size, 3, none⟩ = some (.bool lt) ∧ w9.cell? ⟨w.heap.size, 4, none⟩ = some (.bool ch) ∧ w9.cell? ⟨w.heap.size, 5, none⟩ = some (.bool inc) ∧ w9.cell? ⟨w3.heap.size, 0, none⟩ = some (.bool mx) ∧ w9.cell? ⟨w3.heap.size, 1, none⟩ = some (.bool yx) ∧ w9.cell? ⟨w3.heap.size, 2, none⟩ = some (.bool kt) ∧ w9.cell? ⟨w3.heap.size, 3, none⟩ = some (.bool mt) ∧ w9.cell? ⟨w3.heap.size, 4, none⟩ = some (.bool dh) ∧ w9.cell? ⟨w3.heap.size, 5, none⟩ = some (.bool jnc) ∧ w9.cell? ⟨w5.heap.size, 0, none⟩ = some (.bool mx) ∧ w9.cell? ⟨w5.heap.size, 1, none⟩ = some (.bool yx) ∧ w9.cell? ⟨w5.heap.size, 2, none⟩ = some (.bool kt) ∧ w9.cell? ⟨w5.heap.size, 3, none⟩ = some (.bool mt) ∧ w9.cell? ⟨w5.heap.size, 4, none⟩ = some (.bool dh) ∧ w9.cell? ⟨w5.heap.size, 5, none⟩ = some (.bool jnc) := ⟨(K8.out.later hb9).cell 0, (K8.out.later hb9).cell 1, (K8.out.later hb9).cell 2, (K8.out.later hb9).cell 3, (K8.out.later hb9).cell 4, (K8.out.later hb9).cell 5, (X8.out.later hb9).cell 0, (X8.out.later hb9).cell 1, (X8.out.later hb9).cell 2, (X8.out.later hb9).cell 3, (X8.out.later hb9).cell 4, (X8.out.later hb9).cell 5, (Y8.out.later hb9).cell 0, (Y8.out.later hb9).cell 1, (Y8.out.later hb9).cell 2, (Y8.out.later hb9).cell 3, (Y8.out.later hb9).cell 4, (Y8.out.later hb9).cell 5⟩
         clear hb9))
  all_goals (
    go_wp2_with fail
    go_ret
    exact ⟨rfl, B9.out⟩)
end Go.Proofs.Ytnkgkimlmceciaa
