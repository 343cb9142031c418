/- FlagsBack: its walk. -/
import Derived.Test.YtnkgkimlmceciaaReadLaw
namespace Go.Proofs.Ytnkgkimlmceciaa
open Go.RowKit Go.Shelf
attribute [local go_sem] Oper.semAt_some

theorem app_strs {W : World} {n0 k : Nat} {r : Value} {xs : List Value} {l : List ByteArray} {a : Option Addr} (hown : W.ownsRow n0 9 1 r k xs) (hE : Strs W a l) (cap : Nat) (hl : k ≤ 1000000) (hx : l.length ≤ 1000000) (hn : n0 ≤ W.heap.size) :
    ∃ v' W', (Builtin.append_ #[30, 30] 30 #[r, .slice a l.length cap]).run Try.prog W = .ok v' W' ∧ W'.ownsRow n0 9 1 v' (k + l.length) (xs ++ cellsS l) ∧ W.grownBy W' r.ownBlock := by
  obtain ⟨i0, hi0, hz0, hz1, hz2⟩ := infoP info9
  cases a with
  | none =>
    have h0 : l = [] := by
      cases l with
      | nil => rfl
      | cons e l => obtain ⟨b, off, h, _⟩ := hE 0 (by simp); cases h
    subst h0
    refine ⟨r, W, ?_, by simpa [cellsS] using hown, World.grownBy.refl W _⟩
    rcases hown.2 with ⟨rfl, hl0⟩ | ⟨g, c, cur, rfl, _, _, hc, _⟩
    · simp [Builtin.append_, run_underlying Try.underlying30, sizeOf, typeInfo, hi0, Builtin.lenOf, Builtin.firstCells]
    · simp [Builtin.append_, run_underlying Try.underlying30, sizeOf, typeInfo, hi0, Builtin.lenOf, Builtin.firstCells, hc, storeCells]
  | some ad =>
    obtain ⟨v', W', h1, h2, h3, _⟩ := run_append_own (P := Try.prog) W n0 30 30 9 i0 _ 1 16 Try.underlying30 hi0 hz0 hz1 hz2 rfl (by decide) r _ _ hown ad l.length cap (cellsS l) (by unfold cellsS; rw [List.length_map, Nat.mul_one])
      (fun j u hu => by
        have hj : j < l.length := by
          have := (List.getElem?_eq_some_iff.1 hu).1
          unfold cellsS at this
          simpa using this
        obtain ⟨b, off, h, c0⟩ := hE j hj
        cases h
        unfold cellsS at hu
        rw [List.getElem?_map, List.getElem?_eq_getElem hj] at hu
        cases hu
        rw [Addr.add_lit]; exact c0)
      (fun u hu => by unfold cellsS at hu; obtain ⟨x, _, rfl⟩ := List.mem_map.1 hu; rfl) (by unfold maxLen; omega) (by omega) hn
    exact ⟨v', W', h1, h2, h3⟩
theorem Blk.grownRow {W W7 : World} {b n0 k : Nat} {t : TypeId} {c : Array Value} {r : Value} {xs : List Value} (h : Blk W b t c) (hg : W.grownBy W7 r.ownBlock) (ho : W.ownsRow n0 9 1 r k xs) (ht : t ≠ 9) : Blk W7 b t c :=
  (hg.block b h.lt (row_apart h ho ht)).trans h
/-- A row beside one's own one stays. -/
theorem Words.grownRow {W W7 : World} {n0 k : Nat} {v r : Value} {l : List ByteArray} {xs : List Value} (h : Words W v l) (hg : W.grownBy W7 r.ownBlock) (ho : W.ownsRow n0 9 1 r k xs) (hb : ∀ b o n c, v = .slice (some ⟨b, o, none⟩) n c → b < n0) : Words W7 v l := by
  rcases h with h | ⟨b, cap, cur, rfl, h2, h3⟩
  · exact .inl h
  · refine .inr ⟨b, cap, cur, rfl, (hg.block b h2.lt (fun e => ?_)).trans h2, h3⟩
    have h1 := (World.ownsRow.lt ho b e.symm).1
    have h4 := hb b 0 _ cap rfl
    omega

def scoreB : ByteArray := ⟨#[115, 99, 111, 114, 101]⟩
theorem kindOf_kw (k : Nat) (h : k < 6) : kindOf (kw k) = some k := by
  obtain rfl | rfl | rfl | rfl | rfl | rfl : k = 0 ∨ k = 1 ∨ k = 2 ∨ k = 3 ∨ k = 4 ∨ k = 5 := by omega
  all_goals decide +kernel
theorem kindOf_score : kindOf scoreB = none := by decide +kernel
theorem kinds_map (ks : List Nat) (h : ∀ q ∈ ks, q < 6) (t : List ByteArray) : kindsOf (ks.map kw ++ t) = ks ++ kindsOf t := by
  induction ks with
  | nil => rfl
  | cons k r ih =>
    rw [List.map_cons, List.cons_append, kindsOf, kindOf_kw k (h k (by simp))]
    simp only [List.cons_append]
    rw [ih (fun q hq => h q (by simp [hq]))]
def ksOf (f : Fl) : List Nat := (List.range 6).filter fun j => f.get j
theorem ks_lt (f : Fl) : ∀ k ∈ ksOf f, k < 6 := fun _ h => List.mem_range.1 (List.mem_filter.1 h).1
theorem fold_ks (f : Fl) : foldF (ksOf f) = f := by
  obtain ⟨nx, xx, gt, lt, ch, inc⟩ := f
  cases nx <;> cases xx <;> cases gt <;> cases lt <;> cases ch <;> cases inc <;> rfl
theorem kinds_words (f : Fl) : kindsOf (wordsK f 6) = ksOf f := by
  have := kinds_map (ksOf f) (ks_lt f) []
  simpa [kindsOf, wordsK, ksOf] using this
theorem kinds_more (f : Fl) : kindsOf (wordsK f 6 ++ [scoreB]) = ksOf f := by
  have := kinds_map (ksOf f) (ks_lt f) [scoreB]
  rw [show kindsOf [scoreB] = [] by rw [kindsOf, kindOf_score], List.append_nil] at this
  exact this
theorem ks_len (f : Fl) : (ksOf f).length = (wordsK f 6).length := by unfold wordsK ksOf; rw [List.length_map]
theorem read_words (f : Fl) : readT (wordsK f 6) = if f.right then .tuple #[f.v, .int .i64 (wordsK f 6).length, .int .i64 0] else .tuple #[Fl.zero.v, .int .i64 0, .int .i64 110] := by
  unfold readT readF
  rw [kinds_words, fold_ks, ks_len]
theorem read_more (f : Fl) : readT (wordsK f 6 ++ [scoreB]) = if f.right then .tuple #[f.v, .int .i64 (wordsK f 6).length, .int .i64 0] else .tuple #[Fl.zero.v, .int .i64 0, .int .i64 110] := by
  unfold readT readF
  rw [kinds_more, fold_ks, ks_len]

set_option maxRecDepth 100000 in
set_option maxHeartbeats 4000000 in
/-- FlagsBack. -/
theorem back_walk (f : Fl) (w : World) : Calls Try.prog 6 #[f.v] w fun e w' => e = .returned (.bool true) ∧ Below w.heap.size w w' := by
  have HS := fun w => Lib.hid (shown_any w)
  have HW := fun w => Lib.hid (write_any f w)
  have hlen := words_len f 6
  have HR := fun v w h => Lib.hid (read_any (wordsK f 6) (by omega) v w h)
  have HM := fun v w h => Lib.hid (read_any (wordsK f 6 ++ [scoreB]) (by simp; omega) v w h)
  have HG := fun w => Lib.hid (right_any f w)
  rw [read_words] at HR
  rw [read_more] at HM
  have HLEN := Lib.hid hlen
  clear hlen
  generalize hL : wordsK f 6 = L at *
  obtain ⟨nx, xx, gt, lt, ch, inc⟩ := f
  cases hr : Fl.right ⟨nx, xx, gt, lt, ch, inc⟩
  all_goals rw [hr] at HG HR HM
  all_goals clear hr hL
  all_goals simp only [Fl.v, Fl.c, Fl.zero, if_true, if_false, Bool.false_eq_true] at HW HR HM HG ⊢
  all_goals go_enter Try.func6, Try.ntmps6
  all_goals go_wp2_with fail
  all_goals refine (HS _).out.mono ?_
  all_goals rintro e w1 ⟨rfl, hb1⟩
  all_goals have B1 := Lib.hid (((Below.refl _ _).alloc (Nat.le_refl _) _).trans (hb1.mono (by simp)))
  all_goals have K1 := Lib.hid ((Blk.new w 23 #[.bool nx, .bool xx, .bool gt, .bool lt, .bool ch, .bool inc]).later hb1)
  all_goals have c0 := K1.out.cell 0
  all_goals have c1 := K1.out.cell 1
  all_goals have c2 := K1.out.cell 2
  all_goals have c3 := K1.out.cell 3
  all_goals have c4 := K1.out.cell 4
  all_goals have c5 := K1.out.cell 5
  all_goals simp at c0 c1 c2 c3 c4 c5
  all_goals clear hb1
  all_goals go_wp2_with fail
  all_goals refine (HW _).out.mono ?_
  all_goals rintro e w2 ⟨r2, rfl, hr2, hb2⟩
  all_goals have B2 := Lib.hid (B1.out.trans (hb2.mono B1.out.size))
  all_goals have K2 := Lib.hid (K1.out.later hb2)
  all_goals have R2 := Lib.hid (row_words hr2)
  all_goals clear hb2 hr2 K1 B1 c0 c1 c2 c3 c4 c5
  all_goals go_wp2_with fail
  all_goals refine (HR _ _ R2.out).out.mono ?_
  all_goals rintro e w3 ⟨rfl, hb3⟩
  · have B3 := Lib.hid ((B2.out.trans (hb3.mono B2.out.size)).alloc (Nat.le_trans B2.out.size hb3.size) (.cells #[.bool false, .bool false, .bool false, .bool false, .bool false, .bool false] 23))
    have K3 := Lib.hid ((K2.out.later hb3).alloc (.cells #[.bool false, .bool false, .bool false, .bool false, .bool false, .bool false] 23))
    have X3 := Lib.hid (Blk.new w3 23 #[.bool false, .bool false, .bool false, .bool false, .bool false, .bool false])
    have R3 := Lib.hid ((R2.out.later hb3).later ((Below.refl _ _).alloc (Nat.le_refl _) (.cells #[.bool false, .bool false, .bool false, .bool false, .bool false, .bool false] 23)))
    clear hb3 R2 K2 B2
    have c0 := K3.out.cell 0
    have c1 := K3.out.cell 1
    have c2 := K3.out.cell 2
    have c3 := K3.out.cell 3
    have c4 := K3.out.cell 4
    have c5 := K3.out.cell 5
    simp at c0 c1 c2 c3 c4 c5
    go_wp2_with fail
    refine (HG _).out.mono ?_
    rintro e w4 ⟨rfl, hb4⟩
    have B4 := Lib.hid (B3.out.trans (hb4.mono B3.out.size))
    have K4 := Lib.hid (K3.out.later hb4)
    have X4 := Lib.hid (X3.out.later hb4)
    have R4 := Lib.hid (R3.out.later hb4)
    clear hb4 B3 K3 X3 R3 c0 c1 c2 c3 c4 c5
    have d0 := X4.out.cell 0
    have d1 := X4.out.cell 1
    have d2 := X4.out.cell 2
    have d3 := X4.out.cell 3
    have d4 := X4.out.cell 4
    have d5 := X4.out.cell 5
    simp at d0 d1 d2 d3 d4 d5
    go_wp2_with fail
    go_ret
    exact ⟨rfl, B4.out⟩
  · have B3 := Lib.hid ((B2.out.trans (hb3.mono B2.out.size)).alloc (Nat.le_trans B2.out.size hb3.size) (.cells #[.bool nx, .bool xx, .bool gt, .bool lt, .bool ch, .bool inc] 23))
    have K3 := Lib.hid ((K2.out.later hb3).alloc (.cells #[.bool nx, .bool xx, .bool gt, .bool lt, .bool ch, .bool inc] 23))
    have X3 := Lib.hid (Blk.new w3 23 #[.bool nx, .bool xx, .bool gt, .bool lt, .bool ch, .bool inc])
    have R3 := Lib.hid ((R2.out.later hb3).later ((Below.refl _ _).alloc (Nat.le_refl _) (.cells #[.bool nx, .bool xx, .bool gt, .bool lt, .bool ch, .bool inc] 23)))
    clear hb3 R2 K2 B2
    have c0 := K3.out.cell 0
    have c1 := K3.out.cell 1
    have c2 := K3.out.cell 2
    have c3 := K3.out.cell 3
    have c4 := K3.out.cell 4
    have c5 := K3.out.cell 5
    simp at c0 c1 c2 c3 c4 c5
    go_wp2_with fail
    refine (HG _).out.mono ?_
    rintro e w4 ⟨rfl, hb4⟩
    have B4 := Lib.hid (B3.out.trans (hb4.mono B3.out.size))
    have K4 := Lib.hid (K3.out.later hb4)
    have X4 := Lib.hid (X3.out.later hb4)
    have R4 := Lib.hid (R3.out.later hb4)
    clear hb4 B3 K3 X3 R3 c0 c1 c2 c3 c4 c5
    obtain ⟨a2, cp2, rfl, hs4⟩ := R4.out.strs
    have hlt2 : ∀ b o n c, Value.slice a2 L.length cp2 = .slice (some ⟨b, o, none⟩) n c → b < w4.heap.size := fun b o n c e => by
      rcases R4.out with ⟨_, h⟩ | ⟨b', cap', cur', h, hb', _⟩
      · rw [h] at e; cases e
      · rw [h] at e; cases e; exact hb'.lt
    obtain ⟨i0, hi0, hz0, hz1, hz2⟩ := infoP info9
    obtain ⟨w5, hmk, own5, grow5⟩ := run_makeSlice_owned (P := Try.prog) (w := w4) w4.heap.size 30 9 i0 _ 1 Try.underlying30 hi0 hz0 hz1 .i64 .i64 12 (by omega) (by rw [hz2]; decide) (by unfold maxLen; omega) (Nat.le_refl _)
    have hb5 : Below w4.heap.size w4 w5 := ⟨grow5.os, grow5.tape, grow5.output, grow5.size, fun k hk => grow5.block k hk (by simp)⟩
    have hs5 := hs4.below hb5
    have hlen := HLEN.out
    obtain ⟨v6, w6, hrun6, own6, grow6⟩ := app_strs own5 hs5 cp2 (by omega) (by omega) grow5.size
    have hz56 := Nat.le_trans grow5.size grow6.size
    obtain ⟨g7, cap7, w7, hrun7, own7, grow7⟩ := app9 own6 hz56 (by omega) scoreB
    have B7 := Lib.hid (show Below w.heap.size w w7 by
      have b5 := B4.out.trans (hb5.mono B4.out.size)
      have b6 := b5.grown grow6 b5.size fun k ek => by have := (World.ownsRow.lt own5 k ek).1; have := B4.out.size; omega
      exact (b6.alloc b6.size _).grown grow7 (by have := b6.size; simp; omega) fun k ek => by have := (World.ownsRow.lt own6 k ek).1; have := B4.out.size; omega)
    have K7 := Lib.hid ((((K4.out.later hb5).grownRow grow6 own5 (by decide)).alloc _).grownRow grow7 (World.ownsRow.alloc own6 _) (by decide))
    have X7 := Lib.hid ((((X4.out.later hb5).grownRow grow6 own5 (by decide)).alloc _).grownRow grow7 (World.ownsRow.alloc own6 _) (by decide))
    have r5 := R4.out.later hb5
    have r6 := r5.grownRow grow6 own5 hlt2
    have r6' := r6.later ((Below.refl _ _).alloc (Nat.le_refl _) (.cells #[.string scoreB] 9))
    have R7 := Lib.hid (r6'.grownRow grow7 (World.ownsRow.alloc own6 _) hlt2)
    have hown8 : w7.ownsRow w4.heap.size 9 1 (.slice (some ⟨g7, 0, none⟩) (0 + L.length + 1) cap7) (L ++ [scoreB]).length (cellsS (L ++ [scoreB])) := by
      have := own7
      rw [List.length_append]
      simpa [cellsS] using this
    have W7 := Lib.hid (row_words hown8)
    simp only [Nat.zero_add] at hrun7 W7
    have hsc : scoreB = ⟨#[115, 99, 111, 114, 101]⟩ := rfl
    rw [hsc] at hrun7
    have hmk2 : (Instr.makeSlice 30 (.int .i64 0) (.int .i64 12)).run Try.prog w4 = .ok (.slice (some ⟨w4.heap.size, 0, none⟩) 0 12) w5 := hmk
    clear hmk hs4 hlt2 hi0 hz0 hz1 hz2 own5 grow5 hb5 hs5 hlen own6 grow6 own7 grow7 r5 r6 r6' hown8 hsc hz56 R4 K4 X4 B4
    go_wp2_with (first | (at_builtin; refine wpList_append_ran rfl _ _ 30 30 rfl rfl rfl hrun6 ?_; clear hrun6) | (at_builtin; refine wpList_append_ran rfl _ _ 30 30 rfl rfl rfl hrun7 ?_; clear hrun7))
    refine (HM _ _ W7.out).out.mono ?_
    rintro e w8 ⟨rfl, hb8⟩
    have B8 := Lib.hid ((B7.out.trans (hb8.mono B7.out.size)).alloc (Nat.le_trans B7.out.size hb8.size) (.cells #[.bool nx, .bool xx, .bool gt, .bool lt, .bool ch, .bool inc] 23))
    have K8 := Lib.hid ((K7.out.later hb8).alloc (.cells #[.bool nx, .bool xx, .bool gt, .bool lt, .bool ch, .bool inc] 23))
    have X8 := Lib.hid ((X7.out.later hb8).alloc (.cells #[.bool nx, .bool xx, .bool gt, .bool lt, .bool ch, .bool inc] 23))
    have Y8 := Lib.hid (Blk.new w8 23 #[.bool nx, .bool xx, .bool gt, .bool lt, .bool ch, .bool inc])
    have R8 := Lib.hid ((R7.out.later hb8).later ((Below.refl _ _).alloc (Nat.le_refl _) (.cells #[.bool nx, .bool xx, .bool gt, .bool lt, .bool ch, .bool inc] 23)))
    clear hb8 B7 K7 X7 R7 W7
    have k0 := K8.out.cell 0
    have k1 := K8.out.cell 1
    have k2 := K8.out.cell 2
    have k3 := K8.out.cell 3
    have k4 := K8.out.cell 4
    have k5 := K8.out.cell 5
    simp at k0 k1 k2 k3 k4 k5
    have x0 := X8.out.cell 0
    have x1 := X8.out.cell 1
    have x2 := X8.out.cell 2
    have x3 := X8.out.cell 3
    have x4 := X8.out.cell 4
    have x5 := X8.out.cell 5
    simp at x0 x1 x2 x3 x4 x5
    have y0 := Y8.out.cell 0
    have y1 := Y8.out.cell 1
    have y2 := Y8.out.cell 2
    have y3 := Y8.out.cell 3
    have y4 := Y8.out.cell 4
    have y5 := Y8.out.cell 5
    simp at y0 y1 y2 y3 y4 y5
    go_wp2_with fail
    refine (HW _).out.mono ?_
    rintro e w9 ⟨r9, rfl, hr9, hb9⟩
    obtain ⟨a9, c9, rfl, hs9⟩ := row_strs hr9 (Below.refl _ _)
    have B9 := Lib.hid (B8.out.trans (hb9.mono B8.out.size))
    obtain ⟨a8, c8, he8, hs8⟩ := (R8.out.later hb9).strs
    cases he8
    have hL6 : L.length ≤ 1000000000 := by have := HLEN.out; omega
    have HT := Lib.hid (texts_same a9 a2 c9 cp2 L hL6 w9 hs9 hs8)
    clear hb9 hr9 hs9 hs8
    go_wp2_with fail
    refine HT.out.mono ?_
    rintro e w10 ⟨rfl, hb10⟩
    have B10 := Lib.hid (B9.out.trans (hb10.mono B9.out.size))
    clear hb10
    go_wp2_with fail
    go_ret
    exact ⟨rfl, B10.out⟩
end Go.Proofs.Ytnkgkimlmceciaa
