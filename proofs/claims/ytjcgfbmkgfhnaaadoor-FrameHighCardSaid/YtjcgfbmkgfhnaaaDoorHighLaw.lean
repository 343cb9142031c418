/- FrameHigh, walked. -/
import Derived.Test.YtjcgfbmkgfhnaaaDoorHighMath
import Derived.Test.YtjcgfbmkgfhnaaaDoorHighDecA
namespace Go.Proofs.YtjcgfbmkgfhnaaaDoor
open Go.RowKit Go.Shelf
attribute [local go_sem] Oper.semAt_some

def Four (W : World) (b : Nat) (k n : Int) (a : Option Addr) (l cap : Nat) : Prop := W.heap[b]? = some (Obj.cells #[.int .i64 k, .int .i64 n, .string ⟨#[]⟩, .slice a l cap] 24 (0, 0))
theorem Four.cells {W : World} {b : Nat} {k n : Int} {a : Option Addr} {l cap : Nat} (h : Four W b k n a l cap) :
    (W.cell? ⟨b, 0, none⟩ = some (.int .i64 k) ∧ W.cell? ⟨b, 1, none⟩ = some (.int .i64 n) ∧ W.cell? ⟨b, 2, none⟩ = some (.string ⟨#[]⟩) ∧ W.cell? ⟨b, 3, none⟩ = some (.slice a l cap)) ∧
    (W.frozen? ⟨b, 0, none⟩ = false ∧ W.frozen? ⟨b, 1, none⟩ = false ∧ W.frozen? ⟨b, 2, none⟩ = false ∧ W.frozen? ⟨b, 3, none⟩ = false) :=
  ⟨⟨(cell_in 0 h).trans rfl, (cell_in 1 h).trans rfl, (cell_in 2 h).trans rfl, (cell_in 3 h).trans rfl⟩, free_in 0 h, free_in 1 h, free_in 2 h, free_in 3 h⟩
theorem Four.later {W W' : World} {b : Nat} {k n : Int} {a : Option Addr} {l cap : Nat} (h : Four W b k n a l cap) (hb : Below W.heap.size W W') : Four W' b k n a l cap := (hb.block b (Array.getElem?_eq_some_iff.1 h).1).trans h

set_option maxRecDepth 100000 in
set_option maxHeartbeats 4000000 in
theorem high_walk {aM aW : Addr} {m : Int} (T : Nat → Int) (n : Int) (w : World) (hE : Env w aM aW m) (hT : Tab T w) (h3 : 3 < w.heap.size)
    (HD : ∀ (k : Nat) (W : World), k ≤ 8 → Env W aM aW m → 3 ≤ W.heap.size → Calls Tryd.prog 11 #[.string (tow k)] W fun e W' => (∃ (x : R4) (t : ByteArray), e = .returned (.tuple #[x.val, .string t, .int .i64 (if k ≤ 4 then 0 else 30)])) ∧ Below W.heap.size W W') :
    Calls Tryd.prog 6 #[.int .i64 n] w fun e w' => e = .returned (.bool true) ∧ Below w.heap.size w w' := by
  have HSH := Lib.hid (shown_any hE (by omega))
  by_cases hn0 : n < 0
  · go_enter Tryd.func6, Tryd.ntmps6
    go_wp2_with fail
    refine HSH.out.mono ?_
    rintro e w1 ⟨rfl, hb1⟩
    go_wp2_with fail
    go_ret
    exact ⟨rfl, hb1⟩
  by_cases hn8 : 8 < n
  · go_enter Tryd.func6, Tryd.ntmps6
    go_wp2_with fail
    refine HSH.out.mono ?_
    rintro e w1 ⟨rfl, hb1⟩
    go_wp2_with fail
    go_ret
    exact ⟨rfl, hb1⟩
  obtain ⟨N, rfl⟩ : ∃ N : Nat, n = N := ⟨n.toNat, by omega⟩
  have hN : N ≤ 8 := by omega
  have HI := fun w => Lib.hid (mk_int 5 w)
  have HE := Lib.hid hE
  have HT := Lib.hid hT
  clear hE hT
  go_enter Tryd.func6, Tryd.ntmps6
  go_wp2_with fail
  refine HSH.out.mono ?_
  rintro e w1 ⟨rfl, hb1⟩
  have HB1 := Lib.hid hb1
  clear hb1 HSH
  go_wp2_with fail
  refine (HI _).out.mono ?_
  rintro e w2 ⟨rfl, hb2⟩
  have HB2 := Lib.hid (HB1.out.trans (hb2.mono HB1.out.size))
  clear hb2 HI HB1
  go_wp2_with fail
  have k0 : Four (w2.alloc (Obj.cells #[.int .i64 3, .int .i64 5, .string ⟨#[]⟩, .slice none 0 0] 24)) w2.heap.size 3 5 none 0 0 := heap_at rfl
  have hb3 := (Below.refl w2.heap.size w2).alloc (Nat.le_refl _) (Obj.cells #[.int .i64 3, .int .i64 5, .string ⟨#[]⟩, .slice none 0 0] 24)
  have HB3 := Lib.hid (HB2.out.trans (hb3.mono HB2.out.size))
  have hp : w.heap.size ≤ w2.heap.size := HB2.out.size
  have K0 := Lib.hid k0
  clear k0 hb3
  generalize w2.heap.size = p at *
  generalize (w2.alloc (Obj.cells #[.int .i64 3, .int .i64 5, .string ⟨#[]⟩, .slice none 0 0] 24)) = w3 at *
  have hh : (⟨#[58, 53, 13, 10]⟩ : ByteArray) = tow 0 := rfl
  go_wp2_with fail
  go_loopw [5, 6] (fun s i wr => ∃ (j : Nat) (k n : Int) (a : Option Addr) (cap : Nat) (sub : Fo), s = .string (tow j) ∧ i = .int .i64 j ∧ j ≤ N ∧ Four wr p k n a sub.len cap ∧ TowAt (p + 1) wr j k n a cap sub ∧ Below w.heap.size w wr) (fun _ i _ => N - (intOf i).toNat)
  case atStart => exact ⟨0, 3, 5, none, 0, .nil, rfl, rfl, by omega, K0.out, tow_zero _ _, HB3.out⟩
  case round =>
    clear hh
    obtain ⟨j, k, n, a, cap, sub, rfl, rfl, hj, h4, ht, hb⟩ := hrel
    obtain ⟨⟨e0, e1, e2, e3⟩, f0, f1, f2, f3⟩ := h4.cells
    have hpl : p < wr.heap.size := (Array.getElem?_eq_some_iff.1 h4).1
    by_cases hlt : j < N
    · have hlt2 : (j : Int) < N := by omega
      have HA := Lib.hid (tow_array ht (by omega))
      have H4 := Lib.hid h4
      have HB := Lib.hid hb
      have hadd := tow_add j
      have hsz : ¬ 9223372036854775807 < 4 + (tow j).size := by rw [tow_size]; omega
      have HADD := Lib.hid hadd
      clear h4 hb ht hadd f0 f1 f2 f3
      go_wp2_with fail
      refine HA.out.mono ?_
      rintro e w4 ⟨a', cap', t', rfl, ht4, hl4, hb4⟩
      have h44 := H4.out.later hb4
      obtain ⟨⟨e0, e1, e2, e3⟩, f0, f1, f2, f3⟩ := h44.cells
      have HT4 := Lib.hid ht4
      have H44 := Lib.hid h44
      have HB4 := Lib.hid (HB.out.trans (hb4.mono HB.out.size))
      have hz4 := hb4.size
      clear h44 hb4 ht4 HA
      go_wp2_with fail
      obtain ⟨g1, g2, g3⟩ := four_set (.int .i64 6) (.int .i64 0) (.string ⟨#[]⟩) (.slice a' 1 cap') (show w4.heap[p]? = some (Obj.cells _ 24 (0, 0)) from H44.out)
      refine ⟨⟨j + 1, 6, 0, a', cap', t', by rw [HADD.out], by go_num, hlt, ?_, ?_, HB4.out.trans (g3 _ hp)⟩, by simp [intOf]; omega⟩
      · rw [hl4]; exact g1
      · exact (HT4.out.weaken (lo' := p + 1) (by omega)).keep fun q hq _ => g2 q (by omega)
    · obtain rfl : j = N := by omega
      have hlt2 : ¬ (j : Int) < j := by omega
      have h10 := tow_encode T ht hN (HT.out.below hb h3) (Nat.lt_of_lt_of_le h3 hb.size)
      have HDJ := fun W => HD j W hN
      have h20 := fun W (h : TowAt (p + 1) W j k n a cap sub) => tow_right h hN
      clear HD
      by_cases h4c : j ≤ 4
      · have h4i : (j : Int) ≤ 4 := by omega
        have h4n : ¬ (4 : Int) < j := by omega
        simp only [h4c, if_true, decide_true] at h10 HDJ h20
        clear h4c
        have H4 := Lib.hid h4
        have H10 := Lib.hid h10
        have HB := Lib.hid hb
        have HTW := Lib.hid ht
        clear h4 hb ht f0 f1 f2 f3 h10
        go_wp2_with fail
        refine H10.out.mono ?_
        rintro e w4 ⟨rfl, hb4⟩
        have HB4 := Lib.hid (HB.out.trans (hb4.mono HB.out.size))
        have H11 := Lib.hid (HDJ w4 (HE.out.below HB4.out) (by have := HB4.out.size; omega))
        have H44 := Lib.hid (H4.out.later hb4)
        have HTW4 := Lib.hid (HTW.out.later hb4)
        clear hb4 H10 H4 HTW HB e0 e1 e2 e3
        go_wp2_with fail
        refine H11.out.mono ?_
        rintro e w5 ⟨⟨x, tt, rfl⟩, hb5⟩
        unfold R4.val
        have hb6 := hb5.trans ((Below.refl w5.heap.size w5).alloc (Nat.le_refl _) (Obj.cells #[.int .i64 x.k, .int .i64 x.n, .string x.s, .slice x.a x.len x.cap] 24) |>.mono hb5.size)
        have h46 := H44.out.later hb6
        obtain ⟨⟨e0, e1, e2, e3⟩, _⟩ := h46.cells
        have H20 := Lib.hid (h20 _ (HTW4.out.later hb6))
        have HB6 := Lib.hid (HB4.out.trans (hb6.mono HB4.out.size))
        clear hb5 hb6 h46 H44 HTW4 H11 HB4
        go_wp2_with fail
        refine H20.out.mono ?_
        rintro e w6 ⟨rfl, hb7⟩
        go_wp2_with fail
        go_ret
        exact ⟨rfl, HB6.out.trans (hb7.mono HB6.out.size)⟩
      · have h4i : ¬ (j : Int) ≤ 4 := by omega
        have h4n : (4 : Int) < j := by omega
        have hd4 : decide ((j : Int) ≤ 4) = false := decide_eq_false h4i
        simp only [h4c, if_false, decide_false] at h10 HDJ h20
        clear h4c
        have H4 := Lib.hid h4
        have H10 := Lib.hid h10
        have HB := Lib.hid hb
        have HTW := Lib.hid ht
        clear h4 hb ht f0 f1 f2 f3 h10
        go_wp2_with fail
        refine H10.out.mono ?_
        rintro e w4 ⟨rfl, hb4⟩
        have HB4 := Lib.hid (HB.out.trans (hb4.mono HB.out.size))
        have H11 := Lib.hid (HDJ w4 (HE.out.below HB4.out) (by have := HB4.out.size; omega))
        have H44 := Lib.hid (H4.out.later hb4)
        have HTW4 := Lib.hid (HTW.out.later hb4)
        clear hb4 H10 H4 HTW HB e0 e1 e2 e3
        go_wp2_with fail
        refine H11.out.mono ?_
        rintro e w5 ⟨⟨x, tt, rfl⟩, hb5⟩
        unfold R4.val
        have hb6 := hb5.trans ((Below.refl w5.heap.size w5).alloc (Nat.le_refl _) (Obj.cells #[.int .i64 x.k, .int .i64 x.n, .string x.s, .slice x.a x.len x.cap] 24) |>.mono hb5.size)
        have h46 := H44.out.later hb6
        obtain ⟨⟨e0, e1, e2, e3⟩, _⟩ := h46.cells
        have H20 := Lib.hid (h20 _ (HTW4.out.later hb6))
        have HB6 := Lib.hid (HB4.out.trans (hb6.mono HB4.out.size))
        clear hb5 hb6 h46 H44 HTW4 H11 HB4
        go_wp2_with fail
        refine H20.out.mono ?_
        rintro e w6 ⟨rfl, hb7⟩
        go_wp2_with fail
        go_ret
        exact ⟨by simp, HB6.out.trans (hb7.mono HB6.out.size)⟩
end Go.Proofs.YtjcgfbmkgfhnaaaDoor
