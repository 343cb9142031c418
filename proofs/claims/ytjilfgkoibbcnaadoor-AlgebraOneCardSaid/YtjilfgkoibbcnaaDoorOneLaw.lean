/- Of one set the union, the intersection and the difference are that set. -/
import Derived.Test.YtjilfgkoibbcnaaDoorLawKit
namespace Go.Proofs.YtjilfgkoibbcnaaDoor
open Go.RowKit Go.Shelf
attribute [local go_sem] Oper.semAt_some

set_option maxRecDepth 100000 in
set_option maxHeartbeats 4000000 in
theorem one_any (a0 a1 : Addr) (a : Option Addr) (cap : Nat) (l : List Ent) (hIn : In [l]) (agg : Int) (w : World) (hE : Env a0 a1 w) (hL : Ents w a l) :
    Calls Tryd.prog 7 #[.slice a l.length cap, .int .i64 agg] w fun e w' => e = .returned (.bool true) ∧ Below w.heap.size w w' := by
  have HSH := Lib.hid (shown_any a0 a1 w hE)
  have HE := Lib.hid hE
  have HL := Lib.hid hL
  have HIN := Lib.hid hIn
  clear hE hL hIn
  by_cases hagg : agg = 1 ∨ agg = 2 ∨ agg = 3
  · have hg1 : (1 : Int) ≤ agg := by omega
    have hg3 : agg ≤ 3 := by omega
    have HAGG := Lib.hid hagg
    clear hagg
    go_enter Tryd.func7, Tryd.ntmps7
    go_wp2_with fail
    refine HSH.out.mono ?_
    rintro e w1 ⟨rfl, hb⟩
    have HB1 := Lib.hid hb
    have HL1 := Lib.hid (HL.out.below hb)
    clear hb
    go_wp2_with fail
    have hx := alloc_below w1 (Obj.cells #[Value.slice a l.length cap] 26)
    have HX1 := Lib.hid (HB1.out.trans (hx.mono HB1.out.size))
    refine (few_any true [l] HIN.out.1 (fun x hx => ⟨(HIN.out.2 x hx).1, fun e he => ((HIN.out.2 x hx).2 e he).1⟩) _ _ _ (setsE_one HL1.out)).mono ?_
    rintro e w2 ⟨r, rfl, hS, hb⟩
    have hok := ok_few true HIN.out
    have h64 := num_few true HIN.out
    have hgd := good_few (ls := [l])
    rw [show fewP true [l] = [fewOne true l] from rfl] at hS hok h64 hgd
    obtain ⟨fa, fc, rfl, hS2, hfc, _⟩ := hS.slice
    have HG : Hid (Good (fewOne true l)) := Lib.hid (hgd _ (by simp))
    have H64 : Hid (∀ e ∈ fewOne true l, I64 e.2) := Lib.hid (h64 _ (by simp))
    have HOK := Lib.hid hok
    generalize fewOne true l = S at *
    have HS2 := Lib.hid hS2
    have HB2 := Lib.hid (HX1.out.trans (hb.mono HX1.out.size))
    clear hS hS2 hb hx hgd h64 hok
    have m1 := fun least hl => mix_one HAGG.out (ws := [1]) rfl HG.out H64.out least hl [] (fun _ h => by simp at h) rfl
    have m2 := diff_one HG.out [] (fun _ h => by simp at h)
    go_wp2_with fail
    have hx := alloc_below w2 (Obj.cells #[Value.int IntKind.i64 1] 2)
    have hy := HB2.out.trans (hx.mono HB2.out.size)
    have hc := union_any a0 a1 agg [1] (by intro x hx; simp at hx; subst hx; unfold I64; omega) [S] HOK.out (some ⟨w2.heap.size, 0, none⟩) fa 1 fc _ (HE.out.later hy) (HS2.out.later hx) (nums_lit (Blk.new w2 2 #[Value.int IntKind.i64 1]) rfl)
    rw [m1 1 (by omega)] at hc
    have HX2 := Lib.hid hx
    have HY2 := Lib.hid hy
    clear hx hy
    refine hc.mono ?_
    rintro e w3 ⟨r, rfl, hO, hb⟩
    obtain ⟨ra, rc, rfl, _, _, _, _⟩ := Own.slice hO
    have HO3 := Lib.hid hO
    have HS3 := Lib.hid ((HS2.out.later HX2.out).later hb)
    have HB3 := Lib.hid (HY2.out.trans (hb.mono HY2.out.size))
    clear hb hO hc
    go_wp2_with fail
    have hx := alloc_below w3 (Obj.cells #[Value.int IntKind.i64 1] 2)
    have hy := HB3.out.trans (hx.mono HB3.out.size)
    have hc := inter_any a0 a1 agg [1] (by intro x hx; simp at hx; subst hx; unfold I64; omega) [S] HOK.out (some ⟨w3.heap.size, 0, none⟩) fa 1 fc _ (HE.out.later hy) (HS3.out.later hx) (nums_lit (Blk.new w3 2 #[Value.int IntKind.i64 1]) rfl)
    rw [m1 ([S].length : Nat) (by simp)] at hc
    have HX3 := Lib.hid hx
    have HY3 := Lib.hid hy
    clear hx hy
    refine hc.mono ?_
    rintro e w4 ⟨r, rfl, hO, hb⟩
    obtain ⟨sa, sc, rfl, _, _, _, _⟩ := Own.slice hO
    have HO4 := Lib.hid hO
    have HA4 := Lib.hid (own_later (own_later HO3.out HX3.out) hb)
    have HS4 := Lib.hid ((HS3.out.later HX3.out).later hb)
    have HB4 := Lib.hid (HY3.out.trans (hb.mono HY3.out.size))
    clear hb hO hc
    go_wp2_with fail
    have hc := diff_any a0 a1 [S] HOK.out fa fc hfc _ (HE.out.later HB4.out) HS4.out
    rw [m2] at hc
    refine hc.mono ?_
    rintro e w5 ⟨r, rfl, hO, hb⟩
    obtain ⟨ta, tc, rfl, _, _, _, _⟩ := Own.slice hO
    have HO5 := Lib.hid hO
    have HA5 := Lib.hid (own_later HA4.out hb)
    have HC5 := Lib.hid (own_later HO4.out hb)
    have HS5 := Lib.hid (HS4.out.later hb)
    have HB5 := Lib.hid (HB4.out.trans (hb.mono HB4.out.size))
    clear hb hO hc
    obtain ⟨g, off, ar, cr, rfl, c5, e5⟩ := HS5.out.e 0 (by simp)
    simp only [List.getElem_cons_zero, Nat.add_zero] at c5 e5
    have HE5 := Lib.hid e5
    clear e5
    have hn : S.length ≤ 1000000 := by have := (HOK.out.2 S (by simp)).1; omega
    go_wp2_with fail
    refine (same_any ra ar rc cr S S hn hn w5 (own_ents HA5.out) HE5.out).mono ?_
    rintro e w6 ⟨rfl, hb⟩
    rw [decide_eq_true rfl]
    have c6 := (hb.cell (p := ⟨g, off, none⟩) (World.block_lt_of_cell? _ _ c5)).trans c5
    have HE6 := Lib.hid (HE5.out.below hb)
    have HC6 := Lib.hid (own_later HC5.out hb)
    have HO6 := Lib.hid (own_later HO5.out hb)
    have HB6 := Lib.hid (HB5.out.trans (hb.mono HB5.out.size))
    clear hb c5
    go_wp2_with fail
    refine (same_any sa ar sc cr S S hn hn w6 (own_ents HC6.out) HE6.out).mono ?_
    rintro e w7 ⟨rfl, hb⟩
    rw [decide_eq_true rfl]
    have c7 := (hb.cell (p := ⟨g, off, none⟩) (World.block_lt_of_cell? _ _ c6)).trans c6
    have HE7 := Lib.hid (HE6.out.below hb)
    have HO7 := Lib.hid (own_later HO6.out hb)
    have HB7 := Lib.hid (HB6.out.trans (hb.mono HB6.out.size))
    clear hb c6
    go_wp2_with fail
    refine (same_any ta ar tc cr S S hn hn w7 (own_ents HO7.out) HE7.out).mono ?_
    rintro e w8 ⟨rfl, hb⟩
    rw [decide_eq_true rfl]
    have HB8 := Lib.hid (HB7.out.trans (hb.mono HB7.out.size))
    clear hb c7
    go_wp2_with fail
    go_ret
    exact ⟨rfl, HB8.out⟩
  · have hex : agg < 1 ∨ ((1 : Int) ≤ agg ∧ 3 < agg) := by omega
    clear hagg
    rcases hex with hex | ⟨hex, hex2⟩
    all_goals (
      go_enter Tryd.func7, Tryd.ntmps7
      go_wp2_with fail
      refine HSH.out.mono ?_
      rintro e w1 ⟨rfl, hb⟩
      have HB1 := Lib.hid hb
      clear hb
      go_wp2_with fail
      go_ret
      exact ⟨rfl, HB1.out⟩)
end Go.Proofs.YtjilfgkoibbcnaaDoor
