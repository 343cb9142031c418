/- What is a set's, and what is sorted. -/
import Derived.Test.YtjilfgkoibbcnaaDoorLawKit
import Derived.Test.YtjilfgkoibbcnaaDoorRefRight
namespace Go.Proofs.YtjilfgkoibbcnaaDoor
open Go.RowKit Go.Shelf
attribute [local go_sem] Oper.semAt_some

set_option maxRecDepth 100000 in
set_option maxHeartbeats 4000000 in
theorem sorts_any (a0 a1 : Addr) (a : Option Addr) (cap : Nat) (l : List Ent) (hIn : In [l]) (w : World) (hE : Env a0 a1 w) (hL : Ents w a l) :
    Calls Tryd.prog 4 #[.slice a l.length cap] w fun e w' => e = .returned (.bool true) ∧ Below w.heap.size w w' := by
  have HSH := Lib.hid (shown_any a0 a1 w hE)
  have HL := Lib.hid hL
  have HIN := Lib.hid hIn
  clear hE hL hIn
  go_enter Tryd.func4, Tryd.ntmps4
  go_wp2_with fail
  refine HSH.out.mono ?_
  rintro e w1 ⟨rfl, hb⟩
  have HB1 := Lib.hid hb
  have HL1 := Lib.hid (HL.out.below hb)
  clear hb
  go_wp2_with fail
  have hx := alloc_below w1 (Obj.cells #[Value.slice a l.length cap] 26)
  have HX1 := Lib.hid (HB1.out.trans (hx.mono HB1.out.size))
  refine (few_any false [l] HIN.out.1 (fun x hx => ⟨(HIN.out.2 x hx).1, fun e he => ((HIN.out.2 x hx).2 e he).1⟩) _ _ _ (setsE_one HL1.out)).mono ?_
  rintro e w2 ⟨r, rfl, hS, hb⟩
  have hok := ok_few false HIN.out
  rw [show fewP false [l] = [fewOne false l] from rfl] at hS hok
  obtain ⟨fa, fc, rfl, hS2, hfc, _⟩ := hS.slice
  have hO0 : OkL (fewOne false l) := (hok.2 _ (by simp)).2
  have hn : (fewOne false l).length ≤ 1000 := (hok.2 _ (by simp)).1
  obtain ⟨g, off, ar, cr, rfl, c2, e2⟩ := hS2.e 0 (by simp)
  simp only [List.getElem_cons_zero, Nat.add_zero] at c2 e2
  generalize fewOne false l = S at *
  have HO0 := Lib.hid hO0
  have HE2 := Lib.hid e2
  have HB2 := Lib.hid (HX1.out.trans (hb.mono HX1.out.size))
  have hn6 : (sortP S).length ≤ 1000 := Nat.le_trans (sortP_len S) hn
  clear hS hS2 hb hx hok hO0 e2
  go_wp2_with fail
  refine (sortP_any ar cr S HO0.out w2 HE2.out).mono ?_
  rintro e w3 ⟨r, rfl, hO, hb⟩
  obtain ⟨ra, rc, rfl, _, _, _, _⟩ := hO.slice
  have HO3 := Lib.hid hO
  have HE3 := Lib.hid (HE2.out.below hb)
  have HB3 := Lib.hid (HB2.out.trans (hb.mono HB2.out.size))
  clear hO hb c2
  go_wp2_with fail
  refine (right_one ar cr S HO0.out w3 HE3.out).mono ?_
  rintro e w4 ⟨rfl, hb⟩
  have HO4 := Lib.hid (own_later HO3.out hb)
  have HE4 := Lib.hid (HE3.out.below hb)
  have HB4 := Lib.hid (HB3.out.trans (hb.mono HB3.out.size))
  clear hb
  go_wp2_with fail
  refine (refRight_any ar cr S hn (fun e he => (HO0.out.2 e he).1) w4 HE4.out).mono ?_
  rintro e w5 ⟨rfl, hb⟩
  have HO5 := Lib.hid (own_later HO4.out hb)
  have HE5 := Lib.hid (HE4.out.below hb)
  have HB5 := Lib.hid (HB4.out.trans (hb.mono HB4.out.size))
  clear hb
  generalize rightP S = rb
  cases rb
  all_goals (
    go_wp2_with fail
    refine (refSort_any ar cr S hn (fun e he => (HO0.out.2 e he).1) w5 HE5.out).mono ?_
    rintro e w6 ⟨r, rfl, hO, hb⟩
    obtain ⟨sa, sc, rfl, _, _, _, _⟩ := hO.slice
    have HS6 := Lib.hid hO
    have HO6 := Lib.hid (own_later HO5.out hb)
    have HB6 := Lib.hid (HB5.out.trans (hb.mono HB5.out.size))
    clear hb hO
    go_wp2_with fail
    refine (same_any ra sa rc sc (sortP S) (sortP S) (by omega) (by omega) w6 (own_ents HO6.out) (own_ents HS6.out)).mono ?_
    rintro e w7 ⟨rfl, hb⟩
    rw [decide_eq_true rfl]
    have HO7 := Lib.hid (own_later HO6.out hb)
    have HB7 := Lib.hid (HB6.out.trans (hb.mono HB6.out.size))
    clear hb
    go_wp2_with fail
    refine (right_one ra rc (sortP S) ⟨by omega, fun e he => HO0.out.2 e (mem_sortP he)⟩ w7 (own_ents HO7.out)).mono ?_
    rintro e w8 ⟨rfl, hb⟩
    rw [(good_sortP S).right]
    have HB8 := Lib.hid (HB7.out.trans (hb.mono HB7.out.size))
    clear hb
    go_wp2_with fail
    go_ret
    exact ⟨rfl, HB8.out⟩)
end Go.Proofs.YtjilfgkoibbcnaaDoor
