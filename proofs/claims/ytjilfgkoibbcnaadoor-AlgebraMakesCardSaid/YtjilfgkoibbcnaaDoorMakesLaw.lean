/- Unions, intersections and differences are what the document's words come to. -/
import Derived.Test.YtjilfgkoibbcnaaDoorTurnsM
import Derived.Test.YtjilfgkoibbcnaaDoorRefDiff
namespace Go.Proofs.YtjilfgkoibbcnaaDoor
open Go.RowKit Go.Shelf
attribute [local go_sem] Oper.semAt_some

theorem small_few (b : Bool) {ls : List (List Ent)} (h : In ls) : Small (fewP b ls) := by
  refine ⟨by unfold fewP; rw [List.length_map, List.length_take]; omega, fun l hl => ?_⟩
  unfold fewP at hl
  obtain ⟨x, hx, rfl⟩ := List.mem_map.1 hl
  exact (one_facts b fun e he => ((h.2 x (List.mem_of_mem_take hx)).2 e he).2).1
theorem diffP_len {ls : List (List Ent)} (hls : OkS ls) : (diffP ls).1.length ≤ 1000000 := by
  unfold diffP
  cases h : restP ls with
  | none => simp [toldP]
  | some M =>
    show (sortS M).length ≤ 1000000
    rw [(sortS_perm M).length_eq]
    exact restP_len hls M (by rw [h]; rfl)

set_option maxRecDepth 100000 in
set_option maxHeartbeats 4000000 in
theorem makes_any (a0 a1 : Addr) (a : Option Addr) (cap : Nat) (ls : List (List Ent)) (hIn : In ls) (so : Bool) (aw : Option Addr) (cw : Nat) (ws : List Int) (hw64 : ∀ x ∈ ws, I64 x) (agg : Int) (w : World) (hE : Env a0 a1 w) (hL : SetsE w a ls) (hW : Nums w aw ws) :
    Calls Tryd.prog 3 #[.slice a ls.length cap, .bool so, .slice aw ws.length cw, .int .i64 agg] w fun e w' => e = .returned (.bool true) ∧ Below w.heap.size w w' := by
  have HSH := Lib.hid (shown_any a0 a1 w hE)
  have HE := Lib.hid hE
  have HL := Lib.hid hL
  have HIN := Lib.hid hIn
  have HW0 := Lib.hid hW
  have HW6 := Lib.hid hw64
  clear hE hL hIn hW hw64
  go_enter Tryd.func3, Tryd.ntmps3
  go_wp2_with fail
  refine HSH.out.mono ?_
  rintro e w1 ⟨rfl, hb⟩
  have HB1 := Lib.hid hb
  have HL1 := Lib.hid (HL.out.later hb)
  clear hb
  go_wp2_with fail
  refine (few_any so ls HIN.out.1 (fun x hx => ⟨(HIN.out.2 x hx).1, fun e he => ((HIN.out.2 x hx).2 e he).1⟩) _ _ _ HL1.out).mono ?_
  rintro e w2 ⟨r, rfl, hS, hb⟩
  have HOK := Lib.hid (ok_few so HIN.out)
  have HSM := Lib.hid (small_few so HIN.out)
  obtain ⟨fa, fc, rfl, hS2, hfc, _⟩ := hS.slice
  generalize fewP so ls = L at *
  have HS2 := Lib.hid hS2
  have HB2 := Lib.hid (HB1.out.trans (hb.mono HB1.out.size))
  clear hS hS2 hb
  have hUl := mixP_len (agg := agg) (ws := ws) (least := 1) HOK.out
  have hIl := mixP_len (agg := agg) (ws := ws) (least := L.length) HOK.out
  have hDl := diffP_len HOK.out
  have c1 := fun W hE hS hN => Lib.hid (union_any a0 a1 agg ws HW6.out L HOK.out aw fa cw fc W hE hS hN)
  have c2 := fun W hS hN => Lib.hid (refUnion_any agg fa aw fc cw ws HW6.out L HOK.out HSM.out W hS hN)
  have c3 := fun W hE hS hN => Lib.hid (inter_any a0 a1 agg ws HW6.out L HOK.out aw fa cw fc W hE hS hN)
  have c4 := fun W hS hN => Lib.hid (refInter_any agg fa aw fc cw ws HW6.out L HOK.out HSM.out W hS hN)
  have c5 := fun W hE hS => Lib.hid (diff_any a0 a1 L HOK.out fa fc hfc W hE hS)
  have c6 := fun W hS => Lib.hid (refDiff_any fa fc L HOK.out HSM.out W hS)
  generalize mixP agg ws 1 L = A at *
  generalize mixP agg ws L.length L = B at *
  generalize diffP L = C at *
  obtain ⟨lA, xA⟩ := A
  obtain ⟨lB, xB⟩ := B
  obtain ⟨lC, xC⟩ := C
  simp only at hUl hIl hDl
  go_wp2_with fail
  refine (c1 _ (HE.out.later HB2.out) HS2.out (HW0.out.later HB2.out)).out.mono ?_
  rintro e w3 ⟨r, rfl, hO, hb⟩
  obtain ⟨ra, rc, rfl, _, _, _, _⟩ := hO.slice
  have HB3 := Lib.hid (HB2.out.trans (hb.mono HB2.out.size))
  have HS3 := Lib.hid (HS2.out.later hb)
  have HA3 := Lib.hid hO
  clear hO hb c1
  go_wp2_with fail
  refine (c2 _ HS3.out (HW0.out.later HB3.out)).out.mono ?_
  rintro e w4 ⟨r, rfl, hO, hb⟩
  obtain ⟨sa, sc, rfl, _, _, _, _⟩ := hO.slice
  have HB4 := Lib.hid (HB3.out.trans (hb.mono HB3.out.size))
  have HS4 := Lib.hid (HS3.out.later hb)
  have HA4 := Lib.hid (own_later HA3.out hb)
  have HX4 := Lib.hid hO
  clear hO hb c2
  go_wp2_with fail
  refine (c3 _ (HE.out.later HB4.out) HS4.out (HW0.out.later HB4.out)).out.mono ?_
  rintro e w5 ⟨r, rfl, hO, hb⟩
  obtain ⟨ta, tc, rfl, _, _, _, _⟩ := hO.slice
  have HB5 := Lib.hid (HB4.out.trans (hb.mono HB4.out.size))
  have HS5 := Lib.hid (HS4.out.later hb)
  have HA5 := Lib.hid (own_later HA4.out hb)
  have HX5 := Lib.hid (own_later HX4.out hb)
  have HC5 := Lib.hid hO
  clear hO hb c3
  go_wp2_with fail
  refine (c4 _ HS5.out (HW0.out.later HB5.out)).out.mono ?_
  rintro e w6 ⟨r, rfl, hO, hb⟩
  obtain ⟨ua, uc, rfl, _, _, _, _⟩ := hO.slice
  have HB6 := Lib.hid (HB5.out.trans (hb.mono HB5.out.size))
  have HS6 := Lib.hid (HS5.out.later hb)
  have HA6 := Lib.hid (own_later HA5.out hb)
  have HX6 := Lib.hid (own_later HX5.out hb)
  have HC6 := Lib.hid (own_later HC5.out hb)
  have HD6 := Lib.hid hO
  clear hO hb c4
  go_wp2_with fail
  refine (c5 _ (HE.out.later HB6.out) HS6.out).out.mono ?_
  rintro e w7 ⟨r, rfl, hO, hb⟩
  obtain ⟨va, vc, rfl, _, _, _, _⟩ := hO.slice
  have HB7 := Lib.hid (HB6.out.trans (hb.mono HB6.out.size))
  have HS7 := Lib.hid (HS6.out.later hb)
  have HA7 := Lib.hid (own_later HA6.out hb)
  have HX7 := Lib.hid (own_later HX6.out hb)
  have HC7 := Lib.hid (own_later HC6.out hb)
  have HD7 := Lib.hid (own_later HD6.out hb)
  have HF7 := Lib.hid hO
  clear hO hb c5
  go_wp2_with fail
  refine (c6 _ HS7.out).out.mono ?_
  rintro e w8 ⟨r, rfl, hO, hb⟩
  obtain ⟨ya, yc, rfl, _, _, _, _⟩ := hO.slice
  have HB8 := Lib.hid (HB7.out.trans (hb.mono HB7.out.size))
  have HA8 := Lib.hid (own_later HA7.out hb)
  have HX8 := Lib.hid (own_later HX7.out hb)
  have HC8 := Lib.hid (own_later HC7.out hb)
  have HD8 := Lib.hid (own_later HD7.out hb)
  have HF8 := Lib.hid (own_later HF7.out hb)
  have HG8 := Lib.hid hO
  clear hO hb c6
  go_wp2_with fail
  refine (same_any ra sa rc sc lA lA hUl hUl w8 (own_ents HA8.out) (own_ents HX8.out)).mono ?_
  rintro e w9 ⟨rfl, hb⟩
  rw [decide_eq_true rfl]
  have HB9 := Lib.hid (HB8.out.trans (hb.mono HB8.out.size))
  have HC9 := Lib.hid (own_later HC8.out hb)
  have HD9 := Lib.hid (own_later HD8.out hb)
  have HF9 := Lib.hid (own_later HF8.out hb)
  have HG9 := Lib.hid (own_later HG8.out hb)
  clear hb
  go_wp2_with fail
  refine (same_any ta ua tc uc lB lB hIl hIl w9 (own_ents HC9.out) (own_ents HD9.out)).mono ?_
  rintro e w10 ⟨rfl, hb⟩
  rw [decide_eq_true rfl]
  have HB10 := Lib.hid (HB9.out.trans (hb.mono HB9.out.size))
  have HF10 := Lib.hid (own_later HF9.out hb)
  have HG10 := Lib.hid (own_later HG9.out hb)
  clear hb
  go_wp2_with fail
  refine (same_any va ya vc yc lC lC hDl hDl w10 (own_ents HF10.out) (own_ents HG10.out)).mono ?_
  rintro e w11 ⟨rfl, hb⟩
  rw [decide_eq_true rfl]
  have HB11 := Lib.hid (HB10.out.trans (hb.mono HB10.out.size))
  clear hb
  go_wp2_with fail
  go_ret
  exact ⟨rfl, HB11.out⟩
end Go.Proofs.YtjilfgkoibbcnaaDoor
