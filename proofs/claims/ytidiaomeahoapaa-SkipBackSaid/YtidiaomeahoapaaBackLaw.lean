/- The links back tell the same, the last one first. -/
import Derived.Test.YtidiaomeahoapaaRng
import Derived.Test.YtidiaomeahoapaaPlaces
namespace Go.Proofs.Ytidiaomeahoapaa
open Go.RowKit Go.Shelf
attribute [local go_sem] Oper.semAt_some

set_option maxRecDepth 100000 in
set_option maxHeartbeats 8000000 in
theorem back_walk (a : Option Addr) (cap : Nat) (l : List Ac) (hn : l.length ≤ 9223372036854775807) (hu : ∀ x ∈ l, x.Fit) (f t : Int) (w : World) (hA : Acts w a l) :
    Calls Try.prog 6 #[.slice a l.length cap, .int .i64 f, .int .i64 t] w fun e w' => e = .returned (.bool true) ∧ Below w.heap.size w w' := by
  have H10 := Lib.hid (shown_any w)
  have HM := fun w1 (hb : Below w.heap.size w w1) => Lib.hid (made_any a cap l hn hu w1 (hA.far (fun b o ho => (hb.block b (Array.getElem?_eq_some_iff.1 ho).1).trans ho)))
  clear hn hu hA
  go_enter Try.func6, Try.ntmps6
  go_wp2_with fail
  refine H10.out.mono ?_
  rintro e w1 ⟨rfl, hb1⟩
  have HM1 := HM w1 hb1
  have HB1 := Lib.hid hb1
  clear HM H10 hb1
  go_wp2_with fail
  refine HM1.out.mono ?_
  rintro e w2 ⟨q, rfl, hq, ⟨⟨L, hL, hls, hby, hlen⟩, hbl⟩⟩
  have hb2 := HB1.out.trans (hbl.mono HB1.out.size)
  have HB2 := Lib.hid hb2
  have hlN : L.length ≤ 100000 := by omega
  have HR := Lib.hid (range_ls hls hlN f t)
  have HK := fun W (hb : Below w2.heap.size w2 W) => Lib.hid (back_ls (hls.later hb) hlN f t)
  have hsl : (sub (L.map en) f t).length ≤ 120 := by unfold sub; simp; omega
  clear HM1 HB1 hb2 hls hby hbl hL hq hlen
  generalize sub (L.map en) f t = E at *
  go_wp2_with fail
  refine HR.out.mono ?_
  rintro e w3 ⟨r1, rfl, ho1, hb3⟩
  have HK2 := HK w3 hb3
  have HE1 := Lib.hid ho1.ents
  have HB3 := Lib.hid (HB2.out.trans (hb3.mono HB2.out.size))
  clear HR HK ho1 hb3 HB2
  go_wp2_with fail
  refine HK2.out.mono ?_
  rintro e w4 ⟨r2, rfl, ho2, hb4⟩
  have HE2 := Lib.hid ho2.ents
  have HE1' := Lib.hid (HE1.out.later hb4)
  have HB4 := Lib.hid (HB3.out.trans (hb4.mono HB3.out.size))
  obtain ⟨a1, c1, e1⟩ := HE1.out.form
  obtain ⟨a2, c2, e2⟩ := HE2.out.form
  rw [List.length_reverse] at e2
  subst e1 e2
  clear HK2 ho2 hb4 HB3 HE1
  have hsl2 : (E.length : Int) ≤ 120 := by omega
  go_wp2_with fail
  go_loopw [11] (fun i wr => ∃ (k : Nat), i = .int .i64 k ∧ k ≤ E.length ∧ Below w4.heap.size w4 wr) (fun i _ => E.length - (intOf i).toNat)
  case atStart => exact ⟨0, rfl, by omega, Below.refl _ _⟩
  case round =>
    obtain ⟨k, rfl, hk, hbr⟩ := hrel
    by_cases hlt : k < E.length
    · have hx : E[k]? = some E[k] := List.getElem?_eq_getElem hlt
      generalize E[k] = x at *
      have hx2 : E.reverse[E.length - 1 - k]? = some x := by
        rw [List.getElem?_reverse (by omega), show E.length - 1 - (E.length - 1 - k) = k by omega]
        exact hx
      obtain ⟨g1, d1, e1, p1, q1⟩ := (HE1'.out.later hbr).at' k x hx
      obtain ⟨g2, d2, e2, p2, q2⟩ := (HE2.out.later hbr).at' _ x hx2
      cases e1
      rw [List.length_reverse] at e2
      cases e2
      have hk2 : (k : Int) < E.length := by omega
      have hne := neq_ent x.1 x.1 x.2 x.2 true (by simp)
      have HBR := Lib.hid hbr
      obtain ⟨j, hj⟩ : ∃ j, j = E.length - 1 - k := ⟨_, rfl⟩
      rw [← hj] at p2 q2
      have hje : (E.length : Int) - 1 - k = (j : Int) := by omega
      have hw1 : IntKind.i64.wrap ((E.length : Int) - 1) = (E.length : Int) - 1 := IntWalk.i64_in _ (by omega)
      have hw2 : IntKind.i64.wrap ((E.length : Int) - 1 - k) = (j : Int) := by rw [IntWalk.i64_in _ (by omega)]; exact hje
      have hj2 : (j : Int) < E.length := by omega
      clear hx hx2 hbr HE1' HE2 hj
      go_wp2_with fail
      go_quiet (fail)
      go_wp2_with fail
      exact ⟨⟨k + 1, by go_num, hlt, HBR.out.trans ((drewB wr _).mono HBR.out.size)⟩, by simp [intOf]; omega⟩
    · obtain rfl : k = E.length := by omega
      go_wp2
      go_returns
      exact ⟨rfl, HB4.out.trans (hbr.mono HB4.out.size)⟩
end Go.Proofs.Ytidiaomeahoapaa
