/- Growing and shrinking begin. -/
import Derived.Test.YtifbambalfifaaaRep
namespace Go.Proofs.Ytifbambalfifaaa
open Go.RowKit Go.Shelf
attribute [local go_sem] Oper.semAt_some

def Dc.grown (D : Dc) : Dc := if D.b = [] ∧ D.a.length ≤ D.n ∧ D.a.length < 65536 then D.begin (2 * D.n) else D
def Dc.shrunk (D : Dc) : Dc := if D.b = [] ∧ 4 < D.a.length ∧ 8 * D.n < D.a.length then D.begin D.n else D
theorem moving_iff (D : Dc) : D.moving = false ↔ D.b = [] := by
  unfold Dc.moving
  cases D.b with
  | nil => simp
  | cons x l => simp

section
variable {S : Nat → Prop} {p seed : Nat} {D : Dc} {w : World}

set_option maxRecDepth 100000 in
theorem grow_any (h : Rep tyI w p S seed D) (hn : D.n ≤ 1000000) : Calls Try.prog 36 #[.pointer (some ⟨p, 0, none⟩)] w fun e w' => e = .returned (.tuple #[]) ∧ Went tyI S w p seed D.grown w' := by
  have hmv := moving_any h
  have hst := Lib.hid (Went.start h)
  have H := Lib.hid h
  obtain ⟨g0, g1, A1, va, vb, hm, hf, hc⟩ := h
  obtain ⟨c0, c1, c2, c3, c4, f0, f1, f3, f4⟩ := dict_facts hm
  clear hm hf hc
  cases hb : D.moving with
  | true =>
    have hD : D.grown = D := by unfold Dc.grown; rw [if_neg]; intro h; rw [(moving_iff D).2 h.1] at hb; cases hb
    rw [hD]
    rw [hb] at hmv
    have HM := Lib.hid hmv
    clear hmv hb hD
    go_enter Try.func36, Try.ntmps36
    go_wp2_with fail
    refine HM.out.mono ?_
    rintro e w1 ⟨rfl, rfl⟩
    go_wp2
    go_returns
    exact ⟨rfl, hst.out⟩
  | false =>
    have hbn := (moving_iff D).1 hb
    rw [hb] at hmv
    have HM := Lib.hid hmv
    by_cases hc : D.a.length ≤ D.n ∧ D.a.length < 65536
    · have hD : D.grown = D.begin (2 * D.n) := by unfold Dc.grown; rw [if_pos ⟨hbn, hc.1, hc.2⟩]
      have HB := Lib.hid (begin_any H.out (2 * D.n) hbn)
      rw [hD]
      obtain ⟨h1, h2⟩ := hc
      have h1' : (D.a.length : Int) ≤ D.n := by omega
      have h2' : (D.a.length : Int) < 65536 := by omega
      have h3 : (D.n : Int) ≤ 1000000 := by omega
      have hcast : ((2 * D.n : Nat) : Int) = 2 * (D.n : Int) := by omega
      rw [hcast] at HB
      clear hmv hb hD hbn hcast hst
      go_enter Try.func36, Try.ntmps36
      go_wp2_with fail
      refine HM.out.mono ?_
      rintro e w1 ⟨rfl, rfl⟩
      go_wp2_with fail
      refine HB.out.mono ?_
      rintro e w1 ⟨rfl, hw⟩
      have HW := Lib.hid hw
      clear hw
      go_wp2
      go_returns
      exact ⟨rfl, HW.out⟩
    · have hD : D.grown = D := by unfold Dc.grown; rw [if_neg]; intro h; exact hc ⟨h.2.1, h.2.2⟩
      rw [hD]
      clear hmv hb hD hbn
      by_cases h1 : D.n < D.a.length
      · have h1' : (D.n : Int) < D.a.length := by omega
        go_enter Try.func36, Try.ntmps36
        go_wp2_with fail
        refine HM.out.mono ?_
        rintro e w1 ⟨rfl, rfl⟩
        go_wp2
        go_returns
        exact ⟨rfl, hst.out⟩
      · have h1' : (D.a.length : Int) ≤ D.n := by omega
        have h2' : decide ((D.a.length : Int) < 65536) = false := by rw [decide_eq_false_iff_not]; omega
        clear hc h1
        go_enter Try.func36, Try.ntmps36
        go_wp2_with fail
        refine HM.out.mono ?_
        rintro e w1 ⟨rfl, rfl⟩
        go_wp2
        go_returns
        exact ⟨rfl, hst.out⟩

set_option maxRecDepth 100000 in
theorem shrink_any (h : Rep tyI w p S seed D) (hn : D.n ≤ 1000000) : Calls Try.prog 43 #[.pointer (some ⟨p, 0, none⟩)] w fun e w' => e = .returned (.tuple #[]) ∧ Went tyI S w p seed D.shrunk w' := by
  have hmv := moving_any h
  have hst := Lib.hid (Went.start h)
  have H := Lib.hid h
  obtain ⟨g0, g1, A1, va, vb, hm, hf, hc⟩ := h
  obtain ⟨c0, c1, c2, c3, c4, f0, f1, f3, f4⟩ := dict_facts hm
  clear hm hf hc
  have h3 : (D.n : Int) ≤ 1000000 := by omega
  cases hb : D.moving with
  | true =>
    have hD : D.shrunk = D := by unfold Dc.shrunk; rw [if_neg]; intro h; rw [(moving_iff D).2 h.1] at hb; cases hb
    rw [hD]
    rw [hb] at hmv
    have HM := Lib.hid hmv
    clear hmv hb hD
    go_enter Try.func43, Try.ntmps43
    go_wp2_with fail
    refine HM.out.mono ?_
    rintro e w1 ⟨rfl, rfl⟩
    go_wp2
    go_returns
    exact ⟨rfl, hst.out⟩
  | false =>
    have hbn := (moving_iff D).1 hb
    rw [hb] at hmv
    have HM := Lib.hid hmv
    by_cases hc : 4 < D.a.length ∧ 8 * D.n < D.a.length
    · have hD : D.shrunk = D.begin D.n := by unfold Dc.shrunk; rw [if_pos ⟨hbn, hc.1, hc.2⟩]
      have HB := Lib.hid (begin_any H.out D.n hbn)
      rw [hD]
      obtain ⟨h1, h2⟩ := hc
      have h1' : 4 < (D.a.length : Int) := by omega
      have h2' : 8 * (D.n : Int) < D.a.length := by omega
      clear hmv hb hD hbn hst
      go_enter Try.func43, Try.ntmps43
      go_wp2_with fail
      refine HM.out.mono ?_
      rintro e w1 ⟨rfl, rfl⟩
      go_wp2_with fail
      refine HB.out.mono ?_
      rintro e w1 ⟨rfl, hw⟩
      have HW := Lib.hid hw
      clear hw
      go_wp2
      go_returns
      exact ⟨rfl, HW.out⟩
    · have hD : D.shrunk = D := by unfold Dc.shrunk; rw [if_neg]; intro h; exact hc ⟨h.2.1, h.2.2⟩
      rw [hD]
      clear hmv hb hD hbn
      by_cases h1 : D.a.length ≤ 4
      · have h1' : (D.a.length : Int) ≤ 4 := by omega
        go_enter Try.func43, Try.ntmps43
        go_wp2_with fail
        refine HM.out.mono ?_
        rintro e w1 ⟨rfl, rfl⟩
        go_wp2
        go_returns
        exact ⟨rfl, hst.out⟩
      · have h1' : 4 < (D.a.length : Int) := by omega
        have h2' : (D.a.length : Int) ≤ 8 * (D.n : Int) := by omega
        clear hc
        go_enter Try.func43, Try.ntmps43
        go_wp2_with fail
        refine HM.out.mono ?_
        rintro e w1 ⟨rfl, rfl⟩
        go_wp2
        go_returns
        exact ⟨rfl, hst.out⟩
end
end Go.Proofs.Ytifbambalfifaaa
