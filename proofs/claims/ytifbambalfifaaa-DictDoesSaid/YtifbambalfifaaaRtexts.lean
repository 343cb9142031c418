/- The reference's comparison of two lists of texts, where they are the same. -/
import Derived.Test.YtifbambalfifaaaRless
import Derived.Test.YtifbambalfifaaaKeys
namespace Go.Proofs.Ytifbambalfifaaa
open Go.RowKit Go.Shelf
attribute [local go_sem] Oper.semAt_some

theorem Own9.formR {W : World} {B : Nat} {v : Value} {ks : List (List UInt8)} (h : Own9 W B v ks) : ∃ A cap, v = .slice A ks.length cap ∧ ∀ i (hi : i < ks.length), ∃ g, A = some ⟨g, 0, none⟩ ∧ W.cell? ⟨g, i, none⟩ = some (encStr ks[i]) := by
  have hO := h
  rcases h.2 with ⟨rfl, h0⟩ | ⟨g, cap, cur, rfl, _⟩
  · exact ⟨none, 0, by rw [h0], fun i hi => by omega⟩
  · refine ⟨some ⟨g, 0, none⟩, cap, rfl, fun i hi => ⟨g, rfl, ?_⟩⟩
    have hc := World.ownsRow.cellAt (w := W) (base := B) (e := 9) (size := 1) (g := g) (n := ks.length) (cap := cap) (xs := ks.map encStr) hO i (by omega)
    rw [hc, List.getElem?_map, List.getElem?_eq_getElem hi]
    rfl

set_option maxRecDepth 100000 in
theorem texts_sameR {B B' : Nat} {u u' : Value} {ks : List (List UInt8)} {w : World} (hu : Own9 w B u ks) (hu' : Own9 w B' u' ks) (hl : ks.length ≤ 1000000) : Calls Try.prog 17 #[u, u'] w fun e w' => e = .returned (.bool true) ∧ Below w.heap.size w w' := by
  obtain ⟨A, cap, rfl, hA⟩ := hu.formR
  obtain ⟨A', cap', rfl, hA'⟩ := hu'.formR
  have HA := Lib.hid hA
  have HA' := Lib.hid hA'
  clear hA hA' hu hu'
  go_enter Try.func17, Try.ntmps17
  go_wp2
  go_loopw [5] (fun i wr => ∃ j : Nat, i = .int .i64 j ∧ j ≤ ks.length ∧ Below w.heap.size w wr ∧ ∀ a, wr.cell? a = w.cell? a) (fun i _ => ks.length - (intOf i).toNat)
  case atStart => exact ⟨0, rfl, by omega, Below.refl _ _, fun _ => rfl⟩
  case round =>
    obtain ⟨j, rfl, hj, hb, hc⟩ := hrel
    by_cases hlt : j < ks.length
    · obtain ⟨g, rfl, z⟩ := HA.out j hlt
      obtain ⟨g', rfl, z'⟩ := HA'.out j hlt
      rw [← hc] at z z'
      unfold encStr at z z'
      generalize (⟨ks[j].toArray⟩ : ByteArray) = s at *
      have HB := Lib.hid hb
      have HC := Lib.hid hc
      clear hb hc
      go_wp2
      go_quiet (fail)
      go_wp2
      refine ⟨⟨j + 1, by go_num, by omega, HB.out.trans ((below_drewN _ nq).mono HB.out.size), fun a => HC.out a⟩, by simp [intOf]; omega⟩
    · have HB := Lib.hid hb
      clear hb hc
      have hj2 : (ks.length : Int) ≤ j := by omega
      go_wp2
      go_returns
      exact ⟨rfl, HB.out⟩
end Go.Proofs.Ytifbambalfifaaa
