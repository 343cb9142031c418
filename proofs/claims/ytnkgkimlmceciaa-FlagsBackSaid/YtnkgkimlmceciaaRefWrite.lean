/- The words of flags: the reference's Write. -/
import Derived.Test.YtnkgkimlmceciaaWrites
namespace Go.Proofs.Ytnkgkimlmceciaa
open Go.RowKit Go.Shelf
attribute [local go_sem] Oper.semAt_some

structure WInv (w W : World) (c : Array Value) (r : Value) (l : List ByteArray) : Prop where
  below : Below w.heap.size w W
  now : Blk W w.heap.size 23 c
  row : RowW w W r l
/-- A word put to the end. -/
theorem WInv.app {w W : World} {c : Array Value} {r : Value} {l : List ByteArray} (h : WInv w W c r l) (hl : l.length ≤ 6) (x : ByteArray) :
    ∃ g cap W7, (Builtin.append_ #[30, 30] 30 #[r, .slice (some ⟨W.heap.size, 0, none⟩) 1 1]).run Try.prog (W.alloc (.cells #[.string x] 9)) = .ok (.slice (some ⟨g, 0, none⟩) (l.length + 1) cap) W7 ∧ WInv w W7 c (.slice (some ⟨g, 0, none⟩) (l.length + 1) cap) (l ++ [x]) := by
  obtain ⟨g7, cap7, w7, hrun, hown7, hgrow⟩ := app9 h.row h.below.size (by omega) x
  refine ⟨g7, cap7, w7, hrun, grown_below (h.below.alloc h.below.size _) hgrow (World.ownsRow.alloc h.row _) (Nat.le_refl _), (hgrow.block w.heap.size (h.now.alloc _).lt (row_apart h.now h.row (by decide))).trans (h.now.alloc _), ?_⟩
  unfold RowW; rw [List.length_append]; simpa [cellsS] using hown7

set_option maxRecDepth 100000 in
set_option maxHeartbeats 4000000 in
theorem refWrite_any (f : Fl) (w : World) : Calls Try.prog 19 #[f.v] w fun e w' => ∃ r, e = .returned r ∧ RowW w w' r (wordsK f 6) ∧ Below w.heap.size w w' := by
  have HSUC := Lib.hid (words_succ f)
  have HL := Lib.hid (words_len f)
  have k0 := Blk.new w 23 f.c
  have K0 := Lib.hid k0
  clear k0
  obtain ⟨nx, xx, gt, lt, ch, inc⟩ := f
  unfold Fl.c at K0
  unfold Fl.v Fl.c
  simp only at K0 ⊢
  have hs0 := HSUC.out 0
  have hs1 := HSUC.out 1
  have hs2 := HSUC.out 2
  have hs3 := HSUC.out 3
  have hs4 := HSUC.out 4
  have hs5 := HSUC.out 5
  simp only [Fl.get, Nat.reduceAdd, Nat.zero_add] at hs0 hs1 hs2 hs3 hs4 hs5
  have hk0 : wordsK ⟨nx, xx, gt, lt, ch, inc⟩ 0 = [] := rfl
  generalize wordsK ⟨nx, xx, gt, lt, ch, inc⟩ = wk at *
  have HK0 := Lib.hid hk0
  have HS0 := Lib.hid hs0
  have HS1 := Lib.hid hs1
  have HS2 := Lib.hid hs2
  have HS3 := Lib.hid hs3
  have HS4 := Lib.hid hs4
  have HS5 := Lib.hid hs5
  clear hk0 hs0 hs1 hs2 hs3 hs4 hs5
  go_enter Try.func19, Try.ntmps19
  have hI0 : WInv w (w.alloc (.cells #[.bool nx, .bool xx, .bool gt, .bool lt, .bool ch, .bool inc] 23)) #[.bool nx, .bool xx, .bool gt, .bool lt, .bool ch, .bool inc] (.slice none 0 0) (wk 0) := ⟨(Below.refl _ _).alloc (Nat.le_refl _) _, K0.out, by rw [HK0.out]; exact World.ownsRow_nil _ _ _ _⟩
  have HIZ := Lib.hid hI0
  have d0 := hI0.now.cell 0
  simp at d0
  clear hI0
  go_upto_region 2 with (fail)
  go_cut [3, 5] from 4 to 5 (fun r t wc => t = .bool nx ∧ WInv w wc #[.bool nx, .bool xx, .bool gt, .bool lt, .bool ch, .bool inc] r (wk 0))
  case first =>
    go_wp2_with fail
    go_meet
    exact ⟨rfl, HIZ.out⟩
  case rest =>
    obtain ⟨rfl, hi⟩ := hcut
    have HI0 := Lib.hid hi
    clear hi HIZ d0
    go_upto_if 5 with (fail)
    go_cut [0, 3, 5] from 6 to 8 (fun _ r t wc => t = .bool nx ∧ WInv w wc #[.bool nx, .bool xx, .bool gt, .bool lt, .bool ch, .bool inc] r (wk 1))
    case first =>
      cases hnx : nx
      · have hw : wk 1 = wk 0 := by rw [HS0.out, hnx]; rfl
        have HW := Lib.hid hw
        have hi := HI0.out
        rw [hnx] at hi
        have HI := Lib.hid hi
        clear hw hi
        go_wp2_with fail
        go_meet
        exact ⟨by rw [hnx], by rw [HW.out, hnx]; exact HI.out⟩
      · have hw : wk 1 = wk 0 ++ [kw 0] := by rw [HS0.out, hnx]; rfl
        have HW := Lib.hid hw
        have hi := HI0.out
        rw [hnx] at hi
        obtain ⟨g7, cap7, w7, hrun, hi7⟩ := hi.app (by have := HL.out 0; omega) (kw 0)
        simp only [kw] at hrun
        have HI := Lib.hid hi7
        clear hw hi hi7
        go_wp2_with (at_builtin; refine wpList_append_ran rfl _ _ 30 30 rfl rfl rfl hrun ?_; clear hrun)
        go_meet
        exact ⟨by rw [hnx], by rw [HW.out, hnx]; exact HI.out⟩
    case rest =>
      obtain ⟨rfl, hi⟩ := hcut
      have HI1 := Lib.hid hi
      clear hi HI0
      have hc := HI1.out.now
      have d0 := hc.cell 1
      simp at d0
      clear hc
      go_upto_if 10 with (fail)
      go_cut [0, 3, 10] from 11 to 13 (fun _ r t wc => t = .bool xx ∧ WInv w wc #[.bool nx, .bool xx, .bool gt, .bool lt, .bool ch, .bool inc] r (wk 2))
      case first =>
        cases hxx : xx
        · have hw : wk 2 = wk 1 := by rw [HS1.out, hxx]; rfl
          have HW := Lib.hid hw
          have hi := HI1.out
          rw [hxx] at hi
          have HI := Lib.hid hi
          clear hw hi
          go_wp2_with fail
          go_meet
          exact ⟨by rw [hxx], by rw [HW.out, hxx]; exact HI.out⟩
        · have hw : wk 2 = wk 1 ++ [kw 1] := by rw [HS1.out, hxx]; rfl
          have HW := Lib.hid hw
          have hi := HI1.out
          rw [hxx] at hi
          obtain ⟨g7, cap7, w7, hrun, hi7⟩ := hi.app (by have := HL.out 1; omega) (kw 1)
          simp only [kw] at hrun
          have HI := Lib.hid hi7
          clear hw hi hi7
          go_wp2_with (at_builtin; refine wpList_append_ran rfl _ _ 30 30 rfl rfl rfl hrun ?_; clear hrun)
          go_meet
          exact ⟨by rw [hxx], by rw [HW.out, hxx]; exact HI.out⟩
      case rest =>
        obtain ⟨rfl, hi⟩ := hcut
        have HI2 := Lib.hid hi
        clear hi HI1 d0
        have hc := HI2.out.now
        have d0 := hc.cell 2
        simp at d0
        clear hc
        go_upto_if 15 with (fail)
        go_cut [0, 3, 15] from 16 to 18 (fun _ r t wc => t = .bool gt ∧ WInv w wc #[.bool nx, .bool xx, .bool gt, .bool lt, .bool ch, .bool inc] r (wk 3))
        case first =>
          cases hgt : gt
          · have hw : wk 3 = wk 2 := by rw [HS2.out, hgt]; rfl
            have HW := Lib.hid hw
            have hi := HI2.out
            rw [hgt] at hi
            have HI := Lib.hid hi
            clear hw hi
            go_wp2_with fail
            go_meet
            exact ⟨by rw [hgt], by rw [HW.out, hgt]; exact HI.out⟩
          · have hw : wk 3 = wk 2 ++ [kw 2] := by rw [HS2.out, hgt]; rfl
            have HW := Lib.hid hw
            have hi := HI2.out
            rw [hgt] at hi
            obtain ⟨g7, cap7, w7, hrun, hi7⟩ := hi.app (by have := HL.out 2; omega) (kw 2)
            simp only [kw] at hrun
            have HI := Lib.hid hi7
            clear hw hi hi7
            go_wp2_with (at_builtin; refine wpList_append_ran rfl _ _ 30 30 rfl rfl rfl hrun ?_; clear hrun)
            go_meet
            exact ⟨by rw [hgt], by rw [HW.out, hgt]; exact HI.out⟩
        case rest =>
          obtain ⟨rfl, hi⟩ := hcut
          have HI3 := Lib.hid hi
          clear hi HI2 d0
          have hc := HI3.out.now
          have d0 := hc.cell 3
          simp at d0
          clear hc
          go_upto_if 20 with (fail)
          go_cut [0, 3, 20] from 21 to 23 (fun _ r t wc => t = .bool lt ∧ WInv w wc #[.bool nx, .bool xx, .bool gt, .bool lt, .bool ch, .bool inc] r (wk 4))
          case first =>
            cases hlt : lt
            · have hw : wk 4 = wk 3 := by rw [HS3.out, hlt]; rfl
              have HW := Lib.hid hw
              have hi := HI3.out
              rw [hlt] at hi
              have HI := Lib.hid hi
              clear hw hi
              go_wp2_with fail
              go_meet
              exact ⟨by rw [hlt], by rw [HW.out, hlt]; exact HI.out⟩
            · have hw : wk 4 = wk 3 ++ [kw 3] := by rw [HS3.out, hlt]; rfl
              have HW := Lib.hid hw
              have hi := HI3.out
              rw [hlt] at hi
              obtain ⟨g7, cap7, w7, hrun, hi7⟩ := hi.app (by have := HL.out 3; omega) (kw 3)
              simp only [kw] at hrun
              have HI := Lib.hid hi7
              clear hw hi hi7
              go_wp2_with (at_builtin; refine wpList_append_ran rfl _ _ 30 30 rfl rfl rfl hrun ?_; clear hrun)
              go_meet
              exact ⟨by rw [hlt], by rw [HW.out, hlt]; exact HI.out⟩
          case rest =>
            obtain ⟨rfl, hi⟩ := hcut
            have HI4 := Lib.hid hi
            clear hi HI3 d0
            have hc := HI4.out.now
            have d0 := hc.cell 4
            simp at d0
            clear hc
            go_upto_if 25 with (fail)
            go_cut [0, 3, 25] from 26 to 28 (fun _ r t wc => t = .bool ch ∧ WInv w wc #[.bool nx, .bool xx, .bool gt, .bool lt, .bool ch, .bool inc] r (wk 5))
            case first =>
              cases hch : ch
              · have hw : wk 5 = wk 4 := by rw [HS4.out, hch]; rfl
                have HW := Lib.hid hw
                have hi := HI4.out
                rw [hch] at hi
                have HI := Lib.hid hi
                clear hw hi
                go_wp2_with fail
                go_meet
                exact ⟨by rw [hch], by rw [HW.out, hch]; exact HI.out⟩
              · have hw : wk 5 = wk 4 ++ [kw 4] := by rw [HS4.out, hch]; rfl
                have HW := Lib.hid hw
                have hi := HI4.out
                rw [hch] at hi
                obtain ⟨g7, cap7, w7, hrun, hi7⟩ := hi.app (by have := HL.out 4; omega) (kw 4)
                simp only [kw] at hrun
                have HI := Lib.hid hi7
                clear hw hi hi7
                go_wp2_with (at_builtin; refine wpList_append_ran rfl _ _ 30 30 rfl rfl rfl hrun ?_; clear hrun)
                go_meet
                exact ⟨by rw [hch], by rw [HW.out, hch]; exact HI.out⟩
            case rest =>
              obtain ⟨rfl, hi⟩ := hcut
              have HI5 := Lib.hid hi
              clear hi HI4 d0
              have hc := HI5.out.now
              have d0 := hc.cell 5
              simp at d0
              clear hc
              go_upto_if 30 with (fail)
              go_cut [0, 3, 30] from 31 to 33 (fun _ r t wc => t = .bool inc ∧ WInv w wc #[.bool nx, .bool xx, .bool gt, .bool lt, .bool ch, .bool inc] r (wk 6))
              case first =>
                cases hinc : inc
                · have hw : wk 6 = wk 5 := by rw [HS5.out, hinc]; rfl
                  have HW := Lib.hid hw
                  have hi := HI5.out
                  rw [hinc] at hi
                  have HI := Lib.hid hi
                  clear hw hi
                  go_wp2_with fail
                  go_meet
                  exact ⟨by rw [hinc], by rw [HW.out, hinc]; exact HI.out⟩
                · have hw : wk 6 = wk 5 ++ [kw 5] := by rw [HS5.out, hinc]; rfl
                  have HW := Lib.hid hw
                  have hi := HI5.out
                  rw [hinc] at hi
                  obtain ⟨g7, cap7, w7, hrun, hi7⟩ := hi.app (by have := HL.out 5; omega) (kw 5)
                  simp only [kw] at hrun
                  have HI := Lib.hid hi7
                  clear hw hi hi7
                  go_wp2_with (at_builtin; refine wpList_append_ran rfl _ _ 30 30 rfl rfl rfl hrun ?_; clear hrun)
                  go_meet
                  exact ⟨by rw [hinc], by rw [HW.out, hinc]; exact HI.out⟩
              case rest =>
                obtain ⟨rfl, hi⟩ := hcut
                have HI6 := Lib.hid hi
                clear hi HI5 d0
                go_wp2_with fail
                go_ret
                exact ⟨_, rfl, HI6.out.row, HI6.out.below⟩
end Go.Proofs.Ytnkgkimlmceciaa
