/- The flags of words: the reference's Read. -/
import Derived.Test.YtnkgkimlmceciaaUpper
import Derived.Test.YtnkgkimlmceciaaFold
namespace Go.Proofs.Ytnkgkimlmceciaa
open Go.RowKit Go.Shelf
attribute [local go_sem] Oper.semAt_some

structure RInv (w wr : World) (b : Nat) (cur : Array Value) (f : Fl) : Prop where
  below : Below w.heap.size w wr
  res : Blk wr w.heap.size 23 Fl.zero.c
  now : Blk wr (w.heap.size + 1) 23 f.c
  row : Blk wr b 9 cur

theorem RInv.later {w wr wr' : World} {b : Nat} {cur : Array Value} {f : Fl} (h : RInv w wr b cur f) (hb : Below wr.heap.size wr wr') : RInv w wr' b cur f :=
  ⟨h.below.trans (hb.mono h.below.size), h.res.later hb, h.now.later hb, h.row.later hb⟩
/-- Is a text none of the words? -/
def noneB (u : ByteArray) : Bool := !(u.toList == [78, 88] || u.toList == [88, 88] || u.toList == [71, 84] || u.toList == [76, 84] || u.toList == [67, 72] || u.toList == [73, 78, 67, 82])

def orAll (f : Fl) (u : ByteArray) : Fl := ⟨f.nx || u.toList == [78, 88], f.xx || u.toList == [88, 88], f.gt || u.toList == [71, 84], f.lt || u.toList == [76, 84], f.ch || u.toList == [67, 72], f.inc || u.toList == [73, 78, 67, 82]⟩
theorem kind_cases (s : ByteArray) : (noneB (upT s) = true ∧ kindOf s = none) ∨ (noneB (upT s) = false ∧ ∃ kk, kindOf s = some kk ∧ ∀ f, orAll f (upT s) = f.set kk) := by
  have hu : (upT s).toList = upL s := ByteArray.toList_mk _
  cases hk : kindOf s with
  | none =>
    left
    refine ⟨?_, rfl⟩
    unfold kindOf at hk
    rw [List.find?_eq_none] at hk
    have h : ∀ k, k < 6 → (upL s == (kw k).data.toList) = false := fun k hk6 => by
      have := hk k (List.mem_range.2 hk6)
      unfold matchK at this
      simpa using this
    have h0 := h 0 (by omega)
    have h1 := h 1 (by omega)
    have h2 := h 2 (by omega)
    have h3 := h 3 (by omega)
    have h4 := h 4 (by omega)
    have h5 := h 5 (by omega)
    simp only [kw] at h0 h1 h2 h3 h4 h5
    unfold noneB
    rw [hu, h0, h1, h2, h3, h4, h5]
    rfl
  | some kk =>
    right
    have hm : upL s = (kw kk).data.toList := by
      have := List.find?_some hk
      unfold matchK at this
      simpa using this
    have hlt := kindOf_lt hk
    unfold noneB orAll
    rw [hu, hm]
    obtain rfl | rfl | rfl | rfl | rfl | rfl : kk = 0 ∨ kk = 1 ∨ kk = 2 ∨ kk = 3 ∨ kk = 4 ∨ kk = 5 := by omega
    all_goals refine ⟨by decide, _, rfl, fun f => ?_⟩
    all_goals obtain ⟨nx, xx, gt, lt, ch, inc⟩ := f
    all_goals simp [kw, Fl.set]

set_option maxRecDepth 100000 in
set_option maxHeartbeats 4000000 in
theorem refRead_some (l : List ByteArray) (hl : l.length ≤ 1000000000) (hsz : ∀ s ∈ l, s.size ≤ 100000000000000) (b cap : Nat) (cur : Array Value) (w : World) (h0 : Blk w b 9 cur) (hcur : ∀ (j : Nat) (x : ByteArray), l[j]? = some x → cur[j]? = some (Value.string x)) :
    Calls Try.prog 16 #[.slice (some ⟨b, 0, none⟩) l.length cap] w fun e w' => e = .returned (readT l) ∧ Below w.heap.size w w' := by
  have hlt0 := h0.lt
  have H0 := Lib.hid h0
  have HCU := Lib.hid hcur
  clear h0 hcur
  go_enter Try.func16, Try.ntmps16
  go_wp2
  go_loopw [6] (fun i wr => ∃ k : Nat, i = .int .i64 k ∧ k ≤ (kindsOf l).length ∧ RInv w wr b cur (foldF ((kindsOf l).take k))) (fun i _ => l.length + 1 - (intOf i).toNat)
  case atStart =>
    refine ⟨0, rfl, by omega, ⟨((Below.refl _ _).alloc (Nat.le_refl _) _).alloc (by simp) _, (Blk.new w 23 _).alloc _, ?_, (H0.out.alloc _).alloc _⟩⟩
    have h := Blk.new (w.alloc (.cells #[.bool false, .bool false, .bool false, .bool false, .bool false, .bool false] 23)) 23 #[.bool false, .bool false, .bool false, .bool false, .bool false, .bool false]
    rw [World.size_alloc] at h
    exact h
  case round =>
    obtain ⟨k, rfl, hk, hI⟩ := hrel
    have hkl := kinds_le l
    have hkg := kinds_get l k hk
    by_cases hlt : k < l.length
    · have hli : l[k]? = some l[k] := List.getElem?_eq_getElem hlt
      rw [hli] at hkg
      simp only [Option.bind_some] at hkg
      have c0 := (hI.row.cell k).trans (HCU.out k _ hli)
      have hlt2 : (k : Int) < l.length := by omega
      have HU := fun w => Lib.hid (upper_any l[k] (hsz _ (List.getElem_mem hlt)) w)
      generalize l[k] = s at *
      have HKG := Lib.hid hkg
      have HI := Lib.hid hI
      clear hkg hli hI
      have HKC := Lib.hid (kind_cases s)
      have HKC := Lib.hid (kind_cases s)
      have HKC := Lib.hid (kind_cases s)
      have HKC := Lib.hid (kind_cases s)
      generalize upT s = u at *
      go_wp2_with fail
      refine (HU _).out.mono ?_
      rintro e w1 ⟨rfl, hb1⟩
      have HB1 := Lib.hid hb1
      clear hb1
      go_upto_region 5 with (fail)
      go_cut [38] from 17 to 38 (fun v wc => v = .bool (noneB u) ∧ wc = w1)
      case first =>
        go_wp2_with fail
        all_goals go_meet
        all_goals exact ⟨by simp [noneB, *], rfl⟩
      case rest =>
        obtain ⟨rfl, rfl⟩ := hcut
        have hI0 := HI.out.later HB1.out
        obtain ⟨f, hf⟩ : ∃ f, f = foldF ((kindsOf l).take k) := ⟨_, rfl⟩
        rw [← hf] at hI0
        have HF := Lib.hid hf
        clear hf
        have HI0 := Lib.hid hI0
        clear hI0 HI HB1
        rcases HKC.out with ⟨hnb, hkn⟩ | ⟨hnb, kk, hkk, hset⟩
        · rw [hnb]
          have hke : k = (kindsOf l).length := by
            have := HKG.out
            rw [hkn, List.getElem?_eq_none_iff] at this
            omega
          have HKE := Lib.hid hke
          clear hnb hkn hke
          have hfl : f = readF l := by rw [HF.out, HKE.out, List.take_length]; rfl
          have HRT := Lib.hid (show readT l = if f.right then .tuple #[f.v, .int .i64 (kindsOf l).length, .int .i64 0] else .tuple #[Fl.zero.v, .int .i64 0, .int .i64 110] by rw [hfl]; rfl)
          clear hfl
          have HRR := fun w => Lib.hid (refRight_any f w)
          obtain ⟨nx, xx, gt, lt, ch, inc⟩ := f
          unfold Fl.v Fl.c at HRR
          simp only at HRR
          have hn := HI0.out.now
          unfold Fl.c at hn
          simp only at hn
          have a0 := hn.cell 0
          have a1 := hn.cell 1
          have a2 := hn.cell 2
          have a3 := hn.cell 3
          have a4 := hn.cell 4
          have a5 := hn.cell 5
          simp at a0 a1 a2 a3 a4 a5
          clear hn
          cases hrt : Fl.right ⟨nx, xx, gt, lt, ch, inc⟩
          · rw [hrt] at HRR
            have HRT2 := Lib.hid hrt
            clear hrt
            go_wp2_with fail
            refine (HRR _).out.mono ?_
            rintro e W5 ⟨rfl, hb5⟩
            have hI5 := HI0.out.later hb5
            have hr5 := hI5.res
            have hn5 := hI5.now
            unfold Fl.c at hn5
            simp only at hn5
            unfold Fl.c Fl.zero at hr5
            simp only at hr5
            clear a0 a1 a2 a3 a4 a5
            have a0 := hn5.cell 0
            have a1 := hn5.cell 1
            have a2 := hn5.cell 2
            have a3 := hn5.cell 3
            have a4 := hn5.cell 4
            have a5 := hn5.cell 5
            have b0 := hr5.cell 0
            have b1 := hr5.cell 1
            have b2 := hr5.cell 2
            have b3 := hr5.cell 3
            have b4 := hr5.cell 4
            have b5 := hr5.cell 5
            have g0 := hr5.free 0
            have g1 := hr5.free 1
            have g2 := hr5.free 2
            have g3 := hr5.free 3
            have g4 := hr5.free 4
            have g5 := hr5.free 5
            simp at a0 a1 a2 a3 a4 a5 b0 b1 b2 b3 b4 b5
            have HI5 := Lib.hid hI5
            have HR5 := Lib.hid hr5
            clear hI5 hr5 hn5 hb5 HRR
            go_wp2_with fail
            have KF := set6_blk HR5.out (.bool false) (.bool false) (.bool false) (.bool false) (.bool false) (.bool false)
            have r0 := KF.cell 0
            have r1 := KF.cell 1
            have r2 := KF.cell 2
            have r3 := KF.cell 3
            have r4 := KF.cell 4
            have r5 := KF.cell 5
            simp only [set6] at r0 r1 r2 r3 r4 r5
            simp at r0 r1 r2 r3 r4 r5
            have hBF := set6_below HI5.out.below (Nat.le_refl _) (.bool false) (.bool false) (.bool false) (.bool false) (.bool false) (.bool false)
            simp only [set6] at hBF
            refine bodyPost_ret (v := .tuple #[.agg #[.bool false, .bool false, .bool false, .bool false, .bool false, .bool false], .int .i64 0, .int .i64 110]) ?_ rfl ⟨ret_v (by rw [HRT.out, HRT2.out]; rfl), hBF⟩
            simp [results, Try.results16, go_sem, r0, r1, r2, r3, r4, r5]
          · rw [hrt] at HRR
            have HRT2 := Lib.hid hrt
            clear hrt
            go_wp2_with fail
            refine (HRR _).out.mono ?_
            rintro e W5 ⟨rfl, hb5⟩
            have hI5 := HI0.out.later hb5
            have hr5 := hI5.res
            have hn5 := hI5.now
            unfold Fl.c at hn5
            simp only at hn5
            unfold Fl.c Fl.zero at hr5
            simp only at hr5
            clear a0 a1 a2 a3 a4 a5
            have a0 := hn5.cell 0
            have a1 := hn5.cell 1
            have a2 := hn5.cell 2
            have a3 := hn5.cell 3
            have a4 := hn5.cell 4
            have a5 := hn5.cell 5
            have b0 := hr5.cell 0
            have b1 := hr5.cell 1
            have b2 := hr5.cell 2
            have b3 := hr5.cell 3
            have b4 := hr5.cell 4
            have b5 := hr5.cell 5
            have g0 := hr5.free 0
            have g1 := hr5.free 1
            have g2 := hr5.free 2
            have g3 := hr5.free 3
            have g4 := hr5.free 4
            have g5 := hr5.free 5
            simp at a0 a1 a2 a3 a4 a5 b0 b1 b2 b3 b4 b5
            have HI5 := Lib.hid hI5
            have HR5 := Lib.hid hr5
            clear hI5 hr5 hn5 hb5 HRR
            go_wp2_with fail
            have KF := set6_blk HR5.out (.bool nx) (.bool xx) (.bool gt) (.bool lt) (.bool ch) (.bool inc)
            have r0 := KF.cell 0
            have r1 := KF.cell 1
            have r2 := KF.cell 2
            have r3 := KF.cell 3
            have r4 := KF.cell 4
            have r5 := KF.cell 5
            simp only [set6] at r0 r1 r2 r3 r4 r5
            simp at r0 r1 r2 r3 r4 r5
            have hBF := set6_below HI5.out.below (Nat.le_refl _) (.bool nx) (.bool xx) (.bool gt) (.bool lt) (.bool ch) (.bool inc)
            simp only [set6] at hBF
            refine bodyPost_ret (v := .tuple #[.agg #[.bool nx, .bool xx, .bool gt, .bool lt, .bool ch, .bool inc], .int .i64 k, .int .i64 0]) ?_ rfl ⟨ret_v (by rw [HRT.out, HRT2.out, HKE.out]; rfl), hBF⟩
            simp [results, Try.results16, go_sem, r0, r1, r2, r3, r4, r5]
        · rw [hnb]
          have HKK := Lib.hid hkk
          have HSET := Lib.hid hset
          obtain ⟨nx, xx, gt, lt, ch, inc⟩ := f
          clear hnb hkk hset
          go_upto_region 6 with (fail)
          have hn := HI0.out.now
          unfold Fl.c at hn
          simp only at hn
          have d0 := hn.cell 0
          have e0 := hn.free 0
          simp at d0
          clear hn
          go_cut [] from 39 to 45 (fun wc => RInv w wc b cur ⟨nx || u.toList == [78, 88], xx, gt, lt, ch, inc⟩)
          case first =>
            go_wp2_with fail
            all_goals go_meet
            all_goals exact ⟨(HI0.out.below.setCell (p := ⟨w.heap.size + 1, 0, none⟩) (Nat.le_add_right _ _) _), HI0.out.res.setOther 0 _ (by omega), Eq.mpr (congrArg (Blk _ _ _) (by simp [Fl.c, *])) (HI0.out.now.set 0 _), HI0.out.row.setOther 0 _ (by omega)⟩
          case rest =>
            have HI1 := Lib.hid hcut
            clear hcut d0 e0 HI0
            go_upto_region 7 with (fail)
            have hn := HI1.out.now
            unfold Fl.c at hn
            simp only at hn
            have d0 := hn.cell 1
            have e0 := hn.free 1
            simp at d0
            clear hn
            go_cut [] from 46 to 52 (fun wc => RInv w wc b cur ⟨nx || u.toList == [78, 88], xx || u.toList == [88, 88], gt, lt, ch, inc⟩)
            case first =>
              go_wp2_with fail
              all_goals go_meet
              all_goals exact ⟨(HI1.out.below.setCell (p := ⟨w.heap.size + 1, 1, none⟩) (Nat.le_add_right _ _) _), HI1.out.res.setOther 1 _ (by omega), Eq.mpr (congrArg (Blk _ _ _) (by simp [Fl.c, *])) (HI1.out.now.set 1 _), HI1.out.row.setOther 1 _ (by omega)⟩
            case rest =>
              have HI2 := Lib.hid hcut
              clear hcut d0 e0 HI1
              go_upto_region 8 with (fail)
              have hn := HI2.out.now
              unfold Fl.c at hn
              simp only at hn
              have d0 := hn.cell 2
              have e0 := hn.free 2
              simp at d0
              clear hn
              go_cut [] from 53 to 59 (fun wc => RInv w wc b cur ⟨nx || u.toList == [78, 88], xx || u.toList == [88, 88], gt || u.toList == [71, 84], lt, ch, inc⟩)
              case first =>
                go_wp2_with fail
                all_goals go_meet
                all_goals exact ⟨(HI2.out.below.setCell (p := ⟨w.heap.size + 1, 2, none⟩) (Nat.le_add_right _ _) _), HI2.out.res.setOther 2 _ (by omega), Eq.mpr (congrArg (Blk _ _ _) (by simp [Fl.c, *])) (HI2.out.now.set 2 _), HI2.out.row.setOther 2 _ (by omega)⟩
              case rest =>
                have HI3 := Lib.hid hcut
                clear hcut d0 e0 HI2
                go_upto_region 9 with (fail)
                have hn := HI3.out.now
                unfold Fl.c at hn
                simp only at hn
                have d0 := hn.cell 3
                have e0 := hn.free 3
                simp at d0
                clear hn
                go_cut [] from 60 to 66 (fun wc => RInv w wc b cur ⟨nx || u.toList == [78, 88], xx || u.toList == [88, 88], gt || u.toList == [71, 84], lt || u.toList == [76, 84], ch, inc⟩)
                case first =>
                  go_wp2_with fail
                  all_goals go_meet
                  all_goals exact ⟨(HI3.out.below.setCell (p := ⟨w.heap.size + 1, 3, none⟩) (Nat.le_add_right _ _) _), HI3.out.res.setOther 3 _ (by omega), Eq.mpr (congrArg (Blk _ _ _) (by simp [Fl.c, *])) (HI3.out.now.set 3 _), HI3.out.row.setOther 3 _ (by omega)⟩
                case rest =>
                  have HI4 := Lib.hid hcut
                  clear hcut d0 e0 HI3
                  go_upto_region 10 with (fail)
                  have hn := HI4.out.now
                  unfold Fl.c at hn
                  simp only at hn
                  have d0 := hn.cell 4
                  have e0 := hn.free 4
                  simp at d0
                  clear hn
                  go_cut [] from 67 to 73 (fun wc => RInv w wc b cur ⟨nx || u.toList == [78, 88], xx || u.toList == [88, 88], gt || u.toList == [71, 84], lt || u.toList == [76, 84], ch || u.toList == [67, 72], inc⟩)
                  case first =>
                    go_wp2_with fail
                    all_goals go_meet
                    all_goals exact ⟨(HI4.out.below.setCell (p := ⟨w.heap.size + 1, 4, none⟩) (Nat.le_add_right _ _) _), HI4.out.res.setOther 4 _ (by omega), Eq.mpr (congrArg (Blk _ _ _) (by simp [Fl.c, *])) (HI4.out.now.set 4 _), HI4.out.row.setOther 4 _ (by omega)⟩
                  case rest =>
                    have HI5 := Lib.hid hcut
                    clear hcut d0 e0 HI4
                    go_upto_region 11 with (fail)
                    have hn := HI5.out.now
                    unfold Fl.c at hn
                    simp only at hn
                    have d0 := hn.cell 5
                    have e0 := hn.free 5
                    simp at d0
                    clear hn
                    go_cut [] from 74 to 80 (fun wc => RInv w wc b cur ⟨nx || u.toList == [78, 88], xx || u.toList == [88, 88], gt || u.toList == [71, 84], lt || u.toList == [76, 84], ch || u.toList == [67, 72], inc || u.toList == [73, 78, 67, 82]⟩)
                    case first =>
                      go_wp2_with fail
                      all_goals go_meet
                      all_goals exact ⟨(HI5.out.below.setCell (p := ⟨w.heap.size + 1, 5, none⟩) (Nat.le_add_right _ _) _), HI5.out.res.setOther 5 _ (by omega), Eq.mpr (congrArg (Blk _ _ _) (by simp [Fl.c, *])) (HI5.out.now.set 5 _), HI5.out.row.setOther 5 _ (by omega)⟩
                    case rest =>
                      have HI6 := Lib.hid hcut
                      clear hcut d0 e0 HI5
                      have hil : k < (kindsOf l).length := by
                        have := HKG.out
                        rw [HKK.out] at this
                        exact (List.getElem?_eq_some_iff.1 this).1
                      have hst : foldF ((kindsOf l).take (k + 1)) = orAll ⟨nx, xx, gt, lt, ch, inc⟩ u := by
                        rw [HSET.out, HF.out]
                        exact foldF_step _ _ _ (HKG.out.trans HKK.out)
                      have HST := Lib.hid hst
                      clear hst
                      go_wp2_with fail
                      exact ⟨⟨k + 1, by go_num, hil, by rw [HST.out]; exact HI6.out⟩, by simp [intOf]; omega⟩
    · obtain ⟨f, hf⟩ : ∃ f, f = foldF ((kindsOf l).take k) := ⟨_, rfl⟩
      rw [← hf] at hI
      have HF := Lib.hid hf
      have hke : k = (kindsOf l).length := by omega
      have hle : ¬ (k : Int) < l.length := by omega
      have HKE := Lib.hid hke
      have HI0 := Lib.hid hI
      clear hf hke hI
      have hfl : f = readF l := by rw [HF.out, HKE.out, List.take_length]; rfl
      have HRT := Lib.hid (show readT l = if f.right then .tuple #[f.v, .int .i64 (kindsOf l).length, .int .i64 0] else .tuple #[Fl.zero.v, .int .i64 0, .int .i64 110] by rw [hfl]; rfl)
      clear hfl
      have HRR := fun w => Lib.hid (refRight_any f w)
      obtain ⟨nx, xx, gt, lt, ch, inc⟩ := f
      unfold Fl.v Fl.c at HRR
      simp only at HRR
      have hn := HI0.out.now
      unfold Fl.c at hn
      simp only at hn
      have a0 := hn.cell 0
      have a1 := hn.cell 1
      have a2 := hn.cell 2
      have a3 := hn.cell 3
      have a4 := hn.cell 4
      have a5 := hn.cell 5
      simp at a0 a1 a2 a3 a4 a5
      clear hn
      cases hrt : Fl.right ⟨nx, xx, gt, lt, ch, inc⟩
      · rw [hrt] at HRR
        have HRT2 := Lib.hid hrt
        clear hrt
        go_wp2_with fail
        refine (HRR _).out.mono ?_
        rintro e W5 ⟨rfl, hb5⟩
        have hI5 := HI0.out.later hb5
        have hr5 := hI5.res
        have hn5 := hI5.now
        unfold Fl.c at hn5
        simp only at hn5
        unfold Fl.c Fl.zero at hr5
        simp only at hr5
        clear a0 a1 a2 a3 a4 a5
        have a0 := hn5.cell 0
        have a1 := hn5.cell 1
        have a2 := hn5.cell 2
        have a3 := hn5.cell 3
        have a4 := hn5.cell 4
        have a5 := hn5.cell 5
        have b0 := hr5.cell 0
        have b1 := hr5.cell 1
        have b2 := hr5.cell 2
        have b3 := hr5.cell 3
        have b4 := hr5.cell 4
        have b5 := hr5.cell 5
        have g0 := hr5.free 0
        have g1 := hr5.free 1
        have g2 := hr5.free 2
        have g3 := hr5.free 3
        have g4 := hr5.free 4
        have g5 := hr5.free 5
        simp at a0 a1 a2 a3 a4 a5 b0 b1 b2 b3 b4 b5
        have HI5 := Lib.hid hI5
        have HR5 := Lib.hid hr5
        clear hI5 hr5 hn5 hb5 HRR
        go_wp2_with fail
        have KF := set6_blk HR5.out (.bool false) (.bool false) (.bool false) (.bool false) (.bool false) (.bool false)
        have r0 := KF.cell 0
        have r1 := KF.cell 1
        have r2 := KF.cell 2
        have r3 := KF.cell 3
        have r4 := KF.cell 4
        have r5 := KF.cell 5
        simp only [set6] at r0 r1 r2 r3 r4 r5
        simp at r0 r1 r2 r3 r4 r5
        have hBF := set6_below HI5.out.below (Nat.le_refl _) (.bool false) (.bool false) (.bool false) (.bool false) (.bool false) (.bool false)
        simp only [set6] at hBF
        refine bodyPost_ret (v := .tuple #[.agg #[.bool false, .bool false, .bool false, .bool false, .bool false, .bool false], .int .i64 0, .int .i64 110]) ?_ rfl ⟨ret_v (by rw [HRT.out, HRT2.out]; rfl), hBF⟩
        simp [results, Try.results16, go_sem, r0, r1, r2, r3, r4, r5]
      · rw [hrt] at HRR
        have HRT2 := Lib.hid hrt
        clear hrt
        go_wp2_with fail
        refine (HRR _).out.mono ?_
        rintro e W5 ⟨rfl, hb5⟩
        have hI5 := HI0.out.later hb5
        have hr5 := hI5.res
        have hn5 := hI5.now
        unfold Fl.c at hn5
        simp only at hn5
        unfold Fl.c Fl.zero at hr5
        simp only at hr5
        clear a0 a1 a2 a3 a4 a5
        have a0 := hn5.cell 0
        have a1 := hn5.cell 1
        have a2 := hn5.cell 2
        have a3 := hn5.cell 3
        have a4 := hn5.cell 4
        have a5 := hn5.cell 5
        have b0 := hr5.cell 0
        have b1 := hr5.cell 1
        have b2 := hr5.cell 2
        have b3 := hr5.cell 3
        have b4 := hr5.cell 4
        have b5 := hr5.cell 5
        have g0 := hr5.free 0
        have g1 := hr5.free 1
        have g2 := hr5.free 2
        have g3 := hr5.free 3
        have g4 := hr5.free 4
        have g5 := hr5.free 5
        simp at a0 a1 a2 a3 a4 a5 b0 b1 b2 b3 b4 b5
        have HI5 := Lib.hid hI5
        have HR5 := Lib.hid hr5
        clear hI5 hr5 hn5 hb5 HRR
        go_wp2_with fail
        have KF := set6_blk HR5.out (.bool nx) (.bool xx) (.bool gt) (.bool lt) (.bool ch) (.bool inc)
        have r0 := KF.cell 0
        have r1 := KF.cell 1
        have r2 := KF.cell 2
        have r3 := KF.cell 3
        have r4 := KF.cell 4
        have r5 := KF.cell 5
        simp only [set6] at r0 r1 r2 r3 r4 r5
        simp at r0 r1 r2 r3 r4 r5
        have hBF := set6_below HI5.out.below (Nat.le_refl _) (.bool nx) (.bool xx) (.bool gt) (.bool lt) (.bool ch) (.bool inc)
        simp only [set6] at hBF
        refine bodyPost_ret (v := .tuple #[.agg #[.bool nx, .bool xx, .bool gt, .bool lt, .bool ch, .bool inc], .int .i64 k, .int .i64 0]) ?_ rfl ⟨ret_v (by rw [HRT.out, HRT2.out, HKE.out]; rfl), hBF⟩
        simp [results, Try.results16, go_sem, r0, r1, r2, r3, r4, r5]
end Go.Proofs.Ytnkgkimlmceciaa
