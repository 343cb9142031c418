/- did: an act, on both. -/
import Derived.Test.YtpaphfofjfjdlaaGreatQZPairR
import Derived.Test.YtpaphfofjfjdlaaGreatQZG
import Derived.Test.YtpaphfofjfjdlaaGreatQZF
import Derived.Test.YtpaphfofjfjdlaaGreatQZWays
namespace Go.Proofs.YtpaphfofjfjdlaaGreat
open Go.RowKit Go.Shelf Sk
attribute [local go_sem] Oper.semAt_some

set_option maxRecDepth 100000 in
set_option maxHeartbeats 4000000 in
theorem zdid_3 {w0 w : World} {s r c : Nat} {le lm : Int} {isL : Bool} {E : List En} (h : MidR w0 w s r c le lm isL E isL E) (hfit : FitE isL le lm E) (hs : SrtE E) (hd : Dist E) (hz : ∀ x ∈ E, x.1.size ≤ 64) (xd : Int) (xm : ByteArray) (xs xl xf xt : Int) (hm : xm.size ≤ 9223372036854775807) (h4 : E.length < 400) (hc : c + 1 ≤ 10000) (hsc : Pk.scoreOk xs) (hK : (IntKind.u64.wrap xd).tmod 8 = 3) :
    Calls Tryz.prog 13 #[.pointer (some ⟨s, 0, none⟩), .pointer (some ⟨r, 0, none⟩), .agg #[.int .i64 xd, .string xm, .int .i64 xs, .int .i64 xl, .int .i64 xf, .int .i64 xt]] w fun e w' => e = .returned (.bool true) ∧ MidR w0 w' s r (c + 1) le lm (addL le lm isL E (nameB xm) xl) (addS E (nameB xm) xs xl) (addL le lm isL E (nameB xm) xl) (addS E (nameB xm) xs xl) ∧ Keep32 w w' := by
  have hns := name_size xm
  have hb1 := (alloc_below w (.cells #[.int .i64 xd, .string xm, .int .i64 xs, .int .i64 xl, .int .i64 xf, .int .i64 xt] 32)).drew
  have h1 := h.later hb1
  have HD := fun W => Lib.hid (name_any xm hm W)
  have kX := (Blk.new w 32 #[.int .i64 xd, .string xm, .int .i64 xs, .int .i64 xl, .int .i64 xf, .int .i64 xt])
  have kXd := kX.drew
  obtain ⟨c0, c1, c2, c3, c4, c5⟩ := facts6 kX
  have S0 : ((w.alloc (.cells #[.int .i64 xd, .string xm, .int .i64 xs, .int .i64 xl, .int .i64 xf, .int .i64 xt] 32)).drew).cell? ⟨w.heap.size, 1, none⟩ = some (.string xm) ∧ ((w.alloc (.cells #[.int .i64 xd, .string xm, .int .i64 xs, .int .i64 xl, .int .i64 xf, .int .i64 xt] 32)).drew).cell? ⟨w.heap.size, 2, none⟩ = some (.int .i64 xs) ∧ ((w.alloc (.cells #[.int .i64 xd, .string xm, .int .i64 xs, .int .i64 xl, .int .i64 xf, .int .i64 xt] 32)).drew).cell? ⟨w.heap.size, 3, none⟩ = some (.int .i64 xl) := ⟨kXd.cell 1, kXd.cell 2, kXd.cell 3⟩
  have HX := Lib.hid kXd
  have HADD := Lib.hid (mid_add h1 h4 hc (nameB xm) xs xl hsc)
  have HRAD := fun W (g : MidR w0 W s r (c + 1) le lm (addL le lm isL E (nameB xm) xl) (addS E (nameB xm) xs xl) isL E) => Lib.hid (mid_radd g hfit hs hd hz h4 (nameB xm) (by omega) xs xl)
  generalize addL le lm isL E (nameB xm) xl = L2 at *
  generalize addS E (nameB xm) xs xl = E2 at *
  generalize addA E (nameB xm) xl = bA at *
  generalize addN (nameB xm) xl = nA at *
  generalize nameB xm = nm at *
  clear h h1 hfit hs hd hz hb1 kX kXd hm hns
  go_enter Tryz.func13, Tryz.ntmps13
  go_wp2_with fail
  clear c0 c1 c2 c3 c4 c5
  go_region_held (fun W => W.cell? ⟨w.heap.size, 1, none⟩ = some (.string xm) ∧ W.cell? ⟨w.heap.size, 2, none⟩ = some (.int .i64 xs) ∧ W.cell? ⟨w.heap.size, 3, none⟩ = some (.int .i64 xl)) (first | exact S0 | exact S1 | assumption)
    (first
      | (go_at_call 23; refine (HD _).out.mono ?_; rintro e wn ⟨rfl, rfl⟩)
      | (go_at_call 31; refine HADD.out.mono ?_; rintro e w4 ⟨rfl, h4', hk4⟩
         have kX4 := hk4 _ _ HX.out
         have S1 : w4.cell? ⟨w.heap.size, 1, none⟩ = some (.string xm) ∧ w4.cell? ⟨w.heap.size, 2, none⟩ = some (.int .i64 xs) ∧ w4.cell? ⟨w.heap.size, 3, none⟩ = some (.int .i64 xl) := ⟨kX4.cell 1, kX4.cell 2, kX4.cell 3⟩
         have S2 : w4.drew.cell? ⟨w.heap.size, 1, none⟩ = some (.string xm) ∧ w4.drew.cell? ⟨w.heap.size, 2, none⟩ = some (.int .i64 xs) ∧ w4.drew.cell? ⟨w.heap.size, 3, none⟩ = some (.int .i64 xl) := ⟨kX4.cell 1, kX4.cell 2, kX4.cell 3⟩
         have HX4 := Lib.hid kX4.drew
         have HR4 := HRAD w4.drew (h4'.later (Below.refl _ _).drew)
         have HK4 := Lib.hid (show Keep32 w w4.drew from fun j cc hj => hk4 j cc (show Blk ((w.alloc (.cells #[.int .i64 xd, .string xm, .int .i64 xs, .int .i64 xl, .int .i64 xf, .int .i64 xt] 32)).drew) j 32 cc from hj.alloc _))
         clear HADD HRAD h4' hk4 kX4))
  clear S0 S1
  go_wp2_with fail
  go_region_held (fun W => W.cell? ⟨w.heap.size, 1, none⟩ = some (.string xm) ∧ W.cell? ⟨w.heap.size, 2, none⟩ = some (.int .i64 xs) ∧ W.cell? ⟨w.heap.size, 3, none⟩ = some (.int .i64 xl)) (first | exact S2 | exact S3 | assumption)
    (first
      | (go_at_call 23; refine (HD _).out.mono ?_; rintro e wn ⟨rfl, rfl⟩)
      | (go_at_call 36; refine HR4.out.mono ?_; rintro e w5 ⟨rfl, h5', hk5⟩
         have kX5 := hk5 _ _ HX4.out
         have S3 : w5.cell? ⟨w.heap.size, 1, none⟩ = some (.string xm) ∧ w5.cell? ⟨w.heap.size, 2, none⟩ = some (.int .i64 xs) ∧ w5.cell? ⟨w.heap.size, 3, none⟩ = some (.int .i64 xl) := ⟨kX5.cell 1, kX5.cell 2, kX5.cell 3⟩
         have H5 := Lib.hid h5'
         have HK5 := Lib.hid (show Keep32 w w5 from fun j cc hj => hk5 j cc (HK4.out j cc hj))
         clear HR4 h5' hk5 kX5))
  clear S2 S3
  go_wp2_with fail
  go_returns
  exact ⟨rfl, H5.out, HK5.out⟩
set_option maxRecDepth 100000 in
set_option maxHeartbeats 4000000 in
theorem zdid_4 {w0 w : World} {s r c : Nat} {le lm : Int} {isL : Bool} {E : List En} (h : MidR w0 w s r c le lm isL E isL E) (hfit : FitE isL le lm E) (hs : SrtE E) (hd : Dist E) (hz : ∀ x ∈ E, x.1.size ≤ 64) (xd : Int) (xm : ByteArray) (xs xl xf xt : Int) (hm : xm.size ≤ 9223372036854775807) (h4 : E.length < 400) (hc : c + 1 ≤ 10000) (hsc : Pk.scoreOk xs) (hK : (IntKind.u64.wrap xd).tmod 8 = 4) :
    Calls Tryz.prog 13 #[.pointer (some ⟨s, 0, none⟩), .pointer (some ⟨r, 0, none⟩), .agg #[.int .i64 xd, .string xm, .int .i64 xs, .int .i64 xl, .int .i64 xf, .int .i64 xt]] w fun e w' => e = .returned (.bool true) ∧ MidR w0 w' s r (c + 1) le lm (addL le lm isL E (nameB xm) xl) (addS E (nameB xm) xs xl) (addL le lm isL E (nameB xm) xl) (addS E (nameB xm) xs xl) ∧ Keep32 w w' := by
  have hns := name_size xm
  have hb1 := (alloc_below w (.cells #[.int .i64 xd, .string xm, .int .i64 xs, .int .i64 xl, .int .i64 xf, .int .i64 xt] 32)).drew
  have h1 := h.later hb1
  have HD := fun W => Lib.hid (name_any xm hm W)
  have kX := (Blk.new w 32 #[.int .i64 xd, .string xm, .int .i64 xs, .int .i64 xl, .int .i64 xf, .int .i64 xt])
  have kXd := kX.drew
  obtain ⟨c0, c1, c2, c3, c4, c5⟩ := facts6 kX
  have S0 : ((w.alloc (.cells #[.int .i64 xd, .string xm, .int .i64 xs, .int .i64 xl, .int .i64 xf, .int .i64 xt] 32)).drew).cell? ⟨w.heap.size, 1, none⟩ = some (.string xm) ∧ ((w.alloc (.cells #[.int .i64 xd, .string xm, .int .i64 xs, .int .i64 xl, .int .i64 xf, .int .i64 xt] 32)).drew).cell? ⟨w.heap.size, 2, none⟩ = some (.int .i64 xs) ∧ ((w.alloc (.cells #[.int .i64 xd, .string xm, .int .i64 xs, .int .i64 xl, .int .i64 xf, .int .i64 xt] 32)).drew).cell? ⟨w.heap.size, 3, none⟩ = some (.int .i64 xl) := ⟨kXd.cell 1, kXd.cell 2, kXd.cell 3⟩
  have HX := Lib.hid kXd
  have HADD := Lib.hid (mid_add h1 h4 hc (nameB xm) xs xl hsc)
  have HRAD := fun W (g : MidR w0 W s r (c + 1) le lm (addL le lm isL E (nameB xm) xl) (addS E (nameB xm) xs xl) isL E) => Lib.hid (mid_radd g hfit hs hd hz h4 (nameB xm) (by omega) xs xl)
  generalize addL le lm isL E (nameB xm) xl = L2 at *
  generalize addS E (nameB xm) xs xl = E2 at *
  generalize addA E (nameB xm) xl = bA at *
  generalize addN (nameB xm) xl = nA at *
  generalize nameB xm = nm at *
  clear h h1 hfit hs hd hz hb1 kX kXd hm hns
  go_enter Tryz.func13, Tryz.ntmps13
  go_wp2_with fail
  clear c0 c1 c2 c3 c4 c5
  go_region_held (fun W => W.cell? ⟨w.heap.size, 1, none⟩ = some (.string xm) ∧ W.cell? ⟨w.heap.size, 2, none⟩ = some (.int .i64 xs) ∧ W.cell? ⟨w.heap.size, 3, none⟩ = some (.int .i64 xl)) (first | exact S0 | exact S1 | assumption)
    (first
      | (go_at_call 23; refine (HD _).out.mono ?_; rintro e wn ⟨rfl, rfl⟩)
      | (go_at_call 31; refine HADD.out.mono ?_; rintro e w4 ⟨rfl, h4', hk4⟩
         have kX4 := hk4 _ _ HX.out
         have S1 : w4.cell? ⟨w.heap.size, 1, none⟩ = some (.string xm) ∧ w4.cell? ⟨w.heap.size, 2, none⟩ = some (.int .i64 xs) ∧ w4.cell? ⟨w.heap.size, 3, none⟩ = some (.int .i64 xl) := ⟨kX4.cell 1, kX4.cell 2, kX4.cell 3⟩
         have S2 : w4.drew.cell? ⟨w.heap.size, 1, none⟩ = some (.string xm) ∧ w4.drew.cell? ⟨w.heap.size, 2, none⟩ = some (.int .i64 xs) ∧ w4.drew.cell? ⟨w.heap.size, 3, none⟩ = some (.int .i64 xl) := ⟨kX4.cell 1, kX4.cell 2, kX4.cell 3⟩
         have HX4 := Lib.hid kX4.drew
         have HR4 := HRAD w4.drew (h4'.later (Below.refl _ _).drew)
         have HK4 := Lib.hid (show Keep32 w w4.drew from fun j cc hj => hk4 j cc (show Blk ((w.alloc (.cells #[.int .i64 xd, .string xm, .int .i64 xs, .int .i64 xl, .int .i64 xf, .int .i64 xt] 32)).drew) j 32 cc from hj.alloc _))
         clear HADD HRAD h4' hk4 kX4))
  clear S0 S1
  go_wp2_with fail
  go_region_held (fun W => W.cell? ⟨w.heap.size, 1, none⟩ = some (.string xm) ∧ W.cell? ⟨w.heap.size, 2, none⟩ = some (.int .i64 xs) ∧ W.cell? ⟨w.heap.size, 3, none⟩ = some (.int .i64 xl)) (first | exact S2 | exact S3 | assumption)
    (first
      | (go_at_call 23; refine (HD _).out.mono ?_; rintro e wn ⟨rfl, rfl⟩)
      | (go_at_call 36; refine HR4.out.mono ?_; rintro e w5 ⟨rfl, h5', hk5⟩
         have kX5 := hk5 _ _ HX4.out
         have S3 : w5.cell? ⟨w.heap.size, 1, none⟩ = some (.string xm) ∧ w5.cell? ⟨w.heap.size, 2, none⟩ = some (.int .i64 xs) ∧ w5.cell? ⟨w.heap.size, 3, none⟩ = some (.int .i64 xl) := ⟨kX5.cell 1, kX5.cell 2, kX5.cell 3⟩
         have H5 := Lib.hid h5'
         have HK5 := Lib.hid (show Keep32 w w5 from fun j cc hj => hk5 j cc (HK4.out j cc hj))
         clear HR4 h5' hk5 kX5))
  clear S2 S3
  go_wp2_with fail
  go_returns
  exact ⟨rfl, H5.out, HK5.out⟩
end Go.Proofs.YtpaphfofjfjdlaaGreat
