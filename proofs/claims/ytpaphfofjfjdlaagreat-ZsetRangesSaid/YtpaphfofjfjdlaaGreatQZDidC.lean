/- did: an act, on both. -/
import Derived.Test.YtpaphfofjfjdlaaGreatQZPairR
import Derived.Test.YtpaphfofjfjdlaaGreatQZG
import Derived.Test.YtpaphfofjfjdlaaGreatQZF
import Derived.Test.YtpaphfofjfjdlaaGreatQZWays
namespace Go.Proofs.YtpaphfofjfjdlaaGreat
open Go.RowKit Go.Shelf Sk
attribute [local go_sem] Oper.semAt_some

set_option maxRecDepth 100000 in
set_option maxHeartbeats 4000000 in
theorem zdid_5 {w0 w : World} {s r c : Nat} {le lm : Int} {isL : Bool} {E : List En} (h : MidR w0 w s r c le lm isL E isL E) (_ : FitE isL le lm E) (_ : SrtE E) (hd : Dist E) (_ : ∀ x ∈ E, x.1.size ≤ 64) (xd : Int) (xm : ByteArray) (xs xl xf xt : Int) (hm : xm.size ≤ 9223372036854775807) (h4 : E.length < 400) (hK : (IntKind.u64.wrap xd).tmod 8 = 5) :
    Calls Tryz.prog 13 #[.pointer (some ⟨s, 0, none⟩), .pointer (some ⟨r, 0, none⟩), .agg #[.int .i64 xd, .string xm, .int .i64 xs, .int .i64 xl, .int .i64 xf, .int .i64 xt]] w fun e w' => e = .returned (.bool true) ∧ MidR w0 w' s r (c) le lm (isL) (rmE E (nameB xm)) (isL) (rmE E (nameB xm)) ∧ Keep32 w w' := by
  have hns := name_size xm
  have hb1 := (alloc_below w (.cells #[.int .i64 xd, .string xm, .int .i64 xs, .int .i64 xl, .int .i64 xf, .int .i64 xt] 32)).drew
  have h1 := h.later hb1
  have HD := fun W => Lib.hid (name_any xm hm W)
  have kX := (Blk.new w 32 #[.int .i64 xd, .string xm, .int .i64 xs, .int .i64 xl, .int .i64 xf, .int .i64 xt])
  have kXd := kX.drew
  obtain ⟨c0, c1, c2, c3, c4, c5⟩ := facts6 kX
  have S0 : ((w.alloc (.cells #[.int .i64 xd, .string xm, .int .i64 xs, .int .i64 xl, .int .i64 xf, .int .i64 xt] 32)).drew).cell? ⟨w.heap.size, 1, none⟩ = some (.string xm) := kXd.cell 1
  have HX := Lib.hid kXd
  have HADD := Lib.hid (mid_remove h1 (nameB xm) (by omega))
  have HRAD := fun W (g : MidR w0 W s r c le lm isL (rmE E (nameB xm)) isL E) => Lib.hid (mid_rremove g hd (by omega) (nameB xm))
  skip
  generalize rmE E (nameB xm) = E2 at *
  generalize hasE E (nameB xm) = bA at *
  generalize nameB xm = nm at *
  clear h h1 hd hb1 kX kXd hm hns
  go_enter Tryz.func13, Tryz.ntmps13
  go_wp2_with fail
  clear c0 c1 c2 c3 c4 c5
  go_region_held (fun W => W.cell? ⟨w.heap.size, 1, none⟩ = some (.string xm)) (first | exact S0 | exact S1 | exact S2 | assumption)
    (first
      | (go_at_call 23; refine (HD _).out.mono ?_; rintro e wn ⟨rfl, rfl⟩)
      | (go_at_call 32; refine HADD.out.mono ?_; rintro e w4 ⟨rfl, h4', hk4⟩
         have kX4 := hk4 _ _ HX.out
         have S1 : w4.cell? ⟨w.heap.size, 1, none⟩ = some (.string xm) := kX4.cell 1
         have HX4 := Lib.hid kX4
         have HR4 := HRAD w4 h4'
         have HK4 := Lib.hid (show Keep32 w w4 from fun j cc hj => hk4 j cc (show Blk ((w.alloc (.cells #[.int .i64 xd, .string xm, .int .i64 xs, .int .i64 xl, .int .i64 xf, .int .i64 xt] 32)).drew) j 32 cc from hj.alloc _))
         clear HADD HRAD h4' hk4 kX4)
      | (go_at_call 37; refine HR4.out.mono ?_; rintro e w5 ⟨rfl, h5', hk5⟩
         have kX5 := hk5 _ _ HX4.out
         have S2 : w5.cell? ⟨w.heap.size, 1, none⟩ = some (.string xm) := kX5.cell 1
         have H5 := Lib.hid h5'
         have HK5 := Lib.hid (show Keep32 w w5 from fun j cc hj => hk5 j cc (HK4.out j cc hj))
         clear HR4 h5' hk5 kX5))
  go_wp2_with fail
  go_returns
  exact ⟨rfl, H5.out, HK5.out⟩
set_option maxRecDepth 100000 in
set_option maxHeartbeats 4000000 in
theorem zdid_6 {w0 w : World} {s r c : Nat} {le lm : Int} {isL : Bool} {E : List En} (h : MidR w0 w s r c le lm isL E isL E) (_ : FitE isL le lm E) (_ : SrtE E) (hd : Dist E) (_ : ∀ x ∈ E, x.1.size ≤ 64) (xd : Int) (xm : ByteArray) (xs xl xf xt : Int) (hm : xm.size ≤ 9223372036854775807) (h4 : E.length < 400) (hK : (IntKind.u64.wrap xd).tmod 8 = 6) :
    Calls Tryz.prog 13 #[.pointer (some ⟨s, 0, none⟩), .pointer (some ⟨r, 0, none⟩), .agg #[.int .i64 xd, .string xm, .int .i64 xs, .int .i64 xl, .int .i64 xf, .int .i64 xt]] w fun e w' => e = .returned (.bool true) ∧ MidR w0 w' s r (c) le lm (isL) (rmE E (nameB xm)) (isL) (rmE E (nameB xm)) ∧ Keep32 w w' := by
  have hns := name_size xm
  have hb1 := (alloc_below w (.cells #[.int .i64 xd, .string xm, .int .i64 xs, .int .i64 xl, .int .i64 xf, .int .i64 xt] 32)).drew
  have h1 := h.later hb1
  have HD := fun W => Lib.hid (name_any xm hm W)
  have kX := (Blk.new w 32 #[.int .i64 xd, .string xm, .int .i64 xs, .int .i64 xl, .int .i64 xf, .int .i64 xt])
  have kXd := kX.drew
  obtain ⟨c0, c1, c2, c3, c4, c5⟩ := facts6 kX
  have S0 : ((w.alloc (.cells #[.int .i64 xd, .string xm, .int .i64 xs, .int .i64 xl, .int .i64 xf, .int .i64 xt] 32)).drew).cell? ⟨w.heap.size, 1, none⟩ = some (.string xm) := kXd.cell 1
  have HX := Lib.hid kXd
  have HADD := Lib.hid (mid_remove h1 (nameB xm) (by omega))
  have HRAD := fun W (g : MidR w0 W s r c le lm isL (rmE E (nameB xm)) isL E) => Lib.hid (mid_rremove g hd (by omega) (nameB xm))
  skip
  generalize rmE E (nameB xm) = E2 at *
  generalize hasE E (nameB xm) = bA at *
  generalize nameB xm = nm at *
  clear h h1 hd hb1 kX kXd hm hns
  go_enter Tryz.func13, Tryz.ntmps13
  go_wp2_with fail
  clear c0 c1 c2 c3 c4 c5
  go_region_held (fun W => W.cell? ⟨w.heap.size, 1, none⟩ = some (.string xm)) (first | exact S0 | exact S1 | exact S2 | assumption)
    (first
      | (go_at_call 23; refine (HD _).out.mono ?_; rintro e wn ⟨rfl, rfl⟩)
      | (go_at_call 32; refine HADD.out.mono ?_; rintro e w4 ⟨rfl, h4', hk4⟩
         have kX4 := hk4 _ _ HX.out
         have S1 : w4.cell? ⟨w.heap.size, 1, none⟩ = some (.string xm) := kX4.cell 1
         have HX4 := Lib.hid kX4
         have HR4 := HRAD w4 h4'
         have HK4 := Lib.hid (show Keep32 w w4 from fun j cc hj => hk4 j cc (show Blk ((w.alloc (.cells #[.int .i64 xd, .string xm, .int .i64 xs, .int .i64 xl, .int .i64 xf, .int .i64 xt] 32)).drew) j 32 cc from hj.alloc _))
         clear HADD HRAD h4' hk4 kX4)
      | (go_at_call 37; refine HR4.out.mono ?_; rintro e w5 ⟨rfl, h5', hk5⟩
         have kX5 := hk5 _ _ HX4.out
         have S2 : w5.cell? ⟨w.heap.size, 1, none⟩ = some (.string xm) := kX5.cell 1
         have H5 := Lib.hid h5'
         have HK5 := Lib.hid (show Keep32 w w5 from fun j cc hj => hk5 j cc (HK4.out j cc hj))
         clear HR4 h5' hk5 kX5))
  go_wp2_with fail
  go_returns
  exact ⟨rfl, H5.out, HK5.out⟩
set_option maxRecDepth 100000 in
set_option maxHeartbeats 4000000 in
theorem zdid_7 {w0 w : World} {s r c : Nat} {le lm : Int} {isL : Bool} {E : List En} (h : MidR w0 w s r c le lm isL E isL E) (_ : FitE isL le lm E) (_ : SrtE E) (_ : Dist E) (_ : ∀ x ∈ E, x.1.size ≤ 64) (xd : Int) (xm : ByteArray) (xs xl xf xt : Int) (_ : xm.size ≤ 9223372036854775807) (h4 : E.length < 400) (hK : (IntKind.u64.wrap xd).tmod 8 = 7) :
    Calls Tryz.prog 13 #[.pointer (some ⟨s, 0, none⟩), .pointer (some ⟨r, 0, none⟩), .agg #[.int .i64 xd, .string xm, .int .i64 xs, .int .i64 xl, .int .i64 xf, .int .i64 xt]] w fun e w' => e = .returned (.bool true) ∧ MidR w0 w' s r (c) le lm (isL) (cutE E xf xt) (isL) (cutE E xf xt) ∧ Keep32 w w' := by
  have hb1 := (alloc_below w (.cells #[.int .i64 xd, .string xm, .int .i64 xs, .int .i64 xl, .int .i64 xf, .int .i64 xt] 32)).drew
  have h1 := h.later hb1
  have kX := (Blk.new w 32 #[.int .i64 xd, .string xm, .int .i64 xs, .int .i64 xl, .int .i64 xf, .int .i64 xt])
  have kXd := kX.drew
  obtain ⟨c0, c1, c2, c3, c4, c5⟩ := facts6 kX
  have S0 : ((w.alloc (.cells #[.int .i64 xd, .string xm, .int .i64 xs, .int .i64 xl, .int .i64 xf, .int .i64 xt] 32)).drew).cell? ⟨w.heap.size, 4, none⟩ = some (.int .i64 xf) ∧ ((w.alloc (.cells #[.int .i64 xd, .string xm, .int .i64 xs, .int .i64 xl, .int .i64 xf, .int .i64 xt] 32)).drew).cell? ⟨w.heap.size, 5, none⟩ = some (.int .i64 xt) := ⟨kXd.cell 4, kXd.cell 5⟩
  have HX := Lib.hid kXd
  have HADD := Lib.hid (mid_cut h1 xf xt)
  have HRAD := fun W (g : MidR w0 W s r c le lm isL (cutE E xf xt) isL E) => Lib.hid (mid_rcut g (by omega) xf xt)
  skip
  generalize cutE E xf xt = E2 at *
  generalize (subE E xf xt).length = nA at *
  generalize nameB xm = nm at *
  clear h h1 hb1 kX kXd
  go_enter Tryz.func13, Tryz.ntmps13
  go_wp2_with fail
  clear c0 c1 c2 c3 c4 c5
  go_region_held (fun W => W.cell? ⟨w.heap.size, 4, none⟩ = some (.int .i64 xf) ∧ W.cell? ⟨w.heap.size, 5, none⟩ = some (.int .i64 xt)) (first | exact S0 | exact S1 | exact S2 | assumption)
    (first
      
      | (go_at_call 33; refine HADD.out.mono ?_; rintro e w4 ⟨rfl, h4', hk4⟩
         have kX4 := hk4 _ _ HX.out
         have S1 : w4.cell? ⟨w.heap.size, 4, none⟩ = some (.int .i64 xf) ∧ w4.cell? ⟨w.heap.size, 5, none⟩ = some (.int .i64 xt) := ⟨kX4.cell 4, kX4.cell 5⟩
         have HX4 := Lib.hid kX4
         have HR4 := HRAD w4 h4'
         have HK4 := Lib.hid (show Keep32 w w4 from fun j cc hj => hk4 j cc (show Blk ((w.alloc (.cells #[.int .i64 xd, .string xm, .int .i64 xs, .int .i64 xl, .int .i64 xf, .int .i64 xt] 32)).drew) j 32 cc from hj.alloc _))
         clear HADD HRAD h4' hk4 kX4)
      | (go_at_call 38; refine HR4.out.mono ?_; rintro e w5 ⟨rfl, h5', hk5⟩
         have kX5 := hk5 _ _ HX4.out
         have S2 : w5.cell? ⟨w.heap.size, 4, none⟩ = some (.int .i64 xf) ∧ w5.cell? ⟨w.heap.size, 5, none⟩ = some (.int .i64 xt) := ⟨kX5.cell 4, kX5.cell 5⟩
         have H5 := Lib.hid h5'
         have HK5 := Lib.hid (show Keep32 w w5 from fun j cc hj => hk5 j cc (HK4.out j cc hj))
         clear HR4 h5' hk5 kX5))
  go_wp2_with fail
  go_returns
  exact ⟨rfl, H5.out, HK5.out⟩
end Go.Proofs.YtpaphfofjfjdlaaGreat
