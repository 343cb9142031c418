/- The reference's Between. -/
import Derived.Test.YtpaphfofjfjdlaaGreatQZBtw
import Derived.Test.YtpaphfofjfjdlaaGreatQZRefOne
namespace Go.Proofs.YtpaphfofjfjdlaaGreat
open Go.RowKit Go.Shelf Sk
attribute [local go_sem] Oper.semAt_some

set_option maxRecDepth 100000 in
set_option maxHeartbeats 2000000 in
theorem ref_between {w : World} {r : Nat} {E : List En} {le lm : Int} {isL : Bool} (h : RefC w r E le lm isL) (hs : SrtE E) (hE : E.length ≤ 100000) (f1 f3 t1 t3 : Int) (f2 t2 : Bool) : Calls Tryz.prog 28 #[.pointer (some ⟨r, 0, none⟩), .agg #[.int .i64 f1, .bool f2, .int .i64 f3], .agg #[.int .i64 t1, .bool t2, .int .i64 t3]] w
    fun e w' => e = .returned (.tuple #[.int .i64 (kF E f1 f2 f3), .int .i64 (max (kF E f1 f2 f3) (kT E t1 t2 t3) : Nat)]) ∧ Below w.heap.size w w' := by
  have hF := fun k (hk : k < E.length) => kF_at hs f1 f2 f3 k E[k] (List.getElem?_eq_getElem hk)
  have hT := fun k (hk : k < E.length) => kT_at hs t1 t2 t3 k E[k] (List.getElem?_eq_getElem hk)
  have hA := kF_le E f1 f2 f3
  have hB := kT_le E t1 t2 t3
  generalize kF E f1 f2 f3 = A at *
  generalize kT E t1 t2 t3 = B at *
  have HL := fun n W => Lib.hid (Bd.refIn_any n f1 0 f2 false f3 1 W)
  simp only [to_top, Bool.and_true] at HL
  have HM := fun n W => Lib.hid (Bd.refIn_any n f1 t1 f2 t2 f3 t3 W)
  have hb0 : Below w.heap.size w ((w.alloc (.cells #[.int .i64 f1, .bool f2, .int .i64 f3] 51)).alloc (.cells #[.int .i64 t1, .bool t2, .int .i64 t3] 51)) := ((Below.refl w.heap.size w).alloc (Nat.le_refl _) _).alloc (by simp) _
  have k0 := (Blk.new w 51 #[.int .i64 f1, .bool f2, .int .i64 f3]).alloc (.cells #[.int .i64 t1, .bool t2, .int .i64 t3] 51)
  have k1 := Blk.new (w.alloc (.cells #[.int .i64 f1, .bool f2, .int .i64 f3] 51)) 51 #[.int .i64 t1, .bool t2, .int .i64 t3]
  simp only [World.size_alloc] at k1
  obtain ⟨a, c, kr, hc, hr⟩ := (h.later hb0).ex
  clear h
  go_enter Tryz.func28, Tryz.ntmps28
  go_wp2_with fail
  generalize (w.alloc (.cells #[.int .i64 f1, .bool f2, .int .i64 f3] 51)).alloc (.cells #[.int .i64 t1, .bool t2, .int .i64 t3] 51) = w1 at *
  have KR := Lib.hid kr
  have HR := Lib.hid hr
  have K0 := Lib.hid k0
  have K1 := Lib.hid k1
  have HFF := Lib.hid hF
  have HTT := Lib.hid hT
  have HB0 := Lib.hid hb0
  clear kr hr k0 k1 hF hT hb0 hs
  go_loopw [8] (fun i wr => ∃ (k : Nat), i = .int .i64 k ∧ k ≤ A ∧ Below w1.heap.size w1 wr) (fun i _ => E.length - (intOf i).toNat)
  case atStart => exact ⟨0, rfl, by omega, Below.refl _ _⟩
  case round =>
    obtain ⟨k, rfl, hk, hb⟩ := hrel
    obtain ⟨⟨e0, _⟩, _⟩ := facts4 (KR.out.later hb)
    obtain ⟨c0, c1, c2, _⟩ := facts3 (K0.out.later hb)
    have q0 := fun x : Bd.Ext wr => x.cell e0
    have d0 := fun x : Bd.Ext wr => x.cell c0
    have d1 := fun x : Bd.Ext wr => x.cell c1
    have d2 := fun x : Bd.Ext wr => x.cell c2
    have hne := Bd.Ext.one wr
    clear e0 c0 c1 c2
    by_cases hkA : k < A
    · have hlt : k < E.length := by omega
      obtain ⟨b, off, c', g1, g2, g3⟩ := row_cells (HR.out.later hb) (List.getElem?_eq_getElem hlt)
      injection g1 with g1 _ g4
      subst g1
      subst g4
      have hx := HFF.out k hlt
      have HL1 := fun W => HL E[k].2 W
      generalize E[k] = xx at *
      have q1 := fun x : Bd.Ext wr => x.cell g3
      have hd : decide ((k : Int) < E.length) = true := decide_eq_true (by omega)
      have HB := Lib.hid hb
      rw [decide_eq_true hkA] at hx
      have hx2 : Bd.fromR xx.2 f1 f2 f3 = false := by cases hq : Bd.fromR xx.2 f1 f2 f3 <;> simp_all
      rw [hx2] at HL1
      clear g2 g3 hb hx hx2
      go_wp2_with fail
      refine Bd.region_ext (w1 := wr) (by kernel_rfl) (by kernel_rfl) (Below.refl _ _) ?_
      iterate 21 first
        | go_big_quiet_step ((first | (go_at_call 45; exact Bd.Ext.call _ (HL1 _).out)))
      refine wpQuiet_nil ?_
      rintro _ ⟨x, rfl⟩
      have HBx := Lib.hid (HB.out.trans (x.ok.mono HB.out.size))
      generalize x.w = wx at *
      clear q0 q1 d0 d1 d2 hne HB HL1
      go_wp2_with fail
      exact ⟨⟨k + 1, by go_num, by omega, HBx.out⟩, by simp [intOf]; omega⟩
    · obtain rfl : k = A := by omega
      by_cases hlt : k < E.length
      case' pos =>
        obtain ⟨b, off, c', g1, g2, g3⟩ := row_cells (HR.out.later hb) (List.getElem?_eq_getElem hlt)
        injection g1 with g1 _ g4
        subst g1
        subst g4
        have hx := HFF.out k hlt
        have HL1 := fun W => HL E[k].2 W
        generalize E[k] = xx at *
        have q1 := fun x : Bd.Ext wr => x.cell g3
        have hd : decide ((k : Int) < E.length) = true := decide_eq_true (by omega)
        have HB := Lib.hid hb
        rw [decide_eq_false hkA] at hx
        have hx2 : Bd.fromR xx.2 f1 f2 f3 = true := by cases hq : Bd.fromR xx.2 f1 f2 f3 <;> simp_all
        rw [hx2] at HL1
        clear g2 g3 hb hx hx2
        go_wp2_with fail
        refine Bd.region_ext (w1 := wr) (by kernel_rfl) (by kernel_rfl) (Below.refl _ _) ?_
        iterate 21 first
          | go_big_quiet_step ((first | (go_at_call 45; exact Bd.Ext.call _ (HL1 _).out)))
        refine wpQuiet_nil ?_
        rintro _ ⟨x, rfl⟩
        have HBx := Lib.hid (HB.out.trans (x.ok.mono HB.out.size))
        generalize x.w = wx at *
        clear q0 q1 d0 d1 d2 hne HB HL1
      case' neg =>
        have hd : decide ((k : Int) < E.length) = false := decide_eq_false (by omega)
        have HB := Lib.hid hb
        clear hb
        go_wp2_with fail
        refine Bd.region_ext (w1 := wr) (by kernel_rfl) (by kernel_rfl) (Below.refl _ _) ?_
        iterate 21 first
          | go_big_quiet_step (fail)
        refine wpQuiet_nil ?_
        rintro _ ⟨x, rfl⟩
        have HBx := Lib.hid (HB.out.trans (x.ok.mono HB.out.size))
        generalize x.w = wx at *
        clear q0 d0 d1 d2 hne HB
      all_goals (
        clear hd
        go_wp2_with fail
        go_loopw [9] (fun i wr => ∃ (j : Nat), i = .int .i64 j ∧ k ≤ j ∧ j ≤ max k B ∧ Below w1.heap.size w1 wr) (fun i _ => E.length - (intOf i).toNat)
        case atStart => exact ⟨k, rfl, by omega, by omega, HBx.out⟩
        case round =>
          clear HBx
          obtain ⟨j, rfl, hj1, hj2, hb⟩ := hrel
          obtain ⟨⟨e0, _⟩, _⟩ := facts4 (KR.out.later hb)
          obtain ⟨c0, c1, c2, _⟩ := facts3 (K0.out.later hb)
          obtain ⟨f0, f1', f2', _⟩ := facts3 (K1.out.later hb)
          have q0 := fun x : Bd.Ext wr => x.cell e0
          have d0 := fun x : Bd.Ext wr => x.cell c0
          have d1 := fun x : Bd.Ext wr => x.cell c1
          have d2 := fun x : Bd.Ext wr => x.cell c2
          have d3 := fun x : Bd.Ext wr => x.cell f0
          have d4 := fun x : Bd.Ext wr => x.cell f1'
          have d5 := fun x : Bd.Ext wr => x.cell f2'
          have hne := Bd.Ext.one wr
          clear e0 c0 c1 c2 f0 f1' f2'
          by_cases hlt2 : j < E.length
          rotate_left
          · have hmax := Lib.hid (show j = max k B by omega)
            have hd2 : decide ((j : Int) < E.length) = false := decide_eq_false (by omega)
            have HB := Lib.hid hb
            clear hb
            go_wp2_with fail
            refine Bd.region_ext (w1 := wr) (by kernel_rfl) (by kernel_rfl) (Below.refl _ _) ?_
            iterate 20 first
              | go_big_quiet_step (fail)
            refine wpQuiet_nil ?_
            rintro _ ⟨x2, rfl⟩
            have HBy := Lib.hid (HB.out.trans (x2.ok.mono HB.out.size))
            generalize x2.w = wy at *
            clear q0 d0 d1 d2 d3 d4 d5 hne HB
            go_wp2_with fail
            have hm := hmax.out
            subst hm
            go_returns
            exact ⟨rfl, HB0.out.trans (HBy.out.mono HB0.out.size)⟩
          all_goals (try (exfalso; omega))
          all_goals (
            obtain ⟨b2, off2, c2', g1, g2, g3⟩ := row_cells (HR.out.later hb) (List.getElem?_eq_getElem hlt2)
            cases g1
            have hx := HFF.out j hlt2
            have hy := HTT.out j hlt2
            have HL1 := fun W => HM E[j].2 W
            generalize E[j] = xx at *
            have q1 := fun x : Bd.Ext wr => x.cell g3
            have hd2 : decide ((j : Int) < E.length) = true := decide_eq_true (by omega)
            have HB := Lib.hid hb
            rw [decide_eq_false (show ¬ j < k by omega)] at hx
            have hx2 : Bd.fromR xx.2 f1 f2 f3 = true := by cases hq : Bd.fromR xx.2 f1 f2 f3 <;> simp_all
            rw [hx2, hy, Bool.true_and] at HL1
            clear g2 g3 hb hx hx2 hy
            by_cases hjB : j < B
            · rw [decide_eq_true hjB] at HL1
              go_wp2_with fail
              refine Bd.region_ext (w1 := wr) (by kernel_rfl) (by kernel_rfl) (Below.refl _ _) ?_
              iterate 20 first
                | go_big_quiet_step ((first | (go_at_call 45; exact Bd.Ext.call _ (HL1 _).out)))
              refine wpQuiet_nil ?_
              rintro _ ⟨x2, rfl⟩
              have HBy := Lib.hid (HB.out.trans (x2.ok.mono HB.out.size))
              generalize x2.w = wy at *
              clear q0 q1 d0 d1 d2 d3 d4 d5 hne HB HL1
              go_wp2_with fail
              exact ⟨⟨j + 1, by go_num, by omega, by omega, HBy.out⟩, by simp [intOf]; omega⟩
            · rw [decide_eq_false hjB] at HL1
              have hmax := Lib.hid (show j = max k B by omega)
              go_wp2_with fail
              refine Bd.region_ext (w1 := wr) (by kernel_rfl) (by kernel_rfl) (Below.refl _ _) ?_
              iterate 20 first
                | go_big_quiet_step ((first | (go_at_call 45; exact Bd.Ext.call _ (HL1 _).out)))
              refine wpQuiet_nil ?_
              rintro _ ⟨x2, rfl⟩
              have HBy := Lib.hid (HB.out.trans (x2.ok.mono HB.out.size))
              generalize x2.w = wy at *
              clear q0 q1 d0 d1 d2 d3 d4 d5 hne HB HL1
              go_wp2_with fail
              have hm := hmax.out
              subst hm
              go_returns
              exact ⟨rfl, HB0.out.trans (HBy.out.mono HB0.out.size)⟩))
end Go.Proofs.YtpaphfofjfjdlaaGreat
