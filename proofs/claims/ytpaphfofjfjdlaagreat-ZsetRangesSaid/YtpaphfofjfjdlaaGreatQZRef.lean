/- The reference's set: where a member is, putting in, taking out. -/
import Derived.Test.YtpaphfofjfjdlaaGreatQZTwo
import Derived.Test.YtpaphfofjfjdlaaGreatQPkRefIns
import Derived.Test.YtpaphfofjfjdlaaGreatQSkRefLess
namespace Go.Proofs.YtpaphfofjfjdlaaGreat
open Go.RowKit Go.Shelf Sk
attribute [local go_sem] Oper.semAt_some

theorem row_ents {W : World} {n0 : Nat} {a : Option Addr} {c : Nat} {E : List En} (h : Row W n0 (.slice a E.length c) E) : Pk.Ents W a E := fun i hi => by
  obtain ⟨b, off, c', h1, h2, h3⟩ := row_cells h (List.getElem?_eq_getElem hi)
  injection h1 with h1
  exact ⟨b, off, h1, h2, h3⟩
/-- The reference's set in memory. -/
structure RefAt (W : World) (r : Nat) (E : List En) (le lm : Int) : Prop where
  ex : ∃ a c isL, Blk W r 37 #[.slice a E.length c, .int .i64 le, .int .i64 lm, .bool isL] ∧ E.length ≤ c ∧ Row W 0 (.slice a E.length c) E
theorem RefAt.far {S : Nat → Prop} {W W' : World} {r : Nat} {E : List En} {le lm : Int} (h : RefAt W r E le lm) (hf : Far S W W') (hr : ¬ S r) (h48 : ∀ k cur, Blk W k 48 cur → ¬ S k) : RefAt W' r E le lm := by
  obtain ⟨a, c, isL, h1, h2, h3⟩ := h.ex
  exact ⟨a, c, isL, hf.blk h1 hr, h2, h3.far hf fun k cur _ hk => h48 k cur hk⟩
theorem RefAt.later {W W' : World} {r : Nat} {E : List En} {le lm : Int} (h : RefAt W r E le lm) (hb : Below W.heap.size W W') : RefAt W' r E le lm := h.far (S := fun _ => False) (Far.of_below hb) (fun h => h) (fun _ _ _ h => h)

set_option maxHeartbeats 1000000 in
theorem ref_find {n0 : Nat} (a : Option Addr) (c : Nat) (E : List En) (hE : E.length ≤ 100000) (m : ByteArray) (w : World) (hr : Row w n0 (.slice a E.length c) E) :
    Calls Tryz.prog 22 #[.slice a E.length c, .string m] w fun e w' => e = .returned (.int .i64 (Pk.whereS E m)) ∧ w' = w := by
  have HR := Lib.hid hr
  clear hr
  go_enter Tryz.func22, Tryz.ntmps22
  go_wp2
  go_loopw [5] (fun i wr => ∃ (k : Nat), i = .int .i64 k ∧ k ≤ E.length ∧ wr = w ∧ ∀ j x, j < k → E[j]? = some x → x.1 ≠ m) (fun i _ => E.length - (intOf i).toNat)
  case atStart => exact ⟨0, rfl, by omega, rfl, fun j x hj => by omega⟩
  case round =>
    obtain ⟨k, rfl, hk, rfl, hno⟩ := hrel
    by_cases hlt : k < E.length
    · have hx : E[k]? = some E[k] := List.getElem?_eq_getElem hlt
      generalize E[k] = x at *
      obtain ⟨b, off, c', e1, g0, g1⟩ := row_cells HR.out hx
      injection e1 with e1 _ e2
      subst e1
      subst e2
      have hk2 : (k : Int) < E.length := by omega
      by_cases he : x.1 = m
      · have hw : Pk.whereS E m = k := by
          unfold Pk.whereS
          rw [List.findIdx?_eq_some_iff_getElem.2 ⟨hlt, by rw [(List.getElem?_eq_some_iff.1 hx).2]; simpa using he, fun j hj => by
            have := hno j E[j] hj (List.getElem?_eq_getElem (by omega))
            simpa using this⟩]
        have hbeq : (x.1.toList == m.toList) = true := by rw [he]; simp
        have HW := Lib.hid hw
        clear hno hx hw he
        go_wp2_with fail
        go_returns
        exact ⟨by rw [HW.out]; rfl, rfl⟩
      · have hbeq : (x.1.toList == m.toList) = false := by
          rw [Bool.eq_false_iff]
          intro h
          exact he (beq_toList (by simpa using h))
        have HNO := Lib.hid (show ∀ j y, j < k + 1 → E[j]? = some y → y.1 ≠ m from fun j y hj hy => by
          by_cases e : j = k
          · subst e; rw [hx] at hy; cases hy; exact he
          · exact hno j y (by omega) hy)
        clear hno hx he
        go_wp2_with fail
        exact ⟨⟨k + 1, by go_num, hlt, trivial, HNO.out⟩, by simp [intOf]; omega⟩
    · obtain rfl : k = E.length := by omega
      have hw : Pk.whereS E m = -1 := by
        unfold Pk.whereS
        rw [List.findIdx?_eq_none_iff.2 fun x hx => by
          obtain ⟨j, hj⟩ := List.mem_iff_getElem?.1 hx
          simpa using hno j x (List.getElem?_eq_some_iff.1 hj).1 hj]
      have HW := Lib.hid hw
      clear hno hw
      go_wp2
      go_returns
      exact ⟨by rw [HW.out]; rfl, rfl⟩
set_option maxRecDepth 100000 in
set_option maxHeartbeats 2000000 in
theorem ref_sorted {n0 : Nat} (a : Option Addr) (c : Nat) (E : List En) (hE : E.length ≤ 1000) (hc : E.length ≤ c) (hs : SrtE E) (hz : ∀ x ∈ E, x.1.size ≤ 281474976710656) (m : ByteArray) (hm : m.size ≤ 281474976710656) (s : Int) (w : World) (hr : Row w n0 (.slice a E.length c) E) :
    Calls Tryz.prog 52 #[.slice a E.length c, .agg #[.string m, .int .i64 s]] w fun e w' => ∃ v, e = .returned v ∧ Own48 w' w.heap.size v (putE E m s) ∧ Below w.heap.size w w' := by
  have hb0 := alloc_below w (.cells #[.string m, .int .i64 s] 48)
  have HR := Lib.hid (fun W (hb : Below (w.alloc (.cells #[.string m, .int .i64 s] 48)).heap.size (w.alloc (.cells #[.string m, .int .i64 s] 48)) W) => (hr.later hb0).later hb)
  have kE := Blk.new w 48 #[.string m, .int .i64 s]
  have HK := Lib.hid (fun W (hb : Below (w.alloc (.cells #[.string m, .int .i64 s] 48)).heap.size (w.alloc (.cells #[.string m, .int .i64 s] 48)) W) => kE.later hb)
  have hple := posE_le E m s
  have HSP := Lib.hid (posE_spec hs m s)
  have HZ := Lib.hid hz
  have HB0 := Lib.hid hb0
  have HI := fun W (hb : Below (w.alloc (.cells #[.string m, .int .i64 s] 48)).heap.size (w.alloc (.cells #[.string m, .int .i64 s] 48)) W) => Lib.hid (Pk.refInsert_any a c E hE hc (posE E m s) hple (m, s) W (row_ents (HR.out W hb)))
  have HPE := Lib.hid (show E.take (posE E m s) ++ [(m, s)] ++ E.drop (posE E m s) = putE E m s by unfold putE; rw [List.append_assoc]; rfl)
  clear hr hs hz hb0 kE
  generalize posE E m s = P at *
  go_enter Tryz.func52, Tryz.ntmps52
  go_wp2
  go_loopw [5] (fun i wr => ∃ (k : Nat), i = .int .i64 k ∧ k ≤ P ∧ Below (w.alloc (.cells #[.string m, .int .i64 s] 48)).heap.size (w.alloc (.cells #[.string m, .int .i64 s] 48)) wr) (fun i _ => P - (intOf i).toNat)
  case atStart => exact ⟨0, rfl, by omega, Below.refl _ _⟩
  case round =>
    obtain ⟨k, rfl, hk, hbr⟩ := hrel
    have kR := HK.out wr hbr
    have q1 := fun y : Ext wr => y.cell (facts2 kR).1
    have q2 := fun y : Ext wr => y.cell (facts2 kR).2.1
    have hne := Ext.one wr
    by_cases hlt : k < E.length
    · have hx : E[k]? = some E[k] := List.getElem?_eq_getElem hlt
      have hzx := HZ.out _ (List.getElem_mem hlt)
      generalize E[k] = x at *
      obtain ⟨b, off, c', e1, g0, g1⟩ := row_cells (HR.out wr hbr) hx
      injection e1 with e1 _ e2
      subst e1
      subst e2
      have q3 := fun y : Ext wr => y.cell g0
      have q4 := fun y : Ext wr => y.cell g1
      have hk2 : (k : Int) < E.length := by omega
      have HL := fun W => Lib.hid (refLess_any x.1 m hzx hm x.2 s W)
      have hle : Sk.lessE x.1 x.2 m s = decide (k < P) := HSP.out k x hx
      rw [hle] at HL
      have HBR := Lib.hid hbr
      clear hx hzx hle hbr kR g0 g1
      go_wp2_with fail
      by_cases hkp : k < P
      · rw [decide_eq_true hkp] at HL
        refine region_ext (w1 := wr) (by kernel_rfl) (by kernel_rfl) (Below.refl _ _) ?_
        repeat go_big_quiet_step ((go_at_call 64; exact Ext.call _ (HL _).out))
        refine wpQuiet_nil ?_
        rintro _ ⟨y, rfl⟩
        have HY := Lib.hid (HBR.out.trans (y.ok.mono HBR.out.size))
        clear q1 q2 q3 q4 hne HL
        go_wp2_with fail
        exact ⟨⟨k + 1, by go_num, hkp, HY.out⟩, by simp [intOf]; omega⟩
      · obtain rfl : k = P := by omega
        rw [decide_eq_false hkp] at HL
        refine region_ext (w1 := wr) (by kernel_rfl) (by kernel_rfl) (Below.refl _ _) ?_
        repeat go_big_quiet_step ((go_at_call 64; exact Ext.call _ (HL _).out))
        refine wpQuiet_nil ?_
        rintro _ ⟨y, rfl⟩
        have hy := HBR.out.trans (y.ok.mono HBR.out.size)
        have HIY := HI y.w hy
        have HY := Lib.hid hy
        obtain ⟨e0, e1, _, _⟩ := facts2 (HK.out y.w hy)
        clear q1 q2 q3 q4 hne HL hy HI
        go_wp2_with fail
        refine HIY.out.mono ?_
        rintro e w3 ⟨v, rfl, ho, hb3⟩
        have HO := Lib.hid (show Own48 w3 w.heap.size v (putE E m s) from by
          have := ho
          rw [HPE.out] at this
          exact own_mono this (Nat.le_trans HB0.out.size HY.out.size))
        have HB3 := Lib.hid ((HB0.out.trans (HY.out.mono HB0.out.size)).trans (hb3.mono (Nat.le_trans HB0.out.size HY.out.size)))
        clear ho hb3 HIY
        go_wp2_with fail
        go_returns
        exact ⟨_, rfl, HO.out, HB3.out⟩
    · obtain rfl : k = P := by omega
      have hk2 : ¬ (k : Int) < E.length := by omega
      have HBR := Lib.hid hbr
      clear hbr kR
      go_wp2_with fail
      refine region_ext (w1 := wr) (by kernel_rfl) (by kernel_rfl) (Below.refl _ _) ?_
      repeat go_big_quiet_step (fail)
      refine wpQuiet_nil ?_
      rintro _ ⟨y, rfl⟩
      have hy := HBR.out.trans (y.ok.mono HBR.out.size)
      have HIY := HI y.w hy
      have HY := Lib.hid hy
      obtain ⟨e0, e1, _, _⟩ := facts2 (HK.out y.w hy)
      clear q1 q2 hne hy HI
      go_wp2_with fail
      refine HIY.out.mono ?_
      rintro e w3 ⟨v, rfl, ho, hb3⟩
      have HO := Lib.hid (show Own48 w3 w.heap.size v (putE E m s) from by
        have := ho
        rw [HPE.out] at this
        exact own_mono this (Nat.le_trans HB0.out.size HY.out.size))
      have HB3 := Lib.hid ((HB0.out.trans (HY.out.mono HB0.out.size)).trans (hb3.mono (Nat.le_trans HB0.out.size HY.out.size)))
      clear ho hb3 HIY
      go_wp2_with fail
      go_returns
      exact ⟨_, rfl, HO.out, HB3.out⟩
end Go.Proofs.YtpaphfofjfjdlaaGreat
