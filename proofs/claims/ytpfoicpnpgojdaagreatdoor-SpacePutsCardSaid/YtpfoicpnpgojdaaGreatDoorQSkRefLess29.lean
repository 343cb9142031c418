/- Texts of one kind in one: SkRefLess, ZRef, ZRefOps, ZBytes, ZSee. -/
import Derived.Test.YtpfoicpnpgojdaaGreatDoorQSkRem04
import Derived.Test.YtpfoicpnpgojdaaGreatDoorQSpLast28
import Derived.Test.YtpfoicpnpgojdaaGreatDoorQSched25
/- The reference's order. -/
namespace Go.Proofs.YtpfoicpnpgojdaaGreatDoor.Sk
open Go.RowKit Go.Shelf
attribute [local go_sem] Oper.semAt_some

theorem lt_step {x y : List UInt8} {i : Nat} (hx : i < x.length) (hy : i < y.length) : (x.drop i < y.drop i) ↔ (x[i] < y[i] ∨ x[i] = y[i] ∧ x.drop (i + 1) < y.drop (i + 1)) := by
  rw [List.drop_eq_getElem_cons hx, List.drop_eq_getElem_cons hy, List.cons_lt_cons_iff]
theorem lt_end {x y : List UInt8} {i : Nat} (hx : i ≤ x.length) (hy : i ≤ y.length) (h : i = x.length ∨ i = y.length) : (x.drop i < y.drop i) ↔ x.length < y.length := by
  rcases h with rfl | rfl
  · rw [List.drop_length]
    cases hd : y.drop x.length with
    | nil =>
      have := List.drop_eq_nil_iff.1 hd
      simp; omega
    | cons u v =>
      have : x.length < y.length := by
        have h1 : (y.drop x.length).length = v.length + 1 := by rw [hd]; rfl
        rw [List.length_drop] at h1
        omega
      simp [this]
  · rw [List.drop_length]
    simp; omega

set_option maxRecDepth 100000 in
theorem refText_any (a b : ByteArray) (ha : a.size ≤ 281474976710656) (hb : b.size ≤ 281474976710656) (w : World) : Calls Tryz.prog 101 #[.string a, .string b] w fun e w' => e = .returned (.bool (decide (a.data.toList < b.data.toList))) ∧ Below w.heap.size w w' := by
  obtain ⟨bv, hbv⟩ : ∃ bv, bv = decide (a.data.toList < b.data.toList) := ⟨_, rfl⟩
  have HBV := Lib.hid hbv
  rw [← hbv]
  clear hbv
  go_enter Tryz.func101, Tryz.ntmps101
  go_wp2
  go_loopw [5] (fun i wr => ∃ j : Nat, i = .int .i64 j ∧ j ≤ a.size ∧ j ≤ b.size ∧ Hid ((a.data.toList.drop j < b.data.toList.drop j) ↔ (a.data.toList < b.data.toList)) ∧ Below w.heap.size w wr) (fun i _ => a.size - (intOf i).toNat)
  case atStart => exact ⟨0, rfl, by omega, by omega, Lib.hid (by rw [List.drop_zero, List.drop_zero]), Below.refl _ _⟩
  case round =>
    obtain ⟨j, rfl, hja, hjb, HI, hbel⟩ := hrel
    have HW := Lib.hid hbel
    clear hbel
    by_cases hlt : j < a.size ∧ j < b.size
    · obtain ⟨h1, h2⟩ := hlt
      have hst := lt_step (x := a.data.toList) (y := b.data.toList) (i := j) (by simpa using h1) (by simpa using h2)
      have HST := Lib.hid hst
      clear hst
      by_cases he : a[j] = b[j]
      · have he2 : ((a[j].toNat : Int) == (b[j].toNat : Int)) = true := by rw [he]; simp
        have HE := Lib.hid he
        clear he
        go_wp2
        go_quiet (fail)
        go_wp2
        refine ⟨⟨j + 1, by go_num, by omega, by omega, Lib.hid ?_, HW.out.trans ⟨rfl, rfl, rfl, Nat.le_refl _, fun _ _ => rfl⟩⟩, by simp [intOf]; omega⟩
        rw [← HI.out, HST.out]
        have h1 : a.data.toList[j]'(by simpa using h1) = b.data.toList[j]'(by simpa using h2) := HE.out
        simp [h1]
      · have he2 : ((a[j].toNat : Int) == (b[j].toNat : Int)) = false := by
          rw [beq_eq_false_iff_ne]
          intro e
          exact he (UInt8.toNat_inj.1 (by omega))
        have HE := Lib.hid he
        clear he
        go_wp2
        go_quiet (fail)
        go_wp2
        go_quiet (fail)
        go_wp2
        go_returns
        refine ⟨?_, HW.out.trans ⟨rfl, rfl, rfl, Nat.le_refl _, fun _ _ => rfl⟩⟩
        have hv : decide (a[j].toNat < b[j].toNat) = bv := by
          rw [HBV.out, decide_eq_decide, ← HI.out, HST.out]
          have hne : ¬ a.data.toList[j]'(by simpa using h1) = b.data.toList[j]'(by simpa using h2) := HE.out
          simp only [hne, false_and, or_false]
          exact UInt8.lt_iff_toNat_lt.symm
        rw [← hv]
        rfl
    · have hex : (a.size : Int) ≤ j ∨ ((j : Int) < a.size ∧ (b.size : Int) ≤ j) := by omega
      have HX := Lib.hid (show decide (a.size < b.size) = bv by
        have h := lt_end (x := a.data.toList) (y := b.data.toList) (i := j) (by simpa using hja) (by simpa using hjb) (by simp; omega)
        rw [HBV.out, decide_eq_decide, ← HI.out, h]
        simp)
      clear hlt
      rcases hex with hex | ⟨hex, hex2⟩
      all_goals (
        go_wp2
        go_returns
        refine ⟨?_, HW.out⟩
        rw [← HX.out]
        rfl)

set_option maxRecDepth 100000 in
theorem refLess_any (m m' : ByteArray) (hm : m.size ≤ 281474976710656) (hm' : m'.size ≤ 281474976710656) (s s' : Int) (w : World) : Calls Tryz.prog 107 #[.agg #[.string m, .int .i64 s], .agg #[.string m', .int .i64 s']] w fun e w' => e = .returned (.bool (lessE m s m' s')) ∧ Below w.heap.size w w' := by
  have hb : Below w.heap.size w ((w.alloc (.cells #[.string m, .int .i64 s] 101)).alloc (.cells #[.string m', .int .i64 s'] 101)) := ((Below.refl _ _).alloc (Nat.le_refl _) _).alloc (by simp) _
  have HB := Lib.hid hb
  clear hb
  have HL := fun w => refText_any m m' hm hm' w
  clear hm hm'
  have HL := fun w => Lib.hid (HL w)
  by_cases h1 : s < s'
  · go_enter Tryz.func107, Tryz.ntmps107
    go_wp2
    go_ret
    refine ⟨congrArg (fun b => Ending.returned (.bool b)) ?_, HB.out⟩
    simp [lessE, h1]
  · by_cases h : s = s'
    · have e1 : (s == s') = true := by simpa using h
      have H := Lib.hid h
      clear h
      go_enter Tryz.func107, Tryz.ntmps107
      go_wp2_with fail
      refine (HL _).out.mono ?_
      rintro e w5 ⟨rfl, hb5⟩
      have hb6 := Lib.hid (HB.out.trans (hb5.mono HB.out.size))
      clear hb5
      go_wp2_with fail
      go_ret
      refine ⟨congrArg (fun b => Ending.returned (.bool b)) ?_, hb6.out⟩
      have := H.out
      subst this
      simp [lessE]
    · have e1 : (s == s') = false := by simpa using h
      go_enter Tryz.func107, Tryz.ntmps107
      go_wp2
      go_ret
      refine ⟨congrArg (fun b => Ending.returned (.bool b)) ?_, HB.out⟩
      simp [lessE, h1, h]
end Go.Proofs.YtpfoicpnpgojdaaGreatDoor.Sk
/- The reference's set: where a member is, putting in, taking out. -/
namespace Go.Proofs.YtpfoicpnpgojdaaGreatDoor
open Go.RowKit Go.Shelf Sk
attribute [local go_sem] Oper.semAt_some

theorem row_ents {W : World} {n0 : Nat} {a : Option Addr} {c : Nat} {E : List En} (h : Row W n0 (.slice a E.length c) E) : Pk.Ents W a E := fun i hi => by
  obtain ⟨b, off, c', h1, h2, h3⟩ := row_cells h (List.getElem?_eq_getElem hi)
  injection h1 with h1
  exact ⟨b, off, h1, h2, h3⟩
/-- The reference's set in memory. -/
structure RefAt (W : World) (r : Nat) (E : List En) (le lm : Int) : Prop where
  ex : ∃ a c isL, Blk W r 58 #[.slice a E.length c, .int .i64 le, .int .i64 lm, .bool isL] ∧ E.length ≤ c ∧ Row W 0 (.slice a E.length c) E
theorem RefAt.far {S : Nat → Prop} {W W' : World} {r : Nat} {E : List En} {le lm : Int} (h : RefAt W r E le lm) (hf : Far S W W') (hr : ¬ S r) (h48 : ∀ k cur, Blk W k 101 cur → ¬ S k) : RefAt W' r E le lm := by
  obtain ⟨a, c, isL, h1, h2, h3⟩ := h.ex
  exact ⟨a, c, isL, hf.blk h1 hr, h2, h3.far hf fun k cur _ hk => h48 k cur hk⟩
theorem RefAt.later {W W' : World} {r : Nat} {E : List En} {le lm : Int} (h : RefAt W r E le lm) (hb : Below W.heap.size W W') : RefAt W' r E le lm := h.far (S := fun _ => False) (Far.of_below hb) (fun h => h) (fun _ _ _ h => h)

set_option maxHeartbeats 1000000 in
theorem ref_find {n0 : Nat} (a : Option Addr) (c : Nat) (E : List En) (hE : E.length ≤ 100000) (m : ByteArray) (w : World) (hr : Row w n0 (.slice a E.length c) E) :
    Calls Tryz.prog 73 #[.slice a E.length c, .string m] w fun e w' => e = .returned (.int .i64 (Pk.whereS E m)) ∧ w' = w := by
  have HR := Lib.hid hr
  clear hr
  go_enter Tryz.func73, Tryz.ntmps73
  go_wp2
  go_loopw [5] (fun i wr => ∃ (k : Nat), i = .int .i64 k ∧ k ≤ E.length ∧ wr = w ∧ ∀ j x, j < k → E[j]? = some x → x.1 ≠ m) (fun i _ => E.length - (intOf i).toNat)
  case atStart => exact ⟨0, rfl, by omega, rfl, fun j x hj => by omega⟩
  case round =>
    obtain ⟨k, rfl, hk, rfl, hno⟩ := hrel
    by_cases hlt : k < E.length
    · have hx : E[k]? = some E[k] := List.getElem?_eq_getElem hlt
      generalize E[k] = x at *
      obtain ⟨b, off, c', e1, g0, g1⟩ := row_cells HR.out hx
      injection e1 with e1 _ e2
      subst e1
      subst e2
      have hk2 : (k : Int) < E.length := by omega
      by_cases he : x.1 = m
      · have hw : Pk.whereS E m = k := by
          unfold Pk.whereS
          rw [List.findIdx?_eq_some_iff_getElem.2 ⟨hlt, by rw [(List.getElem?_eq_some_iff.1 hx).2]; simpa using he, fun j hj => by
            have := hno j E[j] hj (List.getElem?_eq_getElem (by omega))
            simpa using this⟩]
        have hbeq : (x.1.toList == m.toList) = true := by rw [he]; simp
        have HW := Lib.hid hw
        clear hno hx hw he
        go_wp2_with fail
        go_returns
        exact ⟨by rw [HW.out]; rfl, rfl⟩
      · have hbeq : (x.1.toList == m.toList) = false := by
          rw [Bool.eq_false_iff]
          intro h
          exact he (beq_toList (by simpa using h))
        have HNO := Lib.hid (show ∀ j y, j < k + 1 → E[j]? = some y → y.1 ≠ m from fun j y hj hy => by
          by_cases e : j = k
          · subst e; rw [hx] at hy; cases hy; exact he
          · exact hno j y (by omega) hy)
        clear hno hx he
        go_wp2_with fail
        exact ⟨⟨k + 1, by go_num, hlt, trivial, HNO.out⟩, by simp [intOf]; omega⟩
    · obtain rfl : k = E.length := by omega
      have hw : Pk.whereS E m = -1 := by
        unfold Pk.whereS
        rw [List.findIdx?_eq_none_iff.2 fun x hx => by
          obtain ⟨j, hj⟩ := List.mem_iff_getElem?.1 hx
          simpa using hno j x (List.getElem?_eq_some_iff.1 hj).1 hj]
      have HW := Lib.hid hw
      clear hno hw
      go_wp2
      go_returns
      exact ⟨by rw [HW.out]; rfl, rfl⟩
set_option maxRecDepth 100000 in
set_option maxHeartbeats 2000000 in
theorem ref_sorted {n0 : Nat} (a : Option Addr) (c : Nat) (E : List En) (hE : E.length ≤ 1000) (hc : E.length ≤ c) (hs : SrtE E) (hz : ∀ x ∈ E, x.1.size ≤ 281474976710656) (m : ByteArray) (hm : m.size ≤ 281474976710656) (s : Int) (w : World) (hr : Row w n0 (.slice a E.length c) E) :
    Calls Tryz.prog 75 #[.slice a E.length c, .agg #[.string m, .int .i64 s]] w fun e w' => ∃ v, e = .returned v ∧ Own48 w' w.heap.size v (putE E m s) ∧ Below w.heap.size w w' := by
  have hb0 := alloc_below w (.cells #[.string m, .int .i64 s] 101)
  have HR := Lib.hid (fun W (hb : Below (w.alloc (.cells #[.string m, .int .i64 s] 101)).heap.size (w.alloc (.cells #[.string m, .int .i64 s] 101)) W) => (hr.later hb0).later hb)
  have kE := Blk.new w 101 #[.string m, .int .i64 s]
  have HK := Lib.hid (fun W (hb : Below (w.alloc (.cells #[.string m, .int .i64 s] 101)).heap.size (w.alloc (.cells #[.string m, .int .i64 s] 101)) W) => kE.later hb)
  have hple := posE_le E m s
  have HSP := Lib.hid (posE_spec hs m s)
  have HZ := Lib.hid hz
  have HB0 := Lib.hid hb0
  have HI := fun W (hb : Below (w.alloc (.cells #[.string m, .int .i64 s] 101)).heap.size (w.alloc (.cells #[.string m, .int .i64 s] 101)) W) => Lib.hid (Pk.refInsert_any a c E hE hc (posE E m s) hple (m, s) W (row_ents (HR.out W hb)))
  have HPE := Lib.hid (show E.take (posE E m s) ++ [(m, s)] ++ E.drop (posE E m s) = putE E m s by unfold putE; rw [List.append_assoc]; rfl)
  clear hr hs hz hb0 kE
  generalize posE E m s = P at *
  go_enter Tryz.func75, Tryz.ntmps75
  go_wp2
  go_loopw [5] (fun i wr => ∃ (k : Nat), i = .int .i64 k ∧ k ≤ P ∧ Below (w.alloc (.cells #[.string m, .int .i64 s] 101)).heap.size (w.alloc (.cells #[.string m, .int .i64 s] 101)) wr) (fun i _ => P - (intOf i).toNat)
  case atStart => exact ⟨0, rfl, by omega, Below.refl _ _⟩
  case round =>
    obtain ⟨k, rfl, hk, hbr⟩ := hrel
    have kR := HK.out wr hbr
    have q1 := fun y : Ext wr => y.cell (facts2 kR).1
    have q2 := fun y : Ext wr => y.cell (facts2 kR).2.1
    have hne := Ext.one wr
    by_cases hlt : k < E.length
    · have hx : E[k]? = some E[k] := List.getElem?_eq_getElem hlt
      have hzx := HZ.out _ (List.getElem_mem hlt)
      generalize E[k] = x at *
      obtain ⟨b, off, c', e1, g0, g1⟩ := row_cells (HR.out wr hbr) hx
      injection e1 with e1 _ e2
      subst e1
      subst e2
      have q3 := fun y : Ext wr => y.cell g0
      have q4 := fun y : Ext wr => y.cell g1
      have hk2 : (k : Int) < E.length := by omega
      have HL := fun W => Lib.hid (refLess_any x.1 m hzx hm x.2 s W)
      have hle : Sk.lessE x.1 x.2 m s = decide (k < P) := HSP.out k x hx
      rw [hle] at HL
      have HBR := Lib.hid hbr
      clear hx hzx hle hbr kR g0 g1
      go_wp2_with fail
      by_cases hkp : k < P
      · rw [decide_eq_true hkp] at HL
        refine region_ext (w1 := wr) (by kernel_rfl) (by kernel_rfl) (Below.refl _ _) ?_
        repeat go_big_quiet_step ((go_at_call 107; exact Ext.call _ (HL _).out))
        refine wpQuiet_nil ?_
        rintro _ ⟨y, rfl⟩
        have HY := Lib.hid (HBR.out.trans (y.ok.mono HBR.out.size))
        clear q1 q2 q3 q4 hne HL
        go_wp2_with fail
        exact ⟨⟨k + 1, by go_num, hkp, HY.out⟩, by simp [intOf]; omega⟩
      · obtain rfl : k = P := by omega
        rw [decide_eq_false hkp] at HL
        refine region_ext (w1 := wr) (by kernel_rfl) (by kernel_rfl) (Below.refl _ _) ?_
        repeat go_big_quiet_step ((go_at_call 107; exact Ext.call _ (HL _).out))
        refine wpQuiet_nil ?_
        rintro _ ⟨y, rfl⟩
        have hy := HBR.out.trans (y.ok.mono HBR.out.size)
        have HIY := HI y.w hy
        have HY := Lib.hid hy
        obtain ⟨e0, e1, _, _⟩ := facts2 (HK.out y.w hy)
        clear q1 q2 q3 q4 hne HL hy HI
        go_wp2_with fail
        refine HIY.out.mono ?_
        rintro e w3 ⟨v, rfl, ho, hb3⟩
        have HO := Lib.hid (show Own48 w3 w.heap.size v (putE E m s) from by
          have := ho
          rw [HPE.out] at this
          exact own_mono this (Nat.le_trans HB0.out.size HY.out.size))
        have HB3 := Lib.hid ((HB0.out.trans (HY.out.mono HB0.out.size)).trans (hb3.mono (Nat.le_trans HB0.out.size HY.out.size)))
        clear ho hb3 HIY
        go_wp2_with fail
        go_returns
        exact ⟨_, rfl, HO.out, HB3.out⟩
    · obtain rfl : k = P := by omega
      have hk2 : ¬ (k : Int) < E.length := by omega
      have HBR := Lib.hid hbr
      clear hbr kR
      go_wp2_with fail
      refine region_ext (w1 := wr) (by kernel_rfl) (by kernel_rfl) (Below.refl _ _) ?_
      repeat go_big_quiet_step (fail)
      refine wpQuiet_nil ?_
      rintro _ ⟨y, rfl⟩
      have hy := HBR.out.trans (y.ok.mono HBR.out.size)
      have HIY := HI y.w hy
      have HY := Lib.hid hy
      obtain ⟨e0, e1, _, _⟩ := facts2 (HK.out y.w hy)
      clear q1 q2 hne hy HI
      go_wp2_with fail
      refine HIY.out.mono ?_
      rintro e w3 ⟨v, rfl, ho, hb3⟩
      have HO := Lib.hid (show Own48 w3 w.heap.size v (putE E m s) from by
        have := ho
        rw [HPE.out] at this
        exact own_mono this (Nat.le_trans HB0.out.size HY.out.size))
      have HB3 := Lib.hid ((HB0.out.trans (HY.out.mono HB0.out.size)).trans (hb3.mono (Nat.le_trans HB0.out.size HY.out.size)))
      clear ho hb3 HIY
      go_wp2_with fail
      go_returns
      exact ⟨_, rfl, HO.out, HB3.out⟩
end Go.Proofs.YtpfoicpnpgojdaaGreatDoor
/- The reference's set: taking out, cutting, putting in. -/
namespace Go.Proofs.YtpfoicpnpgojdaaGreatDoor
open Go.RowKit Go.Shelf Sk
attribute [local go_sem] Oper.semAt_some

/-- The reference's set, its cells told. -/
structure RefC (W : World) (r : Nat) (E : List En) (le lm : Int) (isL : Bool) : Prop where
  ex : ∃ a c, Blk W r 58 #[.slice a E.length c, .int .i64 le, .int .i64 lm, .bool isL] ∧ E.length ≤ c ∧ Row W 0 (.slice a E.length c) E
theorem RefC.far {S : Nat → Prop} {W W' : World} {r : Nat} {E : List En} {le lm : Int} {isL : Bool} (h : RefC W r E le lm isL) (hf : Far S W W') (hr : ¬ S r) (h48 : ∀ k cur, Blk W k 101 cur → ¬ S k) : RefC W' r E le lm isL := by
  obtain ⟨a, c, h1, h2, h3⟩ := h.ex
  exact ⟨a, c, hf.blk h1 hr, h2, h3.far hf fun k cur _ hk => h48 k cur hk⟩
theorem RefC.later {W W' : World} {r : Nat} {E : List En} {le lm : Int} {isL : Bool} (h : RefC W r E le lm isL) (hb : Below W.heap.size W W') : RefC W' r E le lm isL := h.far (S := fun _ => False) (Far.of_below hb) (fun h => h) (fun _ _ _ h => h)
/-- A new row of one's own in the set's first cell. -/
theorem RefC.put {W w0 : World} {r n0 : Nat} {v x : Value} {E : List En} {le lm : Int} {isL : Bool} (hk : Blk W r 58 #[x, .int .i64 le, .int .i64 lm, .bool isL]) (ho : Own48 W n0 v E) (hf : Far (fun k => k = r) w0 W) :
    RefC (W.setCell ⟨r, 0, none⟩ v) r E le lm isL ∧ Far (fun k => k = r) w0 (W.setCell ⟨r, 0, none⟩ v) := by
  obtain ⟨a, c, rfl, hc⟩ := own_slice ho
  refine ⟨⟨a, c, ?_, hc, ?_⟩, hf.set _ _ (.inl rfl)⟩
  · have := hk.set 0 (.slice a E.length c)
    simpa using this
  · refine ((own_row ho).mono (Nat.zero_le _)).far (far_set (S := fun k => k = r) W r 0 _ rfl) fun k cur _ h e => ?_
    subst e
    exact absurd (h.ty hk) (by decide)

theorem where_none {E : List En} {m : ByteArray} (h : whE E m = none) : Pk.whereS E m = -1 := by
  unfold Pk.whereS
  rw [List.findIdx?_eq_none_iff.2 fun x hx => by simpa using whE_none h x hx]
theorem where_some {E : List En} (hd : Dist E) {m : ByteArray} {i : Nat} (h : whE E m = some i) : Pk.whereS E m = i ∧ i < E.length ∧ rmE E m = E.take i ++ E.drop (i + 1) := by
  obtain ⟨s, hx⟩ := whE_some h
  obtain ⟨hi, he⟩ := List.getElem?_eq_some_iff.1 hx
  refine ⟨?_, hi, rmE_at hd hx⟩
  unfold Pk.whereS
  rw [List.findIdx?_eq_some_iff_getElem.2 ⟨hi, by rw [he]; simp, fun j hj => by
    have hne : E[j].1 ≠ m := fun e => by
      have := whE_at hd (List.getElem?_eq_getElem (show j < E.length by omega))
      rw [e, h] at this
      injection this with this
      omega
    simpa using hne⟩]

set_option maxHeartbeats 1000000 in
theorem ref_remove {w : World} {r : Nat} {E : List En} {le lm : Int} {isL : Bool} (h : RefC w r E le lm isL) (hd : Dist E) (hE : E.length ≤ 1000) (m : ByteArray) :
    Calls Tryz.prog 43 #[.pointer (some ⟨r, 0, none⟩), .string m] w fun e w' => e = .returned (.bool (hasE E m)) ∧ RefC w' r (rmE E m) le lm isL ∧ Far (fun k => k = r) w w' := by
  obtain ⟨a, c, hk, hc, hr⟩ := h.ex
  have HF := Lib.hid (ref_find a c E (by omega) m w hr)
  obtain ⟨⟨c0, c1, c2, c3⟩, f0⟩ := facts4 hk
  have HH := Lib.hid h
  have hhas := hasE_wh E m
  cases hw : whE E m with
  | none =>
    rw [where_none hw] at HF
    rw [hw] at hhas
    have HN := Lib.hid (rmE_none (whE_none hw))
    clear hk hr hw h
    go_enter Tryz.func43, Tryz.ntmps43
    go_wp2_with fail
    refine HF.out.mono ?_
    rintro e w1 ⟨rfl, rfl⟩
    clear HF
    go_wp2_with fail
    go_returns
    exact ⟨by rw [hhas]; rfl, by rw [HN.out]; exact HH.out, Far.refl _ _⟩
  | some i =>
    obtain ⟨e1, hi, e2⟩ := where_some hd hw
    rw [e1] at HF
    rw [hw] at hhas
    have HD := Lib.hid (Pk.refDelete_any a c E hE hc i hi w (row_ents hr))
    rw [← e2] at HD
    have HK := Lib.hid hk
    clear hk hr hw h e1 e2
    go_enter Tryz.func43, Tryz.ntmps43
    go_wp2_with fail
    refine HF.out.mono ?_
    rintro e w1 ⟨rfl, rfl⟩
    clear HF
    go_wp2_with fail
    refine HD.out.mono ?_
    rintro e w2 ⟨v, rfl, ho, hb⟩
    have k2 := HK.out.later hb
    have HR2 := Lib.hid (RefC.put (x := .slice a E.length c) (w0 := w1) k2 (show Own48 w2 w1.heap.size v (rmE E m) from ho) (Far.of_below hb))
    obtain ⟨⟨d0, _, _, _⟩, g0⟩ := facts4 k2
    obtain ⟨a', c', rfl, _⟩ := own_slice (l := rmE E m) ho
    clear c0 c1 c2 c3 f0 ho hb k2 HD HK HH
    go_wp2_with fail
    go_returns
    exact ⟨by rw [hhas]; rfl, HR2.out.1, HR2.out.2⟩
theorem cut_parts (E : List En) (f t : Int) (F T : Nat) (hF : max 0 (min f (E.length : Int)) = F) (hT : max (F : Int) (min t (E.length : Int)) = T) : E.take F ++ E.drop T = cutE E f t ∧ ((T : Int) - F = (subE E f t).length) ∧ F ≤ T ∧ T ≤ E.length := by
  rw [subE_len]
  unfold cutE f0 t0
  by_cases h : (max f 0).toNat < (min t E.length).toNat
  · rw [if_pos h]
    obtain rfl : F = (max f 0).toNat := by omega
    obtain rfl : T = (min t E.length).toNat := by omega
    exact ⟨rfl, by omega, by omega, by omega⟩
  · rw [if_neg h]
    obtain rfl : T = F := by omega
    exact ⟨List.take_append_drop _ _, by omega, by omega, by omega⟩

set_option maxRecDepth 100000 in
set_option maxHeartbeats 2000000 in
theorem ref_cut {w : World} {r : Nat} {E : List En} {le lm : Int} {isL : Bool} (h : RefC w r E le lm isL) (hE : E.length ≤ 1000) (f t : Int) :
    Calls Tryz.prog 269 #[.pointer (some ⟨r, 0, none⟩), .int .i64 f, .int .i64 t] w fun e w' => e = .returned (.int .i64 (subE E f t).length) ∧ RefC w' r (cutE E f t) le lm isL ∧ Far (fun k => k = r) w w' := by
  obtain ⟨a, c, hk, hc, hr⟩ := h.ex
  obtain ⟨F, hF⟩ : ∃ F : Nat, max 0 (min f (E.length : Int)) = F := ⟨(max 0 (min f (E.length : Int))).toNat, by omega⟩
  obtain ⟨T, hT⟩ : ∃ T : Nat, max (F : Int) (min t (E.length : Int)) = T := ⟨(max (F : Int) (min t (E.length : Int))).toNat, by omega⟩
  obtain ⟨hcut, hsub, hFT, hTE⟩ := cut_parts E f t F T hF hT
  rw [← hsub]
  have hwr : IntKind.i64.wrap ((T : Int) - F) = (T : Int) - F := IntWalk.i64_in _ (by omega)
  have hk1 : (F : Int) ≤ c := by omega
  have hk2 : (T : Int) ≤ E.length := by omega
  have hk3 : (0 : Int) ≤ F := by omega
  have hk4 : (0 : Int) ≤ T := by omega
  have ho0 : Own48 w w.heap.size (.slice none 0 0) [] := World.ownsRow_nil _ _ _ _
  obtain ⟨⟨c0, c1, c2, c3⟩, f0⟩ := facts4 hk
  have HE := Lib.hid (row_ents hr)
  have HT := Lib.hid (show (E.take F).length = F by simp; omega)
  have HDL := Lib.hid (show (E.drop T).length = E.length - T from List.length_drop)
  have HD := Lib.hid (HE.out.drop T c hc)
  have HK := Lib.hid hk
  have HC := Lib.hid hcut
  clear hk hr h hcut hsub
  go_enter Tryz.func269, Tryz.ntmps269
  go_wp2_with (first
    | (at_builtin
       refine Pk.wpList_app_list rfl (.tmp 25) (.tmp 31) rfl rfl (n0 := w.heap.size) (r := .slice none 0 0) (l := []) (xs := E.take F) (ad := a) (m := F) rfl rfl HT.out.symm ho0 (HE.out.take F) (by simp) (by rw [HT.out]; omega) (Nat.le_refl _) ?_
       rintro v1 w1 ho1 hg1
       have hb1 : Below w.heap.size w w1 := (Below.refl _ _).grown hg1 (Nat.le_refl _) (by simp [Value.ownBlock])
       have HB1 := Lib.hid hb1
       have HO1 := Lib.hid ho1
       obtain ⟨⟨d0, _, _, _⟩, g0⟩ := facts4 (HK.out.later hb1)
       clear hb1 ho1 hg1)
    | (at_builtin
       refine Pk.wpList_app_list rfl (.tmp 34) (.tmp 40) rfl rfl (n0 := w.heap.size) (r := v1) (l := [] ++ E.take F) (xs := E.drop T) (ad := if c = T then a else a.map (fun x => x.add (T * 2))) (m := E.length - T) rfl rfl HDL.out.symm HO1.out (HD.out.below HB1.out) (by simp; omega) (by rw [HDL.out]; omega) HB1.out.size ?_
       rintro v2 w2 ho2 hg2
       have hb2 : Below w.heap.size w w2 := HB1.out.grown hg2 HB1.out.size (fun k e => (World.ownsRow.lt HO1.out k e).1)
       have k2 := HK.out.later hb2
       have HR2 := Lib.hid (RefC.put (x := .slice a E.length c) (w0 := w) k2 (show Own48 w2 w.heap.size v2 (cutE E f t) from HC.out ▸ ho2) (Far.of_below hb2))
       obtain ⟨⟨e0, _, _, _⟩, q0⟩ := facts4 k2
       obtain ⟨a', c', hv, _⟩ := own_slice (l := _) ho2
       generalize List.length _ = N at hv
       subst hv
       clear hb2 ho2 hg2 k2))
  all_goals (
    go_returns
    exact ⟨rfl, HR2.out.1, HR2.out.2⟩)
end Go.Proofs.YtpfoicpnpgojdaaGreatDoor
/- A set: its size, of a list too; scores. -/
namespace Go.Proofs.YtpfoicpnpgojdaaGreatDoor
open Go.RowKit Go.Shelf Sk
attribute [local go_sem] Oper.semAt_some

/-- The size of a list of entries. -/
def szL : List En → Nat
  | [] => 0
  | e :: r => 64 + 2 * e.1.size + szL r
theorem szL_append (a b : List En) : szL (a ++ b) = szL a + szL b := by
  induction a with
  | nil => simp [szL]
  | cons e r ih => simp only [List.cons_append, szL, ih]; omega
theorem szL_take {E : List En} {i : Nat} {x : En} (h : E[i]? = some x) : szL (E.take (i + 1)) = szL (E.take i) + (64 + 2 * x.1.size) := by
  obtain ⟨hi, he⟩ := List.getElem?_eq_some_iff.1 h
  rw [List.take_succ_eq_append_getElem hi, szL_append, he]
  simp [szL]
theorem szL_le {E : List En} (h : ∀ e ∈ E, e.1.size ≤ 64) : szL E ≤ 192 * E.length := by
  induction E with
  | nil => simp [szL]
  | cons e r ih =>
    have h1 := h e (by simp)
    have h2 := ih fun e he => h e (by simp [he])
    simp only [szL, List.length_cons]; omega

variable {w w' w1 w2 : World} {s b l p q sd c : Nat} {D D1 : Nat → Prop} {L L1 : List Nd} {m : ByteArray → Option Int} {n : Dc.Sh} {le lm : Int} {E : List En}
set_option maxRecDepth 100000 in
set_option maxHeartbeats 4000000 in
theorem bytes_walk (fv : Nat) (E : List En) (hl : E.length ≤ 1000000) (hz : ∀ e ∈ E, e.1.size ≤ 64) (w : World) (HT : ∀ W, Below w.heap.size w W → Hid (Calls Tryz.prog 152 #[.iface 175 (.pointer (some ⟨fv, 0, none⟩))] W (Thru W E))) :
    Calls Tryz.prog 301 #[.pointer (some ⟨fv, 0, none⟩)] w fun e w' => e = .returned (.int .i64 (szL E)) ∧ Below w.heap.size w w' := by
  refine (callsIn_wide (n := 6)).1 (callsIn_of_wp_marks Tryz.func301 rfl trivial ?_ rfl)
  refine wpIn_wide.2 ?_
  simp only [Tryz.ntmps301, List.size_toArray, List.length_cons, List.length_nil, Nat.reduceAdd, Nat.reduceSub, Array.replicate_succ, Array.replicate_zero, List.push_toArray, List.append_toArray, List.nil_append, List.cons_append]
  have hB0 : Below w.heap.size w (w.alloc (Obj.cells #[Value.int .i64 0] 3)) := alloc_below _ _
  have k0 := Blk.new w 3 #[Value.int .i64 0]
  have HTA := HT _ hB0
  go_wp2_with fail
  have hsz : (w.alloc (Obj.cells #[Value.int .i64 0] 3)).heap.size = w.heap.size + 1 := by simp
  generalize w.alloc (Obj.cells #[Value.int .i64 0] 3) = w1 at *
  refine HTA.out.mono ?_
  rintro e w2 ⟨bx, r, rfl, hbx, hbs, hr, hb2⟩
  have k0 := k0.later hb2
  have hB := hB0.trans (hb2.mono hB0.size)
  have hseq := vals_any E (by omega) r w1.heap.size bx [w.heap.size] w2 hr (by intro k hk; simp at hk; omega) hbx
  have hz2 := hb2.size
  have HZ := Lib.hid hz
  have HLL := Lib.hid (show ∀ i, szL (E.take i) ≤ 192 * E.length from fun i => Nat.le_trans (szL_le fun e he => hz e (List.mem_of_mem_take he)) (by simp only [List.length_take]; omega))
  clear HT HTA hB0 hr hbx hz
  go_wp2_with fail
  refine (wpIn_wide (n := 6)).1 (Zr.range_x (gf := 194) (lb := #[.pointer (some ⟨bx, 0, none⟩)]) (encs := encE) (xs := E) (L := [w.heap.size]) rfl (enters_of Tryz.func194 (by kernel_rfl) rfl) hseq (fun _ _ => rfl)
    (fun i W => Below w.heap.size w W ∧ Blk W w.heap.size 3 #[.int .i64 (szL (E.take i))])
    (fun _ _ _ => False)
    ?hI ?hIx ?h0 (fun i x a' W => ∃ q, (∃ u, a' = { tmps := #[.pointer (some ⟨fv, 0, none⟩), undef, .int .i64 0, .pointer (some ⟨w.heap.size, 0, none⟩), .pointer (some ⟨q, 0, none⟩), .pointer (some ⟨fv, 0, none⟩), .iface 175 (.pointer (some ⟨fv, 0, none⟩)),
          .func (.func 194) #[] #[.pointer (some ⟨bx, 0, none⟩)], u, undef, undef, undef, undef, undef, undef, undef, undef], defers := [] }) ∧ Blk W q 101 #[.string x.1, .int .i64 x.2])
    (fun _ _ _ => own_ex fun _ => (own_pure _ _).and (own_blk _ _ _ _)) ?assign ?body ?done ?stop)
  case hI => exact (own_below _ w (by omega)).and (own_blk _ _ _ _)
  case hIx => exact fun c => own_pure _ _
  case h0 => exact ⟨hB, k0⟩
  case assign =>
    rintro l i ⟨xm, xs⟩ W K hx' ⟨hb, q0⟩ hK
    clear hseq
    unfold encE
    gi_wp2
    refine hK _ _ ((KeepsOthers.alloc _ _).from _) (Zr.KeepC.of_below ((Below.refl _ _).alloc (Nat.le_refl _) _)) ⟨hb.alloc hb.size _, q0.alloc _⟩ ⟨_, ⟨_, rfl⟩, Blk.new _ _ _⟩
  case body =>
    rintro l i ⟨xm, xs⟩ a' W hx' ⟨hb, q0⟩ ⟨q, ⟨u, rfl⟩, q6⟩
    clear hseq
    simp only at q6
    have hxm : xm.size ≤ 64 := HZ.out _ (List.mem_of_getElem? hx')
    have hst := szL_take hx'
    have hle := HLL.out i
    simp only at hst
    obtain ⟨c1, c2⟩ := facts1 q0
    obtain ⟨d0, d1, _⟩ := facts2 q6
    have Q0 := Lib.hid q0
    have HB := Lib.hid hb
    have HST := Lib.hid hst
    generalize szL (E.take i) = k at *
    clear q0 q6 hx' hb hst
    gi_wp2
    refine ⟨(KeepsOthers.setCell _ _ _).from _, Zr.KeepC.set _ _ _ _ (by simp), HB.out.setCell (p := ⟨w.heap.size, 0, none⟩) (Nat.le_refl _) _, ?_⟩
    rw [HST.out]
    have := Q0.out.set 0 (.int .i64 ((k + (64 + 2 * xm.size) : Nat) : Int))
    simp only [Int.natCast_add, Int.natCast_mul] at this ⊢
    exact this
  case done =>
    rintro D W hD ⟨hb, q0⟩ hK
    rw [List.take_length] at q0
    clear hseq
    obtain ⟨c1, c2⟩ := facts1 q0
    have HK := Lib.hid hK
    have HB := Lib.hid hb
    clear hK q0 hb
    simp only [Exit.inBlock, Exit.then]
    go_wp2
    exact Zr.leave (v := .int .i64 (szL E)) rfl HK.out (by simp [results, Tryz.results301, go_sem]) ⟨rfl, below_put HB.out (by omega) _⟩
  case stop =>
    rintro D c j W hD hI hK
    exact hI.elim
theorem bytes_l (h : LSet w s l p q D L m n le lm sd c E) : Calls Tryz.prog 26 #[.pointer (some ⟨s, 0, none⟩)] w fun e w' => e = .returned (.int .i64 (szL E)) ∧ Below w.heap.size w w' := by
  obtain ⟨⟨e0, _⟩, _⟩ := facts4 h.blk
  have hlen := h.len
  have hln := h.lenN
  have HB := Lib.hid (bytes_walk l E (by omega) (fun e he => (h.good.each e he).1) w fun W hb => Lib.hid (by have := l_thru (h.li.later hb) hln; rw [h.en] at this; exact this))
  clear h
  go_enter Tryz.func26, Tryz.ntmps26
  go_wp2_with fail
  refine HB.out.mono ?_
  rintro e w1 ⟨rfl, hb⟩
  go_wp2_with fail
  go_ret
  exact ⟨rfl, hb⟩
/-- A set's size. -/
def szS (isL : Bool) (E : List En) : Nat := if isL then szL E else (Pk.packB E).size
theorem set_bytes {S : Nat → Prop} {isL : Bool} (h : SetIs w s S isL le lm c E) : Calls Tryz.prog 26 #[.pointer (some ⟨s, 0, none⟩)] w fun e w' => e = .returned (.int .i64 (szS isL E)) ∧ Below w.heap.size w w' := by
  obtain ⟨sd, ⟨rfl, b, h, _⟩ | ⟨rfl, l, p, q, D, L, m, n, h, _⟩⟩ := h
  · exact (bytes_p h).mono fun _ _ ⟨he, hb⟩ => ⟨he, by rw [hb]; exact Below.refl _ _⟩
  · exact bytes_l h
end Go.Proofs.YtpfoicpnpgojdaaGreatDoor
/- What the reference's set tells: ranges, its form, its size. -/
namespace Go.Proofs.YtpfoicpnpgojdaaGreatDoor
open Go.RowKit Go.Shelf Sk
attribute [local go_sem] Oper.semAt_some

theorem row_empty (W : World) (n0 : Nat) (a : Option Addr) (c : Nat) : Row W n0 (.slice a 0 c) [] := ⟨⟨a, c, rfl⟩, fun i e h => by simp at h⟩
theorem Row.part {W : World} {n0 : Nat} {a : Option Addr} {c : Nat} {l : List En} (h : Row W n0 (.slice a l.length c) l) (F k : Nat) (hk : F + k ≤ l.length) (hk0 : 0 < k) (c' : Nat) :
    Row W n0 (.slice (a.map fun x => x.add (F * 2)) k c') ((l.drop F).take k) := by
  have hlen : ((l.drop F).take k).length = k := by simp; omega
  refine ⟨⟨_, c', by rw [hlen]⟩, fun i e he => ?_⟩
  have hi := (List.getElem?_eq_some_iff.1 he).1
  rw [hlen] at hi
  rw [List.getElem?_take_of_lt hi, List.getElem?_drop] at he
  obtain ⟨b, off, c2, cur, e1, e2, e3, e4, e5⟩ := h.at' (F + i) e he
  injection e1 with e1 _ _
  subst e1
  refine ⟨b, off + F * 2, c', cur, by rw [hlen]; simp [Addr.add_lit], e2, e3, ?_, ?_⟩
  · rw [← e4]; congr 2; omega
  · rw [← e5]; congr 2; omega
theorem sub_parts (E : List En) (f t : Int) (F T : Nat) (hF : max 0 (min f (E.length : Int)) = F) (hT : max (F : Int) (min t (E.length : Int)) = T) : F ≤ T ∧ T ≤ E.length ∧ (T = F → subE E f t = []) ∧ (F < T → subE E f t = (E.drop F).take (T - F)) := by
  refine ⟨by omega, by omega, fun h => ?_, fun h => ?_⟩
  · exact List.eq_nil_of_length_eq_zero (by rw [subE_len]; unfold t0 f0; omega)
  · unfold subE f0 t0
    obtain rfl : F = (max f 0).toNat := by omega
    obtain rfl : T = (min t E.length).toNat := by omega
    rfl

set_option maxRecDepth 100000 in
set_option maxHeartbeats 2000000 in
theorem ref_range {w : World} {r : Nat} {E : List En} {le lm : Int} {isL : Bool} (h : RefC w r E le lm isL) (hE : E.length ≤ 1000) (f t : Int) :
    Calls Tryz.prog 270 #[.pointer (some ⟨r, 0, none⟩), .int .i64 f, .int .i64 t] w fun e w' => ∃ v, e = .returned v ∧ Row w' 0 v (subE E f t) ∧ w' = w := by
  obtain ⟨a, c, hk, hc, hr⟩ := h.ex
  obtain ⟨F, hF⟩ : ∃ F : Nat, max 0 (min f (E.length : Int)) = F := ⟨(max 0 (min f (E.length : Int))).toNat, by omega⟩
  obtain ⟨T, hT⟩ : ∃ T : Nat, max (F : Int) (min t (E.length : Int)) = T := ⟨(max (F : Int) (min t (E.length : Int))).toNat, by omega⟩
  obtain ⟨hFT, hTE, hs1, hs2⟩ := sub_parts E f t F T hF hT
  have hk1 : (F : Int) ≤ c := by omega
  have hk2 : (T : Int) ≤ c := by omega
  have hk3 : (0 : Int) ≤ F := by omega
  have hk4 : (F : Int) ≤ T := by omega
  obtain ⟨⟨c0, c1, c2, c3⟩, f0⟩ := facts4 hk
  have FIN : Hid (∀ v, (v = .slice a (T - F) (c - F) ∧ c = F ∨ v = .slice (a.map fun x => x.add (F * 2)) (T - F) (c - F)) → Row w 0 v (subE E f t)) := Lib.hid fun v hv => by
    by_cases e : T = F
    · rw [hs1 e, show T - F = 0 by omega] at *
      rcases hv with ⟨rfl, _⟩ | rfl <;> exact row_empty _ _ _ _
    · rw [hs2 (by omega)]
      rcases hv with ⟨_, h⟩ | rfl
      · omega
      · exact hr.part F (T - F) (by omega) (by omega) _
  clear hk hr h hs1 hs2 hTE hE hFT
  by_cases hcf : c = F
  · have hcf2 : (c == F) = true := by simpa using hcf
    go_enter Tryz.func270, Tryz.ntmps270
    go_wp2
    all_goals (
      go_ret
      exact ⟨_, rfl, FIN.out _ (.inl ⟨by show Value.slice a (T - F) 0 = _; rw [hcf, Nat.sub_self], hcf⟩), rfl⟩)
  · have hcf2 : (c == F) = false := by simpa using hcf
    go_enter Tryz.func270, Tryz.ntmps270
    go_wp2
    all_goals (
      go_ret
      exact ⟨_, rfl, FIN.out _ (.inr rfl), rfl⟩)

theorem szP_take {E : List En} {i : Nat} {x : En} (h : E[i]? = some x) : (Pk.packB (E.take (i + 1))).size = (Pk.packB (E.take i)).size + (10 + x.1.size) := by
  obtain ⟨hi, he⟩ := List.getElem?_eq_some_iff.1 h
  rw [Pk.packB_size, Pk.packB_size, List.take_succ_eq_append_getElem hi, List.flatMap_append, List.length_append, he]
  simp only [List.flatMap_cons, List.flatMap_nil, List.append_nil, Pk.entB_length]
  omega
theorem szS_take {isL : Bool} {E : List En} {i : Nat} {x : En} (h : E[i]? = some x) : szS isL (E.take (i + 1)) = szS isL (E.take i) + (if isL then 64 + 2 * x.1.size else 10 + x.1.size) := by
  unfold szS
  cases isL
  · simpa using szP_take h
  · simpa using szL_take h
theorem szS_le {isL : Bool} {E : List En} (hE : E.length ≤ 1000) (hz : ∀ e ∈ E, e.1.size ≤ 64) (i : Nat) : szS isL (E.take i) ≤ 200000 := by
  have hz2 : ∀ e ∈ E.take i, e.1.size ≤ 64 := fun e he => hz e (List.mem_of_mem_take he)
  have hl : (E.take i).length ≤ 1000 := by simp; omega
  unfold szS
  split
  · have := szL_le hz2; omega
  · have := Pk.size_packB hz2 hl; omega
theorem szS_zero (isL : Bool) : szS isL [] = if isL then 0 else 2 := by cases isL <;> rfl

set_option maxRecDepth 100000 in
set_option maxHeartbeats 2000000 in
theorem ref_bytes {w : World} {r : Nat} {E : List En} {le lm : Int} {isL : Bool} (h : RefC w r E le lm isL) (hE : E.length ≤ 1000) (hz : ∀ e ∈ E, e.1.size ≤ 64) :
    Calls Tryz.prog 51 #[.pointer (some ⟨r, 0, none⟩)] w fun e w' => e = .returned (.int .i64 (szS isL E)) ∧ w' = w := by
  obtain ⟨a, c, hk, hc, hr⟩ := h.ex
  obtain ⟨⟨c0, c1, c2, c3⟩, f0⟩ := facts4 hk
  have HR := Lib.hid hr
  have HT := Lib.hid (fun i x (h : E[i]? = some x) => szS_take (isL := isL) h)
  have HLE := Lib.hid (szS_le (isL := isL) hE hz)
  have HZ := Lib.hid hz
  have HALL := Lib.hid (show szS isL (E.take E.length) = szS isL E by rw [List.take_length])
  have HZERO := Lib.hid (szS_zero isL)
  clear hk hr h hz
  cases isL
  all_goals
    go_enter Tryz.func51, Tryz.ntmps51
    go_wp2
    go_loopw [3, 4] (fun n i wr => ∃ (k : Nat), i = .int .i64 k ∧ k ≤ E.length ∧ n = .int .i64 (szS _ (E.take k) : Nat) ∧ wr = w) (fun _ i _ => E.length - (intOf i).toNat)
    case atStart => exact ⟨0, rfl, by omega, by rw [List.take_zero, HZERO.out]; rfl, rfl⟩
    case round =>
      obtain ⟨k, rfl, hk, rfl, rfl⟩ := hrel
      have hle := HLE.out k
      by_cases hlt : k < E.length
      · have hx : E[k]? = some E[k] := List.getElem?_eq_getElem hlt
        have HST := Lib.hid (HT.out k _ hx)
        have hxm := HZ.out _ (List.getElem_mem hlt)
        generalize E[k] = x at *
        obtain ⟨b, off, c', e1, g0, g1⟩ := row_cells HR.out hx
        injection e1 with e1 _ e2
        subst e1
        subst e2
        have hk2 : (k : Int) < E.length := by omega
        generalize szS _ (E.take k) = n at *
        clear hx
        go_wp2
        go_roundw
        case rel => exact ⟨k + 1, by go_num, hlt, by rw [HST.out]; simp; omega, trivial⟩
        case measure => simp [intOf]; omega
      · obtain rfl : k = E.length := by omega
        have hk2 : ¬ (E.length : Int) < E.length := by omega
        rw [HALL.out] at *
        go_wp2
        go_ret
        exact ⟨rfl, rfl⟩
end Go.Proofs.YtpfoicpnpgojdaaGreatDoor
