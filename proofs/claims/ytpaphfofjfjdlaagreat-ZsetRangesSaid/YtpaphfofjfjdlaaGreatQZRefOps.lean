/- The reference's set: taking out, cutting, putting in. -/
import Derived.Test.YtpaphfofjfjdlaaGreatQZRef
namespace Go.Proofs.YtpaphfofjfjdlaaGreat
open Go.RowKit Go.Shelf Sk
attribute [local go_sem] Oper.semAt_some

/-- The reference's set, its cells told. -/
structure RefC (W : World) (r : Nat) (E : List En) (le lm : Int) (isL : Bool) : Prop where
  ex : ∃ a c, Blk W r 37 #[.slice a E.length c, .int .i64 le, .int .i64 lm, .bool isL] ∧ E.length ≤ c ∧ Row W 0 (.slice a E.length c) E
theorem RefC.far {S : Nat → Prop} {W W' : World} {r : Nat} {E : List En} {le lm : Int} {isL : Bool} (h : RefC W r E le lm isL) (hf : Far S W W') (hr : ¬ S r) (h48 : ∀ k cur, Blk W k 48 cur → ¬ S k) : RefC W' r E le lm isL := by
  obtain ⟨a, c, h1, h2, h3⟩ := h.ex
  exact ⟨a, c, hf.blk h1 hr, h2, h3.far hf fun k cur _ hk => h48 k cur hk⟩
theorem RefC.later {W W' : World} {r : Nat} {E : List En} {le lm : Int} {isL : Bool} (h : RefC W r E le lm isL) (hb : Below W.heap.size W W') : RefC W' r E le lm isL := h.far (S := fun _ => False) (Far.of_below hb) (fun h => h) (fun _ _ _ h => h)
/-- A new row of one's own in the set's first cell. -/
theorem RefC.put {W w0 : World} {r n0 : Nat} {v x : Value} {E : List En} {le lm : Int} {isL : Bool} (hk : Blk W r 37 #[x, .int .i64 le, .int .i64 lm, .bool isL]) (ho : Own48 W n0 v E) (hf : Far (fun k => k = r) w0 W) :
    RefC (W.setCell ⟨r, 0, none⟩ v) r E le lm isL ∧ Far (fun k => k = r) w0 (W.setCell ⟨r, 0, none⟩ v) := by
  obtain ⟨a, c, rfl, hc⟩ := own_slice ho
  refine ⟨⟨a, c, ?_, hc, ?_⟩, hf.set _ _ (.inl rfl)⟩
  · have := hk.set 0 (.slice a E.length c)
    simpa using this
  · refine ((own_row ho).mono (Nat.zero_le _)).far (far_set (S := fun k => k = r) W r 0 _ rfl) fun k cur _ h e => ?_
    subst e
    exact absurd (h.ty hk) (by decide)

theorem where_none {E : List En} {m : ByteArray} (h : whE E m = none) : Pk.whereS E m = -1 := by
  unfold Pk.whereS
  rw [List.findIdx?_eq_none_iff.2 fun x hx => by simpa using whE_none h x hx]
theorem where_some {E : List En} (hd : Dist E) {m : ByteArray} {i : Nat} (h : whE E m = some i) : Pk.whereS E m = i ∧ i < E.length ∧ rmE E m = E.take i ++ E.drop (i + 1) := by
  obtain ⟨s, hx⟩ := whE_some h
  obtain ⟨hi, he⟩ := List.getElem?_eq_some_iff.1 hx
  refine ⟨?_, hi, rmE_at hd hx⟩
  unfold Pk.whereS
  rw [List.findIdx?_eq_some_iff_getElem.2 ⟨hi, by rw [he]; simp, fun j hj => by
    have hne : E[j].1 ≠ m := fun e => by
      have := whE_at hd (List.getElem?_eq_getElem (show j < E.length by omega))
      rw [e, h] at this
      injection this with this
      omega
    simpa using hne⟩]

set_option maxHeartbeats 1000000 in
theorem ref_remove {w : World} {r : Nat} {E : List En} {le lm : Int} {isL : Bool} (h : RefC w r E le lm isL) (hd : Dist E) (hE : E.length ≤ 1000) (m : ByteArray) :
    Calls Tryz.prog 37 #[.pointer (some ⟨r, 0, none⟩), .string m] w fun e w' => e = .returned (.bool (hasE E m)) ∧ RefC w' r (rmE E m) le lm isL ∧ Far (fun k => k = r) w w' := by
  obtain ⟨a, c, hk, hc, hr⟩ := h.ex
  have HF := Lib.hid (ref_find a c E (by omega) m w hr)
  obtain ⟨⟨c0, c1, c2, c3⟩, f0⟩ := facts4 hk
  have HH := Lib.hid h
  have hhas := hasE_wh E m
  cases hw : whE E m with
  | none =>
    rw [where_none hw] at HF
    rw [hw] at hhas
    have HN := Lib.hid (rmE_none (whE_none hw))
    clear hk hr hw h
    go_enter Tryz.func37, Tryz.ntmps37
    go_wp2_with fail
    refine HF.out.mono ?_
    rintro e w1 ⟨rfl, rfl⟩
    clear HF
    go_wp2_with fail
    go_returns
    exact ⟨by rw [hhas]; rfl, by rw [HN.out]; exact HH.out, Far.refl _ _⟩
  | some i =>
    obtain ⟨e1, hi, e2⟩ := where_some hd hw
    rw [e1] at HF
    rw [hw] at hhas
    have HD := Lib.hid (Pk.refDelete_any a c E hE hc i hi w (row_ents hr))
    rw [← e2] at HD
    have HK := Lib.hid hk
    clear hk hr hw h e1 e2
    go_enter Tryz.func37, Tryz.ntmps37
    go_wp2_with fail
    refine HF.out.mono ?_
    rintro e w1 ⟨rfl, rfl⟩
    clear HF
    go_wp2_with fail
    refine HD.out.mono ?_
    rintro e w2 ⟨v, rfl, ho, hb⟩
    have k2 := HK.out.later hb
    have HR2 := Lib.hid (RefC.put (x := .slice a E.length c) (w0 := w1) k2 (show Own48 w2 w1.heap.size v (rmE E m) from ho) (Far.of_below hb))
    obtain ⟨⟨d0, _, _, _⟩, g0⟩ := facts4 k2
    obtain ⟨a', c', rfl, _⟩ := own_slice (l := rmE E m) ho
    clear c0 c1 c2 c3 f0 ho hb k2 HD HK HH
    go_wp2_with fail
    go_returns
    exact ⟨by rw [hhas]; rfl, HR2.out.1, HR2.out.2⟩
theorem cut_parts (E : List En) (f t : Int) (F T : Nat) (hF : max 0 (min f (E.length : Int)) = F) (hT : max (F : Int) (min t (E.length : Int)) = T) : E.take F ++ E.drop T = cutE E f t ∧ ((T : Int) - F = (subE E f t).length) ∧ F ≤ T ∧ T ≤ E.length := by
  rw [subE_len]
  unfold cutE f0 t0
  by_cases h : (max f 0).toNat < (min t E.length).toNat
  · rw [if_pos h]
    obtain rfl : F = (max f 0).toNat := by omega
    obtain rfl : T = (min t E.length).toNat := by omega
    exact ⟨rfl, by omega, by omega, by omega⟩
  · rw [if_neg h]
    obtain rfl : T = F := by omega
    exact ⟨List.take_append_drop _ _, by omega, by omega, by omega⟩

set_option maxRecDepth 100000 in
set_option maxHeartbeats 2000000 in
theorem ref_cut {w : World} {r : Nat} {E : List En} {le lm : Int} {isL : Bool} (h : RefC w r E le lm isL) (hE : E.length ≤ 1000) (f t : Int) :
    Calls Tryz.prog 38 #[.pointer (some ⟨r, 0, none⟩), .int .i64 f, .int .i64 t] w fun e w' => e = .returned (.int .i64 (subE E f t).length) ∧ RefC w' r (cutE E f t) le lm isL ∧ Far (fun k => k = r) w w' := by
  obtain ⟨a, c, hk, hc, hr⟩ := h.ex
  obtain ⟨F, hF⟩ : ∃ F : Nat, max 0 (min f (E.length : Int)) = F := ⟨(max 0 (min f (E.length : Int))).toNat, by omega⟩
  obtain ⟨T, hT⟩ : ∃ T : Nat, max (F : Int) (min t (E.length : Int)) = T := ⟨(max (F : Int) (min t (E.length : Int))).toNat, by omega⟩
  obtain ⟨hcut, hsub, hFT, hTE⟩ := cut_parts E f t F T hF hT
  rw [← hsub]
  have hwr : IntKind.i64.wrap ((T : Int) - F) = (T : Int) - F := IntWalk.i64_in _ (by omega)
  have hk1 : (F : Int) ≤ c := by omega
  have hk2 : (T : Int) ≤ E.length := by omega
  have hk3 : (0 : Int) ≤ F := by omega
  have hk4 : (0 : Int) ≤ T := by omega
  have ho0 : Own48 w w.heap.size (.slice none 0 0) [] := World.ownsRow_nil _ _ _ _
  obtain ⟨⟨c0, c1, c2, c3⟩, f0⟩ := facts4 hk
  have HE := Lib.hid (row_ents hr)
  have HT := Lib.hid (show (E.take F).length = F by simp; omega)
  have HDL := Lib.hid (show (E.drop T).length = E.length - T from List.length_drop)
  have HD := Lib.hid (HE.out.drop T c hc)
  have HK := Lib.hid hk
  have HC := Lib.hid hcut
  clear hk hr h hcut hsub
  go_enter Tryz.func38, Tryz.ntmps38
  go_wp2_with (first
    | (at_builtin
       refine Pk.wpList_app_list rfl (.tmp 25) (.tmp 31) rfl rfl (n0 := w.heap.size) (r := .slice none 0 0) (l := []) (xs := E.take F) (ad := a) (m := F) rfl rfl HT.out.symm ho0 (HE.out.take F) (by simp) (by rw [HT.out]; omega) (Nat.le_refl _) ?_
       rintro v1 w1 ho1 hg1
       have hb1 : Below w.heap.size w w1 := (Below.refl _ _).grown hg1 (Nat.le_refl _) (by simp [Value.ownBlock])
       have HB1 := Lib.hid hb1
       have HO1 := Lib.hid ho1
       obtain ⟨⟨d0, _, _, _⟩, g0⟩ := facts4 (HK.out.later hb1)
       clear hb1 ho1 hg1)
    | (at_builtin
       refine Pk.wpList_app_list rfl (.tmp 34) (.tmp 40) rfl rfl (n0 := w.heap.size) (r := v1) (l := [] ++ E.take F) (xs := E.drop T) (ad := if c = T then a else a.map (fun x => x.add (T * 2))) (m := E.length - T) rfl rfl HDL.out.symm HO1.out (HD.out.below HB1.out) (by simp; omega) (by rw [HDL.out]; omega) HB1.out.size ?_
       rintro v2 w2 ho2 hg2
       have hb2 : Below w.heap.size w w2 := HB1.out.grown hg2 HB1.out.size (fun k e => (World.ownsRow.lt HO1.out k e).1)
       have k2 := HK.out.later hb2
       have HR2 := Lib.hid (RefC.put (x := .slice a E.length c) (w0 := w) k2 (show Own48 w2 w.heap.size v2 (cutE E f t) from HC.out ▸ ho2) (Far.of_below hb2))
       obtain ⟨⟨e0, _, _, _⟩, q0⟩ := facts4 k2
       obtain ⟨a', c', hv, _⟩ := own_slice (l := _) ho2
       generalize List.length _ = N at hv
       subst hv
       clear hb2 ho2 hg2 k2))
  all_goals (
    go_returns
    exact ⟨rfl, HR2.out.1, HR2.out.2⟩)
end Go.Proofs.YtpaphfofjfjdlaaGreat
