/- The laws of stage 9, walked. -/
import Derived.Test.YtfnofnilcflcmaaShown
namespace Go.Proofs.Ytfnofnilcflcmaa
open Go.RowKit
attribute [local go_sem] Oper.semAt_some

def Cells2 (W : World) (b : Nat) (c0 c1 : Value) : Prop := W.cell? ⟨b, 0, none⟩ = some c0 ∧ W.cell? ⟨b, 1, none⟩ = some c1
theorem Cells2.later {W W' : World} {b : Nat} {c0 c1 : Value} (h : Cells2 W b c0 c1) (hb : Below W.heap.size W W') : Cells2 W' b c0 c1 :=
  ⟨(hb.cell (p := ⟨b, 0, none⟩) (World.block_lt_of_cell? W _ h.1)).trans h.1, (hb.cell (p := ⟨b, 1, none⟩) (World.block_lt_of_cell? W _ h.2)).trans h.2⟩
theorem Cells2.new (W : World) (c0 c1 : Value) (t : TypeId) : Cells2 (W.alloc (.cells #[c0, c1] t)) W.heap.size c0 c1 := ent2
theorem World.size_alloc (W : World) (o : Obj) : (W.alloc o).heap.size = W.heap.size + 1 := by simp

set_option maxRecDepth 100000 in
set_option maxHeartbeats 4000000 in
theorem in_walk (n a b : Int) (oa ob : Bool) (ia ib : Int) (m m' : ByteArray) (hm : m.size ≤ 281474976710656) (hm' : m'.size ≤ 281474976710656) (s s' : Int) (w : World) : Calls Try.prog 5 #[.int .i64 n, .agg #[.int .i64 a, .bool oa, .int .i64 ia], .agg #[.int .i64 b, .bool ob, .int .i64 ib], .agg #[.string m, .int .i64 s], .agg #[.string m', .int .i64 s']] w fun e w' => e = .returned (.bool true) ∧ Below w.heap.size w w' := by
  have HS := fun w => Lib.hid (shown_any w)
  have G1 := fun w => in_any n a b oa ob ia ib w
  rw [inB_eq] at G1
  have G2 := fun w => refIn_any n a b oa ob ia ib w
  generalize (fromR n a oa ia && toR n b ob ib) = c at G1 G2
  have G3 := fun w => less23 m m' s s' w
  have G4 := fun w => less24 m m' hm hm' s s' w
  generalize lessE m s m' s' = d at G3 G4
  have H1 := fun w => Lib.hid (G1 w)
  have H2 := fun w => Lib.hid (G2 w)
  have H3 := fun w => Lib.hid (G3 w)
  have H4 := fun w => Lib.hid (G4 w)
  clear G1 G2 G3 G4 hm hm'
  obtain ⟨W, hW⟩ : ∃ W, W = ((((w.alloc (.cells #[.int .i64 a, .bool oa, .int .i64 ia] 23)).alloc (.cells #[.int .i64 b, .bool ob, .int .i64 ib] 23)).alloc (.cells #[.string m, .int .i64 s] 39)).alloc (.cells #[.string m', .int .i64 s'] 39)) := ⟨_, rfl⟩
  have k0 := Cells3.new w (.int .i64 a) (.bool oa) (.int .i64 ia) 23
  have hB := below_new w (.cells #[.int .i64 a, .bool oa, .int .i64 ia] 23)
  have k1 := Cells3.new (w.alloc (.cells #[.int .i64 a, .bool oa, .int .i64 ia] 23)) (.int .i64 b) (.bool ob) (.int .i64 ib) 23
  replace k0 := k0.later (below_new (w.alloc (.cells #[.int .i64 a, .bool oa, .int .i64 ia] 23)) (.cells #[.int .i64 b, .bool ob, .int .i64 ib] 23))
  replace hB := below_trans hB (below_new (w.alloc (.cells #[.int .i64 a, .bool oa, .int .i64 ia] 23)) (.cells #[.int .i64 b, .bool ob, .int .i64 ib] 23))
  have k2 := Cells2.new ((w.alloc (.cells #[.int .i64 a, .bool oa, .int .i64 ia] 23)).alloc (.cells #[.int .i64 b, .bool ob, .int .i64 ib] 23)) (.string m) (.int .i64 s) 39
  replace k0 := k0.later (below_new ((w.alloc (.cells #[.int .i64 a, .bool oa, .int .i64 ia] 23)).alloc (.cells #[.int .i64 b, .bool ob, .int .i64 ib] 23)) (.cells #[.string m, .int .i64 s] 39))
  replace k1 := k1.later (below_new ((w.alloc (.cells #[.int .i64 a, .bool oa, .int .i64 ia] 23)).alloc (.cells #[.int .i64 b, .bool ob, .int .i64 ib] 23)) (.cells #[.string m, .int .i64 s] 39))
  replace hB := below_trans hB (below_new ((w.alloc (.cells #[.int .i64 a, .bool oa, .int .i64 ia] 23)).alloc (.cells #[.int .i64 b, .bool ob, .int .i64 ib] 23)) (.cells #[.string m, .int .i64 s] 39))
  have k3 := Cells2.new (((w.alloc (.cells #[.int .i64 a, .bool oa, .int .i64 ia] 23)).alloc (.cells #[.int .i64 b, .bool ob, .int .i64 ib] 23)).alloc (.cells #[.string m, .int .i64 s] 39)) (.string m') (.int .i64 s') 39
  replace k0 := k0.later (below_new (((w.alloc (.cells #[.int .i64 a, .bool oa, .int .i64 ia] 23)).alloc (.cells #[.int .i64 b, .bool ob, .int .i64 ib] 23)).alloc (.cells #[.string m, .int .i64 s] 39)) (.cells #[.string m', .int .i64 s'] 39))
  replace k1 := k1.later (below_new (((w.alloc (.cells #[.int .i64 a, .bool oa, .int .i64 ia] 23)).alloc (.cells #[.int .i64 b, .bool ob, .int .i64 ib] 23)).alloc (.cells #[.string m, .int .i64 s] 39)) (.cells #[.string m', .int .i64 s'] 39))
  replace k2 := k2.later (below_new (((w.alloc (.cells #[.int .i64 a, .bool oa, .int .i64 ia] 23)).alloc (.cells #[.int .i64 b, .bool ob, .int .i64 ib] 23)).alloc (.cells #[.string m, .int .i64 s] 39)) (.cells #[.string m', .int .i64 s'] 39))
  replace hB := below_trans hB (below_new (((w.alloc (.cells #[.int .i64 a, .bool oa, .int .i64 ia] 23)).alloc (.cells #[.int .i64 b, .bool ob, .int .i64 ib] 23)).alloc (.cells #[.string m, .int .i64 s] 39)) (.cells #[.string m', .int .i64 s'] 39))
  rw [← hW] at hB k0 k1 k2 k3
  simp only [World.size_alloc] at k0 k1 k2 k3
  have HW := Lib.hid hW
  clear hW
  go_enter Try.func5, Try.ntmps5
  go_wp2_with fail
  rw [← HW.out]
  refine (HS _).out.mono ?_
  rintro e w1 ⟨rfl, hb1⟩
  replace k0 := k0.later hb1
  replace k1 := k1.later hb1
  replace k2 := k2.later hb1
  replace k3 := k3.later hb1
  replace hB := below_trans hB hb1
  clear hb1 HW
  go_wp2_with fail
  have q00 := fun x : Ext w1 => x.cell k0.1
  have q01 := fun x : Ext w1 => x.cell k0.2.1
  have q02 := fun x : Ext w1 => x.cell k0.2.2
  have q10 := fun x : Ext w1 => x.cell k1.1
  have q11 := fun x : Ext w1 => x.cell k1.2.1
  have q12 := fun x : Ext w1 => x.cell k1.2.2
  have q20 := fun x : Ext w1 => x.cell k2.1
  have q21 := fun x : Ext w1 => x.cell k2.2
  have q30 := fun x : Ext w1 => x.cell k3.1
  have q31 := fun x : Ext w1 => x.cell k3.2
  have hne := Ext.one w1
  refine region_ext (w1 := w1) (by kernel_rfl) (by kernel_rfl) (Below.refl _ _) ?_
  repeat go_big_quiet_step ((first | (go_at_call 21; exact Ext.call _ (H1 _).out) | (go_at_call 22; exact Ext.call _ (H2 _).out) | (go_at_call 23; exact Ext.call _ (H3 _).out) | (go_at_call 24; exact Ext.call _ (H4 _).out)))
  refine wpQuiet_nil ?_
  rintro _ ⟨x, rfl⟩
  go_wp2_with fail
  go_ret
  exact ⟨rfl, below_trans hB x.ok⟩

set_option maxRecDepth 100000 in
set_option maxHeartbeats 4000000 in
theorem members_walk (n a b : ByteArray) (hn : n.size ≤ 281474976710656) (ha : a.size ≤ 281474976710656) (hb : b.size ≤ 281474976710656) (oa ob : Bool) (ia ib : Int) (w : World) : Calls Try.prog 6 #[.string n, .agg #[.string a, .bool oa, .int .i64 ia], .agg #[.string b, .bool ob, .int .i64 ib]] w fun e w' => e = .returned (.bool true) ∧ Below w.heap.size w w' := by
  have HS := fun w => Lib.hid (shown_any w)
  have G1 := fun w => inEdge_any n a b oa ob ia ib w
  rw [inEdgeB_eq] at G1
  have G2 := fun w => refInEdge_any n a b hn ha hb oa ob ia ib w
  generalize (fromRE n a oa ia && toRE n b ob ib) = c at G1 G2
  have H1 := fun w => Lib.hid (G1 w)
  have H2 := fun w => Lib.hid (G2 w)
  clear G1 G2 hn ha hb
  obtain ⟨W, hW⟩ : ∃ W, W = ((w.alloc (.cells #[.string a, .bool oa, .int .i64 ia] 33)).alloc (.cells #[.string b, .bool ob, .int .i64 ib] 33)) := ⟨_, rfl⟩
  have k0 := Cells3.new w (.string a) (.bool oa) (.int .i64 ia) 33
  have hB := below_new w (.cells #[.string a, .bool oa, .int .i64 ia] 33)
  have k1 := Cells3.new (w.alloc (.cells #[.string a, .bool oa, .int .i64 ia] 33)) (.string b) (.bool ob) (.int .i64 ib) 33
  replace k0 := k0.later (below_new (w.alloc (.cells #[.string a, .bool oa, .int .i64 ia] 33)) (.cells #[.string b, .bool ob, .int .i64 ib] 33))
  replace hB := below_trans hB (below_new (w.alloc (.cells #[.string a, .bool oa, .int .i64 ia] 33)) (.cells #[.string b, .bool ob, .int .i64 ib] 33))
  rw [← hW] at hB k0 k1
  simp only [World.size_alloc] at k0 k1
  have HW := Lib.hid hW
  clear hW
  go_enter Try.func6, Try.ntmps6
  go_wp2_with fail
  rw [← HW.out]
  refine (HS _).out.mono ?_
  rintro e w1 ⟨rfl, hb1⟩
  replace k0 := k0.later hb1
  replace k1 := k1.later hb1
  replace hB := below_trans hB hb1
  clear hb1 HW
  go_wp2_with fail
  have q00 := fun x : Ext w1 => x.cell k0.1
  have q01 := fun x : Ext w1 => x.cell k0.2.1
  have q02 := fun x : Ext w1 => x.cell k0.2.2
  have q10 := fun x : Ext w1 => x.cell k1.1
  have q11 := fun x : Ext w1 => x.cell k1.2.1
  have q12 := fun x : Ext w1 => x.cell k1.2.2
  have hne := Ext.one w1
  refine region_ext (w1 := w1) (by kernel_rfl) (by kernel_rfl) (Below.refl _ _) ?_
  repeat go_big_quiet_step ((first | (go_at_call 25; exact Ext.call _ (H1 _).out) | (go_at_call 26; exact Ext.call _ (H2 _).out)))
  refine wpQuiet_nil ?_
  rintro _ ⟨x, rfl⟩
  go_wp2_with fail
  go_ret
  exact ⟨rfl, below_trans hB x.ok⟩

theorem in_once (n a : Int) (o o' : Bool) : (fromR n a o 0 && toR n a o' 0) = (decide (n = a) && !o && !o') := by
  rw [Bool.eq_iff_iff]; cases o <;> cases o' <;> simp [fromR, toR] <;> omega
theorem in_never (n a b : Int) (h : b < a) (o o' : Bool) : (fromR n a o 0 && toR n b o' 0) = false := by
  rw [Bool.eq_false_iff]; cases o <;> cases o' <;> simp [fromR, toR] <;> omega

set_option maxRecDepth 100000 in
set_option maxHeartbeats 4000000 in
theorem none_walk (n a b : Int) (out off : Bool) (w : World) : Calls Try.prog 10 #[.int .i64 n, .int .i64 a, .int .i64 b, .bool out, .bool off] w fun e w' => e = .returned (.bool true) ∧ Below w.heap.size w w' := by
  have HS := fun w => Lib.hid (shown_any w)
  by_cases hab : a ≤ b
  · have G1 := fun w => in_any n a a out off 0 0 w
    rw [inB_eq, in_once] at G1
    by_cases hn : n = a
    · have e1 : (n == a) = true := by simpa using hn
      have e2 : decide (n = a) = true := by simpa using hn
      rw [e2] at G1
      clear hn e2
      cases out <;> cases off
      all_goals
        simp only [Bool.and_true, Bool.and_false, Bool.not_true, Bool.not_false] at G1
        have H1 := fun w => Lib.hid (G1 w)
        clear G1
        go_enter Try.func10, Try.ntmps10
        go_wp2_with fail
        refine (HS _).out.mono ?_
        rintro e w1 ⟨rfl, hb1⟩
        go_wp2_with fail
        refine (H1 _).out.mono ?_
        rintro e w2 ⟨rfl, hb2⟩
        go_wp2_with fail
        go_ret
        exact ⟨rfl, below_trans hb1 hb2⟩
    · have e1 : (n == a) = false := by simpa using hn
      have e2 : decide (n = a) = false := by simpa using hn
      rw [e2] at G1
      clear hn e2
      simp only [Bool.false_and] at G1
      have H1 := fun w => Lib.hid (G1 w)
      clear G1
      go_enter Try.func10, Try.ntmps10
      go_wp2_with fail
      refine (HS _).out.mono ?_
      rintro e w1 ⟨rfl, hb1⟩
      go_wp2_with fail
      refine (H1 _).out.mono ?_
      rintro e w2 ⟨rfl, hb2⟩
      go_wp2_with fail
      go_ret
      exact ⟨rfl, below_trans hb1 hb2⟩
  · have G1 := fun w => in_any n a b out off 0 0 w
    rw [inB_eq, in_never _ _ _ (by omega)] at G1
    have H1 := fun w => Lib.hid (G1 w)
    clear G1
    go_enter Try.func10, Try.ntmps10
    go_wp2_with fail
    refine (HS _).out.mono ?_
    rintro e w1 ⟨rfl, hb1⟩
    go_wp2_with fail
    refine (H1 _).out.mono ?_
    rintro e w2 ⟨rfl, hb2⟩
    go_wp2_with fail
    go_ret
    exact ⟨rfl, below_trans hb1 hb2⟩

theorem lt_tr {a b c : List UInt8} (h : a < b) (g : b < c) : a < c := List.lt_trans h g
theorem less_facts (a b c : ByteArray) (s t u : Int) : ¬ (lessE a s b t = true ∧ lessE b t a s = true) ∧ ((lessE a s b t || lessE b t a s) = !(decide (a = b) && decide (s = t))) ∧ (lessE a s b t = true → lessE b t c u = true → lessE a s c u = true) := by
  refine ⟨?_, ?_, ?_⟩
  · simp only [lessE, decide_eq_true_eq]
    rintro ⟨h | ⟨h, h'⟩, g | ⟨g, g'⟩⟩ <;> first | omega | exact List.lt_asymm h' g'
  · rw [Bool.eq_iff_iff]
    simp only [lessE, Bool.or_eq_true, decide_eq_true_eq, Bool.not_eq_true', Bool.and_eq_false_iff, decide_eq_false_iff_not]
    constructor
    · rintro ((h | ⟨h, h'⟩) | (h | ⟨h, h'⟩))
      · exact .inr (by omega)
      · exact .inl fun e => by subst e; exact List.lt_irrefl _ h'
      · exact .inr (by omega)
      · exact .inl fun e => by subst e; exact List.lt_irrefl _ h'
    · intro h
      by_cases hs : s = t
      · subst hs
        rcases lt_tri a.data.toList b.data.toList with h' | h' | h'
        · exact .inl (.inr ⟨rfl, h'⟩)
        · exact absurd (by cases a; cases b; simp_all [Array.toList_inj]) (h.resolve_right (by simp))
        · exact .inr (.inr ⟨rfl, h'⟩)
      · rcases Int.lt_or_gt_of_ne hs with g | g
        · exact .inl (.inl g)
        · exact .inr (.inl g)
  · simp only [lessE, decide_eq_true_eq]
    rintro (h | ⟨h, h'⟩) (g | ⟨g, g'⟩)
    · exact .inl (by omega)
    · exact .inl (by omega)
    · exact .inl (by omega)
    · exact .inr ⟨by omega, lt_tr h' g'⟩

set_option maxRecDepth 100000 in
set_option maxHeartbeats 4000000 in
theorem order_walk (a b c : ByteArray) (s t u : Int) (w : World) : Calls Try.prog 9 #[.agg #[.string a, .int .i64 s], .agg #[.string b, .int .i64 t], .agg #[.string c, .int .i64 u]] w fun e w' => e = .returned (.bool true) ∧ Below w.heap.size w w' := by
  have HS := fun w => Lib.hid (shown_any w)
  obtain ⟨f1, f2, f3⟩ := less_facts a b c s t u
  have G1 := fun w => less23 a b s t w
  have G2 := fun w => less23 b a t s w
  have G3 := fun w => less23 b c t u w
  have G4 := fun w => less23 a c s u w
  generalize lessE a s b t = x at *
  generalize lessE b t a s = y at *
  generalize lessE b t c u = z at *
  generalize lessE a s c u = v at *
  have H1 := fun w => Lib.hid (G1 w)
  have H2 := fun w => Lib.hid (G2 w)
  have H3 := fun w => Lib.hid (G3 w)
  have H4 := fun w => Lib.hid (G4 w)
  clear G1 G2 G3 G4
  have F1 := Lib.hid f1
  have F2 := Lib.hid f2
  have F3 := Lib.hid f3
  clear f1 f2 f3
  obtain ⟨W, hW⟩ : ∃ W, W = (((w.alloc (.cells #[.string a, .int .i64 s] 39)).alloc (.cells #[.string b, .int .i64 t] 39)).alloc (.cells #[.string c, .int .i64 u] 39)) := ⟨_, rfl⟩
  have k0 := Cells2.new w (.string a) (.int .i64 s) 39
  have hB := below_new w (.cells #[.string a, .int .i64 s] 39)
  have k1 := Cells2.new (w.alloc (.cells #[.string a, .int .i64 s] 39)) (.string b) (.int .i64 t) 39
  replace k0 := k0.later (below_new (w.alloc (.cells #[.string a, .int .i64 s] 39)) (.cells #[.string b, .int .i64 t] 39))
  replace hB := below_trans hB (below_new (w.alloc (.cells #[.string a, .int .i64 s] 39)) (.cells #[.string b, .int .i64 t] 39))
  have k2 := Cells2.new ((w.alloc (.cells #[.string a, .int .i64 s] 39)).alloc (.cells #[.string b, .int .i64 t] 39)) (.string c) (.int .i64 u) 39
  replace k0 := k0.later (below_new ((w.alloc (.cells #[.string a, .int .i64 s] 39)).alloc (.cells #[.string b, .int .i64 t] 39)) (.cells #[.string c, .int .i64 u] 39))
  replace k1 := k1.later (below_new ((w.alloc (.cells #[.string a, .int .i64 s] 39)).alloc (.cells #[.string b, .int .i64 t] 39)) (.cells #[.string c, .int .i64 u] 39))
  replace hB := below_trans hB (below_new ((w.alloc (.cells #[.string a, .int .i64 s] 39)).alloc (.cells #[.string b, .int .i64 t] 39)) (.cells #[.string c, .int .i64 u] 39))
  rw [← hW] at hB k0 k1 k2
  simp only [World.size_alloc] at k0 k1 k2
  have HW := Lib.hid hW
  clear hW
  have HC : Hid ((a = b ∧ s = t ∧ x = false ∧ y = false) ∨ (¬ a.toList = b.toList ∨ ¬ s = t) ∧ (x = false ∧ y = true ∨ x = true ∧ y = false ∧ z = false ∨ x = true ∧ y = false ∧ z = true ∧ v = true)) := by
    refine Lib.hid ?_
    have f1 := F1.out
    have f2 := F2.out
    have f3 := F3.out
    by_cases h : a = b ∧ s = t
    · obtain ⟨rfl, rfl⟩ := h; simp at f2; exact .inl ⟨rfl, rfl, f2⟩
    · refine .inr ⟨?_, ?_⟩
      · by_cases hs : s = t
        · exact .inl fun e => h ⟨toList_inj e, hs⟩
        · exact .inr hs
      · have : (x || y) = true := by rw [f2]; simp; by_cases e : a = b; exact .inr fun e' => h ⟨e, e'⟩; exact .inl e
        cases x <;> cases y <;> cases z <;> cases v <;> simp_all
  clear F1 F2 F3
  rcases HC.out with ⟨rfl, rfl, rfl, rfl⟩ | ⟨hne | hne, ⟨rfl, rfl⟩ | ⟨rfl, rfl, rfl⟩ | ⟨rfl, rfl, rfl, rfl⟩⟩
  all_goals clear HC
  · go_enter Try.func9, Try.ntmps9
    go_wp2_with fail
    rw [← HW.out]
    clear HW
    refine (HS _).out.mono ?_
    rintro e w1 ⟨rfl, hb1⟩
    replace k0 := k0.later hb1
    replace k1 := k1.later hb1
    replace k2 := k2.later hb1
    replace hB := below_trans hB hb1
    clear hb1
    obtain ⟨a0, a1⟩ := id k0
    obtain ⟨b0, b1⟩ := id k1
    obtain ⟨c0, c1⟩ := id k2
    go_wp2_with fail
    refine (H1 _).out.mono ?_
    rintro e w2 ⟨rfl, hb2⟩
    replace k0 := k0.later hb2
    replace k1 := k1.later hb2
    replace k2 := k2.later hb2
    replace hB := below_trans hB hb2
    clear hb2
    clear a0 a1 b0 b1 c0 c1
    obtain ⟨a0, a1⟩ := id k0
    obtain ⟨b0, b1⟩ := id k1
    obtain ⟨c0, c1⟩ := id k2
    go_wp2_with fail
    refine (H2 _).out.mono ?_
    rintro e w3 ⟨rfl, hb3⟩
    replace k0 := k0.later hb3
    replace k1 := k1.later hb3
    replace k2 := k2.later hb3
    replace hB := below_trans hB hb3
    clear hb3
    clear a0 a1 b0 b1 c0 c1
    obtain ⟨a0, a1⟩ := id k0
    obtain ⟨b0, b1⟩ := id k1
    obtain ⟨c0, c1⟩ := id k2
    go_wp2_with fail
    all_goals go_ret
    all_goals exact ⟨rfl, hB⟩
  · go_enter Try.func9, Try.ntmps9
    go_wp2_with fail
    rw [← HW.out]
    clear HW
    refine (HS _).out.mono ?_
    rintro e w1 ⟨rfl, hb1⟩
    replace k0 := k0.later hb1
    replace k1 := k1.later hb1
    replace k2 := k2.later hb1
    replace hB := below_trans hB hb1
    clear hb1
    obtain ⟨a0, a1⟩ := id k0
    obtain ⟨b0, b1⟩ := id k1
    obtain ⟨c0, c1⟩ := id k2
    go_wp2_with fail
    refine (H1 _).out.mono ?_
    rintro e w2 ⟨rfl, hb2⟩
    replace k0 := k0.later hb2
    replace k1 := k1.later hb2
    replace k2 := k2.later hb2
    replace hB := below_trans hB hb2
    clear hb2
    clear a0 a1 b0 b1 c0 c1
    obtain ⟨a0, a1⟩ := id k0
    obtain ⟨b0, b1⟩ := id k1
    obtain ⟨c0, c1⟩ := id k2
    go_wp2_with fail
    refine (H2 _).out.mono ?_
    rintro e w3 ⟨rfl, hb3⟩
    replace k0 := k0.later hb3
    replace k1 := k1.later hb3
    replace k2 := k2.later hb3
    replace hB := below_trans hB hb3
    clear hb3
    clear a0 a1 b0 b1 c0 c1
    obtain ⟨a0, a1⟩ := id k0
    obtain ⟨b0, b1⟩ := id k1
    obtain ⟨c0, c1⟩ := id k2
    go_wp2_with fail
    all_goals go_ret
    all_goals exact ⟨rfl, hB⟩
  · go_enter Try.func9, Try.ntmps9
    go_wp2_with fail
    rw [← HW.out]
    clear HW
    refine (HS _).out.mono ?_
    rintro e w1 ⟨rfl, hb1⟩
    replace k0 := k0.later hb1
    replace k1 := k1.later hb1
    replace k2 := k2.later hb1
    replace hB := below_trans hB hb1
    clear hb1
    obtain ⟨a0, a1⟩ := id k0
    obtain ⟨b0, b1⟩ := id k1
    obtain ⟨c0, c1⟩ := id k2
    go_wp2_with fail
    refine (H1 _).out.mono ?_
    rintro e w2 ⟨rfl, hb2⟩
    replace k0 := k0.later hb2
    replace k1 := k1.later hb2
    replace k2 := k2.later hb2
    replace hB := below_trans hB hb2
    clear hb2
    clear a0 a1 b0 b1 c0 c1
    obtain ⟨a0, a1⟩ := id k0
    obtain ⟨b0, b1⟩ := id k1
    obtain ⟨c0, c1⟩ := id k2
    go_wp2_with fail
    refine (H2 _).out.mono ?_
    rintro e w3 ⟨rfl, hb3⟩
    replace k0 := k0.later hb3
    replace k1 := k1.later hb3
    replace k2 := k2.later hb3
    replace hB := below_trans hB hb3
    clear hb3
    clear a0 a1 b0 b1 c0 c1
    obtain ⟨a0, a1⟩ := id k0
    obtain ⟨b0, b1⟩ := id k1
    obtain ⟨c0, c1⟩ := id k2
    go_wp2_with fail
    all_goals (refine (H3 _).out.mono ?_; rintro e w4 ⟨rfl, hb4⟩; replace k0 := k0.later hb4; replace k2 := k2.later hb4; replace hB := below_trans hB hb4; clear hb4 a0 a1 b0 b1 c0 c1; obtain ⟨a0, a1⟩ := id k0; obtain ⟨c0, c1⟩ := id k2)
    all_goals go_wp2_with fail
    all_goals go_ret
    all_goals exact ⟨rfl, hB⟩
  · go_enter Try.func9, Try.ntmps9
    go_wp2_with fail
    rw [← HW.out]
    clear HW
    refine (HS _).out.mono ?_
    rintro e w1 ⟨rfl, hb1⟩
    replace k0 := k0.later hb1
    replace k1 := k1.later hb1
    replace k2 := k2.later hb1
    replace hB := below_trans hB hb1
    clear hb1
    obtain ⟨a0, a1⟩ := id k0
    obtain ⟨b0, b1⟩ := id k1
    obtain ⟨c0, c1⟩ := id k2
    go_wp2_with fail
    refine (H1 _).out.mono ?_
    rintro e w2 ⟨rfl, hb2⟩
    replace k0 := k0.later hb2
    replace k1 := k1.later hb2
    replace k2 := k2.later hb2
    replace hB := below_trans hB hb2
    clear hb2
    clear a0 a1 b0 b1 c0 c1
    obtain ⟨a0, a1⟩ := id k0
    obtain ⟨b0, b1⟩ := id k1
    obtain ⟨c0, c1⟩ := id k2
    go_wp2_with fail
    refine (H2 _).out.mono ?_
    rintro e w3 ⟨rfl, hb3⟩
    replace k0 := k0.later hb3
    replace k1 := k1.later hb3
    replace k2 := k2.later hb3
    replace hB := below_trans hB hb3
    clear hb3
    clear a0 a1 b0 b1 c0 c1
    obtain ⟨a0, a1⟩ := id k0
    obtain ⟨b0, b1⟩ := id k1
    obtain ⟨c0, c1⟩ := id k2
    go_wp2_with fail
    all_goals (refine (H3 _).out.mono ?_; rintro e w4 ⟨rfl, hb4⟩; replace k0 := k0.later hb4; replace k2 := k2.later hb4; replace hB := below_trans hB hb4; clear hb4 a0 a1 b0 b1 c0 c1; obtain ⟨a0, a1⟩ := id k0; obtain ⟨c0, c1⟩ := id k2)
    all_goals go_wp2_with fail
    all_goals (refine (H4 _).out.mono ?_; rintro e w5 ⟨rfl, hb5⟩; replace hB := below_trans hB hb5; clear hb5)
    all_goals go_wp2_with fail
    all_goals go_ret
    all_goals exact ⟨rfl, hB⟩
  · go_enter Try.func9, Try.ntmps9
    go_wp2_with fail
    rw [← HW.out]
    clear HW
    refine (HS _).out.mono ?_
    rintro e w1 ⟨rfl, hb1⟩
    replace k0 := k0.later hb1
    replace k1 := k1.later hb1
    replace k2 := k2.later hb1
    replace hB := below_trans hB hb1
    clear hb1
    obtain ⟨a0, a1⟩ := id k0
    obtain ⟨b0, b1⟩ := id k1
    obtain ⟨c0, c1⟩ := id k2
    go_wp2_with fail
    refine (H1 _).out.mono ?_
    rintro e w2 ⟨rfl, hb2⟩
    replace k0 := k0.later hb2
    replace k1 := k1.later hb2
    replace k2 := k2.later hb2
    replace hB := below_trans hB hb2
    clear hb2
    clear a0 a1 b0 b1 c0 c1
    obtain ⟨a0, a1⟩ := id k0
    obtain ⟨b0, b1⟩ := id k1
    obtain ⟨c0, c1⟩ := id k2
    go_wp2_with fail
    refine (H2 _).out.mono ?_
    rintro e w3 ⟨rfl, hb3⟩
    replace k0 := k0.later hb3
    replace k1 := k1.later hb3
    replace k2 := k2.later hb3
    replace hB := below_trans hB hb3
    clear hb3
    clear a0 a1 b0 b1 c0 c1
    obtain ⟨a0, a1⟩ := id k0
    obtain ⟨b0, b1⟩ := id k1
    obtain ⟨c0, c1⟩ := id k2
    go_wp2_with fail
    all_goals go_ret
    all_goals exact ⟨rfl, hB⟩
  · go_enter Try.func9, Try.ntmps9
    go_wp2_with fail
    rw [← HW.out]
    clear HW
    refine (HS _).out.mono ?_
    rintro e w1 ⟨rfl, hb1⟩
    replace k0 := k0.later hb1
    replace k1 := k1.later hb1
    replace k2 := k2.later hb1
    replace hB := below_trans hB hb1
    clear hb1
    obtain ⟨a0, a1⟩ := id k0
    obtain ⟨b0, b1⟩ := id k1
    obtain ⟨c0, c1⟩ := id k2
    go_wp2_with fail
    refine (H1 _).out.mono ?_
    rintro e w2 ⟨rfl, hb2⟩
    replace k0 := k0.later hb2
    replace k1 := k1.later hb2
    replace k2 := k2.later hb2
    replace hB := below_trans hB hb2
    clear hb2
    clear a0 a1 b0 b1 c0 c1
    obtain ⟨a0, a1⟩ := id k0
    obtain ⟨b0, b1⟩ := id k1
    obtain ⟨c0, c1⟩ := id k2
    go_wp2_with fail
    refine (H2 _).out.mono ?_
    rintro e w3 ⟨rfl, hb3⟩
    replace k0 := k0.later hb3
    replace k1 := k1.later hb3
    replace k2 := k2.later hb3
    replace hB := below_trans hB hb3
    clear hb3
    clear a0 a1 b0 b1 c0 c1
    obtain ⟨a0, a1⟩ := id k0
    obtain ⟨b0, b1⟩ := id k1
    obtain ⟨c0, c1⟩ := id k2
    go_wp2_with fail
    all_goals (refine (H3 _).out.mono ?_; rintro e w4 ⟨rfl, hb4⟩; replace k0 := k0.later hb4; replace k2 := k2.later hb4; replace hB := below_trans hB hb4; clear hb4 a0 a1 b0 b1 c0 c1; obtain ⟨a0, a1⟩ := id k0; obtain ⟨c0, c1⟩ := id k2)
    all_goals go_wp2_with fail
    all_goals go_ret
    all_goals exact ⟨rfl, hB⟩
  · go_enter Try.func9, Try.ntmps9
    go_wp2_with fail
    rw [← HW.out]
    clear HW
    refine (HS _).out.mono ?_
    rintro e w1 ⟨rfl, hb1⟩
    replace k0 := k0.later hb1
    replace k1 := k1.later hb1
    replace k2 := k2.later hb1
    replace hB := below_trans hB hb1
    clear hb1
    obtain ⟨a0, a1⟩ := id k0
    obtain ⟨b0, b1⟩ := id k1
    obtain ⟨c0, c1⟩ := id k2
    go_wp2_with fail
    refine (H1 _).out.mono ?_
    rintro e w2 ⟨rfl, hb2⟩
    replace k0 := k0.later hb2
    replace k1 := k1.later hb2
    replace k2 := k2.later hb2
    replace hB := below_trans hB hb2
    clear hb2
    clear a0 a1 b0 b1 c0 c1
    obtain ⟨a0, a1⟩ := id k0
    obtain ⟨b0, b1⟩ := id k1
    obtain ⟨c0, c1⟩ := id k2
    go_wp2_with fail
    refine (H2 _).out.mono ?_
    rintro e w3 ⟨rfl, hb3⟩
    replace k0 := k0.later hb3
    replace k1 := k1.later hb3
    replace k2 := k2.later hb3
    replace hB := below_trans hB hb3
    clear hb3
    clear a0 a1 b0 b1 c0 c1
    obtain ⟨a0, a1⟩ := id k0
    obtain ⟨b0, b1⟩ := id k1
    obtain ⟨c0, c1⟩ := id k2
    go_wp2_with fail
    all_goals (refine (H3 _).out.mono ?_; rintro e w4 ⟨rfl, hb4⟩; replace k0 := k0.later hb4; replace k2 := k2.later hb4; replace hB := below_trans hB hb4; clear hb4 a0 a1 b0 b1 c0 c1; obtain ⟨a0, a1⟩ := id k0; obtain ⟨c0, c1⟩ := id k2)
    all_goals go_wp2_with fail
    all_goals (refine (H4 _).out.mono ?_; rintro e w5 ⟨rfl, hb5⟩; replace hB := below_trans hB hb5; clear hb5)
    all_goals go_wp2_with fail
    all_goals go_ret
    all_goals exact ⟨rfl, hB⟩

theorem from_wide {n a : Int} {o : Bool} {i : Int} (h : fromR n a o i = true) : fromR n a false i = true := by
  simp only [fromR, decide_eq_true_eq] at h ⊢; simp; omega
theorem from_all (n a : Int) (o : Bool) : fromR n a o (-1) = true := by simp [fromR]
theorem to_all (n a : Int) (o : Bool) : toR n a o 1 = true := by simp [toR]
theorem to_wide {n a c : Int} {o o' : Bool} (h : toR n a o 0 = true) (hc : a < c) : toR n c o' 0 = true := by
  simp only [toR, decide_eq_true_eq] at h ⊢
  rcases h with h | ⟨_, h | ⟨h, _⟩⟩
  · omega
  · exact .inr ⟨trivial, .inl (by omega)⟩
  · exact .inr ⟨trivial, .inl (by omega)⟩

set_option maxRecDepth 100000 in
set_option maxHeartbeats 4000000 in
theorem wider_walk (n a b c : Int) (oa ob oc : Bool) (ia ib ic : Int) (w : World) : Calls Try.prog 8 #[.int .i64 n, .agg #[.int .i64 a, .bool oa, .int .i64 ia], .agg #[.int .i64 b, .bool ob, .int .i64 ib], .agg #[.int .i64 c, .bool oc, .int .i64 ic]] w fun e w' => e = .returned (.bool true) ∧ Below w.heap.size w w' := by
  have HS := fun w => Lib.hid (shown_any w)
  have G1 := fun w => in_any n a b oa ob ia ib w
  have G2 := fun w => in_any n a b false ob ia ib w
  have G3 := fun w => in_any n 0 b false ob (-1) ib w
  have G4 := fun w => in_any n a 0 oa false ia 1 w
  have G5 := fun w => in_any n a c oa oc ia ic w
  rw [inB_eq] at G1 G2 G3 G4 G5
  obtain ⟨W, hW⟩ : ∃ W, W = (((w.alloc (.cells #[.int .i64 a, .bool oa, .int .i64 ia] 23)).alloc (.cells #[.int .i64 b, .bool ob, .int .i64 ib] 23)).alloc (.cells #[.int .i64 c, .bool oc, .int .i64 ic] 23)) := ⟨_, rfl⟩
  have k0 := Cells3.new w (.int .i64 a) (.bool oa) (.int .i64 ia) 23
  have hB := below_new w (.cells #[.int .i64 a, .bool oa, .int .i64 ia] 23)
  have k1 := Cells3.new (w.alloc (.cells #[.int .i64 a, .bool oa, .int .i64 ia] 23)) (.int .i64 b) (.bool ob) (.int .i64 ib) 23
  replace k0 := k0.later (below_new (w.alloc (.cells #[.int .i64 a, .bool oa, .int .i64 ia] 23)) (.cells #[.int .i64 b, .bool ob, .int .i64 ib] 23))
  replace hB := below_trans hB (below_new (w.alloc (.cells #[.int .i64 a, .bool oa, .int .i64 ia] 23)) (.cells #[.int .i64 b, .bool ob, .int .i64 ib] 23))
  have k2 := Cells3.new ((w.alloc (.cells #[.int .i64 a, .bool oa, .int .i64 ia] 23)).alloc (.cells #[.int .i64 b, .bool ob, .int .i64 ib] 23)) (.int .i64 c) (.bool oc) (.int .i64 ic) 23
  replace k0 := k0.later (below_new ((w.alloc (.cells #[.int .i64 a, .bool oa, .int .i64 ia] 23)).alloc (.cells #[.int .i64 b, .bool ob, .int .i64 ib] 23)) (.cells #[.int .i64 c, .bool oc, .int .i64 ic] 23))
  replace k1 := k1.later (below_new ((w.alloc (.cells #[.int .i64 a, .bool oa, .int .i64 ia] 23)).alloc (.cells #[.int .i64 b, .bool ob, .int .i64 ib] 23)) (.cells #[.int .i64 c, .bool oc, .int .i64 ic] 23))
  replace hB := below_trans hB (below_new ((w.alloc (.cells #[.int .i64 a, .bool oa, .int .i64 ia] 23)).alloc (.cells #[.int .i64 b, .bool ob, .int .i64 ib] 23)) (.cells #[.int .i64 c, .bool oc, .int .i64 ic] 23))
  rw [← hW] at hB k0 k1 k2
  simp only [World.size_alloc] at k0 k1 k2
  have HW := Lib.hid hW
  clear hW
  by_cases hA : (fromR n a oa ia && toR n b ob ib) = true
  · obtain ⟨hF, hT⟩ : fromR n a oa ia = true ∧ toR n b ob ib = true := by simpa using hA
    rw [hF, hT] at G1
    rw [from_wide hF, hT] at G2
    rw [from_all, hT] at G3
    rw [hF, to_all] at G4
    rw [hF] at G5
    have H1 := fun w => Lib.hid (G1 w)
    have H2 := fun w => Lib.hid (G2 w)
    have H3 := fun w => Lib.hid (G3 w)
    have H4 := fun w => Lib.hid (G4 w)
    clear G1 G2 G3 G4 hA hF
    by_cases hi : ib = 0
    · have e1 : (ib == 0) = true := by simpa using hi
      have e2 : (ib != 0) = false := by simpa using hi
      rw [hi] at hT
      clear hi
      by_cases hj : ic = 0
      · have e3 : (ic == 0) = true := by simpa using hj
        have e4 : (ic != 0) = false := by simpa using hj
        rw [show toR n c oc ic = toR n c oc 0 by rw [hj]] at G5
        clear hj
        by_cases hcb : c ≤ b
        · clear hT G5
          go_enter Try.func8, Try.ntmps8
          go_wp2_with fail
          rw [← HW.out]
          clear HW
          refine (HS _).out.mono ?_
          rintro e w1 ⟨rfl, hb1⟩
          replace k0 := k0.later hb1
          replace k1 := k1.later hb1
          replace k2 := k2.later hb1
          replace hB := below_trans hB hb1
          clear hb1
          obtain ⟨a0, a1, a2⟩ := id k0
          obtain ⟨b0, b1, b2⟩ := id k1
          obtain ⟨c0, c1, c2⟩ := id k2
          go_wp2_with fail
          refine (H1 _).out.mono ?_
          rintro e w2 ⟨rfl, hb2⟩
          replace k0 := k0.later hb2
          replace k1 := k1.later hb2
          replace k2 := k2.later hb2
          replace hB := below_trans hB hb2
          clear hb2
          clear a0 a1 a2 b0 b1 b2 c0 c1 c2
          obtain ⟨a0, a1, a2⟩ := id k0
          obtain ⟨b0, b1, b2⟩ := id k1
          obtain ⟨c0, c1, c2⟩ := id k2
          have l0 := k0.lt
          have l1 := k1.lt
          have l2 := k2.lt
          go_wp2_with fail
          have k3 := Cells3.new w2 (.int .i64 a) (.bool false) (.int .i64 ia) 23
          have hx := below_new w2 (.cells #[.int .i64 a, .bool false, .int .i64 ia] 23)
          replace k0 := k0.later hx
          replace k1 := k1.later hx
          replace k2 := k2.later hx
          replace hB := below_trans hB hx
          clear hx
          clear a0 a1 a2 b0 b1 b2 c0 c1 c2
          clear l0 l1 l2
          generalize w2.alloc (.cells #[.int .i64 a, .bool false, .int .i64 ia] 23) = v2 at *
          refine (H2 _).out.mono ?_
          rintro e w3 ⟨rfl, hb3⟩
          replace k0 := k0.later hb3
          replace k1 := k1.later hb3
          replace k2 := k2.later hb3
          replace hB := below_trans hB hb3
          clear hb3
          clear k3
          obtain ⟨a0, a1, a2⟩ := id k0
          obtain ⟨b0, b1, b2⟩ := id k1
          obtain ⟨c0, c1, c2⟩ := id k2
          go_wp2_with fail
          refine (H3 _).out.mono ?_
          rintro e w4 ⟨rfl, hb4⟩
          replace k0 := k0.later hb4
          replace k1 := k1.later hb4
          replace k2 := k2.later hb4
          replace hB := below_trans hB hb4
          clear hb4
          clear a0 a1 a2 b0 b1 b2 c0 c1 c2
          obtain ⟨a0, a1, a2⟩ := id k0
          obtain ⟨b0, b1, b2⟩ := id k1
          obtain ⟨c0, c1, c2⟩ := id k2
          go_wp2_with fail
          refine (H4 _).out.mono ?_
          rintro e w5 ⟨rfl, hb5⟩
          replace k0 := k0.later hb5
          replace k1 := k1.later hb5
          replace k2 := k2.later hb5
          replace hB := below_trans hB hb5
          clear hb5
          clear a0 a1 a2 b0 b1 b2 c0 c1 c2
          obtain ⟨a0, a1, a2⟩ := id k0
          obtain ⟨b0, b1, b2⟩ := id k1
          obtain ⟨c0, c1, c2⟩ := id k2
          go_wp2_with fail
          go_ret
          exact ⟨rfl, hB⟩
        · rw [to_wide hT (by omega)] at G5
          have H5 := fun w => Lib.hid (G5 w)
          clear hT G5
          go_enter Try.func8, Try.ntmps8
          go_wp2_with fail
          rw [← HW.out]
          clear HW
          refine (HS _).out.mono ?_
          rintro e w1 ⟨rfl, hb1⟩
          replace k0 := k0.later hb1
          replace k1 := k1.later hb1
          replace k2 := k2.later hb1
          replace hB := below_trans hB hb1
          clear hb1
          obtain ⟨a0, a1, a2⟩ := id k0
          obtain ⟨b0, b1, b2⟩ := id k1
          obtain ⟨c0, c1, c2⟩ := id k2
          go_wp2_with fail
          refine (H1 _).out.mono ?_
          rintro e w2 ⟨rfl, hb2⟩
          replace k0 := k0.later hb2
          replace k1 := k1.later hb2
          replace k2 := k2.later hb2
          replace hB := below_trans hB hb2
          clear hb2
          clear a0 a1 a2 b0 b1 b2 c0 c1 c2
          obtain ⟨a0, a1, a2⟩ := id k0
          obtain ⟨b0, b1, b2⟩ := id k1
          obtain ⟨c0, c1, c2⟩ := id k2
          have l0 := k0.lt
          have l1 := k1.lt
          have l2 := k2.lt
          go_wp2_with fail
          have k3 := Cells3.new w2 (.int .i64 a) (.bool false) (.int .i64 ia) 23
          have hx := below_new w2 (.cells #[.int .i64 a, .bool false, .int .i64 ia] 23)
          replace k0 := k0.later hx
          replace k1 := k1.later hx
          replace k2 := k2.later hx
          replace hB := below_trans hB hx
          clear hx
          clear a0 a1 a2 b0 b1 b2 c0 c1 c2
          clear l0 l1 l2
          generalize w2.alloc (.cells #[.int .i64 a, .bool false, .int .i64 ia] 23) = v2 at *
          refine (H2 _).out.mono ?_
          rintro e w3 ⟨rfl, hb3⟩
          replace k0 := k0.later hb3
          replace k1 := k1.later hb3
          replace k2 := k2.later hb3
          replace hB := below_trans hB hb3
          clear hb3
          clear k3
          obtain ⟨a0, a1, a2⟩ := id k0
          obtain ⟨b0, b1, b2⟩ := id k1
          obtain ⟨c0, c1, c2⟩ := id k2
          go_wp2_with fail
          refine (H3 _).out.mono ?_
          rintro e w4 ⟨rfl, hb4⟩
          replace k0 := k0.later hb4
          replace k1 := k1.later hb4
          replace k2 := k2.later hb4
          replace hB := below_trans hB hb4
          clear hb4
          clear a0 a1 a2 b0 b1 b2 c0 c1 c2
          obtain ⟨a0, a1, a2⟩ := id k0
          obtain ⟨b0, b1, b2⟩ := id k1
          obtain ⟨c0, c1, c2⟩ := id k2
          go_wp2_with fail
          refine (H4 _).out.mono ?_
          rintro e w5 ⟨rfl, hb5⟩
          replace k0 := k0.later hb5
          replace k1 := k1.later hb5
          replace k2 := k2.later hb5
          replace hB := below_trans hB hb5
          clear hb5
          clear a0 a1 a2 b0 b1 b2 c0 c1 c2
          obtain ⟨a0, a1, a2⟩ := id k0
          obtain ⟨b0, b1, b2⟩ := id k1
          obtain ⟨c0, c1, c2⟩ := id k2
          go_wp2_with fail
          refine (H5 _).out.mono ?_
          rintro e w6 ⟨rfl, hb6⟩
          replace hB := below_trans hB hb6
          go_wp2_with fail
          go_ret
          exact ⟨rfl, hB⟩
      · have e3 : (ic == 0) = false := by simpa using hj
        have e4 : (ic != 0) = true := by simpa using hj
        clear hj hT G5
        go_enter Try.func8, Try.ntmps8
        go_wp2_with fail
        rw [← HW.out]
        clear HW
        refine (HS _).out.mono ?_
        rintro e w1 ⟨rfl, hb1⟩
        replace k0 := k0.later hb1
        replace k1 := k1.later hb1
        replace k2 := k2.later hb1
        replace hB := below_trans hB hb1
        clear hb1
        obtain ⟨a0, a1, a2⟩ := id k0
        obtain ⟨b0, b1, b2⟩ := id k1
        obtain ⟨c0, c1, c2⟩ := id k2
        go_wp2_with fail
        refine (H1 _).out.mono ?_
        rintro e w2 ⟨rfl, hb2⟩
        replace k0 := k0.later hb2
        replace k1 := k1.later hb2
        replace k2 := k2.later hb2
        replace hB := below_trans hB hb2
        clear hb2
        clear a0 a1 a2 b0 b1 b2 c0 c1 c2
        obtain ⟨a0, a1, a2⟩ := id k0
        obtain ⟨b0, b1, b2⟩ := id k1
        obtain ⟨c0, c1, c2⟩ := id k2
        have l0 := k0.lt
        have l1 := k1.lt
        have l2 := k2.lt
        go_wp2_with fail
        have k3 := Cells3.new w2 (.int .i64 a) (.bool false) (.int .i64 ia) 23
        have hx := below_new w2 (.cells #[.int .i64 a, .bool false, .int .i64 ia] 23)
        replace k0 := k0.later hx
        replace k1 := k1.later hx
        replace k2 := k2.later hx
        replace hB := below_trans hB hx
        clear hx
        clear a0 a1 a2 b0 b1 b2 c0 c1 c2
        clear l0 l1 l2
        generalize w2.alloc (.cells #[.int .i64 a, .bool false, .int .i64 ia] 23) = v2 at *
        refine (H2 _).out.mono ?_
        rintro e w3 ⟨rfl, hb3⟩
        replace k0 := k0.later hb3
        replace k1 := k1.later hb3
        replace k2 := k2.later hb3
        replace hB := below_trans hB hb3
        clear hb3
        clear k3
        obtain ⟨a0, a1, a2⟩ := id k0
        obtain ⟨b0, b1, b2⟩ := id k1
        obtain ⟨c0, c1, c2⟩ := id k2
        go_wp2_with fail
        refine (H3 _).out.mono ?_
        rintro e w4 ⟨rfl, hb4⟩
        replace k0 := k0.later hb4
        replace k1 := k1.later hb4
        replace k2 := k2.later hb4
        replace hB := below_trans hB hb4
        clear hb4
        clear a0 a1 a2 b0 b1 b2 c0 c1 c2
        obtain ⟨a0, a1, a2⟩ := id k0
        obtain ⟨b0, b1, b2⟩ := id k1
        obtain ⟨c0, c1, c2⟩ := id k2
        go_wp2_with fail
        refine (H4 _).out.mono ?_
        rintro e w5 ⟨rfl, hb5⟩
        replace k0 := k0.later hb5
        replace k1 := k1.later hb5
        replace k2 := k2.later hb5
        replace hB := below_trans hB hb5
        clear hb5
        clear a0 a1 a2 b0 b1 b2 c0 c1 c2
        obtain ⟨a0, a1, a2⟩ := id k0
        obtain ⟨b0, b1, b2⟩ := id k1
        obtain ⟨c0, c1, c2⟩ := id k2
        go_wp2_with fail
        go_ret
        exact ⟨rfl, hB⟩
    · have e1 : (ib == 0) = false := by simpa using hi
      have e2 : (ib != 0) = true := by simpa using hi
      clear hi hT G5
      go_enter Try.func8, Try.ntmps8
      go_wp2_with fail
      rw [← HW.out]
      clear HW
      refine (HS _).out.mono ?_
      rintro e w1 ⟨rfl, hb1⟩
      replace k0 := k0.later hb1
      replace k1 := k1.later hb1
      replace k2 := k2.later hb1
      replace hB := below_trans hB hb1
      clear hb1
      obtain ⟨a0, a1, a2⟩ := id k0
      obtain ⟨b0, b1, b2⟩ := id k1
      obtain ⟨c0, c1, c2⟩ := id k2
      go_wp2_with fail
      refine (H1 _).out.mono ?_
      rintro e w2 ⟨rfl, hb2⟩
      replace k0 := k0.later hb2
      replace k1 := k1.later hb2
      replace k2 := k2.later hb2
      replace hB := below_trans hB hb2
      clear hb2
      clear a0 a1 a2 b0 b1 b2 c0 c1 c2
      obtain ⟨a0, a1, a2⟩ := id k0
      obtain ⟨b0, b1, b2⟩ := id k1
      obtain ⟨c0, c1, c2⟩ := id k2
      have l0 := k0.lt
      have l1 := k1.lt
      have l2 := k2.lt
      go_wp2_with fail
      have k3 := Cells3.new w2 (.int .i64 a) (.bool false) (.int .i64 ia) 23
      have hx := below_new w2 (.cells #[.int .i64 a, .bool false, .int .i64 ia] 23)
      replace k0 := k0.later hx
      replace k1 := k1.later hx
      replace k2 := k2.later hx
      replace hB := below_trans hB hx
      clear hx
      clear a0 a1 a2 b0 b1 b2 c0 c1 c2
      clear l0 l1 l2
      generalize w2.alloc (.cells #[.int .i64 a, .bool false, .int .i64 ia] 23) = v2 at *
      refine (H2 _).out.mono ?_
      rintro e w3 ⟨rfl, hb3⟩
      replace k0 := k0.later hb3
      replace k1 := k1.later hb3
      replace k2 := k2.later hb3
      replace hB := below_trans hB hb3
      clear hb3
      clear k3
      obtain ⟨a0, a1, a2⟩ := id k0
      obtain ⟨b0, b1, b2⟩ := id k1
      obtain ⟨c0, c1, c2⟩ := id k2
      go_wp2_with fail
      refine (H3 _).out.mono ?_
      rintro e w4 ⟨rfl, hb4⟩
      replace k0 := k0.later hb4
      replace k1 := k1.later hb4
      replace k2 := k2.later hb4
      replace hB := below_trans hB hb4
      clear hb4
      clear a0 a1 a2 b0 b1 b2 c0 c1 c2
      obtain ⟨a0, a1, a2⟩ := id k0
      obtain ⟨b0, b1, b2⟩ := id k1
      obtain ⟨c0, c1, c2⟩ := id k2
      go_wp2_with fail
      refine (H4 _).out.mono ?_
      rintro e w5 ⟨rfl, hb5⟩
      replace k0 := k0.later hb5
      replace k1 := k1.later hb5
      replace k2 := k2.later hb5
      replace hB := below_trans hB hb5
      clear hb5
      clear a0 a1 a2 b0 b1 b2 c0 c1 c2
      obtain ⟨a0, a1, a2⟩ := id k0
      obtain ⟨b0, b1, b2⟩ := id k1
      obtain ⟨c0, c1, c2⟩ := id k2
      go_wp2_with fail
      go_ret
      exact ⟨rfl, hB⟩
  · have hA : (fromR n a oa ia && toR n b ob ib) = false := by simpa using hA
    rw [hA] at G1
    have H1 := fun w => Lib.hid (G1 w)
    clear G1 G2 G3 G4 G5 hA
    go_enter Try.func8, Try.ntmps8
    go_wp2_with fail
    rw [← HW.out]
    clear HW
    refine (HS _).out.mono ?_
    rintro e w1 ⟨rfl, hb1⟩
    replace k0 := k0.later hb1
    replace k1 := k1.later hb1
    replace k2 := k2.later hb1
    replace hB := below_trans hB hb1
    clear hb1
    obtain ⟨a0, a1, a2⟩ := id k0
    obtain ⟨b0, b1, b2⟩ := id k1
    obtain ⟨c0, c1, c2⟩ := id k2
    go_wp2_with fail
    refine (H1 _).out.mono ?_
    rintro e w2 ⟨rfl, hb2⟩
    replace k0 := k0.later hb2
    replace k1 := k1.later hb2
    replace k2 := k2.later hb2
    replace hB := below_trans hB hb2
    clear hb2
    clear a0 a1 a2 b0 b1 b2 c0 c1 c2
    go_wp2_with fail
    go_ret
    exact ⟨rfl, hB⟩

end Go.Proofs.Ytfnofnilcflcmaa
