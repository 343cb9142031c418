/- An act, done on a dict. -/
import Derived.Test.YtlfhiolkbnhinaaDoorActs
import Derived.StillTailTactics
import Derived.Deep.CutRange
namespace Go.Proofs.YtlfhiolkbnhinaaDoor
open Go.RowKit Go.Shelf
attribute [local go_sem] Oper.semAt_some

theorem eight (d : Int) : (IntKind.u64.wrap d).tmod 8 = 0 ∨ (IntKind.u64.wrap d).tmod 8 = 1 ∨ (IntKind.u64.wrap d).tmod 8 = 2 ∨ (IntKind.u64.wrap d).tmod 8 = 3 ∨ (IntKind.u64.wrap d).tmod 8 = 4 ∨ (IntKind.u64.wrap d).tmod 8 = 5 ∨ (IntKind.u64.wrap d).tmod 8 = 6 ∨ (IntKind.u64.wrap d).tmod 8 = 7 := by
  have h0 : 0 ≤ IntKind.u64.wrap d := by rw [IntKind.wrap_u64]; exact Int.emod_nonneg _ (by decide)
  have h1 : 0 ≤ (IntKind.u64.wrap d).tmod 8 := Int.tmod_nonneg _ h0
  have h2 : (IntKind.u64.wrap d).tmod 8 < 8 := Int.tmod_lt_of_pos _ (by decide)
  omega
/-- Does an act delete? -/
def dels (d : Int) : Prop := (IntKind.u64.wrap d).tmod 8 = 5 ∨ (IntKind.u64.wrap d).tmod 8 = 6
/-- All blocks but a dict's are as they were. -/
def Kept (W W' : World) : Prop := ∀ k t c, Blk W k t c → ¬ (t = tyI.d ∨ t = tyI.t ∨ t = tyI.r) → Blk W' k t c
theorem Kept.trans {A B C : World} (h : Kept A B) (g : Kept B C) : Kept A C := fun k t c hk ht => g k t c (h k t c hk ht) ht
theorem Kept.of {A B : World} (h : Below A.heap.size A B) : Kept A B := fun _ _ _ hk _ => hk.later h
theorem Kept.now {w W W' : World} {p seed : Nat} {m : ByteArray → Option Int} {n : Sh} (g : IsNow (fresh tyI w W) W p seed m n W') : Kept W W' := fun _ _ _ hk ht => Alone.keep g hk ht
/-- What an act leaves of a map that a dict is like. -/
def Acted (w W : World) (p seed : Nat) (m : ByteArray → Option Int) (n : Sh) (d : Int) (key : ByteArray) (W' : World) : Prop :=
  ∃ m' n', Alone w p seed m' n' W' ∧ n'.n ≤ n.n + 1 ∧ n'.small ∧ (∀ k, (m k).isSome = true → ¬ (dels d ∧ k = key) → (m' k).isSome = true) ∧ Kept W W' ∧ ∀ k, (m' k).isSome = true → (m k).isSome = true ∨ k = key

set_option maxRecDepth 100000 in
set_option maxHeartbeats 4000000 in
theorem acted_is {w W : World} {p seed : Nat} {m : ByteArray → Option Int} {n : Sh} (hsd : seed < 4294967296) (h : Alone w p seed m n W) (hn : n.n + 1 ≤ 256) (hsm : n.small) (d : Int) (kk : ByteArray) (hk : kk.size ≤ 9223372036854775807) (v : Int) :
    Calls Tryd.prog 15 #[.pointer (some ⟨p, 0, none⟩), .agg #[.int .i64 d, .string kk, .int .i64 v]] W fun e w' => e = .returned (.tuple #[]) ∧ Acted w W p seed m n d (cutK kk) w' := by
  have HKEY := fun w => Lib.hid (key_any kk hk w)
  have hkz := cutK_size kk
  have hb1 := (Below.refl W.heap.size W).alloc (Nat.le_refl _) (Obj.cells #[Value.int .i64 d, .string kk, .int .i64 v] 36)
  have kx := Blk.new W 36 #[Value.int .i64 d, .string kk, .int .i64 v]
  have hA := h.later hb1
  have hkp := Kept.of hb1
  have HSM := Lib.hid hsm
  clear hb1 h hsm
  clear kx
  have e8 := eight d
  rcases e8 with ht | ht | ht | ht | ht | ht | ht | ht
  · have hnd : ¬ dels d := fun h => by unfold dels at h; omega
    go_enter Tryd.func15, Tryd.ntmps15
    go_upto_region 1 with fail
    have kx := Blk.new W 36 #[Value.int .i64 d, .string kk, .int .i64 v]
    generalize W.alloc (Obj.cells #[Value.int .i64 d, .string kk, .int .i64 v] 36) = wx at *
    have y0 := kx.cell 0
    have y1 := kx.cell 1
    have y2 := kx.cell 2
    simp only [List.getElem?_toArray, List.getElem?_cons_succ, List.getElem?_cons_zero] at y0 y1 y2
    have HA := Lib.hid hA
    have HS := Lib.hid (set_is hsd (hA.1.later (W' := wx.drew) ((Below.refl _ _).drew)) (by omega) (cutK kk) (by omega) v)
    clear hA kx
    go_upto_region 7 with fail
    refine wp_region_still_tail 6 (by kernel_rfl) (by kernel_rfl) ?_
    simp only [List.take_succ_cons, List.take_zero, List.drop_succ_cons, List.drop_zero]
    repeat (first | still_step | still_call (HKEY _).out)
    try refine wpStill_nil ?_
    change wpList _ _ _ _ _ wx.drew
    go_wp2_with fail
    (with_reducible refine HS.out.mono ?_)
    rintro e w3 ⟨rfl, h3⟩
    have hkp2 := hkp.trans (Kept.now (IsNow.since (W1 := wx.drew) ((Below.refl _ _).drew) h3))
    have h4 := Lib.hid (HA.out.now (IsNow.since (W1 := wx.drew) ((Below.refl _ _).drew) h3))
    clear h3 HS
    go_wp2
    go_returns
    refine ⟨rfl, _, _, h4.out, ?_, small_set HSM.out (by omega) _, fun k hk _ => ?_, hkp2, fun k hk => ?_⟩
    · rw [shset_n]; cases (m (cutK kk)).isSome <;> simp <;> omega
    · unfold putI; split
      · rfl
      · exact hk
    · unfold putI at hk
      split at hk
      · rename_i he; exact .inr he
      · exact .inl hk
  · have hnd : ¬ dels d := fun h => by unfold dels at h; omega
    go_enter Tryd.func15, Tryd.ntmps15
    go_upto_region 1 with fail
    have kx := Blk.new W 36 #[Value.int .i64 d, .string kk, .int .i64 v]
    generalize W.alloc (Obj.cells #[Value.int .i64 d, .string kk, .int .i64 v] 36) = wx at *
    have y0 := kx.cell 0
    have y1 := kx.cell 1
    have y2 := kx.cell 2
    simp only [List.getElem?_toArray, List.getElem?_cons_succ, List.getElem?_cons_zero] at y0 y1 y2
    have HA := Lib.hid hA
    have HS := Lib.hid (set_is hsd (hA.1.later (W' := wx.drew) ((Below.refl _ _).drew)) (by omega) (cutK kk) (by omega) v)
    clear hA kx
    go_upto_region 7 with fail
    refine wp_region_still_tail 6 (by kernel_rfl) (by kernel_rfl) ?_
    simp only [List.take_succ_cons, List.take_zero, List.drop_succ_cons, List.drop_zero]
    repeat (first | still_step | still_call (HKEY _).out)
    try refine wpStill_nil ?_
    change wpList _ _ _ _ _ wx.drew
    go_wp2_with fail
    (with_reducible refine HS.out.mono ?_)
    rintro e w3 ⟨rfl, h3⟩
    have hkp2 := hkp.trans (Kept.now (IsNow.since (W1 := wx.drew) ((Below.refl _ _).drew) h3))
    have h4 := Lib.hid (HA.out.now (IsNow.since (W1 := wx.drew) ((Below.refl _ _).drew) h3))
    clear h3 HS
    go_wp2
    go_returns
    refine ⟨rfl, _, _, h4.out, ?_, small_set HSM.out (by omega) _, fun k hk _ => ?_, hkp2, fun k hk => ?_⟩
    · rw [shset_n]; cases (m (cutK kk)).isSome <;> simp <;> omega
    · unfold putI; split
      · rfl
      · exact hk
    · unfold putI at hk
      split at hk
      · rename_i he; exact .inr he
      · exact .inl hk
  · have hnd : ¬ dels d := fun h => by unfold dels at h; omega
    go_enter Tryd.func15, Tryd.ntmps15
    go_upto_region 1 with fail
    have kx := Blk.new W 36 #[Value.int .i64 d, .string kk, .int .i64 v]
    generalize W.alloc (Obj.cells #[Value.int .i64 d, .string kk, .int .i64 v] 36) = wx at *
    have y0 := kx.cell 0
    have y1 := kx.cell 1
    have y2 := kx.cell 2
    simp only [List.getElem?_toArray, List.getElem?_cons_succ, List.getElem?_cons_zero] at y0 y1 y2
    have HA := Lib.hid hA
    have HS := Lib.hid (set_is hsd (hA.1.later (W' := wx.drew) ((Below.refl _ _).drew)) (by omega) (cutK kk) (by omega) v)
    clear hA kx
    go_upto_region 7 with fail
    refine wp_region_still_tail 6 (by kernel_rfl) (by kernel_rfl) ?_
    simp only [List.take_succ_cons, List.take_zero, List.drop_succ_cons, List.drop_zero]
    repeat (first | still_step | still_call (HKEY _).out)
    try refine wpStill_nil ?_
    change wpList _ _ _ _ _ wx.drew
    go_wp2_with fail
    (with_reducible refine HS.out.mono ?_)
    rintro e w3 ⟨rfl, h3⟩
    have hkp2 := hkp.trans (Kept.now (IsNow.since (W1 := wx.drew) ((Below.refl _ _).drew) h3))
    have h4 := Lib.hid (HA.out.now (IsNow.since (W1 := wx.drew) ((Below.refl _ _).drew) h3))
    clear h3 HS
    go_wp2
    go_returns
    refine ⟨rfl, _, _, h4.out, ?_, small_set HSM.out (by omega) _, fun k hk _ => ?_, hkp2, fun k hk => ?_⟩
    · rw [shset_n]; cases (m (cutK kk)).isSome <;> simp <;> omega
    · unfold putI; split
      · rfl
      · exact hk
    · unfold putI at hk
      split at hk
      · rename_i he; exact .inr he
      · exact .inl hk
  · have hnd : ¬ dels d := fun h => by unfold dels at h; omega
    go_enter Tryd.func15, Tryd.ntmps15
    go_upto_region 1 with fail
    have kx := Blk.new W 36 #[Value.int .i64 d, .string kk, .int .i64 v]
    generalize W.alloc (Obj.cells #[Value.int .i64 d, .string kk, .int .i64 v] 36) = wx at *
    have y0 := kx.cell 0
    have y1 := kx.cell 1
    have y2 := kx.cell 2
    simp only [List.getElem?_toArray, List.getElem?_cons_succ, List.getElem?_cons_zero] at y0 y1 y2
    have HA := Lib.hid hA
    have HS := Lib.hid (set_is hsd (hA.1.later (W' := wx.drew) ((Below.refl _ _).drew)) (by omega) (cutK kk) (by omega) v)
    clear hA kx
    go_upto_region 7 with fail
    refine wp_region_still_tail 6 (by kernel_rfl) (by kernel_rfl) ?_
    simp only [List.take_succ_cons, List.take_zero, List.drop_succ_cons, List.drop_zero]
    repeat (first | still_step | still_call (HKEY _).out)
    try refine wpStill_nil ?_
    change wpList _ _ _ _ _ wx.drew
    go_wp2_with fail
    (with_reducible refine HS.out.mono ?_)
    rintro e w3 ⟨rfl, h3⟩
    have hkp2 := hkp.trans (Kept.now (IsNow.since (W1 := wx.drew) ((Below.refl _ _).drew) h3))
    have h4 := Lib.hid (HA.out.now (IsNow.since (W1 := wx.drew) ((Below.refl _ _).drew) h3))
    clear h3 HS
    go_wp2
    go_returns
    refine ⟨rfl, _, _, h4.out, ?_, small_set HSM.out (by omega) _, fun k hk _ => ?_, hkp2, fun k hk => ?_⟩
    · rw [shset_n]; cases (m (cutK kk)).isSome <;> simp <;> omega
    · unfold putI; split
      · rfl
      · exact hk
    · unfold putI at hk
      split at hk
      · rename_i he; exact .inr he
      · exact .inl hk
  · have hnd : ¬ dels d := fun h => by unfold dels at h; omega
    go_enter Tryd.func15, Tryd.ntmps15
    go_upto_region 1 with fail
    have kx := Blk.new W 36 #[Value.int .i64 d, .string kk, .int .i64 v]
    generalize W.alloc (Obj.cells #[Value.int .i64 d, .string kk, .int .i64 v] 36) = wx at *
    have y0 := kx.cell 0
    have y1 := kx.cell 1
    have y2 := kx.cell 2
    simp only [List.getElem?_toArray, List.getElem?_cons_succ, List.getElem?_cons_zero] at y0 y1 y2
    have HA := Lib.hid hA
    have HS := Lib.hid (get_is hsd hA.1 (by omega) (cutK kk) (by omega))
    clear hA kx
    go_wp2_with fail
    (with_reducible refine (HKEY _).out.mono ?_)
    rintro e w4 ⟨rfl, rfl⟩
    go_wp2_with fail
    (with_reducible refine HS.out.mono ?_)
    rintro e w3 ⟨rfl, h3⟩
    have hkp2 := hkp.trans (Kept.now h3)
    have h4 := Lib.hid (HA.out.now h3)
    clear h3 HS
    go_wp2
    go_returns
    refine ⟨rfl, _, _, h4.out, by rw [step1_n]; omega, small_step HSM.out, fun k hk _ => hk, hkp2, fun k hk => .inl hk⟩
  · have hnd : dels d := by unfold dels; omega
    go_enter Tryd.func15, Tryd.ntmps15
    go_upto_region 1 with fail
    have kx := Blk.new W 36 #[Value.int .i64 d, .string kk, .int .i64 v]
    generalize W.alloc (Obj.cells #[Value.int .i64 d, .string kk, .int .i64 v] 36) = wx at *
    have y0 := kx.cell 0
    have y1 := kx.cell 1
    have y2 := kx.cell 2
    simp only [List.getElem?_toArray, List.getElem?_cons_succ, List.getElem?_cons_zero] at y0 y1 y2
    have HA := Lib.hid hA
    have HS := Lib.hid (del_is hsd hA.1 (by omega) (cutK kk) (by omega))
    clear hA kx
    go_wp2_with fail
    (with_reducible refine (HKEY _).out.mono ?_)
    rintro e w4 ⟨rfl, rfl⟩
    go_wp2_with fail
    (with_reducible refine HS.out.mono ?_)
    rintro e w3 ⟨rfl, h3, _⟩
    have hkp2 := hkp.trans (Kept.now h3)
    have h4 := Lib.hid (HA.out.now h3)
    clear h3 HS
    go_wp2
    go_returns
    refine ⟨rfl, _, _, h4.out, ?_, small_del HSM.out (by omega) _, fun k hk hk2 => ?_, hkp2, fun k hk => ?_⟩
    · rw [shdel_n]; cases (m (cutK kk)).isSome <;> simp <;> omega
    · unfold remI; split
      · rename_i he; exact absurd ⟨hnd, he⟩ hk2
      · exact hk
    · unfold remI at hk
      split at hk
      · simp at hk
      · exact .inl hk
  · have hnd : dels d := by unfold dels; omega
    go_enter Tryd.func15, Tryd.ntmps15
    go_upto_region 1 with fail
    have kx := Blk.new W 36 #[Value.int .i64 d, .string kk, .int .i64 v]
    generalize W.alloc (Obj.cells #[Value.int .i64 d, .string kk, .int .i64 v] 36) = wx at *
    have y0 := kx.cell 0
    have y1 := kx.cell 1
    have y2 := kx.cell 2
    simp only [List.getElem?_toArray, List.getElem?_cons_succ, List.getElem?_cons_zero] at y0 y1 y2
    have HA := Lib.hid hA
    have HS := Lib.hid (del_is hsd hA.1 (by omega) (cutK kk) (by omega))
    clear hA kx
    go_wp2_with fail
    (with_reducible refine (HKEY _).out.mono ?_)
    rintro e w4 ⟨rfl, rfl⟩
    go_wp2_with fail
    (with_reducible refine HS.out.mono ?_)
    rintro e w3 ⟨rfl, h3, _⟩
    have hkp2 := hkp.trans (Kept.now h3)
    have h4 := Lib.hid (HA.out.now h3)
    clear h3 HS
    go_wp2
    go_returns
    refine ⟨rfl, _, _, h4.out, ?_, small_del HSM.out (by omega) _, fun k hk hk2 => ?_, hkp2, fun k hk => ?_⟩
    · rw [shdel_n]; cases (m (cutK kk)).isSome <;> simp <;> omega
    · unfold remI; split
      · rename_i he; exact absurd ⟨hnd, he⟩ hk2
      · exact hk
    · unfold remI at hk
      split at hk
      · simp at hk
      · exact .inl hk
  · have hnd : ¬ dels d := fun h => by unfold dels at h; omega
    go_enter Tryd.func15, Tryd.ntmps15
    go_upto_region 1 with fail
    have kx := Blk.new W 36 #[Value.int .i64 d, .string kk, .int .i64 v]
    generalize W.alloc (Obj.cells #[Value.int .i64 d, .string kk, .int .i64 v] 36) = wx at *
    have y0 := kx.cell 0
    have y1 := kx.cell 1
    have y2 := kx.cell 2
    simp only [List.getElem?_toArray, List.getElem?_cons_succ, List.getElem?_cons_zero] at y0 y1 y2
    have HA := Lib.hid hA
    have HS := Lib.hid (step_is hA.1 (by omega) (min v 100))
    clear hA kx
    go_wp2_with fail
    (with_reducible refine HS.out.mono ?_)
    rintro e w3 ⟨rfl, h3⟩
    have hkp2 := hkp.trans (Kept.now h3)
    have h4 := Lib.hid (HA.out.now h3)
    clear h3 HS
    go_wp2
    go_returns
    refine ⟨rfl, _, _, h4.out, by rw [steps_n]; omega, small_steps HSM.out _, fun k hk _ => hk, hkp2, fun k hk => .inl hk⟩
end Go.Proofs.YtlfhiolkbnhinaaDoor
