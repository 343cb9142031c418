/- The reference's Union, Inter and Diff. -/
import Derived.Test.YtjilfgkoibbcnaaDoorRefAll
import Derived.Laws.OwnMore
namespace Go.Proofs.YtjilfgkoibbcnaaDoor
open Go.RowKit Go.Shelf
attribute [local go_sem] Oper.semAt_some

/-- Few, small sets. -/
def Small (ls : List (List Ent)) : Prop := ls.length ≤ 6 ∧ ∀ l ∈ ls, l.length ≤ 30

set_option maxRecDepth 100000 in
set_option maxHeartbeats 2000000 in
theorem all_any (agg least : Int) (a aw : Option Addr) (cap cw : Nat) (ws : List Int) (hw64 : ∀ x ∈ ws, I64 x) (ls : List (List Ent)) (hls : OkS ls) (hsm : Small ls) (w : World) (hS : Sets w a ls) (hW : Nums w aw ws) :
    Calls Tryd.prog 26 #[.slice a ls.length cap, .slice aw ws.length cw, .int .i64 agg, .int .i64 least] w (Tells (mixP agg ws least ls) w) := by
  by_cases h : (agg = 1 ∨ agg = 2 ∨ agg = 3) ∧ ws.length = ls.length ∧ rightsP ls = true
  · obtain ⟨h1, h2, h3⟩ := h
    have hg : isG agg.toNat := by rcases h1 with rfl | rfl | rfl <;> simp [isG]
    have := all_good agg.toNat hg least a aw cap cw ws hw64 ls hls h3 hsm h2 w hS hW
    rw [show ((agg.toNat : Nat) : Int) = agg by rcases h1 with rfl | rfl | rfl <;> rfl] at this
    rw [mixP_some h1 h2 h3]
    exact this
  · have hm : mixP agg ws least ls = ([], 120) := by
      unfold mixP mixR
      rw [if_neg h]
      rfl
    rw [hm]
    have hf : (rightsP ls && decide (ws.length = ls.length) && decide (1 ≤ agg ∧ agg ≤ 3)) = false := by
      rw [Bool.eq_false_iff]
      intro ht
      simp only [Bool.and_eq_true, decide_eq_true_eq] at ht
      exact h ⟨by omega, ht.1.2, ht.1.1⟩
    have HR := Lib.hid (refRights_any a aw cap cw ws.length agg ls hls w hS)
    rw [hf] at HR
    clear hf hm h hS hW hls hw64 hsm
    go_enter Tryd.func26, Tryd.ntmps26
    go_wp2_with fail
    refine HR.out.mono ?_
    rintro e w1 ⟨rfl, hb⟩
    have HB := Lib.hid hb
    clear hb
    go_wp2_with fail
    go_returns
    exact ⟨_, rfl, own_nil _ _, HB.out⟩

set_option maxRecDepth 100000 in
set_option maxHeartbeats 2000000 in
theorem refUnion_any (agg : Int) (a aw : Option Addr) (cap cw : Nat) (ws : List Int) (hw64 : ∀ x ∈ ws, I64 x) (ls : List (List Ent)) (hls : OkS ls) (hsm : Small ls) (w : World) (hS : Sets w a ls) (hW : Nums w aw ws) :
    Calls Tryd.prog 13 #[.slice a ls.length cap, .slice aw ws.length cw, .int .i64 agg] w (Tells (mixP agg ws 1 ls) w) := by
  have H := Lib.hid (all_any agg 1 a aw cap cw ws hw64 ls hls hsm w hS hW)
  clear hS hW hls hw64 hsm
  go_enter Tryd.func13, Tryd.ntmps13
  go_wp2_with fail
  refine H.out.mono ?_
  rintro e w2 ⟨r, rfl, hO, hb⟩
  go_wp2_with fail
  go_ret2
  exact ⟨_, rfl, hO, hb⟩

set_option maxRecDepth 100000 in
set_option maxHeartbeats 2000000 in
theorem refInter_any (agg : Int) (a aw : Option Addr) (cap cw : Nat) (ws : List Int) (hw64 : ∀ x ∈ ws, I64 x) (ls : List (List Ent)) (hls : OkS ls) (hsm : Small ls) (w : World) (hS : Sets w a ls) (hW : Nums w aw ws) :
    Calls Tryd.prog 15 #[.slice a ls.length cap, .slice aw ws.length cw, .int .i64 agg] w (Tells (mixP agg ws ls.length ls) w) := by
  have H := Lib.hid (all_any agg ls.length a aw cap cw ws hw64 ls hls hsm w hS hW)
  clear hS hW hls hw64 hsm
  go_enter Tryd.func15, Tryd.ntmps15
  go_wp2_with fail
  refine H.out.mono ?_
  rintro e w2 ⟨r, rfl, hO, hb⟩
  go_wp2_with fail
  go_ret2
  exact ⟨_, rfl, hO, hb⟩

theorem getM_filter (P : ByteArray → Bool) (l : List Ent) (m : ByteArray) : getM (l.filter fun e => P e.1) m = if P m = true then getM l m else none := by
  unfold getM
  induction l with
  | nil => split <;> rfl
  | cons x l ih =>
    by_cases hp : P x.1 = true
    · rw [List.filter_cons_of_pos (p := fun e : Ent => P e.1) hp]
      by_cases e : x.1 = m
      · subst e
        rw [List.find?_cons_of_pos (by simp), List.find?_cons_of_pos (by simp), if_pos hp]
      · rw [List.find?_cons_of_neg (by simpa using e), List.find?_cons_of_neg (by simpa using e), ih]
    · rw [List.filter_cons_of_neg (p := fun e : Ent => P e.1) hp, ih]
      by_cases e : x.1 = m
      · subst e
        rw [if_neg hp, if_neg hp]
      · rw [List.find?_cons_of_neg (by simpa using e)]
def onceP (ls : List (List Ent)) (m : ByteArray) : Bool := decide (inN ls m = 1)
/-- Of the first set those members that are in no other. -/
theorem diff_ref {l : List Ent} {r : List (List Ent)} (hr : rightsP (l :: r) = true) : diffP (l :: r) = (l.filter fun e => onceP (l :: r) e.1, 0) := by
  have hgood : ∀ x ∈ l :: r, Good x := fun x hx => good_of_right (by
    unfold rightsP at hr
    exact List.all_eq_true.1 (Bool.and_eq_true_iff.1 hr).2 x hx)
  have hl := hgood l (by simp)
  have hnr : ∀ x ∈ r, NdM x := fun x hx => (hgood x (by simp [hx])).nd
  rw [diffP_some hr]
  have hN : NdM (delAll (scoresM l) (seqOf r)) := nd_delAll _ (nd_scores l)
  have hF : NdM (l.filter fun e => onceP (l :: r) e.1) := List.Nodup.sublist (List.filter_sublist.map _) hl.nd
  have hsame : ∀ m, getM (delAll (scoresM l) (seqOf r)) m = getM (l.filter fun e => onceP (l :: r) e.1) m := fun m => by
    rw [getM_delAll, getM_filter, getM_perm (scores_nd hl.nd) hl.nd]
    have hin : inN (l :: r) m = (if hasM l m = true then 1 else 0) + inN r m := by
      unfold inN
      by_cases h : hasM l m = true
      · rw [List.filter_cons_of_pos (p := fun x => hasM x m) h, if_pos h, List.length_cons]; omega
      · rw [List.filter_cons_of_neg (p := fun x => hasM x m) h, if_neg h]; omega
    have hex : (∃ x ∈ seqOf r, x.2.1 = m) ↔ inN r m ≠ 0 := by
      rw [← inN_vals m r 0]
      have h1 := mem_vals (m := m) hnr
      constructor
      · rintro ⟨x, hx, rfl⟩
        have := h1.1 (List.mem_map_of_mem hx)
        intro h0
        exact this (List.length_eq_zero_iff.1 h0)
      · intro h0
        obtain ⟨x, hx, h2⟩ := List.mem_map.1 (h1.2 fun h => h0 (by rw [h]; rfl))
        exact ⟨x, hx, h2⟩
    by_cases h0 : inN r m = 0
    · rw [if_neg (fun h => hex.1 h h0)]
      unfold onceP
      rw [hin, h0]
      by_cases h : hasM l m = true
      · rw [if_pos h, if_pos (by simp)]
      · rw [if_neg h, if_neg (by simp)]
        unfold hasM at h
        cases hg : getM l m with
        | none => rfl
        | some s => rw [hg] at h; exact absurd rfl h
    · rw [if_pos (hex.2 h0)]
      unfold onceP
      rw [hin]
      by_cases h : hasM l m = true
      · rw [if_pos h, if_neg (by rw [decide_eq_true_eq]; omega)]
      · unfold hasM at h
        cases hg : getM l m with
        | none => split <;> split <;> rfl
        | some s => rw [hg] at h; exact absurd rfl h
  have hp := perm_of_get hN hF hsame
  rw [show sortS (delAll (scoresM l) (seqOf r)) = l.filter fun e => onceP (l :: r) e.1 from
    sorted_eq (sortS_sorted _) (hl.srt.sublist List.filter_sublist) ((sortS_perm _).trans hp)]

set_option maxRecDepth 100000 in
set_option maxHeartbeats 4000000 in
theorem refDiff_any (a : Option Addr) (cap : Nat) (ls : List (List Ent)) (hls : OkS ls) (hsm : Small ls) (w : World) (hS : Sets w a ls) :
    Calls Tryd.prog 17 #[.slice a ls.length cap] w (Tells (diffP ls) w) := by
  have hl6 := hsm.1
  have HSM := Lib.hid hsm
  have HL := Lib.hid hls
  have HS := Lib.hid hS
  have HR := fun (W : World) (hS : Sets W a ls) (aw : Option Addr) (cw : Nat) => Lib.hid (refRights_any a aw cap cw ls.length 1 ls hls W hS)
  clear hls hS hsm
  obtain ⟨i0, hi0, hz0, hz1, hz2⟩ := info_parts info2
  obtain ⟨w1, hmk, _, hgr⟩ := run_makeSlice_full (P := Tryd.prog) (w := w) w.heap.size 23 2 i0 _ 1 Tryd.underlying23 hi0 hz0 hz1 .i64 .i64 ls.length (by omega) (by rw [hz2]; omega) (by unfold maxLen; omega) (Nat.le_refl _)
  have hb1 : Below w.heap.size w w1 := (Below.refl _ _).grown hgr (Nat.le_refl _) (by simp)
  have HB1 := Lib.hid hb1
  have HR1 := HR w1 (HS.out.later hb1) (some ⟨w.heap.size, 0, none⟩) ls.length
  have hb3 : (rightsP ls && decide (ls.length = ls.length) && decide ((1 : Int) ≤ 1 ∧ (1 : Int) ≤ 3)) = rightsP ls := by simp
  rw [hb3] at HR1
  clear hb1 hgr HR hi0 hz0 hz1 hz2 hb3
  cases hr : rightsP ls with
  | false =>
    rw [hr] at HR1
    have HD := Lib.hid (show diffP ls = ([], 120) by unfold diffP restP; rw [hr]; rfl)
    clear hr
    go_enter Tryd.func17, Tryd.ntmps17
    go_wp2_with fail
    refine HR1.out.mono ?_
    rintro e w2 ⟨rfl, hb⟩
    have HB2 := Lib.hid (HB1.out.trans (hb.mono HB1.out.size))
    clear hb
    go_wp2_with fail
    go_returns
    rw [HD.out]
    exact ⟨_, rfl, own_nil _ _, HB2.out⟩
  | true =>
    rw [hr] at HR1
    have hne : ls ≠ [] := by rintro rfl; exact absurd hr (by decide)
    obtain ⟨l, r, rfl⟩ := List.exists_cons_of_ne_nil hne
    have HD := Lib.hid (diff_ref hr)
    have hnd : ∀ x ∈ l :: r, NdM x := fun x hx => (good_of_right (by
      unfold rightsP at hr
      exact List.all_eq_true.1 (Bool.and_eq_true_iff.1 hr).2 x hx)).nd
    have HIN := fun (m : ByteArray) (W : World) hS => Lib.hid (in_any a cap (l :: r) HL.out hnd m W hS)
    have hl30 : l.length ≤ 30 := HSM.out.2 l (by simp)
    obtain ⟨n, hn⟩ : ∃ n, (l :: r).length = n := ⟨_, rfl⟩
    rw [hn] at HR1 HIN hmk hl6
    rw [hn]
    clear hr hnd
    go_enter Tryd.func17, Tryd.ntmps17
    go_wp2_with fail
    refine HR1.out.mono ?_
    rintro e w2 ⟨rfl, hb⟩
    have HB2 := Lib.hid (HB1.out.trans (hb.mono HB1.out.size))
    have hn0 : (0 : Int) < n := by rw [← hn]; simp
    clear hb hmk HR1
    go_wp2_with fail
    go_loopw [4, 5] (fun v i wr => ∃ (k : Nat), i = .int .i64 k ∧ k ≤ l.length ∧ Own wr w.heap.size v ((l.take k).filter fun e => onceP (l :: r) e.1) ∧ Below w.heap.size w wr) (fun _ i _ => l.length - (intOf i).toNat)
    case atStart => exact ⟨0, rfl, by omega, own_nil _ _, HB2.out⟩
    case round =>
      obtain ⟨k, rfl, hk, hO, hb⟩ := hrel
      obtain ⟨g, off, ar, cr, rfl, c0, hE⟩ := (HS.out.later hb).e 0 (by simp)
      simp only [List.getElem_cons_zero, Nat.add_zero] at c0 hE
      by_cases hlt : k < l.length
      · have hlt2 : (k : Int) < l.length := by omega
        obtain ⟨b2, o2, rfl, d0, d1⟩ := hE k hlt
        have hI := HIN l[k].1 wr (HS.out.later hb)
        have htk : l.take (k + 1) = l.take k ++ [l[k]] := List.take_succ_eq_append_getElem hlt
        have HB := Lib.hid hb
        have hfl : ((l.take k).filter fun e => onceP (l :: r) e.1).length ≤ 1000 := by
          have := List.length_filter_le (fun e : Ent => onceP (l :: r) e.1) (l.take k)
          rw [List.length_take] at this
          omega
        obtain ⟨ra, rc, rfl, _, _, _, _⟩ := hO.slice
        by_cases h1 : inN (l :: r) l[k].1 = 1
        · have hnx : (l.take (k + 1)).filter (fun e => onceP (l :: r) e.1) = (l.take k).filter (fun e => onceP (l :: r) e.1) ++ [l[k]] := by
            rw [htk, List.filter_append, List.filter_cons_of_pos (p := fun e : Ent => onceP (l :: r) e.1) (decide_eq_true h1)]; rfl
          rw [h1] at hI
          have HNX := Lib.hid hnx
          generalize l[k] = e at *
          obtain ⟨m, s⟩ := e
          generalize (l.take k).filter (fun e => onceP (l :: r) e.1) = F at *
          simp only at d0 d1
          obtain ⟨g3, cap3, W7, hrun, hO7, hg7⟩ := app_ent hO (Below.refl _ _) (m, s) (by omega) hb.size
          have hO9 := own_later hO (alloc_below wr (Obj.cells #[Value.string m, Value.int .i64 s] 38))
          have HB7 := Lib.hid ((hb.alloc hb.size _).grown hg7 (hb.alloc hb.size _).size (fun k e => (World.ownsRow.lt hO9 k e).1))
          have HO7 := Lib.hid hO7
          clear hO hb hE hnx htk h1 hO7 hg7 hO9
          go_wp2_with fail
          refine hI.out.mono ?_
          rintro e w3 ⟨rfl, rfl⟩
          go_wp2_with (
            at_builtin
            refine wpList_append_ran rfl (.tmp 30) (.tmp 37) 26 26 rfl rfl rfl hrun ?_)
          all_goals (try go_wp2_with fail)
          refine ⟨⟨k + 1, by go_num, by omega, ?_, HB7.out⟩, by simp [intOf]; omega⟩
          rw [HNX.out]
          exact HO7.out
        · have hnx : (l.take (k + 1)).filter (fun e => onceP (l :: r) e.1) = (l.take k).filter (fun e => onceP (l :: r) e.1) := by
            rw [htk, List.filter_append, List.filter_cons_of_neg (p := fun e : Ent => onceP (l :: r) e.1) (by unfold onceP; rw [decide_eq_false h1]; simp)]
            simp
          have hb1 : (((inN (l :: r) l[k].1 : Nat) : Int) == 1) = false := by
            rw [beq_eq_false_iff_ne]; omega
          have HNX := Lib.hid hnx
          have HO := Lib.hid hO
          generalize inN (l :: r) l[k].1 = q at *
          generalize l[k] = e at *
          obtain ⟨m, s⟩ := e
          generalize (l.take k).filter (fun e => onceP (l :: r) e.1) = F at *
          simp only at d0 d1
          clear hO hb hE hnx htk h1
          go_wp2_with fail
          refine hI.out.mono ?_
          rintro e w3 ⟨rfl, rfl⟩
          go_wp2_with fail
          refine ⟨⟨k + 1, by go_num, by omega, ?_, HB.out⟩, by simp [intOf]; omega⟩
          rw [HNX.out]
          exact HO.out
      · obtain rfl : k = l.length := by omega
        rw [List.take_of_length_le (Nat.le_refl _)] at hO
        have HO := Lib.hid hO
        have HB := Lib.hid hb
        clear hO hb hE hlt
        go_wp2_with fail
        go_returns
        rw [HD.out]
        exact ⟨_, rfl, HO.out, HB.out⟩
end Go.Proofs.YtjilfgkoibbcnaaDoor
