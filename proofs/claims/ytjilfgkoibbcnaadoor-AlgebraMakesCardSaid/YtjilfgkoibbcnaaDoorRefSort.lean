/- The reference's Find, Sorted and Sort. -/
import Derived.Test.YtjilfgkoibbcnaaDoorInsE
import Derived.Test.YtjilfgkoibbcnaaDoorRefLess
import Derived.Test.YtjilfgkoibbcnaaDoorRefIns
import Derived.Test.YtjilfgkoibbcnaaDoorRight
namespace Go.Proofs.YtjilfgkoibbcnaaDoor
open Go.RowKit Go.Shelf
attribute [local go_sem] Oper.semAt_some

theorem beq_toList {a b : ByteArray} (h : a.toList = b.toList) : a = b := ba_ext (by rw [← Lib.toList_data, ← Lib.toList_data, h])

set_option maxHeartbeats 1000000 in
theorem find_any (a : Option Addr) (c : Nat) (E : List Ent) (hE : E.length ≤ 100000) (m : ByteArray) (w : World) (hr : Ents w a E) :
    Calls Tryd.prog 23 #[.slice a E.length c, .string m] w fun e w' => e = .returned (.int .i64 (whereE E m)) ∧ w' = w := by
  have HR := Lib.hid hr
  clear hr
  go_enter Tryd.func23, Tryd.ntmps23
  go_wp2
  go_loopw [5] (fun i wr => ∃ (k : Nat), i = .int .i64 k ∧ k ≤ E.length ∧ wr = w ∧ ∀ j x, j < k → E[j]? = some x → x.1 ≠ m) (fun i _ => E.length - (intOf i).toNat)
  case atStart => exact ⟨0, rfl, by omega, rfl, fun j x hj => by omega⟩
  case round =>
    obtain ⟨k, rfl, hk, rfl, hno⟩ := hrel
    by_cases hlt : k < E.length
    · have hx : E[k]? = some E[k] := List.getElem?_eq_getElem hlt
      obtain ⟨b, off, rfl, g0, g1⟩ := HR.out k hlt
      generalize E[k] = x at *
      have hk2 : (k : Int) < E.length := by omega
      by_cases he : x.1 = m
      · have hw : whereE E m = k := by
          unfold whereE
          rw [List.findIdx?_eq_some_iff_getElem.2 ⟨hlt, by rw [(List.getElem?_eq_some_iff.1 hx).2]; simpa using he, fun j hj => by
            have := hno j E[j] hj (List.getElem?_eq_getElem (by omega))
            simpa using this⟩]
        have hbeq : (x.1.toList == m.toList) = true := by rw [he]; simp
        have HW := Lib.hid hw
        clear hno hx hw he
        go_wp2_with fail
        go_returns
        exact ⟨by rw [HW.out]; rfl, rfl⟩
      · have hbeq : (x.1.toList == m.toList) = false := by
          rw [Bool.eq_false_iff]
          intro h
          exact he (beq_toList (by simpa using h))
        have HNO := Lib.hid (show ∀ j y, j < k + 1 → E[j]? = some y → y.1 ≠ m from fun j y hj hy => by
          by_cases e : j = k
          · subst e; rw [hx] at hy; cases hy; exact he
          · exact hno j y (by omega) hy)
        clear hno hx he
        go_wp2_with fail
        exact ⟨⟨k + 1, by go_num, hlt, trivial, HNO.out⟩, by simp [intOf]; omega⟩
    · obtain rfl : k = E.length := by omega
      have hw : whereE E m = -1 := by
        unfold whereE
        rw [List.findIdx?_eq_none_iff.2 fun x hx => by
          obtain ⟨j, hj⟩ := List.mem_iff_getElem?.1 hx
          simpa using hno j x (List.getElem?_eq_some_iff.1 hj).1 hj]
      have HW := Lib.hid hw
      clear hno hw
      go_wp2
      go_returns
      exact ⟨by rw [HW.out]; rfl, rfl⟩

set_option maxRecDepth 100000 in
set_option maxHeartbeats 2000000 in
theorem sorted_any (a : Option Addr) (c : Nat) (E : List Ent) (hE : E.length ≤ 1000) (hc : E.length ≤ c) (hz : ∀ x ∈ E, x.1.size ≤ 1000000) (m : ByteArray) (hm : m.size ≤ 1000000) (s : Int) (w : World) (hr : Ents w a E) :
    Calls Tryd.prog 35 #[.slice a E.length c, .agg #[.string m, .int .i64 s]] w fun e w' => ∃ v, e = .returned v ∧ Own w' w.heap.size v (insE E (m, s)) ∧ Below w.heap.size w w' := by
  have hb0 := alloc_below w (.cells #[.string m, .int .i64 s] 38)
  have HR := Lib.hid (fun W (hb : Below (w.alloc (.cells #[.string m, .int .i64 s] 38)).heap.size (w.alloc (.cells #[.string m, .int .i64 s] 38)) W) => (hr.below hb0).below hb)
  have kE := Blk.new w 38 #[.string m, .int .i64 s]
  have HK := Lib.hid (fun W (hb : Below (w.alloc (.cells #[.string m, .int .i64 s] 38)).heap.size (w.alloc (.cells #[.string m, .int .i64 s] 38)) W) => kE.later hb)
  have hple := pos_le E (m, s)
  have HSP := Lib.hid (fun k x hx hk => pos_spec E (m, s) k x hx hk)
  have HZ := Lib.hid hz
  have HB0 := Lib.hid hb0
  have HI := fun W (hb : Below (w.alloc (.cells #[.string m, .int .i64 s] 38)).heap.size (w.alloc (.cells #[.string m, .int .i64 s] 38)) W) => Lib.hid (refInsert_any a c E hE hc (posE E (m, s)) hple (m, s) W (HR.out W hb))
  have HPE := Lib.hid (show E.take (posE E (m, s)) ++ [(m, s)] ++ E.drop (posE E (m, s)) = insE E (m, s) from rfl)
  clear hr hz hb0 kE
  generalize posE E (m, s) = P at *
  go_enter Tryd.func35, Tryd.ntmps35
  go_wp2
  go_loopw [5] (fun i wr => ∃ (k : Nat), i = .int .i64 k ∧ k ≤ P ∧ Below (w.alloc (.cells #[.string m, .int .i64 s] 38)).heap.size (w.alloc (.cells #[.string m, .int .i64 s] 38)) wr) (fun i _ => P - (intOf i).toNat)
  case atStart => exact ⟨0, rfl, by omega, Below.refl _ _⟩
  case round =>
    obtain ⟨k, rfl, hk, hbr⟩ := hrel
    have kR := HK.out wr hbr
    have q1 := fun y : Ext wr => y.cell (facts2 kR).1
    have q2 := fun y : Ext wr => y.cell (facts2 kR).2.1
    have hne := Ext.one wr
    by_cases hlt : k < E.length
    · have hx : E[k]? = some E[k] := List.getElem?_eq_getElem hlt
      have hzx := HZ.out _ (List.getElem_mem hlt)
      obtain ⟨b, off, rfl, g0, g1⟩ := (HR.out wr hbr) k hlt
      generalize E[k] = x at *
      have q3 := fun y : Ext wr => y.cell g0
      have q4 := fun y : Ext wr => y.cell g1
      have hk2 : (k : Int) < E.length := by omega
      have HL := fun W => Lib.hid (refLess_any x.1 m (by omega) (by omega) x.2 s W)
      have hle : ltE x (m, s) = decide (k < P) := HSP.out k x hx hk
      rw [hle] at HL
      have HBR := Lib.hid hbr
      clear hx hzx hle hbr kR g0 g1
      go_wp2_with fail
      by_cases hkp : k < P
      · rw [decide_eq_true hkp] at HL
        refine region_ext (w1 := wr) (by kernel_rfl) (by kernel_rfl) (Below.refl _ _) ?_
        repeat go_big_quiet_step ((go_at_call 33; exact Ext.call _ (HL _).out))
        refine wpQuiet_nil ?_
        rintro _ ⟨y, rfl⟩
        have HY := Lib.hid (HBR.out.trans (y.ok.mono HBR.out.size))
        clear q1 q2 q3 q4 hne HL
        go_wp2_with fail
        exact ⟨⟨k + 1, by go_num, hkp, HY.out⟩, by simp [intOf]; omega⟩
      · obtain rfl : k = P := by omega
        rw [decide_eq_false hkp] at HL
        refine region_ext (w1 := wr) (by kernel_rfl) (by kernel_rfl) (Below.refl _ _) ?_
        repeat go_big_quiet_step ((go_at_call 33; exact Ext.call _ (HL _).out))
        refine wpQuiet_nil ?_
        rintro _ ⟨y, rfl⟩
        have hy := HBR.out.trans (y.ok.mono HBR.out.size)
        have HIY := HI y.w hy
        have HY := Lib.hid hy
        obtain ⟨e0, e1, _, _⟩ := facts2 (HK.out y.w hy)
        clear q1 q2 q3 q4 hne HL hy HI
        go_wp2_with fail
        refine HIY.out.mono ?_
        rintro e w3 ⟨v, rfl, ho, hb3⟩
        have HO := Lib.hid (show Own w3 w.heap.size v (insE E (m, s)) from by
          have := ho
          rw [HPE.out] at this
          exact own_mono this (Nat.le_trans HB0.out.size HY.out.size))
        have HB3 := Lib.hid ((HB0.out.trans (HY.out.mono HB0.out.size)).trans (hb3.mono (Nat.le_trans HB0.out.size HY.out.size)))
        clear ho hb3 HIY
        go_wp2_with fail
        go_returns
        exact ⟨_, rfl, HO.out, HB3.out⟩
    · obtain rfl : k = P := by omega
      have hk2 : ¬ (k : Int) < E.length := by omega
      have HBR := Lib.hid hbr
      clear hbr kR
      go_wp2_with fail
      refine region_ext (w1 := wr) (by kernel_rfl) (by kernel_rfl) (Below.refl _ _) ?_
      repeat go_big_quiet_step (fail)
      refine wpQuiet_nil ?_
      rintro _ ⟨y, rfl⟩
      have hy := HBR.out.trans (y.ok.mono HBR.out.size)
      have HIY := HI y.w hy
      have HY := Lib.hid hy
      obtain ⟨e0, e1, _, _⟩ := facts2 (HK.out y.w hy)
      clear q1 q2 hne hy HI
      go_wp2_with fail
      refine HIY.out.mono ?_
      rintro e w3 ⟨v, rfl, ho, hb3⟩
      have HO := Lib.hid (show Own w3 w.heap.size v (insE E (m, s)) from by
        have := ho
        rw [HPE.out] at this
        exact own_mono this (Nat.le_trans HB0.out.size HY.out.size))
      have HB3 := Lib.hid ((HB0.out.trans (HY.out.mono HB0.out.size)).trans (hb3.mono (Nat.le_trans HB0.out.size HY.out.size)))
      clear ho hb3 HIY
      go_wp2_with fail
      go_returns
      exact ⟨_, rfl, HO.out, HB3.out⟩

theorem nd_scores (l : List Ent) : NdM (scoresM l) := by
  have : ∀ (l : List Ent) (M : List Ent), NdM M → NdM (l.foldl (fun M e => putM M e.1 e.2) M) := by
    intro l
    induction l with
    | nil => intro M h; exact h
    | cons e l ih => intro M h; exact ih _ (nd_put h _ _)
  exact this l [] List.nodup_nil
theorem mem_scores (l : List Ent) (x : Ent) (h : x ∈ scoresM l) : x ∈ l := by
  have : ∀ (l : List Ent) (M : List Ent), x ∈ l.foldl (fun M e => putM M e.1 e.2) M → x ∈ l ∨ x ∈ M := by
    intro l
    induction l with
    | nil => intro M h; exact .inr h
    | cons e l ih =>
      intro M h
      rcases ih _ h with h | h
      · exact .inl (List.mem_cons_of_mem _ h)
      · rcases List.mem_cons.1 h with rfl | h
        · exact .inl (by simp)
        · exact .inr (List.mem_filter.1 h).1
  rcases this l [] h with h | h
  · exact h
  · simp at h

set_option maxRecDepth 100000 in
set_option maxHeartbeats 2000000 in
/-- The reference's Sort is the program's. -/
theorem refSort_any (a : Option Addr) (cap : Nat) (l : List Ent) (hl : l.length ≤ 1000) (hz : ∀ e ∈ l, e.1.size ≤ 1000000) (w : World) (hE : Ents w a l) :
    Calls Tryd.prog 22 #[.slice a l.length cap] w fun e w' => ∃ r, e = .returned r ∧ Own w' w.heap.size r (sortP l) ∧ Below w.heap.size w w' := by
  have HE := Lib.hid hE
  have HZ := Lib.hid hz
  clear hE hz
  go_enter Tryd.func22, Tryd.ntmps22
  go_wp2
  go_loopw [3, 4] (fun v i wr => ∃ (k : Nat), i = .int .i64 k ∧ k ≤ l.length ∧ Own wr w.heap.size v (sortS (scoresM (l.take k))) ∧ Below w.heap.size w wr) (fun _ i _ => l.length - (intOf i).toNat)
  case atStart => exact ⟨0, rfl, by omega, by rw [List.take_zero, show sortS (scoresM []) = [] by simp [sortS, scoresM]]; exact own_nil _ _, Below.refl _ _⟩
  case round =>
    obtain ⟨k, rfl, hk, hO, hb⟩ := hrel
    by_cases hlt : k < l.length
    · obtain ⟨b, off, rfl, c0, c1⟩ := (HE.out.below hb) k hlt
      have hm := HZ.out _ (List.getElem_mem hlt)
      have hk2 : (k : Int) < l.length := by omega
      have hnx : scoresM (l.take (k + 1)) = putM (scoresM (l.take k)) l[k].1 l[k].2 := by rw [List.take_succ_eq_append_getElem hlt, scoresM_snoc]
      have hlen := scoresM_take l k
      have hnd := nd_scores (l.take k)
      have hmz : ∀ x ∈ sortS (scoresM (l.take k)), x.1.size ≤ 1000000 := fun x hx => HZ.out x (List.mem_of_mem_take (mem_scores _ x ((sortS_perm _).mem_iff.1 hx)))
      have hsl : (sortS (scoresM (l.take k))).length ≤ 1000 := by rw [(sortS_perm _).length_eq]; omega
      generalize l[k] = e at *
      obtain ⟨m, s⟩ := e
      simp only at c0 c1 hm
      generalize scoresM (l.take k) = M at *
      obtain ⟨ar, cr, rfl, hEr, hcr, _, _⟩ := Own.slice hO
      have HF := Lib.hid (find_any ar cr (sortS M) (by omega) m wr hEr)
      have HB := Lib.hid hb
      cases hg : getM M m with
      | none =>
        have hw : whereE (sortS M) m = -1 := whereE_none (by rw [getM_perm (sortS_perm M) hnd]; exact hg)
        rw [hw] at HF
        have hres : insE (sortS M) (m, s) = sortS (scoresM (l.take (k + 1))) := by
          rw [hnx, ← ins_put, del_none hg]
        have HS := Lib.hid (sorted_any ar cr (sortS M) hsl hcr hmz m hm s wr hEr)
        rw [hres] at HS
        clear hO hb hnx hnd hmz hEr hg hw hres
        go_wp2_with fail
        refine HF.out.mono ?_
        rintro e w1 ⟨rfl, rfl⟩
        go_wp2_with fail
        refine HS.out.mono ?_
        rintro e w1 ⟨v, rfl, hO1, hb1⟩
        have HO1 := Lib.hid (own_mono hO1 HB.out.size)
        have HB1 := Lib.hid (HB.out.trans (hb1.mono HB.out.size))
        clear hO1 hb1
        go_wp2_with fail
        exact ⟨⟨k + 1, by go_num, hlt, HO1.out, HB1.out⟩, by simp [intOf]; omega⟩
      | some s0 =>
        obtain ⟨j, hj, hw, _, hcut⟩ := whereE_some (nd_sortS hnd) (m := m) (s := s0) (by rw [getM_perm (sortS_perm M) hnd]; exact hg)
        rw [hw] at HF
        have hj0 : (0 : Int) ≤ j := by omega
        have hres : insE (sortS (delM M m)) (m, s) = sortS (scoresM (l.take (k + 1))) := by
          rw [hnx, ← ins_put]
        have HD := Lib.hid (refDelete_any ar cr (sortS M) hsl hcr j hj wr hEr)
        rw [hcut, del_sortS] at HD
        have hdl : (sortS (delM M m)).length ≤ 1000 := by
          rw [(sortS_perm _).length_eq]
          have := List.length_filter_le (fun x : Ent => !decide (x.1 = m)) M
          have h2 := (sortS_perm M).length_eq
          unfold delM
          omega
        have hdz : ∀ x ∈ sortS (delM M m), x.1.size ≤ 1000000 := fun x hx => hmz x ((sortS_perm M).mem_iff.2 (List.mem_filter.1 ((sortS_perm _).mem_iff.1 hx)).1)
        have HDZ := Lib.hid hdz
        have HRES := Lib.hid hres
        have hlS : ((sortS M).length : Int) ≤ 1000 := by omega
        clear hO hb hnx hnd hmz hEr hg hw hres hcut hdz
        go_wp2_with fail
        refine HF.out.mono ?_
        rintro e w1 ⟨rfl, rfl⟩
        go_wp2_with fail
        refine HD.out.mono ?_
        rintro e w1 ⟨v, rfl, hO1, hb1⟩
        obtain ⟨a1, r1, rfl, hE1, hc1, _, _⟩ := Own.slice hO1
        have HS := Lib.hid (sorted_any a1 r1 (sortS (delM M m)) hdl hc1 HDZ.out m hm s w1 hE1)
        rw [HRES.out] at HS
        have HB1 := Lib.hid (HB.out.trans (hb1.mono HB.out.size))
        have d0 := (hb1.cell (p := ⟨b, _, none⟩) (World.block_lt_of_cell? _ ⟨b, _, none⟩ c0)).trans c0
        have d1 := (hb1.cell (p := ⟨b, _, none⟩) (World.block_lt_of_cell? _ ⟨b, _, none⟩ c1)).trans c1
        clear hO1 hb1 hE1 c0 c1
        go_wp2_with fail
        refine HS.out.mono ?_
        rintro e w2 ⟨v, rfl, hO2, hb2⟩
        have HO2 := Lib.hid (own_mono hO2 HB1.out.size)
        have HB2 := Lib.hid (HB1.out.trans (hb2.mono HB1.out.size))
        clear hO2 hb2
        go_wp2_with fail
        exact ⟨⟨k + 1, by go_num, hlt, HO2.out, HB2.out⟩, by simp [intOf]; omega⟩
    · obtain rfl : k = l.length := by omega
      rw [List.take_of_length_le (Nat.le_refl _)] at hO
      have HO := Lib.hid (show Own wr w.heap.size _ (sortP l) from hO)
      have HB := Lib.hid hb
      clear hO hb
      go_wp2
      go_returns
      exact ⟨_, rfl, HO.out, HB.out⟩
end Go.Proofs.YtjilfgkoibbcnaaDoor
