/- The reference's unions and intersections. -/
import Derived.Test.YtjilfgkoibbcnaaDoorRefScore
namespace Go.Proofs.YtjilfgkoibbcnaaDoor
open Go.RowKit Go.Shelf
attribute [local go_sem] Oper.semAt_some

/-- Does a member come among entries? -/
def inX (xs : List (Nat × Ent)) (m : ByteArray) : Bool := xs.any fun x => decide (x.2.1 = m)
theorem inX_snoc (xs : List (Nat × Ent)) (x : Nat × Ent) (m : ByteArray) : inX (xs ++ [x]) m = (inX xs m || decide (x.2.1 = m)) := by unfold inX; simp
theorem inX_mem (xs : List (Nat × Ent)) (m : ByteArray) : inX xs m = true ↔ m ∈ xs.map (·.2.1) := by
  unfold inX
  rw [List.any_eq_true, List.mem_map]
  constructor
  · rintro ⟨x, h1, h2⟩
    exact ⟨x, h1, of_decide_eq_true h2⟩
  · rintro ⟨x, h1, h2⟩
    exact ⟨x, h1, decide_eq_true h2⟩
/-- What is told behind some of the entries. -/
structure Told (F : ByteArray → Option (Option Int)) (xs : List (Nat × Ent)) (M : List Ent) : Prop where
  nd : NdM M
  get : ∀ m, getM M m = if inX xs m = true then (F m).getD none else none
  ok : ∀ x ∈ xs, F x.2.1 ≠ none
theorem Told.start (F : ByteArray → Option (Option Int)) : Told F [] [] := ⟨List.nodup_nil, fun m => by simp [getM, inX], fun x hx => by simp at hx⟩
theorem Told.skip {F : ByteArray → Option (Option Int)} {xs : List (Nat × Ent)} {M : List Ent} (h : Told F xs M) (x : Nat × Ent) (hF : F x.2.1 ≠ none) (hg : getM M x.2.1 = (F x.2.1).getD none) : Told F (xs ++ [x]) M := by
  refine ⟨h.nd, fun m => ?_, fun y hy => ?_⟩
  · rw [inX_snoc]
    cases hm : inX xs m with
    | true => rw [h.get, hm]; rfl
    | false =>
      by_cases e : x.2.1 = m
      · subst e
        rw [hg, decide_eq_true rfl]; rfl
      · rw [h.get, hm, decide_eq_false e]; rfl
  · rcases List.mem_append.1 hy with hy | hy
    · exact h.ok y hy
    · rw [List.mem_singleton.1 hy]; exact hF
theorem Told.put {F : ByteArray → Option (Option Int)} {xs : List (Nat × Ent)} {M : List Ent} (h : Told F xs M) (x : Nat × Ent) {v : Int} (hF : F x.2.1 = some (some v)) : Told F (xs ++ [x]) (putM M x.2.1 v) := by
  refine ⟨nd_put h.nd _ _, fun m => ?_, fun y hy => ?_⟩
  · rw [getM_put, inX_snoc]
    by_cases e : x.2.1 = m
    · rw [if_pos e, decide_eq_true e, Bool.or_true, if_pos rfl, ← e, hF]; rfl
    · rw [if_neg e, h.get, decide_eq_false e, Bool.or_false]
  · rcases List.mem_append.1 hy with hy | hy
    · exact h.ok y hy
    · rw [List.mem_singleton.1 hy, hF]; simp
theorem mem_vals {m : ByteArray} {ls : List (List Ent)} (h : ∀ l ∈ ls, NdM l) : m ∈ (seqOf ls).map (·.2.1) ↔ valsFrom m 0 ls ≠ [] := by
  rw [← vals_seq h m 0]
  constructor
  · intro hm
    obtain ⟨x, hx, rfl⟩ := List.mem_map.1 hm
    intro he
    have := List.map_eq_nil_iff.1 he
    have hx2 : x ∈ (seqFrom 0 ls).filter fun y => decide (y.2.1 = x.2.1) := List.mem_filter.2 ⟨hx, by simp⟩
    rw [this] at hx2
    simp at hx2
  · intro hne
    obtain ⟨y, hy⟩ := List.exists_mem_of_ne_nil _ hne
    obtain ⟨x, hx, _⟩ := List.mem_map.1 hy
    obtain ⟨h1, h2⟩ := List.mem_filter.1 hx
    exact List.mem_map.2 ⟨x, h1, of_decide_eq_true h2⟩
/-- All entries told of: what the program tells. -/
theorem Told.all {g : Nat} {ws : List Int} {least : Int} {ls : List (List Ent)} (hnd : ∀ l ∈ ls, NdM l) {M : List Ent} (h : Told (fm g ws (sharedS least ls)) (seqOf ls) M) : toldP (some (mixF g ws (sharedS least ls))) = (sortS M, 0) := by
  refine told_is h.nd fun m => ?_
  rw [h.get]
  cases hm : inX (seqOf ls) m with
  | true =>
    obtain ⟨x, hx, rfl⟩ := List.mem_map.1 ((inX_mem _ _).1 hm)
    have := h.ok x hx
    cases hf : fm g ws (sharedS least ls) x.2.1 with
    | none => exact absurd hf this
    | some o => rfl
  | false =>
    rw [fm_shared g ws least hnd]
    have hv : valsFrom m 0 ls = [] := Classical.byContradiction fun hne => by
      rw [(inX_mem _ _).2 ((mem_vals hnd).2 hne)] at hm
      cases hm
    rw [hv]
    split <;> rfl
theorem foldV_ne {g : Nat} {ws : List Int} (xs : List (Nat × Int)) (h : xs ≠ []) (o : Option (Option Int)) : xs.foldl (stepV g ws) o ≠ some none := by
  induction xs using snoc_ind with
  | h0 => exact absurd rfl h
  | hs xs x _ =>
    rw [List.foldl_append]
    exact step_some _ _ _ _
theorem told_bad {g : Nat} {ws : List Int} {xs : List (Nat × Ent)} {m : ByteArray} (h : fm g ws xs m = none) : toldP (some (mixF g ws xs)) = ([], 11) := by
  have h1 := mixF_fm g ws xs
  cases hm : mixF g ws xs with
  | none => rfl
  | some M => rw [hm] at h1; rw [h1.2] at h; cases h

set_option maxRecDepth 100000 in
set_option maxHeartbeats 4000000 in
theorem all_good (g : Nat) (hg : isG g) (least : Int) (a aw : Option Addr) (cap cw : Nat) (ws : List Int) (hw64 : ∀ x ∈ ws, I64 x) (ls : List (List Ent)) (hls : OkS ls) (hr : rightsP ls = true) (hsm : ls.length ≤ 6 ∧ ∀ l ∈ ls, l.length ≤ 30) (hn : ws.length = ls.length) (w : World) (hS : Sets w a ls) (hW : Nums w aw ws) :
    Calls Tryd.prog 26 #[.slice a ls.length cap, .slice aw ws.length cw, .int .i64 g, .int .i64 least] w (Tells (toldP (some (mixF g ws (sharedS least ls)))) w) := by
  have hgood : ∀ l ∈ ls, Good l := fun l hl => good_of_right (by
    unfold rightsP at hr
    exact List.all_eq_true.1 (Bool.and_eq_true_iff.1 hr).2 l hl)
  have hnd : ∀ l ∈ ls, NdM l := fun l hl => (hgood l hl).nd
  have hg13 : 1 ≤ (g : Int) ∧ (g : Int) ≤ 3 := by rcases hg with rfl | rfl | rfl <;> omega
  have HRT := Lib.hid (refRights_any a aw cap cw ws.length g ls hls w hS)
  rw [hr, decide_eq_true hn, decide_eq_true hg13] at HRT
  have HIN := fun (m : ByteArray) (W : World) (hS : Sets W a ls) => Lib.hid (in_any a cap ls hls hnd m W hS)
  have HSC := fun (m : ByteArray) (W : World) (hS : Sets W a ls) (hW : Nums W aw ws) => Lib.hid (score_any g hg a aw cap cw ws hw64 ls hls hnd hn m W hS hW)
  have HS := Lib.hid hS
  have HWs := Lib.hid hW
  have HL := Lib.hid hls
  have HSM := Lib.hid hsm
  have HND := Lib.hid hnd
  have HFM := Lib.hid (fun m => fm_shared g ws least hnd m)
  have hl1 := hls.1
  have HAT := Lib.hid (fun i k hi hk => seq_at ls 0 i k hi hk)
  have HEND := Lib.hid (offN_end ls 0)
  have HSU := Lib.hid (offN_succ ls)
  have HZ := Lib.hid (offN_zero ls)
  clear hS hW hls hnd hw64 hn hgood hr hsm hg13
  go_enter Tryd.func26, Tryd.ntmps26
  go_wp2_with fail
  refine HRT.out.mono ?_
  rintro e w1 ⟨rfl, hb⟩
  have HB1 := Lib.hid hb
  clear hb
  simp only [Bool.and_true]
  go_wp2_with fail
  go_loopw [10, 11] (fun v i wr => ∃ (k : Nat) (M : List Ent), i = .int .i64 k ∧ k ≤ ls.length ∧ Own wr w.heap.size v (sortS M) ∧ Told (fm g ws (sharedS least ls)) ((seqOf ls).take (offN ls k)) M ∧ M.length ≤ 30 * k ∧ (∀ x ∈ M, x.1.size ≤ 1000000) ∧ Below w.heap.size w wr) (fun _ i _ => ls.length - (intOf i).toNat)
  case atStart =>
    refine ⟨0, [], rfl, by omega, ?_, ?_, by simp, fun x hx => by simp at hx, HB1.out⟩
    · rw [show sortS [] = [] by simp [sortS]]; exact own_nil _ _
    · rw [HZ.out]; exact Told.start _
  case round =>
    obtain ⟨k, M, rfl, hk, hO, hT, hml, hmz, hb⟩ := hrel
    by_cases hlt : k < ls.length
    · have hlt2 : (k : Int) < ls.length := by omega
      rename World => wk
      have HO0 := Lib.hid hO
      have HT0 := Lib.hid hT
      have HMZ0 := Lib.hid hmz
      have HB0 := Lib.hid hb
      have hk6 : k < 6 := by have := HSM.out.1; omega
      clear hO hT hmz hb
      go_wp2_with fail
      go_loopw [10, 12] (fun v i wr => ∃ (j : Nat) (M : List Ent), i = .int .i64 j ∧ j ≤ ls[k].length ∧ Own wr w.heap.size v (sortS M) ∧ Told (fm g ws (sharedS least ls)) ((seqOf ls).take (offN ls k + j)) M ∧ M.length ≤ 30 * k + j ∧ (∀ x ∈ M, x.1.size ≤ 1000000) ∧ Below w.heap.size w wr) (fun _ i _ => ls[k].length - (intOf i).toNat)
      case atStart => exact ⟨0, M, rfl, by omega, HO0.out, HT0.out, by omega, HMZ0.out, HB0.out⟩
      case round =>
        clear HO0 HT0 HMZ0 HB0 hml
        obtain ⟨j, M, rfl, hj, hO, hT, hml, hmz, hb⟩ := hrel
        obtain ⟨gg, off, ar, cr, rfl, c0, hE⟩ := (HS.out.later hb).e k hlt
        have hln := (HL.out.2 _ (List.getElem_mem hlt)).1
        have hl30 := HSM.out.2 _ (List.getElem_mem hlt)
        by_cases hjl : j < ls[k].length
        · have hjl2 : (j : Int) < ls[k].length := by omega
          obtain ⟨b2, o2, rfl, d0, d1⟩ := hE j hjl
          have hat : (seqOf ls)[offN ls k + j]? = some (k, ls[k][j]) := by
            have := HAT.out k j hlt hjl
            rw [Nat.zero_add] at this
            exact this
          obtain ⟨hsi, hsx⟩ := List.getElem?_eq_some_iff.1 hat
          have htk : (seqOf ls).take (offN ls k + (j + 1)) = (seqOf ls).take (offN ls k + j) ++ [(k, ls[k][j])] := by
            rw [← Nat.add_assoc, List.take_succ_eq_append_getElem hsi, hsx]
          have hmsz := ((HL.out.2 _ (List.getElem_mem hlt)).2.2 _ (List.getElem_mem hjl)).1
          have hmem : ls[k][j].1 ∈ (seqOf ls).map (·.2.1) := List.mem_map.2 ⟨(k, ls[k][j]), List.mem_of_getElem? hat, rfl⟩
          have hvne := (mem_vals HND.out).1 hmem
          have hfm := HFM.out ls[k][j].1
          rw [inN_vals] at hfm
          obtain ⟨ra, rc, rfl, hEr, hcr, _, _⟩ := hO.slice
          have hsl : (sortS M).length ≤ 1000 := by rw [(sortS_perm M).length_eq]; omega
          have hsz : ∀ x ∈ sortS M, x.1.size ≤ 1000000 := fun x hx => hmz x ((sortS_perm M).mem_iff.1 hx)
          have hIn := HIN ls[k][j].1 wr (HS.out.later hb)
          have hSc := HSC ls[k][j].1 wr (HS.out.later hb) (HWs.out.later hb)
          have hFi := Lib.hid (find_any ra rc (sortS M) (by omega) ls[k][j].1 wr hEr)
          have hSo := fun W (hE : Ents W ra (sortS M)) v => Lib.hid (sorted_any ra rc (sortS M) hsl hcr hsz ls[k][j].1 hmsz v W hE)
          have hsk := fun (hF : fm g ws (sharedS least ls) ls[k][j].1 ≠ none) (hg2 : getM M ls[k][j].1 = (fm g ws (sharedS least ls) ls[k][j].1).getD none) => hT.skip (k, ls[k][j]) hF hg2
          have hpu := fun (v : Int) (hF : fm g ws (sharedS least ls) ls[k][j].1 = some (some v)) => hT.put (k, ls[k][j]) (v := v) hF
          rw [← htk] at hsk hpu
          have hinle := inN_le ls ls[k][j].1
          have hins := fun s => ins_put M ls[k][j].1 s
          have hperm := getM_perm (sortS_perm M) hT.nd ls[k][j].1
          have hndS := nd_sortS hT.nd
          have hmzp : ∀ v, ∀ x ∈ putM M ls[k][j].1 v, x.1.size ≤ 1000000 := fun v x hx => by
            rcases List.mem_cons.1 hx with rfl | hx
            · exact hmsz
            · exact hmz x (List.mem_filter.1 hx).1
          have hlp := fun v => len_put M ls[k][j].1 v
          generalize ls[k][j] = e at *
          obtain ⟨m, s⟩ := e
          simp only at hfm d0 d1 hIn hSc hFi hSo hsk hpu hinle hins hperm hvne hmzp hlp
          have hget := hT.get m
          have HB := Lib.hid hb
          have HO := Lib.hid hO
          have HMZ := Lib.hid hmz
          generalize hlk : ls[k].length = lk at *
          generalize hacc : (valsFrom m 0 ls).foldl (stepV g ws) (some none) = acc at *
          have hacc2 : accV g ws m ls = acc := hacc
          rw [hacc2] at hSc
          generalize hci : inN ls m = ci at *
          by_cases hlst : least ≤ (ci : Int)
          · rw [if_pos hlst] at hfm
            have hlst2 : ¬ ((ci : Int) < least) := by omega
            cases hgM : getM M m with
            | some v0 =>
              obtain ⟨jj, _, hw, _⟩ := whereE_some hndS (m := m) (s := v0) (by rw [hperm]; exact hgM)
              rw [hw] at hFi
              have hjj0 : (0 : Int) ≤ (jj : Int) := by omega
              have hF1 : (fm g ws (sharedS least ls) m).getD none = some v0 := by
                rw [hgM] at hget
                split at hget
                · exact hget.symm
                · cases hget
              have HNX := Lib.hid (hsk (fun h => by rw [h] at hF1; cases hF1) (by rw [hgM, hF1]))
              clear hsk hpu hfm hvne hat hsi hsx htk hmem hE hO hT hmz hb hEr hsz hSo hSc hins hperm hndS hmzp hlp hget hgM hw hF1 hacc hacc2 hci hlk hlst
              go_wp2_with fail
              refine hIn.out.mono ?_
              rintro e w3 ⟨rfl, rfl⟩
              go_wp2_with fail
              refine hFi.out.mono ?_
              rintro e w3 ⟨rfl, rfl⟩
              go_wp2_with fail
              exact ⟨⟨j + 1, M, by go_num, by omega, HO.out, HNX.out, by omega, HMZ.out, HB.out⟩, by simp [intOf]; omega⟩
            | none =>
              have hw := whereE_none (E := sortS M) (m := m) (by rw [hperm]; exact hgM)
              rw [hw] at hFi
              have hd := del_none hgM
              rw [hd] at hins
              cases acc with
              | none =>
                have HNX := Lib.hid (told_bad hfm)
                clear hsk hpu hfm hvne hat hsi hsx htk hmem hE hO hT hmz hb hEr hsz hSo hins hperm hndS hmzp hlp hget hgM hw hacc hacc2 hci hlk hlst hd
                go_wp2_with fail
                refine hIn.out.mono ?_
                rintro e w3 ⟨rfl, rfl⟩
                go_wp2_with fail
                refine hFi.out.mono ?_
                rintro e w3 ⟨rfl, rfl⟩
                go_wp2_with fail
                refine hSc.out.mono ?_
                rintro e w3 ⟨rfl, hb3⟩
                have HB3 := Lib.hid (HB.out.trans (hb3.mono HB.out.size))
                simp only [scoreT]
                clear hb3
                go_wp2_with fail
                go_returns
                rw [HNX.out]
                exact ⟨_, rfl, own_nil _ _, HB3.out⟩
              | some o =>
                cases o with
                | none =>
                  exact absurd hacc (foldV_ne _ hvne _)
                | some v =>
                  have HNX := Lib.hid (hpu v hfm)
                  have hS1 := fun W hE => hSo W hE v
                  rw [hins v] at hS1
                  have HMZP := Lib.hid (hmzp v)
                  have hlpv := hlp v
                  clear hsk hpu hfm hvne hat hsi hsx htk hmem hE hO hT hmz hb hEr hsz hSo hins hperm hndS hmzp hlp hget hgM hw hacc hacc2 hci hlk hlst hd
                  go_wp2_with fail
                  refine hIn.out.mono ?_
                  rintro e w3 ⟨rfl, rfl⟩
                  go_wp2_with fail
                  refine hFi.out.mono ?_
                  rintro e w3 ⟨rfl, rfl⟩
                  go_wp2_with fail
                  refine hSc.out.mono ?_
                  rintro e w4 ⟨rfl, hb3⟩
                  have HO4 := Lib.hid (own_later HO.out hb3)
                  have HB4 := Lib.hid (HB.out.trans (hb3.mono HB.out.size))
                  have hS2 := hS1 w4 (own_ents HO4.out)
                  simp only [scoreT, Option.getD_some]
                  clear hb3 hS1
                  go_wp2_with fail
                  refine hS2.out.mono ?_
                  rintro e w5 ⟨u, rfl, hO5, hb5⟩
                  have HO5 := Lib.hid (own_mono hO5 HB4.out.size)
                  have HB5 := Lib.hid (HB4.out.trans (hb5.mono HB4.out.size))
                  clear hO5 hb5 hS2
                  go_wp2_with fail
                  exact ⟨⟨j + 1, putM M m v, by go_num, by omega, HO5.out, HNX.out, by omega, HMZP.out, HB5.out⟩, by simp [intOf]; omega⟩
          · rw [if_neg hlst] at hfm
            have hlst2 : (ci : Int) < least := by omega
            have hgM : getM M m = none := by
              rw [hget, hfm]
              split <;> rfl
            have HNX := Lib.hid (hsk (by rw [hfm]; simp) (by rw [hfm, hgM]; rfl))
            clear hsk hpu hfm hvne hat hsi hsx htk hmem hE hO hT hmz hb hEr hsz hSo hSc hins hperm hndS hmzp hlp hget hgM hacc hacc2 hci hlk hlst hFi
            go_wp2_with fail
            refine hIn.out.mono ?_
            rintro e w3 ⟨rfl, rfl⟩
            go_wp2_with fail
            exact ⟨⟨j + 1, M, by go_num, by omega, HO.out, HNX.out, by omega, HMZ.out, HB.out⟩, by simp [intOf]; omega⟩
        · obtain rfl : j = ls[k].length := by omega
          have hT2 := hT
          rw [← HSU.out k hlt] at hT2
          have HT := Lib.hid hT2
          have HO := Lib.hid hO
          have HMZ := Lib.hid hmz
          have HB := Lib.hid hb
          generalize ls[k].length = lk at *
          clear hO hT hT2 hmz hb hjl
          go_wp2_with fail
          exact ⟨⟨k + 1, M, by go_num, by omega, HO.out, HT.out, by omega, HMZ.out, HB.out⟩, by simp [intOf]; omega⟩
    · obtain rfl : k = ls.length := by omega
      rw [HEND.out, show (seqOf ls).take (seqFrom 0 ls).length = seqOf ls from List.take_of_length_le (Nat.le_refl _)] at hT
      have HX := Lib.hid (hT.all HND.out)
      have HO := Lib.hid hO
      have HB := Lib.hid hb
      clear hO hT hmz hb hlt
      go_wp2_with fail
      go_returns
      rw [HX.out]
      exact ⟨_, rfl, HO.out, HB.out⟩
end Go.Proofs.YtjilfgkoibbcnaaDoor
