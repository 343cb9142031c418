/- The reference's score of a member. -/
import Derived.Test.YtjilfgkoibbcnaaDoorRefMix
namespace Go.Proofs.YtjilfgkoibbcnaaDoor
open Go.RowKit Go.Shelf
attribute [local go_sem] Oper.semAt_some

/-- What stands between two rounds. -/
structure Acc (o : Option Int) (s : Int) (n : Nat) : Prop where
  val : s = o.getD 0
  cnt : o = none ↔ n = 0
  num : ∀ u, o = some u → I64 u
theorem Acc.i64 {o : Option Int} {s : Int} {n : Nat} (h : Acc o s n) : I64 s := by
  rw [h.val]
  cases o with
  | none => show I64 0; unfold I64; omega
  | some u => exact h.num u rfl
theorem acc_first {g : Nat} {ws : List Int} {i : Nat} {s : Int} (h : sumE (s * ws.getD i 0) 0 = 0) : stepV g ws (some none) (i, s) = some (some (sumN (s * ws.getD i 0) 0)) := by
  unfold stepV
  simp only
  rw [if_pos h]
theorem acc_bad {g : Nat} {ws : List Int} {o : Option Int} {i : Nat} {s : Int} (h : sumE (s * ws.getD i 0) 0 ≠ 0) : stepV g ws (some o) (i, s) = none := by
  unfold stepV
  simp only
  rw [if_neg h]
theorem acc_join {g : Nat} {ws : List Int} {u : Int} {i : Nat} {s : Int} (h : sumE (s * ws.getD i 0) 0 = 0) (h2 : joinE g u (sumN (s * ws.getD i 0) 0) = 0) : stepV g ws (some (some u)) (i, s) = some (some (joinN g u (sumN (s * ws.getD i 0) 0))) := by
  unfold stepV
  simp only
  rw [if_pos h]
  (try simp only)
  rw [if_pos h2]
theorem acc_broke {g : Nat} {ws : List Int} {u : Int} {i : Nat} {s : Int} (h : sumE (s * ws.getD i 0) 0 = 0) (h2 : joinE g u (sumN (s * ws.getD i 0) 0) ≠ 0) : stepV g ws (some (some u)) (i, s) = none := by
  unfold stepV
  simp only
  rw [if_pos h]
  (try simp only)
  rw [if_neg h2]

set_option maxRecDepth 100000 in
set_option maxHeartbeats 4000000 in
theorem score_any (g : Nat) (hg : isG g) (a aw : Option Addr) (cap cw : Nat) (ws : List Int) (hw64 : ∀ x ∈ ws, I64 x) (ls : List (List Ent)) (hls : OkS ls) (hnd : ∀ l ∈ ls, NdM l) (hn : ws.length = ls.length) (m : ByteArray) (w : World) (hS : Sets w a ls) (hW : Nums w aw ws) :
    Calls Tryd.prog 41 #[.slice a ls.length cap, .slice aw ws.length cw, .int .i64 g, .string m] w fun e w' => e = .returned (.tuple #[.int .i64 (scoreT (accV g ws m ls) (inN ls m)).1, .int .i64 (scoreT (accV g ws m ls) (inN ls m)).2.1, .int .i64 (scoreT (accV g ws m ls) (inN ls m)).2.2]) ∧ Below w.heap.size w w' := by
  have HS := Lib.hid hS
  have HWs := Lib.hid hW
  have HL := Lib.hid hls
  have HN := Lib.hid hnd
  have HW64 := Lib.hid hw64
  have HLEN := Lib.hid hn
  have hl1 := hls.1
  clear hS hW hls hnd hw64 hn
  go_enter Tryd.func41, Tryd.ntmps41
  go_wp2
  go_loopw [11, 12, 13] (fun s n i wr => ∃ (k : Nat) (o : Option Int) (sv : Int), i = .int .i64 k ∧ k ≤ ls.length ∧ s = .int .i64 sv ∧ n = .int .i64 (inN (ls.take k) m) ∧ accV g ws m (ls.take k) = some o ∧ Acc o sv (inN (ls.take k) m) ∧ Below w.heap.size w wr) (fun _ _ i _ => ls.length - (intOf i).toNat)
  case atStart => exact ⟨0, none, 0, rfl, by omega, rfl, rfl, rfl, ⟨rfl, by simp [inN], fun u h => by cases h⟩, Below.refl _ _⟩
  case round =>
    obtain ⟨k, o, sv, rfl, hk, rfl, rfl, hacc, hA, hb⟩ := hrel
    have hle := inN_le (ls.take k) m
    rw [List.length_take] at hle
    by_cases hlt : k < ls.length
    · have hlt2 : (k : Int) < ls.length := by omega
      have hlt3 : (k : Int) < ws.length := by have := HLEN.out; omega
      have hltw : k < ws.length := by have := HLEN.out; omega
      obtain ⟨gg, off, ar, cr, rfl, c0, hE⟩ := (HS.out.later hb).e k hlt
      have hln := (HL.out.2 _ (List.getElem_mem hlt)).1
      have hOkl := (HL.out.2 _ (List.getElem_mem hlt)).2
      have hF := find_any ar cr ls[k] (by omega) m wr hE
      have hnx := inN_snoc (ls.take k) ls[k] m
      have hax := accV_snoc g ws m (ls.take k) ls[k]
      rw [← List.take_succ_eq_append_getElem hlt] at hnx hax
      rw [hacc, List.length_take, Nat.min_eq_left (Nat.le_of_lt hlt)] at hax
      have hnd := HN.out _ (List.getElem_mem hlt)
      cases hgm : getM ls[k] m with
      | some s =>
        obtain ⟨j, hj, hjw, hje, _⟩ := whereE_some hnd hgm
        rw [hjw] at hF
        rw [show hasM ls[k] m = true by unfold hasM; rw [hgm]; rfl, if_pos rfl] at hnx
        rw [hgm] at hax
        simp only at hax
        obtain ⟨b2, o2, rfl, d0, d1⟩ := hE j hj
        have hs2 : ls[k][j].2 = s := by
          have := (List.getElem?_eq_some_iff.1 hje).2
          rw [this]
        rw [hs2] at d1
        have hs64 : I64 s := by rw [← hs2]; exact (hOkl.2 _ (List.getElem_mem hj)).2
        obtain ⟨gw, ow, rfl, cw0⟩ := (HWs.out.later hb) k hltw
        have hgetw : ws.getD k 0 = ws[k] := by simp [List.getD_eq_getElem?_getD, hltw]
        have hw6 := HW64.out _ (List.getElem_mem hltw)
        rw [← hgetw] at cw0 hw6
        have q1 := fun y : Ext wr => y.cell c0
        have q2 := fun y : Ext wr => y.cell d1
        have q3 := fun y : Ext wr => y.cell cw0
        have hne := Ext.one wr
        have HM := fun y : Ext wr => Lib.hid ((refMul_any s (ws.getD k 0) hs64 hw6 y.w).mono (R' := fun e w' => e = .returned (.tuple #[.int .i64 (sumN (s * ws.getD k 0) 0), .int .i64 (sumE (s * ws.getD k 0) 0)]) ∧ Below y.w.heap.size y.w w') fun e w' h => ⟨h.1, by rw [← h.2]; exact Below.refl _ _⟩)
        have hjl : (j : Int) < ls[k].length := by omega
        have hj0 : (0 : Int) ≤ (j : Int) := by omega
        have hj1 : ¬ ((j : Int) < 0) := by omega
        have HF := Lib.hid hF
        have HX := Lib.hid hnx
        have HAX := Lib.hid hax
        have HA := Lib.hid hA
        have HB := Lib.hid hb
        have hs0 := sumN_i64 (s * ws.getD k 0) 0
        have hsE := sumE_two (s * ws.getD k 0) 0
        have hN0 : inN (ls.take k) m = 0 ∨ 0 < inN (ls.take k) m := by omega
        have HMORE := Lib.hid (fun (h : accV g ws m (ls.take (k + 1)) = none) => accV_more h)
        have hTog := fun (W : World) (u : Int) (hu : I64 u) => Lib.hid (together_any g hg u (sumN (s * ws.getD k 0) 0) hu hs0 W)
        have HAF := Lib.hid (fun h => acc_first (g := g) (ws := ws) (i := k) (s := s) h)
        have HAB := Lib.hid (fun h => acc_bad (g := g) (ws := ws) (o := o) (i := k) (s := s) h)
        have HAJ := Lib.hid (fun u h h2 => acc_join (g := g) (ws := ws) (u := u) (i := k) (s := s) h h2)
        have HAK := Lib.hid (fun u h h2 => acc_broke (g := g) (ws := ws) (u := u) (i := k) (s := s) h h2)
        generalize ls[k] = l at *
        generalize sumN (s * ws.getD k 0) 0 = p at *
        generalize sumE (s * ws.getD k 0) 0 = pe at *
        generalize ws.getD k 0 = wt at *
        generalize hic : inN (ls.take k) m = c at *
        clear hF hnx hE hnd hgm hjw hje hs2 hacc hA hb hax d0 d1 cw0 hgetw hw6 hOkl hs64 hic
        go_wp2_with fail
        refine HF.out.mono ?_
        rintro e w1 ⟨rfl, rfl⟩
        go_wp2_with fail
        refine region_ext (w1 := w1) (by kernel_rfl) (by kernel_rfl) (Below.refl _ _) ?_
        repeat go_big_quiet_step ((go_at_call 54; exact Ext.call _ (HM _).out))
        refine wpQuiet_nil ?_
        rintro _ ⟨y, rfl⟩
        have HY := Lib.hid (HB.out.trans (y.ok.mono HB.out.size))
        clear q1 q2 q3 hne HM HF
        rcases hsE with rfl | rfl
        · rcases hN0 with rfl | hc0
          · have ho : o = none := HA.out.cnt.2 rfl
            subst ho
            have hnew : accV g ws m (ls.take (k + 1)) = some (some p) := by rw [HAX.out]; exact HAF.out rfl
            have HNEW := Lib.hid hnew
            clear hnew HMORE hTog
            go_wp2_with fail
            exact ⟨⟨k + 1, some p, p, by go_num, by omega, rfl, by rw [HX.out]; go_num, HNEW.out, ⟨rfl, by rw [HX.out]; simp, fun u h => by cases h; exact hs0⟩, HY.out⟩, by simp [intOf]; omega⟩
          · obtain ⟨u, rfl⟩ : ∃ u, o = some u := Option.ne_none_iff_exists'.1 fun h => by have := HA.out.cnt.1 h; omega
            have hu := HA.out.num u rfl
            have hsv : sv = u := HA.out.val
            subst hsv
            have hc1 : (0 : Int) < (c : Int) := by omega
            have HT := hTog y.w sv hu
            have HJI := Lib.hid (joinN_i64 g hu hs0)
            have hje := joinE_two g sv p
            have HAJ' := HAJ.out sv rfl
            have HAK' := HAK.out sv rfl
            generalize joinN g sv p = jn at *
            generalize joinE g sv p = je at *
            rcases hje with rfl | rfl
            · have HNEW := Lib.hid (show accV g ws m (ls.take (k + 1)) = some (some jn) by rw [HAX.out]; exact HAJ' rfl)
              clear HAJ' HAK' HMORE hTog
              go_wp2_with fail
              refine HT.out.mono ?_
              rintro e w2 ⟨rfl, hb2⟩
              have HY2 := Lib.hid (HY.out.trans (hb2.mono HY.out.size))
              clear hb2
              go_wp2_with fail
              exact ⟨⟨k + 1, some jn, jn, by go_num, by omega, rfl, by rw [HX.out]; go_num, HNEW.out, ⟨rfl, by rw [HX.out]; simp, fun u h => by cases h; exact HJI.out⟩, HY2.out⟩, by simp [intOf]; omega⟩
            · have HNEW := Lib.hid (HMORE.out (by rw [HAX.out]; exact HAK' (by decide)))
              clear HAJ' HAK' HMORE hTog
              go_wp2_with fail
              refine HT.out.mono ?_
              rintro e w2 ⟨rfl, hb2⟩
              have HY2 := Lib.hid (HY.out.trans (hb2.mono HY.out.size))
              clear hb2
              go_wp2_with fail
              go_returns
              exact ⟨by rw [HNEW.out]; rfl, HY2.out⟩
        · have HNEW := Lib.hid (HMORE.out (by rw [HAX.out]; exact HAB.out (by decide)))
          clear HMORE hTog
          go_wp2_with fail
          go_returns
          exact ⟨by rw [HNEW.out]; rfl, HY.out⟩
      | none =>
        rw [where_not (show hasM ls[k] m = false by unfold hasM; rw [hgm]; rfl)] at hF
        rw [show hasM ls[k] m = false by unfold hasM; rw [hgm]; rfl, if_neg (by simp)] at hnx
        rw [hgm] at hax
        have HF := Lib.hid hF
        have HX := Lib.hid hnx
        have HAX := Lib.hid hax
        have HA := Lib.hid hA
        have HB := Lib.hid hb
        generalize ls[k] = l at *
        generalize hic : inN (ls.take k) m = c at *
        clear hF hnx hE hnd hgm hacc hA hb hax hOkl hic
        go_wp2_with fail
        refine HF.out.mono ?_
        rintro e w1 ⟨rfl, rfl⟩
        go_wp2_with fail
        exact ⟨⟨k + 1, o, sv, by go_num, by omega, rfl, by rw [HX.out]; rfl, HAX.out, by rw [HX.out]; exact HA.out, HB.out⟩, by simp [intOf]; omega⟩
    · obtain rfl : k = ls.length := by omega
      rw [List.take_of_length_le (Nat.le_refl _)] at *
      have HX := Lib.hid (show scoreT (accV g ws m ls) (inN ls m) = (sv, ((inN ls m : Nat) : Int), 0) by rw [hacc]; show (o.getD 0, _, _) = _; rw [← hA.val])
      have HB := Lib.hid hb
      clear hacc hA hb
      go_wp2
      go_returns
      exact ⟨by rw [HX.out]; rfl, HB.out⟩
end Go.Proofs.YtjilfgkoibbcnaaDoor
