/- The reference's Delete. -/
import Derived.Test.YtifbambalfifaaaRapp
namespace Go.Proofs.Ytifbambalfifaaa
open Go.RowKit Go.Shelf
attribute [local go_sem] Oper.semAt_some

theorem REnts.of {W : World} {g n cap : Nat} {r : List Rn} (h : RRow W (.slice (some ⟨g, 0, none⟩) n cap) r) : REnts W (some ⟨g, 0, none⟩) r := fun i hi => by
  obtain ⟨g', e, c0, c1, c2, c3, _⟩ := h.at (List.getElem?_eq_getElem hi)
  cases e
  refine ⟨g, 0, rfl, fun j hj => ?_⟩
  rw [Nat.zero_add]
  match j, hj with
  | 0, _ => exact c0
  | 1, _ => exact c1
  | 2, _ => exact c2
  | 3, _ => exact c3
theorem REnts.take {W : World} {a : Option Addr} {l : List Rn} (h : REnts W a l) (k : Nat) : REnts W a (l.take k) := fun i hi => by
  have h2 : i < l.length := by simp at hi; omega
  simp only [List.getElem_take]
  exact h i h2
theorem REnts.drop {W : World} {g : Nat} {l : List Rn} (h : REnts W (some ⟨g, 0, none⟩) l) (k : Nat) : REnts W (some ⟨g, k * 4, none⟩) (l.drop k) := fun i hi => by
  have h2 : k + i < l.length := by simp at hi; omega
  obtain ⟨b, off, e, c⟩ := h (k + i) h2
  cases e
  refine ⟨g, k * 4, rfl, fun j hj => ?_⟩
  simp only [List.getElem_drop]
  rw [← c j hj]
  congr 2
  omega
theorem REnts.nil (W : World) (a : Option Addr) : REnts W a [] := fun i hi => by simp at hi
theorem REnts.keep {W W' : World} {g o : Nat} {l : List Rn} (h : REnts W (some ⟨g, o, none⟩) l) (hb : W'.heap[g]? = W.heap[g]?) : REnts W' (some ⟨g, o, none⟩) l := fun i hi => by
  obtain ⟨b, off, e, c⟩ := h i hi
  cases e
  refine ⟨g, o, rfl, fun j hj => ?_⟩
  rw [← c j hj]
  simp [World.cell?, hb]

theorem RefAt.put {W : World} {p seed : Nat} {v v' : Value} {R : Rd} {L' : List Rn} (hb : Blk W p 36 #[.int .u32 seed, v, .int .i64 R.A, .int .i64 R.B, .int .i64 R.At]) (hr : RRow W v' L') : RefAt (W.setCell ⟨p, 1, none⟩ v') p v' seed { R with L := L' } := by
  refine ⟨hb.set 1 v', hr.keep fun k hk => Below.heap_setCell _ _ _ _ fun e => ?_⟩
  obtain ⟨c, hc⟩ := hr.blk hk
  rw [e] at hc
  exact absurd (hb.ty hc) (by decide)

def Rd.shrink (R : Rd) : Rd := if R.B = 0 ∧ 4 < R.A ∧ 8 * R.L.length < R.A then { R with B := sizeS R.L.length } else R
def Rd.cut (R : Rd) (i : Nat) : Rd := { R with L := R.L.eraseIdx i }

section
variable {S : Nat → Prop} {p seed : Nat} {R : Rd} {w : World}
set_option maxRecDepth 100000 in
set_option maxHeartbeats 4000000 in
theorem refdel_any (h : RRep w p S seed R) (ok : R.Ok) (key : ByteArray) : Calls Try.prog 30 #[.pointer (some ⟨p, 0, none⟩), .string key] w fun e w' =>
    (∃ i, ∃ h : i < R.step1.L.length, R.step1.L[i].key = key ∧ e = .returned (.bool true) ∧ RWent S w p seed (R.step1.cut i).shrink w') ∨
    ((∀ x ∈ R.step1.L, x.key ≠ key) ∧ e = .returned (.bool false) ∧ RWent S w p seed R.step1 w') := by
  have H1 := Lib.hid (refone_any h ok)
  have ok1 := ok.step
  generalize R.step1 = R1 at *
  go_enter Try.func30, Try.ntmps30
  go_wp2_with fail
  refine H1.out.mono ?_
  rintro e w1 ⟨⟨k1, rfl⟩, hw1⟩
  have HW1 := Lib.hid hw1
  obtain ⟨h1, hfar⟩ := hw1
  have HAT := Lib.hid (at_any h1 ok1.n key)
  obtain ⟨v, hm, hp1, hv1, _⟩ := h1
  obtain ⟨Ad, cap, rfl, hcap, hmax, _⟩ := hm.row.form
  obtain ⟨c0, c1, c2, c3, c4, f0⟩ := ref_facts hm
  have hrow := hm.row
  have HM := Lib.hid hm
  have HFAR := Lib.hid hfar
  have HCAP := Lib.hid hcap
  have HP1 := Lib.hid hp1.1
  have HV1 := Lib.hid (fun k hk => (hv1 k hk).1)
  clear hm hcap hfar hp1 hv1
  go_wp2_with fail
  refine HAT.out.mono ?_
  rintro e w2 ⟨rfl, rfl⟩
  have hln := ok1.n
  rcases atN_cases R1.L key with ⟨i, hi, e1, e2⟩ | ⟨e1, e2⟩
  · obtain ⟨g, rfl, z0, z1, z2, z3, zf⟩ := hrow.at (List.getElem?_eq_getElem hi)
    have HE2 := Lib.hid e2
    rw [e1]
    have hE := REnts.of hrow
    clear e1 e2 z0 z1 z2 z3 zf
    have hcap := HCAP.out
    obtain ⟨v1, W1, hrun1, hr1, hg1, hv1⟩ := app_rn (RRow.nil w2) (hE.take i) cap (by simp) (by simp; omega)
    rw [List.length_take, Nat.min_eq_left (by omega)] at hrun1
    rw [List.nil_append] at hr1
    have hgk : W1.heap[g]? = w2.heap[g]? := (Far.of_grown (S := fun _ => False) hg1 fun k e => by simp [Value.ownBlock] at e).block g (hrow.lt rfl) (fun h => h)
    obtain ⟨A1, cap1, ev1, _, _, _⟩ := hr1.form
    rw [List.length_take, Nat.min_eq_left (by omega)] at ev1
    subst ev1
    have hi0 : ¬ (i : Int) < 0 := by omega
    have hE1 := (hE.drop (i + 1)).keep hgk
    have hfz1 := Far.of_grown (S := fun _ => False) hg1 fun k e => by simp [Value.ownBlock] at e
    have hm1 := HM.out.later (W' := W1) ⟨hfz1.os, hfz1.tape, hfz1.output, hfz1.size, fun k hk => hfz1.block k hk (fun h => h)⟩
    have hB1 : Below w2.heap.size w2 W1 := ⟨hfz1.os, hfz1.tape, hfz1.output, hfz1.size, fun k hk => hfz1.block k hk (fun h => h)⟩
    have HB1 := Lib.hid hB1
    obtain ⟨d0, d1, d2, d3, d4, g0⟩ := ref_facts hm1
    have HM1 := Lib.hid hm1
    clear hm1 hfz1 hgk hB1
    by_cases hce : cap = i + 1
    · subst hce
      have hlt1 : (i : Int) + 1 ≤ R1.L.length := by omega
      have hdr : REnts W1 (some ⟨g, 0, none⟩) (R1.L.drop (i + 1)) := by rw [List.drop_eq_nil_of_le (by omega)]; exact REnts.nil _ _
      clear hcap
      obtain ⟨v2, W2, hrun2, hr2, hg2, hv2⟩ := app_rn hr1 hdr 0 (by simp; omega) (by simp; omega)
      rw [List.length_drop] at hrun2
      go_upto_region 7 with (at_builtin; refine wpList_append_ranR rfl _ _ 34 34 (by rfl) (by rfl) (by rfl) hrun1 ?_)
      obtain ⟨A2, cap2, e2v, _, _, _⟩ := hr2.form
      obtain ⟨ml, hml⟩ : ∃ ml, ml = (R1.L.take i ++ R1.L.drop (i + 1)).length := ⟨_, rfl⟩
      rw [← hml] at e2v
      subst e2v
      have hpk : (Value.slice A1 i cap1).ownBlock ≠ some p := fun e => by
        rcases hv1 p e with h | h
        · simp [Value.ownBlock] at h
        · have := HM.out.dict.lt; omega
      have hb2 : Blk W2 p 36 _ := (Far.of_grown (S := fun k => (Value.slice A1 i cap1).ownBlock = some k) hg2 fun k e => .inl e).blk HM1.out.dict hpk
      have hR3 := RefAt.put (R := R1) hb2 hr2
      have f7 : W2.frozen? ⟨p, 1, none⟩ = false := hb2.free 1
      have e7 : W2.cell? ⟨p, 1, none⟩ = some (.slice (some ⟨g, 0, none⟩) R1.L.length (i + 1)) := hb2.cell 1
      have hF3 := ((HFAR.out.then_below HB1.out).trans (Far.of_grown (S := fun k => (Value.slice A1 i cap1).ownBlock = some k) hg2 fun k e => .inl e) fun k hk => by
        rcases hv1 k hk with h | h
        · simp [Value.ownBlock] at h
        · exact .inr (Nat.le_trans HFAR.out.size h)).set ⟨p, 1, none⟩ (.slice A2 ml cap2) HP1.out
      have hv3 : ∀ k, (Value.slice A2 ml cap2).ownBlock = some k → S k ∨ w.heap.size ≤ k := fun k hk => by
        rcases hv2 k hk with h | h
        · rcases hv1 k h with h | h
          · simp [Value.ownBlock] at h
          · exact .inr (Nat.le_trans HFAR.out.size h)
        · exact .inr (Nat.le_trans (Nat.le_trans HFAR.out.size HB1.out.size) h)
      have hcut : ({ R1 with L := R1.L.take i ++ R1.L.drop (i + 1) } : Rd) = R1.cut i := by unfold Rd.cut; rw [List.eraseIdx_eq_take_drop_succ]
      rw [hcut] at hR3
      have hmlc : ml = (R1.cut i).L.length := by rw [hml, ← hcut]
      obtain ⟨q0, q1, q2, q3, q4, qf⟩ := ref_facts hR3
      have hmb : ml ≤ 1000000 := by rw [hml]; simp; omega
      have HEND : Hid (∀ W, RefAt W p (.slice A2 ml cap2) seed (R1.cut i).shrink → Far S w W → RWent S w p seed (R1.cut i).shrink W) := Lib.hid fun W h1 h2 => RWent.mk' h1 h2 HP1.out hv3
      have HR3 := Lib.hid hR3
      have HF3 := Lib.hid hF3
      have HMLC := Lib.hid hmlc
      have HRUN2 := Lib.hid hrun2
      clear hr2 hg2 hv2 hpk hb2 hR3 hF3 hv3 hcut hml hmlc hrun1 hrun2 H1 HAT hr1 hg1 hv1 hE hE1 hrow h ok
      have hrun2 := HRUN2.out
      go_wp2_with (at_builtin; refine wpList_append_ranR rfl _ _ 34 34 (by rfl) (by rfl) (by rfl) hrun2 ?_)
      clear hrun2 HRUN2
      generalize W2.setCell ⟨p, 1, none⟩ (.slice A2 ml cap2) = W3 at *
      by_cases hD : (R1.cut i).B = 0 ∧ 4 < (R1.cut i).A ∧ 8 * (R1.cut i).L.length < (R1.cut i).A
      · have HG := Lib.hid (show (R1.cut i).shrink = { (R1.cut i) with B := sizeS (R1.cut i).L.length } by unfold Rd.shrink; rw [if_pos hD])
        obtain ⟨hB, hA, hL⟩ := hD
        rw [hB] at q3
        have HSZ := fun W => Lib.hid (show Calls Try.prog 58 #[.int .i64 ml] W fun e w' => e = .returned (.int .i64 (sizeS (R1.cut i).L.length)) ∧ w' = W by rw [← HMLC.out]; exact refSizeFor_any _ W)
        rw [← HMLC.out] at hL
        have hA' : (4 : Int) < (R1.cut i).A := by omega
        have hL' : (8 : Int) * ml < (R1.cut i).A := by omega
        clear hB hA hL
        generalize sizeS (R1.cut i).L.length = bs at *
        go_wp2
        go_quiet (fail)
        go_wp2_with fail
        refine (HSZ _).out.mono ?_
        rintro e w5 ⟨rfl, rfl⟩
        have hS := (HR3.out.later (below_drewN _ nq)).setB bs
        have hF := (HF3.out.then_below (below_drewN _ nq)).set ⟨p, 3, none⟩ (.int .i64 bs) HP1.out
        have HS := Lib.hid hS
        have HF := Lib.hid hF
        clear hS hF
        go_wp2
        go_returns
        exact .inl ⟨i, hi, HE2.out, rfl, HEND.out _ (by rw [HG.out]; exact HS.out) HF.out⟩
      · have HG := Lib.hid (show (R1.cut i).shrink = R1.cut i by unfold Rd.shrink; rw [if_neg hD])
        rw [← HMLC.out] at hD
        by_cases hB : (R1.cut i).B = 0
        · rw [hB] at q3
          by_cases hA : 4 < (R1.cut i).A
          · have h2 : (4 : Int) < (R1.cut i).A := by omega
            have h3 : decide ((8 : Int) * ml < (R1.cut i).A) = false := by simp; omega
            clear hD hB hA
            go_wp2
            go_quiet (fail)
            go_wp2
            go_returns
            exact .inl ⟨i, hi, HE2.out, rfl, HEND.out _ (by rw [HG.out]; exact HR3.out.later (below_drewN _ nq)) (HF3.out.then_below (below_drewN _ nq))⟩
          · have h2 : decide ((4 : Int) < (R1.cut i).A) = false := by simp; omega
            have h2' : decide (4 < (R1.cut i).A) = false := by simp; omega
            clear hD hB hA
            go_wp2
            go_quiet (fail)
            go_wp2
            go_returns
            exact .inl ⟨i, hi, HE2.out, rfl, HEND.out _ (by rw [HG.out]; exact HR3.out.later (below_drewN _ nq)) (HF3.out.then_below (below_drewN _ nq))⟩
        · have hBb : (((R1.cut i).B : Int) == 0) = false := by rw [beq_eq_false_iff_ne]; omega
          clear hD hB
          go_wp2
          go_quiet (fail)
          go_wp2
          go_returns
          exact .inl ⟨i, hi, HE2.out, rfl, HEND.out _ (by rw [HG.out]; exact HR3.out.later (below_drewN _ nq)) (HF3.out.then_below (below_drewN _ nq))⟩
    · have hce' : ¬ (cap : Int) = i + 1 := by omega
      have hlt1 : (i : Int) + 1 ≤ R1.L.length := by omega
      obtain ⟨v2, W2, hrun2, hr2, hg2, hv2⟩ := app_rn hr1 hE1 (cap - (i + 1)) (by simp; omega) (by simp; omega)
      rw [List.length_drop] at hrun2
      go_upto_region 7 with (at_builtin; refine wpList_append_ranR rfl _ _ 34 34 (by rfl) (by rfl) (by rfl) hrun1 ?_)
      obtain ⟨A2, cap2, e2v, _, _, _⟩ := hr2.form
      obtain ⟨ml, hml⟩ : ∃ ml, ml = (R1.L.take i ++ R1.L.drop (i + 1)).length := ⟨_, rfl⟩
      rw [← hml] at e2v
      subst e2v
      have hpk : (Value.slice A1 i cap1).ownBlock ≠ some p := fun e => by
        rcases hv1 p e with h | h
        · simp [Value.ownBlock] at h
        · have := HM.out.dict.lt; omega
      have hb2 : Blk W2 p 36 _ := (Far.of_grown (S := fun k => (Value.slice A1 i cap1).ownBlock = some k) hg2 fun k e => .inl e).blk HM1.out.dict hpk
      have hR3 := RefAt.put (R := R1) hb2 hr2
      have f7 : W2.frozen? ⟨p, 1, none⟩ = false := hb2.free 1
      have e7 : W2.cell? ⟨p, 1, none⟩ = some (.slice (some ⟨g, 0, none⟩) R1.L.length cap) := hb2.cell 1
      have hF3 := ((HFAR.out.then_below HB1.out).trans (Far.of_grown (S := fun k => (Value.slice A1 i cap1).ownBlock = some k) hg2 fun k e => .inl e) fun k hk => by
        rcases hv1 k hk with h | h
        · simp [Value.ownBlock] at h
        · exact .inr (Nat.le_trans HFAR.out.size h)).set ⟨p, 1, none⟩ (.slice A2 ml cap2) HP1.out
      have hv3 : ∀ k, (Value.slice A2 ml cap2).ownBlock = some k → S k ∨ w.heap.size ≤ k := fun k hk => by
        rcases hv2 k hk with h | h
        · rcases hv1 k h with h | h
          · simp [Value.ownBlock] at h
          · exact .inr (Nat.le_trans HFAR.out.size h)
        · exact .inr (Nat.le_trans (Nat.le_trans HFAR.out.size HB1.out.size) h)
      have hcut : ({ R1 with L := R1.L.take i ++ R1.L.drop (i + 1) } : Rd) = R1.cut i := by unfold Rd.cut; rw [List.eraseIdx_eq_take_drop_succ]
      rw [hcut] at hR3
      have hmlc : ml = (R1.cut i).L.length := by rw [hml, ← hcut]
      obtain ⟨q0, q1, q2, q3, q4, qf⟩ := ref_facts hR3
      have hmb : ml ≤ 1000000 := by rw [hml]; simp; omega
      have HEND : Hid (∀ W, RefAt W p (.slice A2 ml cap2) seed (R1.cut i).shrink → Far S w W → RWent S w p seed (R1.cut i).shrink W) := Lib.hid fun W h1 h2 => RWent.mk' h1 h2 HP1.out hv3
      have HR3 := Lib.hid hR3
      have HF3 := Lib.hid hF3
      have HMLC := Lib.hid hmlc
      have HRUN2 := Lib.hid hrun2
      clear hr2 hg2 hv2 hpk hb2 hR3 hF3 hv3 hcut hml hmlc hrun1 hrun2 H1 HAT hr1 hg1 hv1 hE hE1 hrow h ok
      have hrun2 := HRUN2.out
      go_wp2_with (at_builtin; refine wpList_append_ranR rfl _ _ 34 34 (by rfl) (by rfl) (by rfl) hrun2 ?_)
      clear hrun2 HRUN2
      generalize W2.setCell ⟨p, 1, none⟩ (.slice A2 ml cap2) = W3 at *
      by_cases hD : (R1.cut i).B = 0 ∧ 4 < (R1.cut i).A ∧ 8 * (R1.cut i).L.length < (R1.cut i).A
      · have HG := Lib.hid (show (R1.cut i).shrink = { (R1.cut i) with B := sizeS (R1.cut i).L.length } by unfold Rd.shrink; rw [if_pos hD])
        obtain ⟨hB, hA, hL⟩ := hD
        rw [hB] at q3
        have HSZ := fun W => Lib.hid (show Calls Try.prog 58 #[.int .i64 ml] W fun e w' => e = .returned (.int .i64 (sizeS (R1.cut i).L.length)) ∧ w' = W by rw [← HMLC.out]; exact refSizeFor_any _ W)
        rw [← HMLC.out] at hL
        have hA' : (4 : Int) < (R1.cut i).A := by omega
        have hL' : (8 : Int) * ml < (R1.cut i).A := by omega
        clear hB hA hL
        generalize sizeS (R1.cut i).L.length = bs at *
        go_wp2
        go_quiet (fail)
        go_wp2_with fail
        refine (HSZ _).out.mono ?_
        rintro e w5 ⟨rfl, rfl⟩
        have hS := (HR3.out.later (below_drewN _ nq)).setB bs
        have hF := (HF3.out.then_below (below_drewN _ nq)).set ⟨p, 3, none⟩ (.int .i64 bs) HP1.out
        have HS := Lib.hid hS
        have HF := Lib.hid hF
        clear hS hF
        go_wp2
        go_returns
        exact .inl ⟨i, hi, HE2.out, rfl, HEND.out _ (by rw [HG.out]; exact HS.out) HF.out⟩
      · have HG := Lib.hid (show (R1.cut i).shrink = R1.cut i by unfold Rd.shrink; rw [if_neg hD])
        rw [← HMLC.out] at hD
        by_cases hB : (R1.cut i).B = 0
        · rw [hB] at q3
          by_cases hA : 4 < (R1.cut i).A
          · have h2 : (4 : Int) < (R1.cut i).A := by omega
            have h3 : decide ((8 : Int) * ml < (R1.cut i).A) = false := by simp; omega
            clear hD hB hA
            go_wp2
            go_quiet (fail)
            go_wp2
            go_returns
            exact .inl ⟨i, hi, HE2.out, rfl, HEND.out _ (by rw [HG.out]; exact HR3.out.later (below_drewN _ nq)) (HF3.out.then_below (below_drewN _ nq))⟩
          · have h2 : decide ((4 : Int) < (R1.cut i).A) = false := by simp; omega
            have h2' : decide (4 < (R1.cut i).A) = false := by simp; omega
            clear hD hB hA
            go_wp2
            go_quiet (fail)
            go_wp2
            go_returns
            exact .inl ⟨i, hi, HE2.out, rfl, HEND.out _ (by rw [HG.out]; exact HR3.out.later (below_drewN _ nq)) (HF3.out.then_below (below_drewN _ nq))⟩
        · have hBb : (((R1.cut i).B : Int) == 0) = false := by rw [beq_eq_false_iff_ne]; omega
          clear hD hB
          go_wp2
          go_quiet (fail)
          go_wp2
          go_returns
          exact .inl ⟨i, hi, HE2.out, rfl, HEND.out _ (by rw [HG.out]; exact HR3.out.later (below_drewN _ nq)) (HF3.out.then_below (below_drewN _ nq))⟩
  · rw [e1]
    have HE2 := Lib.hid e2
    clear hrow e1 e2
    go_wp2
    go_returns
    exact .inr ⟨HE2.out, rfl, HW1.out⟩
end
end Go.Proofs.Ytifbambalfifaaa
