/- The reference's appends: nodes onto an own row. -/
import Derived.Test.YtifbambalfifaaaRops
import Derived.Test.YtifbambalfifaaaPut
import Derived.Deep.DeepCutAuto
namespace Go.Proofs.Ytifbambalfifaaa
open Go.RowKit Go.Shelf
attribute [local go_sem] Oper.semAt_some

theorem info69 : (Try.prog.info? 69).map (fun i => (i.zero, i.size, i.bytes)) = some (some (.agg #[.string ⟨#[]⟩, .int .i64 0, .int .u32 0, .bool false]), 4, 32) := by kernel_rfl

/-- The cells of a list of nodes, behind an address or none. -/
def REnts (W : World) (a : Option Addr) (xs : List Rn) : Prop := ∀ i (h : i < xs.length), ∃ b off, a = some ⟨b, off, none⟩ ∧ ∀ j, j < 4 → W.cell? ⟨b, off + i * 4 + j, none⟩ = (xs[i].cells)[j]?
theorem rflat_nth (xs : List Rn) : ∀ (j : Nat) (u : Value), (rflat xs)[j]? = some u → ∃ i, ∃ h : i < xs.length, ∃ k, k < 4 ∧ j = i * 4 + k ∧ (xs[i].cells)[k]? = some u := by
  intro j u h
  obtain ⟨hj, _⟩ := List.getElem?_eq_some_iff.1 h
  rw [rflat_len] at hj
  have hi : j / 4 < xs.length := by omega
  refine ⟨j / 4, hi, j % 4, by omega, by omega, ?_⟩
  rw [← rflat_at xs (j / 4) _ (List.getElem?_eq_getElem hi) (j % 4) (by omega), ← h]
  congr 1
  omega
theorem app_rn {W : World} {r : Value} {l xs : List Rn} {a : Option Addr} (hown : RRow W r l) (hE : REnts W a xs) (cap : Nat) (hl : l.length ≤ 1000000) (hx : xs.length ≤ 1000000) :
    ∃ v' W', (Builtin.append_ #[34, 34] 34 #[r, .slice a xs.length cap]).run Try.prog W = .ok v' W' ∧ RRow W' v' (l ++ xs) ∧ W.grownBy W' r.ownBlock ∧ (∀ k, v'.ownBlock = some k → r.ownBlock = some k ∨ W.heap.size ≤ k) := by
  obtain ⟨i0, hi0, hz0, hz1, hz2⟩ := info_parts info69
  have hlen : (l ++ xs).length = l.length + xs.length := List.length_append
  cases a with
  | none =>
    have h0 : xs = [] := by
      cases xs with
      | nil => rfl
      | cons e xs => obtain ⟨b, off, h, _⟩ := hE 0 (by simp); cases h
    subst h0
    refine ⟨r, W, ?_, by rw [List.append_nil]; exact hown, World.grownBy.refl W _, fun k hk => .inl hk⟩
    rcases hown.2 with ⟨rfl, hl0⟩ | ⟨g, c, cur, rfl, _, _, hc, _⟩
    · simp [Builtin.append_, run_underlying Try.underlying34, sizeOf, typeInfo, hi0, Builtin.lenOf, Builtin.firstCells]
    · simp [Builtin.append_, run_underlying Try.underlying34, sizeOf, typeInfo, hi0, Builtin.lenOf, Builtin.firstCells, hc, storeCells]
  | some ad =>
    obtain ⟨v', W', h1, h2, h3, h4, h5⟩ := run_append_own_at (P := Try.prog) W 0 34 34 69 i0 _ 4 32 Try.underlying34 hi0 hz0 hz1 hz2 rfl (by decide) r _ _ hown ad xs.length cap (rflat xs) (rflat_len xs)
      (fun j u hu => by
        obtain ⟨i, hi, k, hk, rfl, hx⟩ := rflat_nth xs j u hu
        obtain ⟨b, off, h, c0⟩ := hE i hi
        cases h
        rw [Addr.add_lit, ← Nat.add_assoc, c0 k hk]
        exact hx)
      (rflat_one xs) (by unfold maxLen; omega) (by omega) (Nat.zero_le _)
    refine ⟨v', W', h1, ?_, h3, fun k hk => ?_⟩
    · unfold RRow
      rw [hlen, rflat_append]
      exact h2
    · rcases h5 with h5 | h5
      · exact .inl (h5.symm.trans hk)
      · rw [h5, Option.some.injEq] at hk
        exact .inr (by omega)
theorem REnts.one (W : World) (x : Rn) : REnts (W.alloc (.cells x.cells.toArray 69)) (some ⟨W.heap.size, 0, none⟩) [x] := fun i hi => by
  obtain rfl : i = 0 := by simp at hi; omega
  refine ⟨_, _, rfl, fun j _ => ?_⟩
  have h := (Blk.new W 69 x.cells.toArray).cell (0 + 0 * 4 + j)
  rw [h]
  simp
theorem wpList_append_ranR {ops : Array Oper} {rest : List Oper} {o : Oper} {a : Act} {W W' : World} {Q : Exit → Act → World → Prop} {v xv v' : Value} (hgd : o.guard = none) (s x : Operand) (t u : TypeId)
    (ho : o.op = Op.call { callee := Callee.builtin Builtin.append, args := #[s, x], argTypes := #[t, u] }) (hs : a.eval s = v) (hx : a.eval x = xv) (hrun : (Builtin.append_ #[t, u] o.type #[v, xv]).run Try.prog W = .ok v' W')
    (h : wpList Try.prog ops Q rest (a.put o.dst v') W') : wpList Try.prog ops Q (o :: rest) a W := by
  refine wpList_plain hgd fun K hK => ?_
  unfold Oper.wp
  simp [execOp, ho, resolve, invoke, builtin, hs, hx, hrun, Result.andThen]
  exact hK _ _ h
theorem RefAt.grown {W W7 : World} {p seed : Nat} {v v' : Value} {R : Rd} {L' : List Rn} (h : RefAt W p v seed R) (hg : W.grownBy W7 v.ownBlock) (hr : RRow W7 v' L') : RefAt (W7.setCell ⟨p, 1, none⟩ v') p v' seed { R with L := L' } := by
  have hb : Blk W7 p 36 _ := (Far.of_grown (S := fun k => v.ownBlock = some k) hg fun k e => .inl e).blk h.dict h.ne
  refine ⟨hb.set 1 v', hr.keep fun k hk => Below.heap_setCell _ _ _ _ fun e => ?_⟩
  obtain ⟨c, hc⟩ := hr.blk hk
  rw [e] at hc
  exact absurd (hb.ty hc) (by decide)

def Rd.grow (R : Rd) : Rd := if R.B = 0 ∧ R.A ≤ R.L.length ∧ R.A < 65536 then { R with B := sizeS (2 * R.L.length : Nat) } else R
theorem grow_L (R : Rd) : R.grow.L = R.L := by unfold Rd.grow; split <;> rfl
def Rd.add (R : Rd) (seed : Nat) (key : ByteArray) (v : Int) : Rd := { R.grow with L := R.L ++ [⟨key, v, sumN seed key.data.toList, decide (0 < R.grow.B)⟩] }

section
variable {S : Nat → Prop} {p seed : Nat} {R : Rd} {w : World}
set_option maxRecDepth 100000 in
set_option maxHeartbeats 4000000 in
theorem refset_any (hsd : seed < 4294967296) (h : RRep w p S seed R) (ok : R.Ok) (hn1 : R.L.length + 1 ≤ 1000000) (key : ByteArray) (hk : key.size ≤ 281474976710656) (nv : Int) : Calls Try.prog 28 #[.pointer (some ⟨p, 0, none⟩), .string key, .int .i64 nv] w fun e w' =>
    (∃ i, ∃ h : i < R.step1.L.length, R.step1.L[i].key = key ∧ e = .returned (.bool false) ∧ RWent S w p seed { R.step1 with L := R.step1.L.set i { R.step1.L[i] with v := nv } } w') ∨
    ((∀ x ∈ R.step1.L, x.key ≠ key) ∧ e = .returned (.bool true) ∧ RWent S w p seed (R.step1.add seed key nv) w') := by
  have H1 := Lib.hid (refone_any h ok)
  have ok1 := ok.step
  rw [← step1_len] at hn1
  generalize R.step1 = R1 at *
  go_enter Try.func28, Try.ntmps28
  go_wp2_with fail
  refine H1.out.mono ?_
  rintro e w1 ⟨⟨k1, rfl⟩, hw1⟩
  obtain ⟨h1, hfar⟩ := hw1
  have HAT := Lib.hid (at_any h1 ok1.n key)
  obtain ⟨v, hm, hp1, hv1, _⟩ := h1
  obtain ⟨Ad, cap, rfl, hcap, hmax, _⟩ := hm.row.form
  obtain ⟨c0, c1, c2, c3, c4, f0⟩ := ref_facts hm
  have hrow := hm.row
  have HM := Lib.hid hm
  have HFAR := Lib.hid hfar
  have HCAP := Lib.hid hcap
  have HP1 := Lib.hid hp1.1
  have HV1 := Lib.hid (fun k hk => (hv1 k hk).1)
  clear hm hcap hfar hp1 hv1
  go_wp2_with fail
  refine HAT.out.mono ?_
  rintro e w2 ⟨rfl, rfl⟩
  rcases atN_cases R1.L key with ⟨i, hi, e1, e2⟩ | ⟨e1, e2⟩
  · obtain ⟨g, rfl, z0, z1, z2, z3, zf⟩ := hrow.at (List.getElem?_eq_getElem hi)
    have HE2 := Lib.hid e2
    rw [e1]
    clear hrow e1 e2 z0 z2 z3
    have hx : R1.L[i]? = some R1.L[i] := List.getElem?_eq_getElem hi
    have HXX := Lib.hid hx
    clear hx
    go_wp2
    go_returns
    refine .inl ⟨i, hi, HE2.out, rfl, RWent.mk' (HM.out.node (g := g) (j := 1) rfl HXX.out (by decide) rfl) (HFAR.out.set ⟨g, i * 4 + 1, none⟩ _ (HV1.out g rfl)) HP1.out HV1.out⟩
  · rw [e1]
    have HE2 := Lib.hid e2
    clear hrow e1 e2
    have hln := ok1.n
    obtain ⟨sm, hsm2⟩ : ∃ sm, sm = sumN seed key.data.toList := ⟨_, rfl⟩
    have hsm := sumN_lt seed key.data.toList
    rw [← hsm2] at hsm
    have hsm' : (sm : Int) < 4294967296 := by omega
    have HSUMC := fun W => Lib.hid (show Calls Try.prog 59 #[.int .u32 seed, .string key] W fun e w' => e = .returned (.int .u32 sm) ∧ w' = W by rw [hsm2]; exact refSum_any seed hsd key hk W)
    have HSM := Lib.hid hsm2
    have h2n : ((2 * R1.L.length : Nat) : Int) = 2 * (R1.L.length : Int) := by omega
    have HSZ := fun W => Lib.hid (show Calls Try.prog 58 #[.int .i64 (2 * (R1.L.length : Int))] W fun e w' => e = .returned (.int .i64 (sizeS (2 * R1.L.length : Nat))) ∧ w' = W by rw [← h2n]; exact refSizeFor_any _ W)
    clear h2n
    clear hsm2
    go_upto_region 6 with (fail)
    go_cut [46] (fun s wx => s = .bool (decide (R1.B = 0 ∧ R1.A ≤ R1.L.length ∧ R1.A < 65536)) ∧ RefAt wx p (.slice Ad R1.L.length cap) seed R1 ∧ Far S w wx)
    case first =>
      by_cases hB : R1.B = 0
      · rw [hB] at c3
        by_cases hL : R1.A ≤ R1.L.length
        · by_cases hA : R1.A < 65536
          · have HD := Lib.hid (show true = decide (R1.B = 0 ∧ R1.A ≤ R1.L.length ∧ R1.A < 65536) by simp [hB, hL, hA])
            have h2 : (R1.A : Int) ≤ R1.L.length := by omega
            have h3 : (R1.A : Int) < 65536 := by omega
            clear hB hL hA
            go_wp2
            go_quiet (fail)
            go_wp2_with fail
            go_meet
            exact ⟨by rw [← HD.out], HM.out.later (below_drewN _ nq), HFAR.out.then_below (below_drewN _ nq)⟩
          · have HD := Lib.hid (show false = decide (R1.B = 0 ∧ R1.A ≤ R1.L.length ∧ R1.A < 65536) by simp [hA])
            have h2 : (R1.A : Int) ≤ R1.L.length := by omega
            have h3 : decide ((R1.A : Int) < 65536) = false := by simp; omega
            clear hB hL hA
            go_wp2
            go_quiet (fail)
            go_wp2_with fail
            go_meet
            exact ⟨by rw [← HD.out], HM.out.later (below_drewN _ nq), HFAR.out.then_below (below_drewN _ nq)⟩
        · have HD := Lib.hid (show false = decide (R1.B = 0 ∧ R1.A ≤ R1.L.length ∧ R1.A < 65536) by simp [hL])
          have h2 : decide ((R1.A : Int) ≤ R1.L.length) = false := by simp; omega
          have h2' : decide (R1.A ≤ R1.L.length) = false := by simp; omega
          clear hB hL
          go_wp2
          go_quiet (fail)
          go_wp2_with fail
          go_meet
          exact ⟨by rw [← HD.out], HM.out.later (below_drewN _ nq), HFAR.out.then_below (below_drewN _ nq)⟩
      · have HD := Lib.hid (show false = decide (R1.B = 0 ∧ R1.A ≤ R1.L.length ∧ R1.A < 65536) by simp [hB])
        have hBb : ((R1.B : Int) == 0) = false := by rw [beq_eq_false_iff_ne]; omega
        clear hB
        go_wp2
        go_quiet (fail)
        go_wp2_with fail
        go_meet
        exact ⟨by rw [← HD.out], HM.out.later (below_drewN _ nq), HFAR.out.then_below (below_drewN _ nq)⟩
    case rest =>
      obtain ⟨rfl, hR, hF⟩ := hcut
      clear c0 c1 c2 c3 c4 f0 HM HFAR
      obtain ⟨c0, c1, c2, c3, c4, f0⟩ := ref_facts hR
      have HM := Lib.hid hR
      have HFAR := Lib.hid hF
      clear hR hF
      go_upto_if 46 with (fail)
      go_cut [] (fun wx => RefAt wx p (.slice Ad R1.L.length cap) seed R1.grow ∧ Far S w wx)
      case first =>
        by_cases hD : R1.B = 0 ∧ R1.A ≤ R1.L.length ∧ R1.A < 65536
        · have HG := Lib.hid (show R1.grow = { R1 with B := sizeS (2 * R1.L.length : Nat) } by unfold Rd.grow; rw [if_pos hD])
          have hd : decide (R1.B = 0 ∧ R1.A ≤ R1.L.length ∧ R1.A < 65536) = true := by simp [hD]
          generalize decide (R1.B = 0 ∧ R1.A ≤ R1.L.length ∧ R1.A < 65536) = gd at *
          subst hd
          clear hD
          generalize sizeS (2 * R1.L.length : Nat) = bs at *
          go_wp2_with fail
          refine (HSZ _).out.mono ?_
          rintro e w5 ⟨rfl, rfl⟩
          have hS := HM.out.setB bs
          have hF := HFAR.out.set ⟨p, 3, none⟩ (.int .i64 bs) HP1.out
          have HS := Lib.hid hS
          have HF := Lib.hid hF
          clear hS hF
          go_wp2_with fail
          go_meet
          exact ⟨by rw [HG.out]; exact HS.out, HF.out⟩
        · have HG := Lib.hid (show R1.grow = R1 by unfold Rd.grow; rw [if_neg hD])
          have hd : decide (R1.B = 0 ∧ R1.A ≤ R1.L.length ∧ R1.A < 65536) = false := by simp; simpa using hD
          generalize decide (R1.B = 0 ∧ R1.A ≤ R1.L.length ∧ R1.A < 65536) = gd at *
          subst hd
          clear hD
          go_wp2_with fail
          go_meet
          exact ⟨by rw [HG.out]; exact HM.out, HFAR.out⟩
      case rest =>
        obtain ⟨hR, hF⟩ := hcut
        clear c0 c1 c2 c3 c4 f0 HM HFAR HSZ
        have hL := grow_L R1
        have HADD := Lib.hid (show R1.add seed key nv = { R1.grow with L := R1.L ++ [⟨key, nv, sm, decide (0 < R1.grow.B)⟩] } by rw [HSM.out]; rfl)
        generalize R1.grow = R2 at *
        obtain ⟨c0, c1, c2, c3, c4, f0⟩ := ref_facts hR
        have hrow := hR.row
        rw [hL] at hrow
        have hRd := hR.later ((Below.refl _ _).alloc (Nat.le_refl _) (.cells (Rn.cells ⟨key, nv, sm, decide (0 < R2.B)⟩).toArray 69))
        obtain ⟨d0, d1, d2, d3, d4, g0⟩ := ref_facts hRd
        have hFd := hF.then_below ((Below.refl _ _).alloc (Nat.le_refl _) (.cells (Rn.cells ⟨key, nv, sm, decide (0 < R2.B)⟩).toArray 69))
        obtain ⟨v', W7, hrun, hr7, hg7, hv7⟩ := app_rn (hrow.keep (W' := wc.drew.alloc (.cells (Rn.cells ⟨key, nv, sm, decide (0 < R2.B)⟩).toArray 69)) fun k hk => (Below.heap_alloc _ _ _ (hrow.lt hk))) (REnts.one wc.drew ⟨key, nv, sm, decide (0 < R2.B)⟩) 1 ok1.n (by simp)
        obtain ⟨A7, cap7, rfl, _, _, _⟩ := hr7.form
        have hlen : (R1.L ++ [(⟨key, nv, sm, decide (0 < R2.B)⟩ : Rn)]).length = R1.L.length + 1 := by simp
        rw [hlen] at hrun hr7 hv7
        clear hlen
        have hg8 : (wc.alloc (.cells (Rn.cells ⟨key, nv, sm, decide (0 < R2.B)⟩).toArray 69)).grownBy W7 (Value.slice Ad R1.L.length cap).ownBlock := by cases hg7; constructor <;> assumption
        have hR7 := RefAt.grown (W7 := W7) hRd hg8 hr7
        have hb : Blk W7 p 36 _ := (Far.of_grown (S := fun k => (Value.slice Ad R1.L.length cap).ownBlock = some k) (a := wc.alloc (.cells (Rn.cells ⟨key, nv, sm, decide (0 < R2.B)⟩).toArray 69)) hg8 fun k e => .inl e).blk hRd.dict hRd.ne
        have f7 : W7.frozen? ⟨p, 1, none⟩ = false := hb.free 1
        have e7 : W7.cell? ⟨p, 1, none⟩ = some (.slice Ad R1.L.length cap) := hb.cell 1
        simp only [Rn.cells, List.length_singleton] at hrun d0 d1 d2 d3 d4 g0
        have HR7 := Lib.hid hR7
        have HF7 := Lib.hid ((hFd.trans (Far.of_grown (S := fun k => (Value.slice Ad R1.L.length cap).ownBlock = some k) (a := wc.alloc (.cells (Rn.cells ⟨key, nv, sm, decide (0 < R2.B)⟩).toArray 69)) hg8 fun k e => .inl e) fun k hk => (HV1.out k hk)).set ⟨p, 1, none⟩ (.slice A7 (R1.L.length + 1) cap7) HP1.out)
        have HV7 := Lib.hid hv7
        have HFAR2 := Lib.hid hFd.size
        clear hR hF hrow hRd hFd hr7 hg7 hg8 hR7 hv7 hb hL
        go_wp2
        go_region_law (first
          | (refine step_append_ran rfl _ _ 34 34 (by rfl) (by rfl) (by rfl) hrun ?_)
          | (go_simp; go_at_call 59; (with_reducible refine (HSUMC _).out.mono ?_); rintro e w5 ⟨rfl, rfl⟩))
        all_goals (
          go_wp2
          go_returns
          exact .inr ⟨HE2.out, rfl, by rw [HADD.out]; exact RWent.mk' HR7.out HF7.out HP1.out (fun k hk => by
            rcases HV7.out k hk with h | h
            · exact HV1.out k h
            · exact .inr (Nat.le_trans HFAR2.out h))⟩)
end
end Go.Proofs.Ytifbambalfifaaa
