/- The reference's Step. -/
import Derived.Test.YtifbambalfifaaaRd
namespace Go.Proofs.Ytifbambalfifaaa
open Go.RowKit Go.Shelf
attribute [local go_sem] Oper.semAt_some

theorem RefAt.setRow {W : World} {p seed : Nat} {v : Value} {R : Rd} (h : RefAt W p v seed R) (o : Nat) (u : Value) : RRow (W.setCell ⟨p, o, none⟩ u) v R.L :=
  h.row.keep fun _ hk => Below.heap_setCell _ _ _ _ (fun e => h.ne (by rw [hk, e]))
theorem RefAt.setA {W : World} {p seed : Nat} {v : Value} {R : Rd} (h : RefAt W p v seed R) (n : Nat) : RefAt (W.setCell ⟨p, 2, none⟩ (.int .i64 n)) p v seed { R with A := n } :=
  ⟨h.dict.set 2 _, h.setRow 2 _⟩
theorem RefAt.setB {W : World} {p seed : Nat} {v : Value} {R : Rd} (h : RefAt W p v seed R) (n : Nat) : RefAt (W.setCell ⟨p, 3, none⟩ (.int .i64 n)) p v seed { R with B := n } :=
  ⟨h.dict.set 3 _, h.setRow 3 _⟩
theorem RefAt.setAt {W : World} {p seed : Nat} {v : Value} {R : Rd} (h : RefAt W p v seed R) (n : Nat) : RefAt (W.setCell ⟨p, 4, none⟩ (.int .i64 n)) p v seed { R with At := n } :=
  ⟨h.dict.set 4 _, h.setRow 4 _⟩
theorem RefAt.node {W : World} {p seed : Nat} {v : Value} {R : Rd} (h : RefAt W p v seed R) {g : Nat} (hg : v.ownBlock = some g) {i j : Nat} {x y : Rn} {u : Value} (hx : R.L[i]? = some x) (hj : j < 4) (he : x.cells.set j u = y.cells) :
    RefAt (W.setCell ⟨g, i * 4 + j, none⟩ u) p v seed { R with L := R.L.set i y } :=
  ⟨h.dict.setOther _ _ (fun e => h.ne (by rw [hg, e])), h.row.store hg hx hj he⟩

/-- The first i nodes are turned. -/
def mapTo (f : Rn → Rn) (L : List Rn) (i : Nat) : List Rn := (L.take i).map f ++ L.drop i
theorem mapTo_zero (f : Rn → Rn) (L : List Rn) : mapTo f L 0 = L := by simp [mapTo]
theorem mapTo_all (f : Rn → Rn) (L : List Rn) : mapTo f L L.length = L.map f := by simp [mapTo]
theorem mapTo_len (f : Rn → Rn) (L : List Rn) (i : Nat) : (mapTo f L i).length = L.length := by simp [mapTo]; omega
theorem mapTo_at (f : Rn → Rn) (L : List Rn) (i : Nat) (hi : i < L.length) : (mapTo f L i)[i]? = some L[i] := by
  unfold mapTo
  rw [List.getElem?_append_right (by simp; omega)]
  simp [Nat.min_eq_left (Nat.le_of_lt hi)]
theorem mapTo_succ (f : Rn → Rn) (L : List Rn) (i : Nat) (hi : i < L.length) : mapTo f L (i + 1) = (mapTo f L i).set i (f L[i]) := by
  unfold mapTo
  rw [List.take_succ_eq_append_getElem hi, List.drop_eq_getElem_cons hi, List.map_append, List.set_append_right _ _ (by simp; omega)]
  simp only [List.map_take, List.append_assoc, List.length_take, List.length_map, Nat.min_eq_left (Nat.le_of_lt hi), Nat.sub_self]
  rfl

theorem set_same {L : List Rn} {i : Nat} {x : Rn} (h : L[i]? = some x) : L.set i x = L := by
  obtain ⟨hi, rfl⟩ := List.getElem?_eq_some_iff.1 h
  exact List.set_getElem_self hi

def Rn.mark (A At : Nat) (x : Rn) : Rn := if x.sum % A = At then { x with nx := true } else x
theorem mark_at {A At : Nat} {x : Rn} (h : x.sum % A = At) : x.mark A At = { x with nx := true } := by unfold Rn.mark; rw [if_pos h]
theorem mark_not {A At : Nat} {x : Rn} (h : ¬ x.sum % A = At) : x.mark A At = x := by unfold Rn.mark; rw [if_neg h]
theorem below_drewN (w : World) (n : Nat) : Below w.heap.size w (w.drewN n) := ⟨rfl, rfl, rfl, Nat.le_refl _, fun _ _ => rfl⟩
def Rn.clear (x : Rn) : Rn := { x with nx := false }
/-- One slot moves. -/
def Rd.step1 (R : Rd) : Rd := if R.B = 0 then R else if R.At + 1 = R.A then ⟨(R.L.map (Rn.mark R.A R.At)).map Rn.clear, R.B, 0, 0⟩ else ⟨R.L.map (Rn.mark R.A R.At), R.A, R.B, R.At + 1⟩
def Rd.steps : Nat → Rd → Rd
  | 0, R => R
  | k + 1, R => (Rd.steps k R).step1
def Rd.shape (R : Rd) : Sh := ⟨R.A, R.B, R.At, R.L.length⟩
theorem rshape_step1 (R : Rd) : R.step1.shape = R.shape.step1 := by
  unfold Rd.step1 Sh.step1 Rd.shape
  by_cases h0 : R.B = 0
  · rw [if_pos h0, if_pos h0]
  · rw [if_neg h0, if_neg h0]
    by_cases h1 : R.At + 1 = R.A
    · rw [if_pos h1, if_pos h1]; simp
    · rw [if_neg h1, if_neg h1]; simp
theorem rshape_steps (R : Rd) : ∀ k, (Rd.steps k R).shape = Sh.steps k R.shape
  | 0 => rfl
  | k + 1 => by rw [Rd.steps, rshape_step1, rshape_steps R k]; rfl
theorem steps_mid {h : Sh} (hB : h.B ≠ 0) : ∀ k, k < h.left → Sh.steps k h = ⟨h.A, h.B, h.At + k, h.n⟩
  | 0, _ => rfl
  | k + 1, hk => by
    rw [Sh.steps, steps_mid hB k (by omega), Sh.step1, if_neg hB, if_neg]
    · rfl
    · unfold Sh.left at hk
      rw [if_neg hB] at hk
      show ¬ (h.At + k + 1 = h.A)
      omega
theorem steps_end {h : Sh} (hB : h.B ≠ 0) (hA : h.At < h.A) : Sh.steps h.left h = ⟨h.B, 0, 0, h.n⟩ := by
  have hl : h.left = h.A - h.At := by unfold Sh.left; rw [if_neg hB]
  obtain ⟨k, hk⟩ : ∃ k, h.left = k + 1 := ⟨h.left - 1, by omega⟩
  rw [hk, Sh.steps, steps_mid hB k (by omega), Sh.step1, if_neg hB, if_pos]
  show h.At + k + 1 = h.A
  omega

theorem steps_sums {R : Rd} (hs : ∀ x ∈ R.L, x.sum < 4294967296) : ∀ k, ∀ x ∈ (Rd.steps k R).L, x.sum < 4294967296
  | 0 => hs
  | k + 1 => by
    have ih := steps_sums hs k
    rw [Rd.steps]
    unfold Rd.step1
    split
    · exact ih
    · split
      · intro x hx
        simp only [List.map_map, List.mem_map] at hx
        obtain ⟨y, hy, rfl⟩ := hx
        have := ih y hy
        simp only [Function.comp, Rn.clear, Rn.mark]
        split <;> exact this
      · intro x hx
        simp only [List.mem_map] at hx
        obtain ⟨y, hy, rfl⟩ := hx
        have := ih y hy
        simp only [Rn.mark]
        split <;> exact this
theorem RRow.at {W : World} {Ad : Option Addr} {n cap : Nat} {r : List Rn} (h : RRow W (.slice Ad n cap) r) {i : Nat} {x : Rn} (hx : r[i]? = some x) :
    ∃ g, Ad = some ⟨g, 0, none⟩ ∧ W.cell? ⟨g, i * 4, none⟩ = some (.string x.key) ∧ W.cell? ⟨g, i * 4 + 1, none⟩ = some (.int .i64 x.v) ∧ W.cell? ⟨g, i * 4 + 2, none⟩ = some (.int .u32 x.sum) ∧ W.cell? ⟨g, i * 4 + 3, none⟩ = some (.bool x.nx) ∧ ∀ o, W.frozen? ⟨g, o, none⟩ = false := by
  obtain ⟨A, cap', he, _, _, hf⟩ := h.form
  injection he with e1 e2 e3
  subst e1
  obtain ⟨g, h1, _, h2⟩ := hf i x hx
  exact ⟨g, h1, h2⟩

section
variable {S : Nat → Prop} {p seed : Nat} {R : Rd} {w : World}
set_option maxRecDepth 100000 in
set_option maxHeartbeats 4000000 in
theorem refstep_any (h : RRep w p S seed R) (hA : 0 < R.A) (hA2 : R.A ≤ 65536) (hB2 : R.B ≤ 65536) (hAt : R.B ≠ 0 → R.At < R.A) (hn : R.L.length ≤ 1000000) (hsum : ∀ x ∈ R.L, x.sum < 4294967296) (q : Int) (hq : q ≤ 1000000) :
    Calls Try.prog 31 #[.pointer (some ⟨p, 0, none⟩), .int .i64 q] w fun e w' => e = .returned (.int .i64 (min q.toNat R.shape.left : Nat)) ∧ RWent S w p seed (Rd.steps (min q.toNat R.shape.left) R) w' := by
  obtain ⟨v, hm, hp, hv, hc⟩ := h
  obtain ⟨Ad, cap, rfl, hcap, hmax, _⟩ := hm.row.form
  have HM := Lib.hid hm
  have HV := Lib.hid hv
  have HSUM := Lib.hid (steps_sums hsum)
  have HLE := Lib.hid (show R.shape.left ≤ R.A by unfold Sh.left Rd.shape; simp only; split <;> omega)
  obtain ⟨NL, hNL⟩ : ∃ NL, NL = R.L.length := ⟨_, rfl⟩
  obtain ⟨lf, hlf⟩ : ∃ lf, lf = R.shape.left := ⟨_, rfl⟩
  obtain ⟨tot, htot⟩ : ∃ tot, tot = min q.toNat lf := ⟨_, rfl⟩
  have HEND : Hid (∀ wr, RefAt wr p (.slice Ad NL cap) seed (Rd.steps tot R) → Far S w wr → RWent S w p seed (Rd.steps tot R) wr) :=
    Lib.hid fun wr h1 h2 => RWent.mk' h1 h2 (.inl hp) (fun k hk => .inl (hv k (by rw [hNL] at hk; exact hk)))
  rw [← hlf, ← htot]
  rw [← hNL] at HM
  rw [← hlf] at HLE
  have HB0 : Hid (0 < lf → R.B ≠ 0) := Lib.hid fun h0 e => by
    rw [hlf] at h0
    unfold Sh.left Rd.shape at h0
    rw [if_pos e] at h0
    omega
  have HB1 : Hid (R.B ≠ 0 → lf = R.A - R.At) := Lib.hid fun e => by
    rw [hlf]
    unfold Sh.left Rd.shape
    rw [if_neg e]
  have HSH : Hid (∀ k, k ≤ lf → (k < lf → (Rd.steps k R).shape = ⟨R.A, R.B, R.At + k, NL⟩) ∧ (k = lf → (Rd.steps k R).B = 0) ∧ (Rd.steps k R).L.length = NL) := Lib.hid fun k hk => by
    have hs := rshape_steps R k
    refine ⟨fun h => ?_, fun h => ?_, ?_⟩
    · rw [hs, steps_mid (HB0.out (by omega)) k (by omega), hNL]; rfl
    · show (Rd.steps k R).shape.B = 0
      rw [hs]
      by_cases hB : R.B = 0
      · rw [steps_still hB]; exact hB
      · rw [h, hlf, steps_end hB (hAt hB)]
    · show (Rd.steps k R).shape.n = NL
      rw [hs, steps_n, hNL]; rfl
  have hNL2 : NL ≤ 1000000 := by omega
  have HCAP := Lib.hid hcap
  clear hm hv hc hsum hlf hNL hcap
  go_enter Try.func31, Try.ntmps31
  go_wp2
  go_loopw [5] (fun i wr => ∃ k : Nat, i = .int .i64 k ∧ k ≤ tot ∧ RefAt wr p (.slice Ad NL cap) seed (Rd.steps k R) ∧ Far S w wr) (fun i _ => tot - (intOf i).toNat)
  case atStart => exact ⟨0, rfl, by omega, HM.out, Far.refl _ _⟩
  case round =>
    obtain ⟨k, rfl, hk, hr, hf⟩ := hrel
    have hkl : k ≤ lf := by omega
    obtain ⟨s1, s2, s3⟩ := HSH.out k hkl
    obtain ⟨c0, c1, c2, c3, c4, f0⟩ := ref_facts hr
    by_cases hlt : k < tot
    · have s1 := s1 (by omega)
      have hkq : (k : Int) < q := by omega
      have hsums := HSUM.out k
      have HNEXT : Hid (Rd.steps (k + 1) R = (Rd.steps k R).step1) := Lib.hid rfl
      have hb0 := HB0.out (by omega)
      have hb1 := HB1.out hb0
      generalize Rd.steps k R = R1 at *
      obtain ⟨L1, A1, B1, At1⟩ := R1
      unfold Rd.shape at s1
      injection s1 with i1 i2 i3 i4
      simp only at i1 i2 i3 i4 s3 c2 c3 c4 hsums
      have hA1 : 0 < A1 := by omega
      have hA1' : A1 ≤ 65536 := by omega
      have hB1 : 0 < B1 := by omega
      have hAt1 : At1 < A1 := by omega
      have hB1' : B1 ≤ 65536 := by omega
      have hA1i : ¬ (A1 : Int) = 0 := by omega
      have hB1i : (0 : Int) < B1 := by omega
      have HI3 := Lib.hid i3
      clear i1 i2 i3 i4 s2 hb0 hb1
      have HR := Lib.hid hr
      have HFAR := Lib.hid hf
      have HS3 := Lib.hid s3
      clear hr hf s3 htot
      go_wp2
      go_loopw [6] (fun i2 wr2 => ∃ i : Nat, i2 = .int .i64 i ∧ i ≤ NL ∧ RefAt wr2 p (.slice Ad NL cap) seed ⟨mapTo (Rn.mark A1 At1) L1 i, A1, B1, At1⟩ ∧ Far S w wr2) (fun i2 _ => NL - (intOf i2).toNat)
      case atStart => exact ⟨0, rfl, by omega, by rw [mapTo_zero]; exact HR.out, HFAR.out⟩
      case round =>
        obtain ⟨i, rfl, hi, hr, hf⟩ := hrel
        have hrow := hr.row
        obtain ⟨b0, b1, b2, b3, b4, fb⟩ := ref_facts hr
        simp only at b2 b3 b4
        by_cases hil : i < NL
        · have hil1 : i < L1.length := by rw [HS3.out]; exact hil
          obtain ⟨g, rfl, e0, e1, e2, e3, ef⟩ := hrow.at (mapTo_at (Rn.mark A1 At1) L1 i hil1)
          have hs := hsums _ (List.getElem_mem hil1)
          obtain ⟨x, hx⟩ : ∃ x, x = L1[i] := ⟨_, rfl⟩
          rw [← hx] at e0 e1 e2 e3 hs
          have hsi : (x.sum : Int) < 4294967296 := by omega
          obtain ⟨mm, hmm⟩ : ∃ mm, mm = x.sum % A1 := ⟨_, rfl⟩
          have htm : (x.sum : Int).tmod (A1 : Int) = (mm : Int) := by rw [Int.tmod_eq_emod_of_nonneg (by omega), hmm]; rfl
          have HMM := Lib.hid hmm
          clear hmm
          have HX := Lib.hid hx
          have HR2 := Lib.hid hr
          have HF2 := Lib.hid hf
          have hsucc := mapTo_succ (Rn.mark A1 At1) L1 i hil1
          rw [← hx] at hsucc
          have HSUCC := Lib.hid hsucc
          have hat := mapTo_at (Rn.mark A1 At1) L1 i hil1
          rw [← hx] at hat
          have HAT := Lib.hid hat
          clear hrow hr hf hx hsucc hat e0 e1
          by_cases hm : mm = At1
          · have HM1 := Lib.hid (HMM.out.symm.trans hm)
            subst hm
            go_wp2
            go_quiet (fail)
            go_wp2
            have hN := (HR2.out.later (below_drewN _ nq)).node (g := g) (j := 3) (y := { x with nx := true }) (u := .bool true) rfl HAT.out (by decide) rfl
            refine ⟨⟨i + 1, by go_num, by omega, ?_, (HF2.out.then_below (below_drewN _ nq)).set ⟨g, i * 4 + 3, none⟩ _ (.inl (HV.out g rfl))⟩, by simp [intOf]; omega⟩
            rw [HSUCC.out, mark_at HM1.out]
            exact hN
          · have hm2 : ((mm : Int) == (At1 : Int)) = false := by rw [beq_eq_false_iff_ne]; omega
            have HM1 := Lib.hid (show ¬ x.sum % A1 = At1 by rw [← HMM.out]; exact hm)
            clear hm
            go_wp2
            go_quiet (fail)
            go_wp2
            refine ⟨⟨i + 1, by go_num, by omega, ?_, HF2.out.then_below (below_drewN _ nq)⟩, by simp [intOf]; omega⟩
            rw [HSUCC.out, mark_not HM1.out, set_same HAT.out]
            exact HR2.out.later (below_drewN _ nq)
        · obtain rfl : i = NL := by omega
          have e1 : mapTo (Rn.mark A1 At1) L1 i = L1.map (Rn.mark A1 At1) := by rw [← HS3.out, mapTo_all]
          rw [e1] at hr
          have HR2 := Lib.hid hr
          have HF2 := Lib.hid hf
          clear hrow hr hf e1
          by_cases hlast : At1 + 1 = A1
          · have hlast2 : (At1 : Int) + 1 = A1 := by omega
            go_wp2
            go_quiet (fail)
            go_wp2
            have hN := ((((HR2.out.setAt (At1 + 1)).later (below_drewN _ nq)).setA B1).setB 0).setAt 0
            have hF := ((((HF2.out.set ⟨p, 4, none⟩ (.int .i64 (At1 + 1 : Nat)) (.inl hp)).then_below (below_drewN _ nq)).set ⟨p, 2, none⟩ (.int .i64 B1) (.inl hp)).set ⟨p, 3, none⟩ (.int .i64 (0 : Nat)) (.inl hp)).set ⟨p, 4, none⟩ (.int .i64 (0 : Nat)) (.inl hp)
            have HN := Lib.hid hN
            have HFN := Lib.hid hF
            obtain ⟨L2, hL2⟩ : ∃ L2, L2 = L1.map (Rn.mark A1 At1) := ⟨_, rfl⟩
            have hl2 : L2.length = i := by rw [hL2, List.length_map]; exact HS3.out
            have HL2 := Lib.hid hL2
            have HS4 := Lib.hid hl2
            clear hN hF hL2 hl2
            go_loopw [7] (fun i3 wr3 => ∃ m : Nat, i3 = .int .i64 m ∧ m ≤ i ∧ RefAt wr3 p (.slice Ad i cap) seed ⟨mapTo Rn.clear L2 m, B1, 0, 0⟩ ∧ Far S w wr3) (fun i3 _ => i - (intOf i3).toNat)
            case atStart => exact ⟨0, rfl, by omega, by rw [mapTo_zero, HL2.out, ← hlast2]; exact HN.out, by rw [← hlast2]; exact HFN.out⟩
            case round =>
              obtain ⟨m, rfl, hm, hr, hf⟩ := hrel
              have hrow := hr.row
              obtain ⟨b0, b1, b2, b3, b4, fb⟩ := ref_facts hr
              simp only at b2 b3 b4
              by_cases hil : m < i
              · have hil1 : m < L2.length := by rw [HS4.out]; exact hil
                obtain ⟨g, rfl, e0, e1, e2, e3, ef⟩ := hrow.at (mapTo_at Rn.clear L2 m hil1)
                have hsucc := mapTo_succ Rn.clear L2 m hil1
                have hat := mapTo_at Rn.clear L2 m hil1
                generalize L2[m] = x at *
                have HR3 := Lib.hid hr
                have HF3 := Lib.hid hf
                have HSUCC := Lib.hid hsucc
                have HAT := Lib.hid hat
                clear hrow hr hf hsucc hat e0 e1 e2
                go_wp2
                have hN := HR3.out.node (g := g) (j := 3) (y := x.clear) (u := .bool false) rfl HAT.out (by decide) rfl
                refine ⟨⟨m + 1, by go_num, by omega, ?_, HF3.out.set ⟨g, m * 4 + 3, none⟩ _ (.inl (HV.out g rfl))⟩, by simp [intOf]; omega⟩
                rw [HSUCC.out]
                exact hN
              · obtain rfl : m = i := by omega
                have e1 : mapTo Rn.clear L2 m = L2.map Rn.clear := by rw [← HS4.out, mapTo_all]
                rw [e1] at hr
                have HR3 := Lib.hid hr
                have HF3 := Lib.hid hf
                clear hrow hr hf e1
                go_wp2
                refine ⟨⟨k + 1, by go_num, by omega, ?_, HF3.out⟩, by simp [intOf]; omega⟩
                rw [HNEXT.out]
                have hN2 := HR3.out
                unfold Rd.step1
                simp only
                rw [if_neg (by omega), if_pos (by omega), ← HL2.out]
                exact hN2
          · have hlast2 : ((At1 : Int) + 1 == (A1 : Int)) = false := by rw [beq_eq_false_iff_ne]; omega
            have HL := Lib.hid hlast
            clear hlast
            go_wp2
            go_quiet (fail)
            go_wp2
            have hN := HR2.out.setAt (At1 + 1)
            refine ⟨⟨k + 1, by go_num, by omega, ?_, (HF2.out.set ⟨p, 4, none⟩ _ (.inl hp)).then_below (below_drewN _ nq)⟩, by simp [intOf]; omega⟩
            rw [HNEXT.out]
            have hN2 := hN.later (below_drewN _ nq)
            unfold Rd.step1
            simp only
            rw [if_neg (by omega), if_neg HL.out]
            exact hN2
    · have hex : q ≤ (k : Int) ∨ ((k : Int) < q ∧ k = lf) := by omega
      have hkt : k = tot := by omega
      subst hkt
      rcases hex with hex | ⟨hex, hex2⟩
      · have HR := Lib.hid hr
        have HFAR := Lib.hid hf
        clear hr hf htot s2 s3
        go_wp2
        go_ret
        exact ⟨rfl, HEND.out _ HR.out HFAR.out⟩
      · have s2 := s2 hex2
        rw [s2] at c3
        have HR := Lib.hid hr
        have HFAR := Lib.hid hf
        clear hr hf htot s2 s3 hex2
        go_wp2
        go_ret
        exact ⟨rfl, HEND.out _ HR.out HFAR.out⟩
end
end Go.Proofs.Ytifbambalfifaaa
