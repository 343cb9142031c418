/- What is in the union of two sets is in their intersection, or in one of their differences. -/
import Derived.Test.YtjilfgkoibbcnaaDoorPartsM
namespace Go.Proofs.YtjilfgkoibbcnaaDoor
open Go.RowKit Go.Shelf
attribute [local go_sem] Oper.semAt_some

structure LoadsO (g o : Nat) (u v : Value) (W : World) : Prop where
  l0 : W.cell? ⟨g, o, none⟩ = some u
  l1 : W.cell? ⟨g, o + 1, none⟩ = some v

set_option maxRecDepth 100000 in
set_option maxHeartbeats 4000000 in
theorem parts_any (a0 a1 : Addr) (a b : Option Addr) (cap cap2 : Nat) (l m : List Ent) (hIn : In [l, m]) (w : World) (hE : Env a0 a1 w) (hL : Ents w a l) (hL2 : Ents w b m) :
    Calls Tryd.prog 6 #[.slice a l.length cap, .slice b m.length cap2] w fun e w' => e = .returned (.bool true) ∧ Below w.heap.size w w' := by
  have HSH := Lib.hid (shown_any a0 a1 w hE)
  have HE := Lib.hid hE
  have HL := Lib.hid hL
  have HL2 := Lib.hid hL2
  have HIN := Lib.hid hIn
  clear hE hL hL2 hIn
  go_enter Tryd.func6, Tryd.ntmps6
  go_wp2_with fail
  refine HSH.out.mono ?_
  rintro e w1 ⟨rfl, hb⟩
  have HB1 := Lib.hid hb
  have HL1 := Lib.hid (HL.out.below hb)
  have HM1 := Lib.hid (HL2.out.below hb)
  clear hb
  go_wp2_with fail
  have hx := alloc_below w1 (Obj.cells #[Value.slice a l.length cap, Value.slice b m.length cap2] 26)
  have HX1 := Lib.hid (HB1.out.trans (hx.mono HB1.out.size))
  refine (few_any true [l, m] HIN.out.1 (fun x hx => ⟨(HIN.out.2 x hx).1, fun e he => ((HIN.out.2 x hx).2 e he).1⟩) _ _ _ (setsE_two HL1.out HM1.out)).mono ?_
  rintro e w2 ⟨r, rfl, hS, hb⟩
  have hok := ok_few true HIN.out
  have h64 := num_few true HIN.out
  have hgd := good_few (ls := [l, m])
  have hlp : (fewOne true l).length ≤ 30 := (one_facts true fun e he => ((HIN.out.2 l (by simp)).2 e he).2).1
  have hlq : (fewOne true m).length ≤ 30 := (one_facts true fun e he => ((HIN.out.2 m (by simp)).2 e he).2).1
  rw [show fewP true [l, m] = [fewOne true l, fewOne true m] from rfl] at hS hok h64 hgd
  obtain ⟨fa, fc, rfl, hS2, hfc, _⟩ := hS.slice
  have gP : Good (fewOne true l) := hgd _ (by simp)
  have gQ : Good (fewOne true m) := hgd _ (by simp)
  have p64 : ∀ e ∈ fewOne true l, I64 e.2 := h64 _ (by simp)
  have q64 : ∀ e ∈ fewOne true m, I64 e.2 := h64 _ (by simp)
  have hzP : ∀ e ∈ fewOne true l, e.1.size ≤ 1000000 := fun e he => ((hok.2 _ (by simp)).2.2 e he).1
  generalize fewOne true l = P at *
  generalize fewOne true m = Q at *
  have HOK := Lib.hid hok
  have hokT : OkS [Q, P] := ⟨by simp, fun x hx => hok.2 x (by
    rcases List.mem_cons.1 hx with rfl | hx
    · simp
    · rw [List.mem_singleton.1 hx]; simp)⟩
  have HOT := Lib.hid hokT
  obtain ⟨A, mA, nA, lA, hA⟩ := mix_two gP gQ p64 q64 (by omega) (by omega) 1
  obtain ⟨B, mB, nB, lB, hB⟩ := mix_two gP gQ p64 q64 (by omega) (by omega) 2
  obtain ⟨C, mC, nC, lC, hC⟩ := diff_two gP gQ (by omega)
  obtain ⟨D, mD, nD, lD, hD⟩ := diff_two gQ gP (by omega)
  have hA' : ∀ x, hasM A x = (hasM P x || hasM Q x) := fun x => by
    rw [hA]; cases hasM P x <;> cases hasM Q x <;> rfl
  have hB' : ∀ x, hasM B x = (hasM P x && hasM Q x) := fun x => by
    rw [hB]; cases hasM P x <;> cases hasM Q x <;> rfl
  have hlen := parts_len nA nB nC nD hA' hB' hC hD
  have hthree : ∀ x, hasM A x = true → ((∃ j : Nat, whereE B x = j) ∧ whereE C x = -1 ∧ whereE D x = -1) ∨ (whereE B x = -1 ∧ (∃ j : Nat, whereE C x = j) ∧ whereE D x = -1) ∨ (whereE B x = -1 ∧ whereE C x = -1 ∧ ∃ j : Nat, whereE D x = j) := fun x hx => by
    rw [hA'] at hx
    cases hp : hasM P x with
    | true =>
      cases hq : hasM Q x with
      | true => exact .inl ⟨where_has nB (by rw [hB', hp, hq]; rfl), where_not (by rw [hC, hp, hq]; rfl), where_not (by rw [hD, hp, hq]; rfl)⟩
      | false => exact .inr (.inl ⟨where_not (by rw [hB', hp, hq]; rfl), where_has nC (by rw [hC, hp, hq]; rfl), where_not (by rw [hD, hp, hq]; rfl)⟩)
    | false =>
      cases hq : hasM Q x with
      | true => exact .inr (.inr ⟨where_not (by rw [hB', hp, hq]; rfl), where_not (by rw [hC, hp, hq]; rfl), where_has nD (by rw [hD, hp, hq]; rfl)⟩)
      | false => rw [hp, hq] at hx; cases hx
  have HTH := Lib.hid hthree
  have HS2 := Lib.hid hS2
  have HB2 := Lib.hid (HX1.out.trans (hb.mono HX1.out.size))
  obtain ⟨g, off, cs, u0, hfa, hg0, hc0, hO0⟩ := hS2 0 (by simp)
  subst hfa
  obtain ⟨g', off', cs', u1, hfa, hg1, hc1, hO1⟩ := hS2 1 (by simp)
  cases hfa
  rw [hg0] at hg1
  cases hg1
  obtain ⟨xa0, xc0, hu0, _⟩ := hO0.slice
  obtain ⟨xa1, xc1, hu1, _⟩ := hO1.slice
  obtain ⟨n0, hn0⟩ : ∃ n0, ([P, Q] : List (List Ent))[0].length = n0 := ⟨_, rfl⟩
  obtain ⟨n1, hn1⟩ : ∃ n1, ([P, Q] : List (List Ent))[1].length = n1 := ⟨_, rfl⟩
  rw [hn0] at hu0
  rw [hn1] at hu1
  subst hu0 hu1
  have s0 : LoadsO g off (.slice xa0 n0 xc0) (.slice xa1 n1 xc1) w2 := ⟨by simp [World.cell?, hg0]; simpa using hc0, by simp [World.cell?, hg0, hc1]⟩
  have S0 : LoadsO g off (.slice xa0 n0 xc0) (.slice xa1 n1 xc1) w2.drew := ⟨s0.l0, s0.l1⟩
  have HSD := Lib.hid hS2
  have HP0 := Lib.hid hO0
  have HQ1 := Lib.hid hO1
  clear hS hS2 hb hx hgd h64 hok hokT gP gQ p64 q64 hA hB hA' hB' hC hD hthree hg0 hc0 hc1 hO0 hO1
  go_wp2_with fail
  refine Sched.region_sched [(0, true), (1, true), (2, true), (3, true), (4, true), (5, true), (6, false), (7, true)] (LoadsO g off (.slice xa0 n0 xc0) (.slice xa1 n1 xc1)) (by kernel_rfl) (by kernel_rfl) rfl (by kernel_rfl) (fun _ _ _ d _ h => by cases d <;> exact h) S0 ?_
  intro L hL
  simp only [Sched.picks, List.getElem?_toArray, List.getElem?_cons_zero, List.getElem?_cons_succ] at hL
  subst hL
  repeat (first
    | (refine Sched.sched_take (v := ?_) (by rfl) ?_ ?_
       rotate_left
       (focus (intro w' hSw; obtain ⟨l0, l1⟩ := hSw; go_simp; (try with_reducible rfl); done))
       simp only [Act.put, List.setIfInBounds_toArray, List.set_cons_zero, List.set_cons_succ]))
  refine Sched.sched_do (by rfl) fun K' hK => ?_
  go_simp
  obtain ⟨w3, hw3⟩ : ∃ w3, (w2.alloc (Obj.cells #[Value.slice xa1 n1 xc1, Value.slice xa0 n0 xc0] 26)).drew = w3 := ⟨_, rfl⟩
  have hb3 : Below w2.heap.size w2 w3 := by rw [← hw3]; exact ((Below.refl _ _).alloc (Nat.le_refl _) _).drew
  have S3 : LoadsO g off (.slice xa0 n0 xc0) (.slice xa1 n1 xc1) w3 := ⟨(hb3.cell (p := ⟨g, _, none⟩) (World.block_lt_of_cell? w2 ⟨g, _, none⟩ s0.l0)).trans s0.l0, (hb3.cell (p := ⟨g, _, none⟩) (World.block_lt_of_cell? w2 ⟨g, _, none⟩ s0.l1)).trans s0.l1⟩
  have hST : Sets w3 (some ⟨w2.heap.size, 0, none⟩) [Q, P] := by
    have kB : Blk w3 w2.heap.size 26 #[Value.slice xa1 n1 xc1, Value.slice xa0 n0 xc0] := by rw [← hw3]; exact Blk.new w2 26 #[Value.slice xa1 n1 xc1, Value.slice xa0 n0 xc0]
    intro k hk
    have : k = 0 ∨ k = 1 := by simp at hk; omega
    rcases this with rfl | rfl
    · exact ⟨_, 0, _, .slice xa1 n1 xc1, rfl, kB, rfl, own_later HQ1.out hb3⟩
    · exact ⟨_, 0, _, .slice xa0 n0 xc0, rfl, kB, rfl, own_later HP0.out hb3⟩
  have HST := Lib.hid hST
  have HS3 := Lib.hid (HSD.out.later hb3)
  have HB3 := Lib.hid (HB2.out.trans (hb3.mono HB2.out.size))
  obtain ⟨n2, hn2⟩ : ∃ n2, w2.heap.size = n2 := ⟨_, rfl⟩
  rw [hn2] at HST
  rw [hw3, hn2]
  refine hK _ _ S3 ?_
  clear hK K'
  refine Sched.sched_take (v := .slice (some ⟨n2, 0, none⟩) 2 2) (by rfl) (fun w' _ => by go_simp) ?_
  simp only [Act.put, List.setIfInBounds_toArray, List.set_cons_zero, List.set_cons_succ]
  refine Sched.sched_nil ?_
  clear S0 S3 s0 hST hb3 hw3 HB2 HSD HS2 HP0 HQ1 hn2
  go_wp2_with fail
  have hx := alloc_below w3 (Obj.cells #[Value.int IntKind.i64 1, Value.int IntKind.i64 1] 2)
  have hy := HB3.out.trans (hx.mono HB3.out.size)
  have hc := union_any a0 a1 3 [1, 1] (by intro x hx; simp at hx; subst hx; unfold I64; omega) [P, Q] HOK.out (some ⟨w3.heap.size, 0, none⟩) (some ⟨g, off, none⟩) 2 fc _ (HE.out.later hy) (HS3.out.later hx) (nums_lit (Blk.new w3 2 #[Value.int IntKind.i64 1, Value.int IntKind.i64 1]) rfl)
  rw [mA] at hc
  have HX := Lib.hid hx
  have HY := Lib.hid hy
  clear hx hy
  refine hc.mono ?_
  rintro e w4 ⟨r, rfl, hO, hb⟩
  obtain ⟨ra, rc, rfl, _, _, _, _⟩ := hO.slice
  have HA4 := Lib.hid hO
  have HS4 := Lib.hid ((HS3.out.later HX.out).later hb)
  have HT4 := Lib.hid ((HST.out.later HX.out).later hb)
  have HB4 := Lib.hid (HY.out.trans (hb.mono HY.out.size))
  clear hb hO hc HX HY HS3 HST HB3
  go_wp2_with fail
  have hx := alloc_below w4 (Obj.cells #[Value.int IntKind.i64 1, Value.int IntKind.i64 1] 2)
  have hy := HB4.out.trans (hx.mono HB4.out.size)
  have hc := inter_any a0 a1 3 [1, 1] (by intro x hx; simp at hx; subst hx; unfold I64; omega) [P, Q] HOK.out (some ⟨w4.heap.size, 0, none⟩) (some ⟨g, off, none⟩) 2 fc _ (HE.out.later hy) (HS4.out.later hx) (nums_lit (Blk.new w4 2 #[Value.int IntKind.i64 1, Value.int IntKind.i64 1]) rfl)
  rw [show (([P, Q].length : Nat) : Int) = 2 from rfl, mB] at hc
  have HX := Lib.hid hx
  have HY := Lib.hid hy
  clear hx hy
  refine hc.mono ?_
  rintro e w5 ⟨r, rfl, hO, hb⟩
  obtain ⟨sa, sc, rfl, _, _, _, _⟩ := hO.slice
  have HB5 := Lib.hid hO
  have HA5 := Lib.hid (own_later (own_later HA4.out HX.out) hb)
  have HS5 := Lib.hid ((HS4.out.later HX.out).later hb)
  have HT5 := Lib.hid ((HT4.out.later HX.out).later hb)
  have HW5 := Lib.hid (HY.out.trans (hb.mono HY.out.size))
  clear hb hO hc HX HY HS4 HT4 HB4 HA4
  go_wp2_with fail
  have hc := diff_any a0 a1 [P, Q] HOK.out (some ⟨g, off, none⟩) fc hfc _ (HE.out.later HW5.out) HS5.out
  rw [mC] at hc
  refine hc.mono ?_
  rintro e w6 ⟨r, rfl, hO, hb⟩
  obtain ⟨ta, tc, rfl, _, _, _, _⟩ := hO.slice
  have HC6 := Lib.hid hO
  have HA6 := Lib.hid (own_later HA5.out hb)
  have HB6 := Lib.hid (own_later HB5.out hb)
  have HT6 := Lib.hid (HT5.out.later hb)
  have HW6 := Lib.hid (HW5.out.trans (hb.mono HW5.out.size))
  clear hb hO hc HS5 HT5 HW5 HA5 HB5
  go_wp2_with fail
  have hc := diff_any a0 a1 [Q, P] HOT.out (some ⟨n2, 0, none⟩) 2 (by simp) _ (HE.out.later HW6.out) HT6.out
  rw [mD] at hc
  refine hc.mono ?_
  rintro e w7 ⟨r, rfl, hO, hb⟩
  obtain ⟨xa, xc, rfl, _, _, _, _⟩ := hO.slice
  have HD7 := Lib.hid (own_ents hO)
  have HA7 := Lib.hid (own_ents (own_later HA6.out hb))
  have HB7 := Lib.hid (own_ents (own_later HB6.out hb))
  have HC7 := Lib.hid (own_ents (own_later HC6.out hb))
  have HW7 := Lib.hid (HW6.out.trans (hb.mono HW6.out.size))
  clear hb hO hc HT6 HW6 HA6 HB6 HC6
  have hmA := Lib.hid (show ∀ e ∈ A, hasM A e.1 = true from fun e he => (hasM_mem A e.1).1 (List.mem_map_of_mem he))
  clear mA mB mC mD nA nB nC nD
  go_wp2_with fail
  go_loopw [16] (fun i wr => ∃ (k : Nat), i = .int .i64 k ∧ k ≤ A.length ∧ wr = w7) (fun i _ => A.length - (intOf i).toNat)
  case atStart => exact ⟨0, rfl, by omega, rfl⟩
  case round =>
    obtain ⟨k, rfl, hk, rfl⟩ := hrel
    by_cases hlt : k < A.length
    · have hlt2 : (k : Int) < A.length := by omega
      obtain ⟨bb, oo, rfl, c0, c1⟩ := HA7.out k hlt
      have h3 := HTH.out A[k].1 (hmA.out _ (List.getElem_mem hlt))
      have f1 := Lib.hid (find_any sa sc B (by omega) A[k].1 wr HB7.out)
      have f2 := Lib.hid (find_any ta tc C (by omega) A[k].1 wr HC7.out)
      have f3 := Lib.hid (find_any xa xc D (by omega) A[k].1 wr HD7.out)
      generalize A[k] = e at *
      rcases h3 with ⟨⟨j, h1⟩, h2, h3⟩ | ⟨h1, ⟨j, h2⟩, h3⟩ | ⟨h1, h2, ⟨j, h3⟩⟩
      all_goals (
        rw [h1] at f1
        rw [h2] at f2
        rw [h3] at f3
        have hj0 : (0 : Int) ≤ (j : Int) := by omega
        clear h1 h2 h3
        go_wp2_with fail
        refine f1.out.mono ?_
        rintro e1 w8 ⟨rfl, rfl⟩
        go_wp2_with fail
        refine f2.out.mono ?_
        rintro e1 w8 ⟨rfl, rfl⟩
        go_wp2_with fail
        refine f3.out.mono ?_
        rintro e1 w8 ⟨rfl, rfl⟩
        go_wp2_with fail
        exact ⟨⟨k + 1, by go_num, by omega, trivial⟩, by simp [intOf]; omega⟩)
    · obtain rfl : k = A.length := by omega
      have h1 : IntKind.i64.wrap ((B.length : Int) + C.length) = (B.length : Int) + C.length := IntWalk.i64_in _ (by omega)
      have h2 : IntKind.i64.wrap ((B.length : Int) + C.length + D.length) = (B.length : Int) + C.length + D.length := IntWalk.i64_in _ (by omega)
      have h3 : ((A.length : Int) == (B.length : Int) + C.length + D.length) = true := by
        rw [beq_iff_eq]; omega
      clear hk hlt
      go_wp2_with fail
      go_returns
      exact ⟨rfl, HW7.out⟩
end Go.Proofs.YtjilfgkoibbcnaaDoor
