/- What is answered shares no list with the sets. -/
import Derived.Test.YtjilfgkoibbcnaaDoorLawKit
namespace Go.Proofs.YtjilfgkoibbcnaaDoor
open Go.RowKit Go.Shelf
attribute [local go_sem] Oper.semAt_some

theorem own_nums {W : World} {n0 : Nat} {v : Value} {ws : List Int} (h : OwnI W n0 v ws) : ∃ a c, v = .slice a ws.length c ∧ Nums W a ws := by
  rcases h.2 with ⟨rfl, h0⟩ | ⟨g, cap, cur, rfl, _, hb, hc, hm, hlen, hx⟩
  · exact ⟨none, 0, by rw [h0], fun k hk => by omega⟩
  · refine ⟨some ⟨g, 0, none⟩, cap, rfl, fun k hk => ⟨g, 0, rfl, ?_⟩⟩
    have : (ws.map fun i => Value.int .i64 i)[k]? = some (.int .i64 ws[k]) := by simp [hk]
    rw [← hx, List.getElem?_take_of_lt (by omega)] at this
    simp [World.cell?, hb, Array.getElem?_toList] at this ⊢
    exact this
/-- Places to write to. -/
def Fill (W : World) (N : Nat) (v : Value) (n : Nat) : Prop := (v = .slice none 0 0 ∧ n = 0) ∨ ∃ g c cur, v = .slice (some ⟨g, 0, none⟩) n c ∧ N ≤ g ∧ W.heap[g]? = some (.cells cur 38 (0, 0)) ∧ n * 2 ≤ cur.size
theorem fill_of {W : World} {n0 : Nat} {v : Value} {l : List Ent} (h : Own W n0 v l) : Fill W n0 v l.length := by
  rcases h.2 with ⟨rfl, h0⟩ | ⟨g, cap, cur, rfl, hn, hb, hc, hm, hlen, hx⟩
  · exact .inl ⟨rfl, h0⟩
  · exact .inr ⟨g, cap, cur, rfl, hn, hb, by omega⟩
theorem Fill.mono {W : World} {N N' n : Nat} {v : Value} (h : Fill W N v n) (hn : N' ≤ N) : Fill W N' v n := by
  rcases h with h | ⟨g, c, cur, h1, h2, h3⟩
  · exact .inl h
  · exact .inr ⟨g, c, cur, h1, by omega, h3⟩
theorem Fill.later {W W' : World} {N n : Nat} {v : Value} (h : Fill W N v n) (hb : Below W.heap.size W W') : Fill W' N v n := by
  rcases h with h | ⟨g, c, cur, h1, h2, h3, h4⟩
  · exact .inl h
  · exact .inr ⟨g, c, cur, h1, h2, (hb.block g (Array.getElem?_eq_some_iff.1 h3).1).trans h3, h4⟩
theorem Fill.set {W : World} {N n : Nat} {v : Value} (h : Fill W N v n) (b o : Nat) (u : Value) : Fill (W.setCell ⟨b, o, none⟩ u) N v n := by
  rcases h with h | ⟨g, c, cur, h1, h2, h3, h4⟩
  · exact .inl h
  · by_cases e : g = b
    · subst e
      have hB : Blk W g 38 cur := h3
      exact .inr ⟨g, c, _, h1, h2, hB.set o u, by simpa using h4⟩
    · exact .inr ⟨g, c, cur, h1, h2, (Below.heap_setCell W ⟨b, o, none⟩ u g e).trans h3, h4⟩
theorem Fill.slice {W : World} {N n : Nat} {v : Value} (h : Fill W N v n) : ∃ a c, v = .slice a n c := by
  rcases h with ⟨rfl, rfl⟩ | ⟨g, c, cur, rfl, _⟩
  · exact ⟨_, _, rfl⟩
  · exact ⟨_, _, rfl⟩
theorem Fill.at_ {W : World} {N n c : Nat} {a : Option Addr} (h : Fill W N (.slice a n c) n) {k : Nat} (hk : k < n) : ∃ g u, a = some ⟨g, 0, none⟩ ∧ N ≤ g ∧ W.cell? ⟨g, k * 2 + 1, none⟩ = some u ∧ W.frozen? ⟨g, k * 2 + 1, none⟩ = false := by
  rcases h with ⟨_, h⟩ | ⟨g, c', cur, h1, h2, h3, h4⟩
  · omega
  · cases h1
    have hB : Blk W g 38 cur := h3
    refine ⟨g, cur[k * 2 + 1]'(by omega), rfl, h2, ?_, hB.free _⟩
    rw [hB.cell]
    exact Array.getElem?_eq_getElem _

theorem cut_same {e : Ent} (h : e.1.size ≤ 10) : cutE e = e := by
  obtain ⟨m, s⟩ := e
  unfold cutE cutM
  simp only at h ⊢
  rw [show min m.size 10 = m.size by omega]
  have : m.extract 0 m.size = m := by simp
  rw [this]
theorem few_few {ls : List (List Ent)} (h : In ls) : fewP false (fewP true ls) = fewP true ls := by
  have hl : (fewP true ls).length ≤ 6 := by unfold fewP; rw [List.length_map, List.length_take]; omega
  conv => lhs; unfold fewP
  rw [show ((ls.take 6).map (fewOne true)).take 6 = fewP true ls from List.take_of_length_le hl]
  refine (List.map_congr_left fun l hl => ?_).trans (List.map_id _)
  unfold fewP at hl
  obtain ⟨x, hx, rfl⟩ := List.mem_map.1 hl
  obtain ⟨h1, h2⟩ := one_facts true (fun e he => ((h.2 x (List.mem_of_mem_take hx)).2 e he).2)
  show fewL (fewOne true x) = _
  unfold fewL
  rw [List.take_of_length_le h1]
  exact (List.map_congr_left fun e he => cut_same (h2 e he).1).trans (List.map_id _)
theorem in_few {ls : List (List Ent)} (h : In ls) (b : Bool) : In (fewP b ls) := by
  have := ok_few b h
  exact ⟨by have := this.1; omega, fun l hl => ⟨by have := (this.2 l hl).1; omega, fun e he => ⟨by have := (((this.2 l hl).2.2 e he).1); omega, ((this.2 l hl).2.2 e he).2⟩⟩⟩

set_option maxRecDepth 100000 in
set_option maxHeartbeats 4000000 in
theorem own_any (a0 a1 : Addr) (a : Option Addr) (cap : Nat) (ls : List (List Ent)) (hIn : In ls) (w : World) (hE : Env a0 a1 w) (hL : SetsE w a ls) :
    Calls Tryd.prog 8 #[.slice a ls.length cap] w fun e w' => e = .returned (.bool true) ∧ Below w.heap.size w w' := by
  have HSH := Lib.hid (shown_any a0 a1 w hE)
  have HE := Lib.hid hE
  have HL := Lib.hid hL
  have HIN := Lib.hid hIn
  clear hE hL hIn
  go_enter Tryd.func8, Tryd.ntmps8
  go_wp2_with fail
  refine HSH.out.mono ?_
  rintro e w1 ⟨rfl, hb⟩
  have HB1 := Lib.hid hb
  have HL1 := Lib.hid (HL.out.later hb)
  clear hb
  go_wp2_with fail
  refine (few_any true ls HIN.out.1 (fun x hx => ⟨(HIN.out.2 x hx).1, fun e he => ((HIN.out.2 x hx).2 e he).1⟩) _ _ _ HL1.out).mono ?_
  rintro e w2 ⟨r, rfl, hS, hb⟩
  have hff := few_few HIN.out
  have HIN2 := Lib.hid (in_few HIN.out true)
  have HOK := Lib.hid (ok_few true HIN.out)
  obtain ⟨fa, fc, rfl, hS2, hfc, _⟩ := hS.slice
  have hln : (fewP true ls).length ≤ 1000 := HOK.out.1
  generalize fewP true ls = L at *
  have HS2 := Lib.hid hS2
  have HB2 := Lib.hid (HB1.out.trans (hb.mono HB1.out.size))
  clear hS hS2 hb
  go_wp2_with fail
  refine (few_any false L HIN2.out.1 (fun x hx => ⟨(HIN2.out.2 x hx).1, fun e he => ((HIN2.out.2 x hx).2 e he).1⟩) _ _ _ HS2.out.e).mono ?_
  rintro e w3 ⟨r, rfl, hS, hb⟩
  rw [hff] at hS
  obtain ⟨wa, wc, rfl, hS3, _, _⟩ := hS.slice
  have HA3 := Lib.hid hS3
  have HS3 := Lib.hid (HS2.out.later hb)
  have HB3 := Lib.hid (HB2.out.trans (hb.mono HB2.out.size))
  clear hS hS3 hb hff
  go_wp2_with fail
  go_loopw [5, 6] (fun v i wr => ∃ (k : Nat), i = .int .i64 k ∧ k ≤ L.length ∧ OwnI wr w3.heap.size v (List.replicate k 1) ∧ Below w3.heap.size w3 wr) (fun _ i _ => L.length - (intOf i).toNat)
  case atStart => exact ⟨0, rfl, by omega, ⟨rfl, .inl ⟨rfl, rfl⟩⟩, Below.refl _ _⟩
  case round =>
    obtain ⟨k, rfl, hk, hO, hb⟩ := hrel
    have hO' := hO
    by_cases hlt : k < L.length
    · have hlt2 : (k : Int) < L.length := by omega
      obtain ⟨ra, rc, hv, _⟩ := own_nums hO'
      subst hv
      have hrl : (List.replicate k (1 : Int)).length = k := List.length_replicate
      obtain ⟨g4, cap4, W8, hrun4, hO8, hg8⟩ := app_int hO' (Below.refl _ _) 1 (by omega) hb.size
      have hO9 := own_later hO' (alloc_below wr (Obj.cells #[Value.int IntKind.i64 1] 2))
      have HB8 := Lib.hid ((hb.alloc hb.size _).grown hg8 (hb.alloc hb.size _).size (fun k e => (World.ownsRow.lt hO9 k e).1))
      have hr8 : List.replicate k (1 : Int) ++ [1] = List.replicate (k + 1) 1 := by rw [List.replicate_succ']
      rw [hr8] at hO8
      have HO8 := Lib.hid hO8
      rw [hrl] at hrun4 HO8
      clear hO hO' hb hg8 hO9 hO8 hr8
      rw [hrl]
      clear hrl
      go_wp2_with (
        at_builtin
        refine wpList_append_ran rfl (.tmp 28) (.tmp 29) 23 23 rfl rfl rfl hrun4 ?_)
      all_goals (try go_wp2_with fail)
      exact ⟨⟨k + 1, by go_num, by omega, HO8.out, HB8.out⟩, by simp [intOf]; omega⟩
    · obtain rfl : k = L.length := by omega
      obtain ⟨oa, oc, hv, hN⟩ := own_nums hO
      subst hv
      rw [List.length_replicate]
      have HS4 := Lib.hid (HS3.out.later hb)
      have HA4 := Lib.hid (HA3.out.later hb)
      have HB4 := Lib.hid (HB3.out.trans (hb.mono HB3.out.size))
      have HN4 := Lib.hid hN
      have hones : ∀ x ∈ List.replicate L.length (1 : Int), I64 x := fun x hx => by rw [(List.mem_replicate.1 hx).2]; unfold I64; omega
      have hlr : (List.replicate L.length (1 : Int)).length = L.length := List.length_replicate
      generalize List.replicate L.length (1 : Int) = ones at *
      clear hO hO' hb hN hlt HS3 HA3 HB3
      rename World => w4
      go_wp2_with fail
      have hc := union_any a0 a1 3 ones hones L HOK.out oa fa oc fc _ (HE.out.later HB4.out) HS4.out HN4.out
      rw [hlr] at hc
      refine hc.mono ?_
      rintro e w5 ⟨r, rfl, hO, hb⟩
      have hl5 := hO.slice
      obtain ⟨ra, rc, rfl, _, hz1, hz2, _⟩ := hl5
      have HFA := Lib.hid (fill_of hO)
      have HB5 := Lib.hid hb
      have na_le : ((mixP 3 ones 1 L).1.length : Int) ≤ 9223372036854775807 := by unfold maxLen at hz2; omega
      generalize (mixP 3 ones 1 L).1.length = na at *
      generalize (mixP 3 ones 1 L).2 = ea at *
      clear hO hb hc hz1 hz2
      go_wp2_with fail
      have hc := inter_any a0 a1 3 ones hones L HOK.out oa fa oc fc _ (HE.out.later (HB4.out.trans (HB5.out.mono HB4.out.size))) (HS4.out.later HB5.out) (HN4.out.later HB5.out)
      rw [hlr] at hc
      refine hc.mono ?_
      rintro e w6 ⟨r, rfl, hO, hb⟩
      obtain ⟨sa, sc, rfl, _, hz1, hz2, _⟩ := hO.slice
      have HFB := Lib.hid ((fill_of hO).mono HB5.out.size)
      have HFA := Lib.hid (HFA.out.later hb)
      have HB6 := Lib.hid (HB5.out.trans (hb.mono HB5.out.size))
      have nb_le : ((mixP 3 ones L.length L).1.length : Int) ≤ 9223372036854775807 := by unfold maxLen at hz2; omega
      generalize (mixP 3 ones L.length L).1.length = nb at *
      generalize (mixP 3 ones L.length L).2 = eb at *
      clear hO hb hc hz1 hz2
      go_wp2_with fail
      have hc := diff_any a0 a1 L HOK.out fa fc hfc _ (HE.out.later (HB4.out.trans (HB6.out.mono HB4.out.size))) (HS4.out.later HB6.out)
      refine hc.mono ?_
      rintro e w7 ⟨r, rfl, hO, hb⟩
      obtain ⟨ta, tc, rfl, _, hz1, hz2, _⟩ := hO.slice
      have HFC := Lib.hid ((fill_of hO).mono HB6.out.size)
      have HFA := Lib.hid (HFA.out.later hb)
      have HFB := Lib.hid (HFB.out.later hb)
      have HB7 := Lib.hid (HB6.out.trans (hb.mono HB6.out.size))
      have nc_le : ((diffP L).1.length : Int) ≤ 9223372036854775807 := by unfold maxLen at hz2; omega
      generalize (diffP L).1.length = nc at *
      generalize (diffP L).2 = ec at *
      clear hO hb hc hz1 hz2
      go_wp2_with fail
      go_loopw [13] (fun i wr => ∃ (k : Nat), i = .int .i64 k ∧ k ≤ na ∧ Below w4.heap.size w4 wr ∧ Fill wr w4.heap.size (.slice ra na rc) na ∧ Fill wr w4.heap.size (.slice sa nb sc) nb ∧ Fill wr w4.heap.size (.slice ta nc tc) nc) (fun i _ => na - (intOf i).toNat)
      case atStart => exact ⟨0, rfl, by omega, HB7.out, HFA.out, HFB.out, HFC.out⟩
      case round =>
        obtain ⟨k, rfl, hk, hb, f1, f2, f3⟩ := hrel
        by_cases hlt : k < na
        · obtain ⟨g, u, rfl, hg, c0, z0⟩ := f1.at_ hlt
          have hlt2 : (k : Int) < na := by omega
          have HB := Lib.hid hb
          have HF := Lib.hid (show Fill wr w4.heap.size _ na ∧ Fill wr w4.heap.size _ nb ∧ Fill wr w4.heap.size _ nc from ⟨f1, f2, f3⟩)
          clear hb f1 f2 f3
          go_wp2_with fail
          exact ⟨⟨k + 1, by go_num, by omega, HB.out.setCell (p := ⟨g, k * 2 + 1, none⟩) (by simp only; omega) _, HF.out.1.set _ _ _, HF.out.2.1.set _ _ _, HF.out.2.2.set _ _ _⟩, by simp [intOf]; omega⟩
        · have hge : (na : Int) ≤ k := by omega
          clear hk
          have HB7 := Lib.hid hb
          have HFA := Lib.hid f1
          have HFB := Lib.hid f2
          have HFC := Lib.hid f3
          clear hb f1 f2 f3 hlt
          go_wp2_with fail
          go_loopw [14] (fun i wr => ∃ (k : Nat), i = .int .i64 k ∧ k ≤ nb ∧ Below w4.heap.size w4 wr ∧ Fill wr w4.heap.size (.slice ra na rc) na ∧ Fill wr w4.heap.size (.slice sa nb sc) nb ∧ Fill wr w4.heap.size (.slice ta nc tc) nc) (fun i _ => nb - (intOf i).toNat)
          case atStart => exact ⟨0, rfl, by omega, HB7.out, HFA.out, HFB.out, HFC.out⟩
          case round =>
            obtain ⟨k, rfl, hk, hb, f1, f2, f3⟩ := hrel
            by_cases hlt : k < nb
            · obtain ⟨g, u, rfl, hg, c0, z0⟩ := f2.at_ hlt
              have hlt2 : (k : Int) < nb := by omega
              have HB := Lib.hid hb
              have HF := Lib.hid (show Fill wr w4.heap.size _ na ∧ Fill wr w4.heap.size _ nb ∧ Fill wr w4.heap.size _ nc from ⟨f1, f2, f3⟩)
              clear hb f1 f2 f3
              go_wp2_with fail
              exact ⟨⟨k + 1, by go_num, by omega, HB.out.setCell (p := ⟨g, k * 2 + 1, none⟩) (by simp only; omega) _, HF.out.1.set _ _ _, HF.out.2.1.set _ _ _, HF.out.2.2.set _ _ _⟩, by simp [intOf]; omega⟩
            · have hge : (nb : Int) ≤ k := by omega
              clear hk
              have HB7 := Lib.hid hb
              have HFA := Lib.hid f1
              have HFB := Lib.hid f2
              have HFC := Lib.hid f3
              clear hb f1 f2 f3 hlt
              go_wp2_with fail
              go_loopw [15] (fun i wr => ∃ (k : Nat), i = .int .i64 k ∧ k ≤ nc ∧ Below w4.heap.size w4 wr ∧ Fill wr w4.heap.size (.slice ra na rc) na ∧ Fill wr w4.heap.size (.slice sa nb sc) nb ∧ Fill wr w4.heap.size (.slice ta nc tc) nc) (fun i _ => nc - (intOf i).toNat)
              case atStart => exact ⟨0, rfl, by omega, HB7.out, HFA.out, HFB.out, HFC.out⟩
              case round =>
                obtain ⟨k, rfl, hk, hb, f1, f2, f3⟩ := hrel
                by_cases hlt : k < nc
                · obtain ⟨g, u, rfl, hg, c0, z0⟩ := f3.at_ hlt
                  have hlt2 : (k : Int) < nc := by omega
                  have HB := Lib.hid hb
                  have HF := Lib.hid (show Fill wr w4.heap.size _ na ∧ Fill wr w4.heap.size _ nb ∧ Fill wr w4.heap.size _ nc from ⟨f1, f2, f3⟩)
                  clear hb f1 f2 f3
                  go_wp2_with fail
                  exact ⟨⟨k + 1, by go_num, by omega, HB.out.setCell (p := ⟨g, k * 2 + 1, none⟩) (by simp only; omega) _, HF.out.1.set _ _ _, HF.out.2.1.set _ _ _, HF.out.2.2.set _ _ _⟩, by simp [intOf]; omega⟩
                · have hge : (nc : Int) ≤ k := by omega
                  clear hk
                  have HB7 := Lib.hid hb
                  have HFA := Lib.hid f1
                  have HFB := Lib.hid f2
                  have HFC := Lib.hid f3
                  clear hb f1 f2 f3 hlt
                  go_wp2_with fail
                  go_loopw [16] (fun i wr => ∃ (k : Nat), i = .int .i64 k ∧ k ≤ L.length ∧ Below w4.heap.size w4 wr) (fun i _ => L.length - (intOf i).toNat)
                  case atStart => exact ⟨0, rfl, by omega, HB7.out⟩
                  case round =>
                    obtain ⟨k, rfl, hk, hb⟩ := hrel
                    by_cases hlt : k < L.length
                    · have hlt2 : (k : Int) < L.length := by omega
                      obtain ⟨g1, o1, ar, cr, rfl, c1, e1⟩ := (HS4.out.later hb).e k hlt
                      obtain ⟨g2, o2, br, dr, rfl, c2, e2⟩ := (HA4.out.later hb).e k hlt
                      have hn : L[k].length ≤ 1000000 := by have := (HOK.out.2 _ (List.getElem_mem hlt)).1; omega
                      have q1 := fun y : Ext wr => y.cell c1
                      have q2 := fun y : Ext wr => y.cell c2
                      have hne := Ext.one wr
                      have HQ := fun y : Ext wr => Lib.hid (same_any ar br cr dr L[k] L[k] hn hn y.w (e1.below y.ok) (e2.below y.ok))
                      have HB := Lib.hid hb
                      generalize L[k] = l at *
                      rw [decide_eq_true rfl] at HQ
                      clear c1 c2 e1 e2 hb
                      go_wp2_with fail
                      refine region_ext (w1 := wr) (by kernel_rfl) (by kernel_rfl) (Below.refl _ _) ?_
                      repeat go_big_quiet_step ((go_at_call 18; exact Ext.call _ (HQ _).out))
                      refine wpQuiet_nil ?_
                      rintro _ ⟨y, rfl⟩
                      have HY := Lib.hid (HB.out.trans (y.ok.mono HB.out.size))
                      clear q1 q2 hne HQ
                      go_wp2_with fail
                      exact ⟨⟨k + 1, by go_num, by omega, HY.out⟩, by simp [intOf]; omega⟩
                    · have hge : (L.length : Int) ≤ k := by omega
                      have HB := Lib.hid (HB4.out.trans (hb.mono HB4.out.size))
                      clear hb hlt hk
                      go_wp2_with fail
                      go_returns
                      exact ⟨rfl, HB.out⟩
end Go.Proofs.YtjilfgkoibbcnaaDoor
