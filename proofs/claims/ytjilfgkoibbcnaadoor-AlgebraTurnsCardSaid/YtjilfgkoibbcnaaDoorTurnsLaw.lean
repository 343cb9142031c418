/- It makes no difference in which order the sets stand. -/
import Derived.Test.YtjilfgkoibbcnaaDoorTurnsM
import Derived.Test.YtjilfgkoibbcnaaDoorOwnLaw
namespace Go.Proofs.YtjilfgkoibbcnaaDoor
open Go.RowKit Go.Shelf
attribute [local go_sem] Oper.semAt_some

/-- A list of one's own of lists that lie anywhere. -/
def SetsT (W : World) (n0 : Nat) (v : Value) (ls : List (List Ent)) : Prop :=
  ∃ vs, OwnS W n0 v vs ∧ vs.length = ls.length ∧ ∀ (k : Nat) (h : k < ls.length), ∃ u, vs[k]? = some u ∧ Own W 0 u ls[k]
theorem SetsT.later {W W' : World} {n0 : Nat} {v : Value} {ls : List (List Ent)} (h : SetsT W n0 v ls) (hb : Below W.heap.size W W') : SetsT W' n0 v ls := by
  obtain ⟨vs, h1, h2, h3⟩ := h
  refine ⟨vs, own_later h1 hb, h2, fun k hk => ?_⟩
  obtain ⟨u, h4, h5⟩ := h3 k hk
  exact ⟨u, h4, own_later h5 hb⟩
theorem SetsT.app {W W8 : World} {n0 : Nat} {r r8 u : Value} {vs : List Value} {L : List (List Ent)} {l : List Ent} (hr : OwnS W n0 r vs) (hn : vs.length = L.length) (he : ∀ (k : Nat) (h : k < L.length), ∃ x, vs[k]? = some x ∧ Own W 0 x L[k]) (hu : Own W 0 u l)
    (h8 : OwnS W8 n0 r8 (vs ++ [u])) (hg : W.grownBy W8 r.ownBlock) : SetsT W8 n0 r8 (L ++ [l]) := by
  refine ⟨vs ++ [u], h8, by simp [hn], fun k hk => ?_⟩
  by_cases h : k < L.length
  · obtain ⟨x, h1, h2⟩ := he k h
    refine ⟨x, by rw [List.getElem?_append_left (by omega)]; exact h1, ?_⟩
    rw [List.getElem_append_left h]
    exact own_other hr h2 hg
  · obtain rfl : k = L.length := by simp at hk; omega
    refine ⟨u, by rw [← hn]; simp, ?_⟩
    rw [List.getElem_append_right (Nat.le_refl _)]
    simpa using own_other hr hu hg
theorem SetsT.slice {W : World} {n0 : Nat} {v : Value} {ls : List (List Ent)} (h : SetsT W n0 v ls) : ∃ a cap, v = .slice a ls.length cap ∧ Sets W a ls := by
  obtain ⟨vs, h1, h2, h3⟩ := h
  rcases h1.2 with ⟨rfl, h0⟩ | ⟨g, cap, cur, rfl, _, hb, hc, hm, hlen, hx⟩
  · exact ⟨none, 0, by rw [← h2, h0], fun k hk => by omega⟩
  · refine ⟨some ⟨g, 0, none⟩, cap, by rw [h2], fun k hk => ?_⟩
    obtain ⟨u, h4, h5⟩ := h3 k hk
    refine ⟨g, 0, cur, u, rfl, hb, ?_, h5⟩
    rw [← hx, List.getElem?_take_of_lt (by omega)] at h4
    simpa [Array.getElem?_toList] using h4

set_option maxRecDepth 100000 in
set_option maxHeartbeats 4000000 in
theorem turns_false (a0 a1 : Addr) (a : Option Addr) (cap : Nat) (ls : List (List Ent)) (hIn : In ls) (w : World) (hE : Env a0 a1 w) (hL : SetsE w a ls) :
    Calls Tryd.prog 5 #[.slice a ls.length cap, .bool false] w fun e w' => e = .returned (.bool true) ∧ Below w.heap.size w w' := by
  have HSH := Lib.hid (shown_any a0 a1 w hE)
  have HE := Lib.hid hE
  have HL := Lib.hid hL
  have HIN := Lib.hid hIn
  clear hE hL hIn
  go_enter Tryd.func5, Tryd.ntmps5
  go_wp2_with fail
  refine HSH.out.mono ?_
  rintro e w1 ⟨rfl, hb⟩
  have HB1 := Lib.hid hb
  have HL1 := Lib.hid (HL.out.later hb)
  clear hb
  go_wp2_with fail
  refine (few_any true ls HIN.out.1 (fun x hx => ⟨(HIN.out.2 x hx).1, fun e he => ((HIN.out.2 x hx).2 e he).1⟩) _ _ _ HL1.out).mono ?_
  rintro e w2 ⟨r, rfl, hS, hb⟩
  have HOK := Lib.hid (ok_few true HIN.out)
  obtain ⟨fa, fc, rfl, hS2, hfc, _⟩ := hS.slice
  have hln : (fewP true ls).length ≤ 1000 := HOK.out.1
  have HMT := Lib.hid (fun least => mix_turn (agg := 2) (by omega) (good_few (ls := ls)) (num_few true HIN.out) least)
  generalize fewP true ls = L at *
  have HS2 := Lib.hid hS2
  have HB2 := Lib.hid (HB1.out.trans (hb.mono HB1.out.size))
  clear hS hS2 hb
  go_wp2_with fail
  have hstart : IntKind.i64.wrap ((L.length : Int) - 1) = (L.length : Int) - 1 := IntWalk.i64_in _ (by omega)
  go_loopw [7, 8, 9] (fun v u i wr => ∃ (j : Nat), i = .int .i64 ((j : Int) - 1) ∧ j ≤ L.length ∧ SetsT wr w2.heap.size v (L.drop j).reverse ∧ OwnI wr w2.heap.size u (List.replicate (L.length - j) 1) ∧ Below w2.heap.size w2 wr) (fun _ _ i _ => (intOf i + 1).toNat)
  case atStart =>
    refine ⟨L.length, rfl, Nat.le_refl _, ?_, ?_, Below.refl _ _⟩
    · rw [List.drop_length]
      exact ⟨[], ⟨rfl, .inl ⟨rfl, rfl⟩⟩, rfl, fun k h => by simp at h⟩
    · rw [Nat.sub_self]
      exact ⟨rfl, .inl ⟨rfl, rfl⟩⟩
  case round =>
    obtain ⟨j, rfl, hj, hT, hO, hb⟩ := hrel
    cases j with
    | succ j =>
      rw [show (((j + 1 : Nat) : Int) - 1) = (j : Int) by omega]
      have hjl : j < L.length := by omega
      have hj2 : (j : Int) < L.length := by omega
      have hj0 : (0 : Int) ≤ (j : Int) := by omega
      obtain ⟨g, off, cs, u0, rfl, hg, hc, hOl⟩ := (HS2.out.later hb) j hjl
      obtain ⟨ar, cr, hu0, _⟩ := hOl.slice
      obtain ⟨nj, hnj⟩ : ∃ n, L[j].length = n := ⟨_, rfl⟩
      rw [hnj] at hu0
      subst hu0
      have hcell : wr.cell? ⟨g, off + j, none⟩ = some (.slice ar nj cr) := by simp [World.cell?, hg, hc]
      obtain ⟨vs, hOS, hvs, hel⟩ := hT
      have hvl : vs.length ≤ 1000 := by rw [hvs]; simp; omega
      have hb9 := alloc_below wr (Obj.cells #[Value.slice ar nj cr] 26)
      obtain ⟨g4, cap4, W8, hrun4, hO8, hg8⟩ := app_slice hOS (Below.refl _ _) (.slice ar nj cr) (by simp [Value.oneCell']) (by omega) hb.size
      have hOS9 := own_later hOS hb9
      have hT8 := SetsT.app hOS9 hvs (fun k hk => by obtain ⟨x, h1, h2⟩ := hel k hk; exact ⟨x, h1, own_later h2 hb9⟩) (own_later hOl hb9) hO8 hg8
      have hrev : (L.drop j).reverse = (L.drop (j + 1)).reverse ++ [L[j]] := by rw [List.drop_eq_getElem_cons hjl, List.reverse_cons]
      rw [← hrev] at hT8
      have hb8 : Below w2.heap.size w2 W8 := (hb.alloc hb.size _).grown hg8 (hb.alloc hb.size _).size (fun k e => (World.ownsRow.lt hOS9 k e).1)
      have hI8 : OwnI W8 w2.heap.size _ (List.replicate (L.length - (j + 1)) 1) := World.ownsRow.kept (own_later hO hb9) hg8 (by
        rcases hO.2 with ⟨rfl, _⟩ | ⟨g5, cap5, cur5, rfl, _, hgb5, _⟩
        · exact .inl rfl
        · refine .inr (fun e => ?_)
          rcases hOS.2 with ⟨rfl, _⟩ | ⟨g6, cap6, cur6, rfl, _, hgb6, _⟩
          · cases e
          · cases e
            rw [hgb5] at hgb6
            simp at hgb6)
      have hI8' := hI8
      have hrl : (List.replicate (L.length - (j + 1)) (1 : Int)).length = L.length - (j + 1) := List.length_replicate
      obtain ⟨g7, cap7, W9, hrun7, hO9, hg9⟩ := app_int hI8 (Below.refl _ _) 1 (by omega) hb8.size
      have hI9 := own_later hI8 (alloc_below W8 (Obj.cells #[Value.int .i64 1] 2))
      have hb10 : Below w2.heap.size w2 W9 := (hb8.alloc hb8.size _).grown hg9 (hb8.alloc hb8.size _).size (fun k e => (World.ownsRow.lt hI9 k e).1)
      have hT9 : SetsT W9 w2.heap.size (.slice (some ⟨g4, 0, none⟩) (vs.length + 1) cap4) (L.drop j).reverse := by
        have hx := hT8.later (alloc_below W8 (Obj.cells #[Value.int .i64 1] 2))
        obtain ⟨vs', k1, k2, k3⟩ := hx
        have hdiff : ∀ {t : TypeId} {sz n0 k : Nat} {v : Value} {xs : List Value}, t ≠ 2 → (W8.alloc (Obj.cells #[Value.int .i64 1] 2)).ownsRow n0 t sz v k xs → W9.ownsRow n0 t sz v k xs := fun {t sz n0 k v xs} ht h => World.ownsRow.kept h hg9 (by
          rcases h.2 with ⟨rfl, _⟩ | ⟨g5, cap5, cur5, rfl, _, hgb5, _⟩
          · exact .inl rfl
          · refine .inr (fun e => ?_)
            rcases hI9.2 with ⟨hn, _⟩ | ⟨g6, cap6, cur6, hn, _, hgb6, _⟩
            · rw [hn] at e; cases e
            · rw [hn] at e
              cases e
              rw [hgb5] at hgb6
              simp at hgb6
              exact ht hgb6.2)
        refine ⟨vs', hdiff (by decide) k1, k2, fun k hk => ?_⟩
        obtain ⟨x, h1, h2⟩ := k3 k hk
        exact ⟨x, h1, hdiff (by decide) h2⟩
      have hr8 : List.replicate (L.length - (j + 1)) (1 : Int) ++ [1] = List.replicate (L.length - j) 1 := by
        rw [← List.replicate_succ', show L.length - (j + 1) + 1 = L.length - j by omega]
      rw [hr8, hrl] at hO9
      rw [hrl] at hrun7
      have HT9 := Lib.hid hT9
      have HO9 := Lib.hid hO9
      have HB10 := Lib.hid hb10
      have hms : (intOf (Value.int IntKind.i64 ((j : Int) - 1)) + 1).toNat < ((j : Int) + 1).toNat := by simp only [intOf]; omega
      clear hO hOS hvs hel hb hb9 hO8 hg8 hOS9 hT8 hrev hb8 hI8 hI8' hrl hO9 hg9 hI9 hb10 hT9 hr8 hg hc hOl hvl hnj
      have hnext : IntKind.i64.wrap ((j : Int) - 1) = (j : Int) - 1 := IntWalk.i64_in _ (by omega)
      go_wp2_with (first
        | (at_builtin
           refine wpList_append_ran rfl (.tmp 29) (.tmp 34) 22 22 rfl rfl rfl hrun4 ?_)
        | (at_builtin
           refine wpList_append_ran rfl (.tmp 36) (.tmp 37) 23 23 rfl rfl rfl hrun7 ?_))
      exact ⟨⟨j, rfl, by omega, HT9.out, HO9.out, HB10.out⟩, by simp [intOf]⟩
    | zero =>
      rw [show (((0 : Nat) : Int) - 1) = -1 from rfl]
      rw [List.drop_zero] at hT
      rw [Nat.sub_zero] at hO
      obtain ⟨xa, xc, rfl, hTS⟩ := hT.slice
      obtain ⟨oa, oc, rfl, hN⟩ := own_nums hO
      have HT4 := Lib.hid hTS
      have HN4 := Lib.hid hN
      have HS4 := Lib.hid (HS2.out.later hb)
      have HB4 := Lib.hid (HB2.out.trans (hb.mono HB2.out.size))
      have hones : ∀ x ∈ List.replicate L.length (1 : Int), I64 x := fun x hx => by rw [(List.mem_replicate.1 hx).2]; unfold I64; omega
      have HOR : Hid (OkS L.reverse) := Lib.hid ⟨by rw [List.length_reverse]; exact HOK.out.1, fun l hl => HOK.out.2 l (List.mem_reverse.1 hl)⟩
      have hU := HMT.out 1
      have hI := HMT.out L.length
      have hUl := mixP_len (agg := 2) (ws := List.replicate L.length 1) (least := 1) HOK.out
      have hIl := mixP_len (agg := 2) (ws := List.replicate L.length 1) (least := L.length) HOK.out
      obtain ⟨hU1, hU2⟩ := hU
      obtain ⟨hI1, hI2⟩ := hI
      have c1 := fun W hE hS hN => Lib.hid (union_any a0 a1 2 (List.replicate L.length 1) hones L HOK.out oa fa oc fc W hE hS hN)
      have c2 := fun W hE hS hN => Lib.hid (union_any a0 a1 2 (List.replicate L.length 1) hones L.reverse HOR.out oa xa oc xc W hE hS hN)
      have c3 := fun W hE hS hN => Lib.hid (inter_any a0 a1 2 (List.replicate L.length 1) hones L HOK.out oa fa oc fc W hE hS hN)
      have c4 := fun W hE hS hN => Lib.hid (inter_any a0 a1 2 (List.replicate L.length 1) hones L.reverse HOR.out oa xa oc xc W hE hS hN)
      rw [hU1] at c2
      rw [show ((L.reverse.length : Nat) : Int) = L.length by rw [List.length_reverse], hI1] at c4
      rw [List.length_replicate] at c1 c2 c3 c4
      rw [List.length_reverse] at c2 c4
      obtain ⟨A, eA⟩ : ∃ A, mixP 2 (List.replicate L.length 1) 1 L = A := ⟨_, rfl⟩
      obtain ⟨B, eB⟩ : ∃ B, mixP 2 (List.replicate L.length 1) L.length L = B := ⟨_, rfl⟩
      rw [eA] at c1 c2 hU2 hUl
      rw [eB] at c3 c4 hI2 hIl
      obtain ⟨lA, xA⟩ := A
      obtain ⟨lB, xB⟩ := B
      simp only at hU2 hI2 hUl hIl
      have HU2 := Lib.hid hU2
      clear hU2 hI2
      clear eA eB hU1 hI1 hones hT hO hb hTS hN hj
      rw [List.length_replicate, List.length_reverse]
      go_wp2_with fail
      refine (c1 _ (HE.out.later HB4.out) HS4.out HN4.out).out.mono ?_
      rintro e w5 ⟨r, rfl, hO, hb⟩
      obtain ⟨ra, rc, rfl, _, _, _, _⟩ := hO.slice
      have HA5 := Lib.hid hO
      have HB5 := Lib.hid hb
      clear hO hb c1
      go_wp2_with fail
      refine (c2 _ (HE.out.later (HB4.out.trans (HB5.out.mono HB4.out.size))) (HT4.out.later HB5.out) (HN4.out.later HB5.out)).out.mono ?_
      rintro e w6 ⟨r, rfl, hO, hb⟩
      obtain ⟨sa, sc, rfl, _, _, _, _⟩ := hO.slice
      have HA6 := Lib.hid (own_later HA5.out hb)
      have HC6 := Lib.hid hO
      have HB6 := Lib.hid (HB5.out.trans (hb.mono HB5.out.size))
      clear hO hb c2 HA5 HB5
      go_wp2_with fail
      refine (c3 _ (HE.out.later (HB4.out.trans (HB6.out.mono HB4.out.size))) (HS4.out.later HB6.out) (HN4.out.later HB6.out)).out.mono ?_
      rintro e w7 ⟨r, rfl, hO, hb⟩
      obtain ⟨ta, tc, rfl, _, _, _, _⟩ := hO.slice
      have HA7 := Lib.hid (own_later HA6.out hb)
      have HC7 := Lib.hid (own_later HC6.out hb)
      have HD7 := Lib.hid hO
      have HB7 := Lib.hid (HB6.out.trans (hb.mono HB6.out.size))
      clear hO hb c3 HA6 HB6 HC6
      go_wp2_with fail
      refine (c4 _ (HE.out.later (HB4.out.trans (HB7.out.mono HB4.out.size))) (HT4.out.later HB7.out) (HN4.out.later HB7.out)).out.mono ?_
      rintro e w8 ⟨r, rfl, hO, hb⟩
      obtain ⟨ya, yc, rfl, _, _, _, _⟩ := hO.slice
      have HA8 := Lib.hid (own_ents (own_later HA7.out hb))
      have HC8 := Lib.hid (own_ents (own_later HC7.out hb))
      have HD8 := Lib.hid (own_later HD7.out hb)
      have HF8 := Lib.hid hO
      have HB8 := Lib.hid (HB4.out.trans ((HB7.out.trans (hb.mono HB7.out.size)).mono HB4.out.size))
      clear hO hb c4 HA7 HB7 HC7 HD7
      go_wp2_with fail
      refine (same_any ra sa rc sc lA lA hUl hUl w8 HA8.out HC8.out).mono ?_
      rintro e w9 ⟨rfl, hb⟩
      rw [decide_eq_true rfl]
      have HD9 := Lib.hid (own_ents (own_later HD8.out hb))
      have HF9 := Lib.hid (own_ents (own_later HF8.out hb))
      have HB9 := Lib.hid (HB8.out.trans (hb.mono HB8.out.size))
      clear hb
      go_wp2_with fail
      refine (same_any ta ya tc yc lB lB hIl hIl w9 HD9.out HF9.out).mono ?_
      rintro e w10 ⟨rfl, hb⟩
      rw [decide_eq_true rfl]
      have HB10 := Lib.hid (HB9.out.trans (hb.mono HB9.out.size))
      clear hb
      have hU2 := HU2.out
      by_cases h0 : L.length = 0
      · rw [if_pos h0] at hU2
        subst hU2
        have h01 : (L.length : Int) ≤ 0 := by omega
        go_wp2_with fail
        go_returns
        exact ⟨rfl, HB10.out⟩
      · rw [if_neg h0] at hU2
        subst hU2
        have h01 : (0 : Int) < L.length := by omega
        go_wp2_with fail
        go_returns
        exact ⟨by rw [show decide (0 < L.length) = true from decide_eq_true (by omega)]; rfl, HB10.out⟩

set_option maxRecDepth 100000 in
set_option maxHeartbeats 4000000 in
theorem turns_true (a0 a1 : Addr) (a : Option Addr) (cap : Nat) (ls : List (List Ent)) (hIn : In ls) (w : World) (hE : Env a0 a1 w) (hL : SetsE w a ls) :
    Calls Tryd.prog 5 #[.slice a ls.length cap, .bool true] w fun e w' => e = .returned (.bool true) ∧ Below w.heap.size w w' := by
  have HSH := Lib.hid (shown_any a0 a1 w hE)
  have HE := Lib.hid hE
  have HL := Lib.hid hL
  have HIN := Lib.hid hIn
  clear hE hL hIn
  go_enter Tryd.func5, Tryd.ntmps5
  go_wp2_with fail
  refine HSH.out.mono ?_
  rintro e w1 ⟨rfl, hb⟩
  have HB1 := Lib.hid hb
  have HL1 := Lib.hid (HL.out.later hb)
  clear hb
  go_wp2_with fail
  refine (few_any true ls HIN.out.1 (fun x hx => ⟨(HIN.out.2 x hx).1, fun e he => ((HIN.out.2 x hx).2 e he).1⟩) _ _ _ HL1.out).mono ?_
  rintro e w2 ⟨r, rfl, hS, hb⟩
  have HOK := Lib.hid (ok_few true HIN.out)
  obtain ⟨fa, fc, rfl, hS2, hfc, _⟩ := hS.slice
  have hln : (fewP true ls).length ≤ 1000 := HOK.out.1
  have HMT := Lib.hid (fun least => mix_turn (agg := 3) (by omega) (good_few (ls := ls)) (num_few true HIN.out) least)
  generalize fewP true ls = L at *
  have HS2 := Lib.hid hS2
  have HB2 := Lib.hid (HB1.out.trans (hb.mono HB1.out.size))
  clear hS hS2 hb
  go_wp2_with fail
  have hstart : IntKind.i64.wrap ((L.length : Int) - 1) = (L.length : Int) - 1 := IntWalk.i64_in _ (by omega)
  go_loopw [7, 8, 9] (fun v u i wr => ∃ (j : Nat), i = .int .i64 ((j : Int) - 1) ∧ j ≤ L.length ∧ SetsT wr w2.heap.size v (L.drop j).reverse ∧ OwnI wr w2.heap.size u (List.replicate (L.length - j) 1) ∧ Below w2.heap.size w2 wr) (fun _ _ i _ => (intOf i + 1).toNat)
  case atStart =>
    refine ⟨L.length, rfl, Nat.le_refl _, ?_, ?_, Below.refl _ _⟩
    · rw [List.drop_length]
      exact ⟨[], ⟨rfl, .inl ⟨rfl, rfl⟩⟩, rfl, fun k h => by simp at h⟩
    · rw [Nat.sub_self]
      exact ⟨rfl, .inl ⟨rfl, rfl⟩⟩
  case round =>
    obtain ⟨j, rfl, hj, hT, hO, hb⟩ := hrel
    cases j with
    | succ j =>
      rw [show (((j + 1 : Nat) : Int) - 1) = (j : Int) by omega]
      have hjl : j < L.length := by omega
      have hj2 : (j : Int) < L.length := by omega
      have hj0 : (0 : Int) ≤ (j : Int) := by omega
      obtain ⟨g, off, cs, u0, rfl, hg, hc, hOl⟩ := (HS2.out.later hb) j hjl
      obtain ⟨ar, cr, hu0, _⟩ := hOl.slice
      obtain ⟨nj, hnj⟩ : ∃ n, L[j].length = n := ⟨_, rfl⟩
      rw [hnj] at hu0
      subst hu0
      have hcell : wr.cell? ⟨g, off + j, none⟩ = some (.slice ar nj cr) := by simp [World.cell?, hg, hc]
      obtain ⟨vs, hOS, hvs, hel⟩ := hT
      have hvl : vs.length ≤ 1000 := by rw [hvs]; simp; omega
      have hb9 := alloc_below wr (Obj.cells #[Value.slice ar nj cr] 26)
      obtain ⟨g4, cap4, W8, hrun4, hO8, hg8⟩ := app_slice hOS (Below.refl _ _) (.slice ar nj cr) (by simp [Value.oneCell']) (by omega) hb.size
      have hOS9 := own_later hOS hb9
      have hT8 := SetsT.app hOS9 hvs (fun k hk => by obtain ⟨x, h1, h2⟩ := hel k hk; exact ⟨x, h1, own_later h2 hb9⟩) (own_later hOl hb9) hO8 hg8
      have hrev : (L.drop j).reverse = (L.drop (j + 1)).reverse ++ [L[j]] := by rw [List.drop_eq_getElem_cons hjl, List.reverse_cons]
      rw [← hrev] at hT8
      have hb8 : Below w2.heap.size w2 W8 := (hb.alloc hb.size _).grown hg8 (hb.alloc hb.size _).size (fun k e => (World.ownsRow.lt hOS9 k e).1)
      have hI8 : OwnI W8 w2.heap.size _ (List.replicate (L.length - (j + 1)) 1) := World.ownsRow.kept (own_later hO hb9) hg8 (by
        rcases hO.2 with ⟨rfl, _⟩ | ⟨g5, cap5, cur5, rfl, _, hgb5, _⟩
        · exact .inl rfl
        · refine .inr (fun e => ?_)
          rcases hOS.2 with ⟨rfl, _⟩ | ⟨g6, cap6, cur6, rfl, _, hgb6, _⟩
          · cases e
          · cases e
            rw [hgb5] at hgb6
            simp at hgb6)
      have hI8' := hI8
      have hrl : (List.replicate (L.length - (j + 1)) (1 : Int)).length = L.length - (j + 1) := List.length_replicate
      obtain ⟨g7, cap7, W9, hrun7, hO9, hg9⟩ := app_int hI8 (Below.refl _ _) 1 (by omega) hb8.size
      have hI9 := own_later hI8 (alloc_below W8 (Obj.cells #[Value.int .i64 1] 2))
      have hb10 : Below w2.heap.size w2 W9 := (hb8.alloc hb8.size _).grown hg9 (hb8.alloc hb8.size _).size (fun k e => (World.ownsRow.lt hI9 k e).1)
      have hT9 : SetsT W9 w2.heap.size (.slice (some ⟨g4, 0, none⟩) (vs.length + 1) cap4) (L.drop j).reverse := by
        have hx := hT8.later (alloc_below W8 (Obj.cells #[Value.int .i64 1] 2))
        obtain ⟨vs', k1, k2, k3⟩ := hx
        have hdiff : ∀ {t : TypeId} {sz n0 k : Nat} {v : Value} {xs : List Value}, t ≠ 2 → (W8.alloc (Obj.cells #[Value.int .i64 1] 2)).ownsRow n0 t sz v k xs → W9.ownsRow n0 t sz v k xs := fun {t sz n0 k v xs} ht h => World.ownsRow.kept h hg9 (by
          rcases h.2 with ⟨rfl, _⟩ | ⟨g5, cap5, cur5, rfl, _, hgb5, _⟩
          · exact .inl rfl
          · refine .inr (fun e => ?_)
            rcases hI9.2 with ⟨hn, _⟩ | ⟨g6, cap6, cur6, hn, _, hgb6, _⟩
            · rw [hn] at e; cases e
            · rw [hn] at e
              cases e
              rw [hgb5] at hgb6
              simp at hgb6
              exact ht hgb6.2)
        refine ⟨vs', hdiff (by decide) k1, k2, fun k hk => ?_⟩
        obtain ⟨x, h1, h2⟩ := k3 k hk
        exact ⟨x, h1, hdiff (by decide) h2⟩
      have hr8 : List.replicate (L.length - (j + 1)) (1 : Int) ++ [1] = List.replicate (L.length - j) 1 := by
        rw [← List.replicate_succ', show L.length - (j + 1) + 1 = L.length - j by omega]
      rw [hr8, hrl] at hO9
      rw [hrl] at hrun7
      have HT9 := Lib.hid hT9
      have HO9 := Lib.hid hO9
      have HB10 := Lib.hid hb10
      have hms : (intOf (Value.int IntKind.i64 ((j : Int) - 1)) + 1).toNat < ((j : Int) + 1).toNat := by simp only [intOf]; omega
      clear hO hOS hvs hel hb hb9 hO8 hg8 hOS9 hT8 hrev hb8 hI8 hI8' hrl hO9 hg9 hI9 hb10 hT9 hr8 hg hc hOl hvl hnj
      have hnext : IntKind.i64.wrap ((j : Int) - 1) = (j : Int) - 1 := IntWalk.i64_in _ (by omega)
      go_wp2_with (first
        | (at_builtin
           refine wpList_append_ran rfl (.tmp 29) (.tmp 34) 22 22 rfl rfl rfl hrun4 ?_)
        | (at_builtin
           refine wpList_append_ran rfl (.tmp 36) (.tmp 37) 23 23 rfl rfl rfl hrun7 ?_))
      exact ⟨⟨j, rfl, by omega, HT9.out, HO9.out, HB10.out⟩, by simp [intOf]⟩
    | zero =>
      rw [show (((0 : Nat) : Int) - 1) = -1 from rfl]
      rw [List.drop_zero] at hT
      rw [Nat.sub_zero] at hO
      obtain ⟨xa, xc, rfl, hTS⟩ := hT.slice
      obtain ⟨oa, oc, rfl, hN⟩ := own_nums hO
      have HT4 := Lib.hid hTS
      have HN4 := Lib.hid hN
      have HS4 := Lib.hid (HS2.out.later hb)
      have HB4 := Lib.hid (HB2.out.trans (hb.mono HB2.out.size))
      have hones : ∀ x ∈ List.replicate L.length (1 : Int), I64 x := fun x hx => by rw [(List.mem_replicate.1 hx).2]; unfold I64; omega
      have HOR : Hid (OkS L.reverse) := Lib.hid ⟨by rw [List.length_reverse]; exact HOK.out.1, fun l hl => HOK.out.2 l (List.mem_reverse.1 hl)⟩
      have hU := HMT.out 1
      have hI := HMT.out L.length
      have hUl := mixP_len (agg := 3) (ws := List.replicate L.length 1) (least := 1) HOK.out
      have hIl := mixP_len (agg := 3) (ws := List.replicate L.length 1) (least := L.length) HOK.out
      obtain ⟨hU1, hU2⟩ := hU
      obtain ⟨hI1, hI2⟩ := hI
      have c1 := fun W hE hS hN => Lib.hid (union_any a0 a1 3 (List.replicate L.length 1) hones L HOK.out oa fa oc fc W hE hS hN)
      have c2 := fun W hE hS hN => Lib.hid (union_any a0 a1 3 (List.replicate L.length 1) hones L.reverse HOR.out oa xa oc xc W hE hS hN)
      have c3 := fun W hE hS hN => Lib.hid (inter_any a0 a1 3 (List.replicate L.length 1) hones L HOK.out oa fa oc fc W hE hS hN)
      have c4 := fun W hE hS hN => Lib.hid (inter_any a0 a1 3 (List.replicate L.length 1) hones L.reverse HOR.out oa xa oc xc W hE hS hN)
      rw [hU1] at c2
      rw [show ((L.reverse.length : Nat) : Int) = L.length by rw [List.length_reverse], hI1] at c4
      rw [List.length_replicate] at c1 c2 c3 c4
      rw [List.length_reverse] at c2 c4
      obtain ⟨A, eA⟩ : ∃ A, mixP 3 (List.replicate L.length 1) 1 L = A := ⟨_, rfl⟩
      obtain ⟨B, eB⟩ : ∃ B, mixP 3 (List.replicate L.length 1) L.length L = B := ⟨_, rfl⟩
      rw [eA] at c1 c2 hU2 hUl
      rw [eB] at c3 c4 hI2 hIl
      obtain ⟨lA, xA⟩ := A
      obtain ⟨lB, xB⟩ := B
      simp only at hU2 hI2 hUl hIl
      have HU2 := Lib.hid hU2
      clear hU2 hI2
      clear eA eB hU1 hI1 hones hT hO hb hTS hN hj
      rw [List.length_replicate, List.length_reverse]
      go_wp2_with fail
      refine (c1 _ (HE.out.later HB4.out) HS4.out HN4.out).out.mono ?_
      rintro e w5 ⟨r, rfl, hO, hb⟩
      obtain ⟨ra, rc, rfl, _, _, _, _⟩ := hO.slice
      have HA5 := Lib.hid hO
      have HB5 := Lib.hid hb
      clear hO hb c1
      go_wp2_with fail
      refine (c2 _ (HE.out.later (HB4.out.trans (HB5.out.mono HB4.out.size))) (HT4.out.later HB5.out) (HN4.out.later HB5.out)).out.mono ?_
      rintro e w6 ⟨r, rfl, hO, hb⟩
      obtain ⟨sa, sc, rfl, _, _, _, _⟩ := hO.slice
      have HA6 := Lib.hid (own_later HA5.out hb)
      have HC6 := Lib.hid hO
      have HB6 := Lib.hid (HB5.out.trans (hb.mono HB5.out.size))
      clear hO hb c2 HA5 HB5
      go_wp2_with fail
      refine (c3 _ (HE.out.later (HB4.out.trans (HB6.out.mono HB4.out.size))) (HS4.out.later HB6.out) (HN4.out.later HB6.out)).out.mono ?_
      rintro e w7 ⟨r, rfl, hO, hb⟩
      obtain ⟨ta, tc, rfl, _, _, _, _⟩ := hO.slice
      have HA7 := Lib.hid (own_later HA6.out hb)
      have HC7 := Lib.hid (own_later HC6.out hb)
      have HD7 := Lib.hid hO
      have HB7 := Lib.hid (HB6.out.trans (hb.mono HB6.out.size))
      clear hO hb c3 HA6 HB6 HC6
      go_wp2_with fail
      refine (c4 _ (HE.out.later (HB4.out.trans (HB7.out.mono HB4.out.size))) (HT4.out.later HB7.out) (HN4.out.later HB7.out)).out.mono ?_
      rintro e w8 ⟨r, rfl, hO, hb⟩
      obtain ⟨ya, yc, rfl, _, _, _, _⟩ := hO.slice
      have HA8 := Lib.hid (own_ents (own_later HA7.out hb))
      have HC8 := Lib.hid (own_ents (own_later HC7.out hb))
      have HD8 := Lib.hid (own_later HD7.out hb)
      have HF8 := Lib.hid hO
      have HB8 := Lib.hid (HB4.out.trans ((HB7.out.trans (hb.mono HB7.out.size)).mono HB4.out.size))
      clear hO hb c4 HA7 HB7 HC7 HD7
      go_wp2_with fail
      refine (same_any ra sa rc sc lA lA hUl hUl w8 HA8.out HC8.out).mono ?_
      rintro e w9 ⟨rfl, hb⟩
      rw [decide_eq_true rfl]
      have HD9 := Lib.hid (own_ents (own_later HD8.out hb))
      have HF9 := Lib.hid (own_ents (own_later HF8.out hb))
      have HB9 := Lib.hid (HB8.out.trans (hb.mono HB8.out.size))
      clear hb
      go_wp2_with fail
      refine (same_any ta ya tc yc lB lB hIl hIl w9 HD9.out HF9.out).mono ?_
      rintro e w10 ⟨rfl, hb⟩
      rw [decide_eq_true rfl]
      have HB10 := Lib.hid (HB9.out.trans (hb.mono HB9.out.size))
      clear hb
      have hU2 := HU2.out
      by_cases h0 : L.length = 0
      · rw [if_pos h0] at hU2
        subst hU2
        have h01 : (L.length : Int) ≤ 0 := by omega
        go_wp2_with fail
        go_returns
        exact ⟨rfl, HB10.out⟩
      · rw [if_neg h0] at hU2
        subst hU2
        have h01 : (0 : Int) < L.length := by omega
        go_wp2_with fail
        go_returns
        exact ⟨by rw [show decide (0 < L.length) = true from decide_eq_true (by omega)]; rfl, HB10.out⟩

theorem turns_any (a0 a1 : Addr) (a : Option Addr) (cap : Nat) (ls : List (List Ent)) (hIn : In ls) (gr : Bool) (w : World) (hE : Env a0 a1 w) (hL : SetsE w a ls) :
    Calls Tryd.prog 5 #[.slice a ls.length cap, .bool gr] w fun e w' => e = .returned (.bool true) ∧ Below w.heap.size w w' := by
  cases gr
  · exact turns_false a0 a1 a cap ls hIn w hE hL
  · exact turns_true a0 a1 a cap ls hIn w hE hL
end Go.Proofs.YtjilfgkoibbcnaaDoor
