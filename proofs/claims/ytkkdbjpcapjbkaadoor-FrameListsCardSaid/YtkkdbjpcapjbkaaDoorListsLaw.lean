/- FrameLists, walked. -/
import Derived.Test.YtkkdbjpcapjbkaaDoorListsOne
import Derived.Test.YtkkdbjpcapjbkaaDoorCut
namespace Go.Proofs.YtkkdbjpcapjbkaaDoor
open Go.RowKit Go.Shelf
attribute [local go_sem] Oper.semAt_some

theorem cuts_any (t : Fo) : Cuts t := (Fo.subs_of cut_step t).1
theorem cuts_subs : ∀ t : Fo, t.Subs Cuts := fun t => (Fo.subs_of cut_step t).2

theorem alloc_below (w : World) (o : Obj) : Below w.heap.size w (w.alloc o) := (Below.refl _ _).alloc (Nat.le_refl _) _
theorem below_all {a b c : World} (h : Below a.heap.size a b) (g : Below b.heap.size b c) : Below a.heap.size a c := h.trans (g.mono h.size)
theorem cell_at {A B : World} {b : Nat} (h : B.heap[b]? = A.heap[b]?) (q : Nat) : B.cell? ⟨b, q, none⟩ = A.cell? ⟨b, q, none⟩ := by simp [World.cell?, h]
theorem cut_at (B : ByteArray) (H X : List UInt8) (h : B.data.toList = H ++ X) : (B.extract H.length B.size).data.toList = X ∧ B.size = H.length + X.length := by
  have hz : B.size = H.length + X.length := by
    have := congrArg List.length h
    rw [List.length_append, Array.length_toList] at this
    exact this
  refine ⟨?_, hz⟩
  rw [ByteArray.data_extract, Array.toList_extract, h, List.extract_eq_take_drop, hz, List.drop_left, show H.length + X.length - H.length = X.length by omega, List.take_length]
theorem dg_len (T : Nat → Int) (n : Nat) (h : n ≤ 20) : ((42 : UInt8) :: ((dgT T n).data.toList ++ [13, 10])).length = if n ≤ 9 then 4 else 5 := by
  rw [dgT_small T n (by omega)]
  have key : ∀ k : Fin 21, ((42 : UInt8) :: ((dig k.1).data.toList ++ [13, 10])).length = if k.1 ≤ 9 then 4 else 5 := by decide +kernel
  exact key ⟨n, by omega⟩

set_option maxRecDepth 100000 in
set_option maxHeartbeats 8000000 in
theorem lists_walk {aM aW : Addr} {m : Int} (T : Nat → Int) (t : Fo) (g o : Nat) (a : Option Addr) (n cap : Nat) (w : World) (hE : Env w aM aW m) (hT : Tab T w) (h3 : 3 < w.heap.size) (_hnc : n ≤ cap) (_hcm : cap ≤ maxLen)
    (ha : seen 4 n ≠ 0 → a = some ⟨g, o, none⟩) (hs : SrcL w t 3 g o (seen 4 n)) :
    Calls Tryd.prog 7 #[.slice a n cap] w fun e w' => e = .returned (.bool true) ∧ Below w.heap.size w w' := by
  have HSH := Lib.hid (shown_any hE (by omega))
  have HSR := Lib.hid hs
  have htl := SrcL.len hs
  have h60 : seen 4 n = min n 60 := rfl
  unfold maxLen at _hcm
  go_enter Tryd.func7, Tryd.ntmps7
  go_wp2_with fail
  refine HSH.out.mono ?_
  rintro e w1 ⟨rfl, hb1⟩
  have HB1 := Lib.hid hb1
  clear hb1
  go_wp2_with fail
  go_loopw [4, 5, 6, 7] (fun l wt okv i wr => ∃ (j : Nat) (v : Value) (done rest : Fo) (ok : Bool) (want : ByteArray), v = l ∧ i = .int .i64 j ∧ okv = .bool ok ∧ wt = .string want ∧ j + rest.len = t.len ∧ j ≤ 20 ∧ LI T w wr g o t v j done rest ok want) (fun _ _ _ i _ => n - (intOf i).toNat)
  case atStart =>
    refine ⟨0, _, .nil, t, true, ⟨#[]⟩, rfl, rfl, rfl, rfl, by simp, by omega, ⟨rfl, rfl, ⟨_, by simpa using HSR.out⟩, World.ownsRow_nil _ _ _ _, trivial, HB1.out, fun x hx => by simp [Fo.flat] at hx, by simp [Fo.flat], by simp [Fo.depth], rfl, fun _ => rfl, by show 0 ≤ _; omega⟩⟩
  case round =>
    obtain ⟨j, v, done, rest, ok, want, rfl, rfl, rfl, rfl, hj, hj20, hI⟩ := hrel
    by_cases hlt : j < n ∧ j < 20
    · obtain ⟨hj1, hj2⟩ := hlt
      cases rest with
      | nil => exfalso; simp [Fo.len] at hj; omega
      | cons k1 m1 s1 a1 cap1 sub rest =>
        have ha' := ha (by omega)
        subst ha'
        obtain ⟨c, hsrc⟩ := hI.src
        obtain ⟨rfl, rfl, hq1, ⟨s0, aS, nS, capS, c0, c1, c2, c3, rfl, hc1, hc2, g', o', hag, hsub1⟩, m', hm', _⟩ := hsrc
        have hone : SrcL w (.cons k1 m1 (cutT s0) none 0 sub .nil) 3 g (o + j * 4) 1 := ⟨rfl, rfl, hq1, ⟨s0, aS, nS, capS, c0, c1, c2, c3, rfl, hc1, hc2, g', o', hag, hsub1⟩, 0, rfl, rfl⟩
        have hfin := Lib.hid (src_fine hone)
        have hcnt := Lib.hid (src_count hone)
        have hdep := SrcL.depth hone
        have hB := hI.below
        have hgl : g < w.heap.size := World.block_lt_of_cell? w _ c0
        have d0 : wr.cell? ⟨g, o + j * 4, none⟩ = some (.int .i64 k1) := (hB.cell (p := ⟨g, _, none⟩) hgl).trans c0
        have d1 : wr.cell? ⟨g, o + j * 4 + 1, none⟩ = some (.int .i64 m1) := (hB.cell (p := ⟨g, _, none⟩) hgl).trans c1
        have d2 : wr.cell? ⟨g, o + j * 4 + 2, none⟩ = some (.string s0.1) := (hB.cell (p := ⟨g, _, none⟩) hgl).trans c2
        have d3 : wr.cell? ⟨g, o + j * 4 + 3, none⟩ = some (.slice aS nS capS) := (hB.cell (p := ⟨g, _, none⟩) hgl).trans c3
        have hC := cuts_any sub 3 k1 m1 s0 aS nS capS g' o' wr (by omega) hc1 hc2 hag (SrcL.below hB hsub1)
        rw [show ((3 : Nat) : Int) = 3 from rfl] at hC
        have HC := Lib.hid hC
        have hji : (j : Int) < n := by omega
        have hji2 : (j : Int) < 20 := by omega
        have HI := Lib.hid hI
        have HJ := Lib.hid hj
        clear hC hI hj c0 c1 c2 c3 hc1 hc2 hag hsub1 hm'
        go_wp2_with fail
        (with_reducible refine HC.out.mono ?_)
        rintro e w2 ⟨a2, cap2, t2, rfl, hb2, hs2, hbw2⟩
        clear d0 d1 d2 d3 HC
        obtain ⟨i0, hi0, hz0, hz1, hz2⟩ := info_parts Tryd.info24
        have hw2 : wr.heap.size ≤ w2.heap.size := hbw2.size
        have hwr : w.heap.size ≤ wr.heap.size := hB.size
        obtain ⟨e, he⟩ : ∃ e, e = Fo.cons k1 m1 (cutT s0) a2 cap2 t2 .nil := ⟨_, rfl⟩
        have hsl : t2.len = sub.len := by rw [← hb2, Fo.len_bare]
        have hOW := Lib.hid ((own_kept' HI.out.own hbw2).alloc (Obj.cells #[.int .i64 k1, .int .i64 m1, .string (cutT s0).1, .slice a2 sub.len cap2] 24))
        have HBW := Lib.hid hbw2
        have HS2 := Lib.hid hs2
        have HB2 := Lib.hid hb2
        clear hbw2 hs2 hb2
        have hownv : ∀ k, wr.heap.size ≤ k → some k ≠ v.ownBlock := fun k hk e => by have := (HI.out.own.lt k e.symm).2; omega
        go_wp2_with (at_builtin; refine wpList_append_lies _ rfl _ _ 22 rfl w.heap.size 24 i0 _ 4 56 Tryd.underlying22 hi0 hz0 hz1 hz2 rfl (by omega) v j done.cellsL rfl (hOW.out.alloc _) ⟨w2.heap.size + 1, 0, none⟩ 1 1 [.int .i64 k1, .int .i64 m1, .string (cutT s0).1, .slice a2 sub.len cap2] rfl rfl (World.news_of_block (cs := #[.int .i64 k1, .int .i64 m1, .string (cutT s0).1, .slice a2 sub.len cap2]) (t := 24) (fr := (0, 0)) (heap_at (by simp))) (one_cells _ _ _ _ _ _) (by omega) (by unfold maxLen; omega) (by omega) (by simp; omega) (w2.heap.size + 2) (by simp) ?_; intro gg cg w4 hown4 hgrow4 hat4 hlt4; have hbox : w4.heap[w2.heap.size]? = some (Obj.cells #[.int .i64 k1, .int .i64 m1, .string (cutT s0).1, .slice a2 sub.len cap2] 24 (0, 0)) := (hgrow4.block _ (by simp; omega) (hownv _ hw2)).trans ((Below.heap_alloc _ _ _ (by simp)).trans (heap_alloc_new _ _)); have e0 : w4.cell? ⟨w2.heap.size, 0, none⟩ = some (.int .i64 k1) := (by rw [cell_in 0 hbox]; rfl); have e1 : w4.cell? ⟨w2.heap.size, 1, none⟩ = some (.int .i64 m1) := (by rw [cell_in 1 hbox]; rfl); have e2 : w4.cell? ⟨w2.heap.size, 2, none⟩ = some (.string (cutT s0).1) := (by rw [cell_in 2 hbox]; rfl); have e3 : w4.cell? ⟨w2.heap.size, 3, none⟩ = some (.slice a2 sub.len cap2) := (by rw [cell_in 3 hbox]; rfl))
        have hz4 : w2.heap.size + 2 ≤ w4.heap.size := by have := hgrow4.size; simp at this; omega
        have hk4 : ∀ k, wr.heap.size ≤ k → k < w2.heap.size → w4.heap[k]? = w2.heap[k]? := fun k hk1 hk2 =>
          ((hgrow4.block k (by simp; omega) (hownv k hk1)).trans (Below.heap_alloc _ _ _ (by simp; omega))).trans (Below.heap_alloc _ _ _ hk2)
        have hbare : e.bare = .cons k1 m1 (cutT s0) none 0 sub .nil := by rw [he]; simp only [Fo.bare, HB2.out]
        have he1 : e.len = 1 := by rw [he]; rfl
        have hfe : ∀ x ∈ e.flat 1, fine x := fine_flat e 1 1 (by rw [hbare]; exact hfin.out 1)
        have hce : (e.flat 1).length ≤ most 3 := by
          rw [count_flat e 1 1, hbare]
          have := hcnt.out 1
          omega
        have hde : e.depth ≤ 5 := by rw [← Fo.depth_bare, hbare]; omega
        have hf4 : IsFo anyB w4 a2 t2 := ((HS2.out.weaken (ok' := fun k => wr.heap.size ≤ k ∧ k < w2.heap.size) fun k hk hok => ⟨hok, hk⟩).keep (B := w4) fun k hok _ => hk4 k hok.1 hok.2).any
        have hf5 := hf4.same ((Same24.refl _).alloc (Obj.cells #[.int .i64 k1, .int .i64 m1, .string (cutT s0).1, .slice a2 sub.len cap2] 24))
        have hfo : IsFo anyB (w4.alloc (Obj.cells #[.int .i64 k1, .int .i64 m1, .string (cutT s0).1, .slice a2 sub.len cap2] 24)) (some ⟨w4.heap.size, 0, none⟩) e := by
          rw [he]
          exact ⟨by simp [Fo.len], w4.heap.size, 0, fun _ => ⟨rfl, trivial⟩, ⟨⟨_, heap_alloc_new _ _, rfl, rfl, rfl, by rw [hsl]; rfl⟩, hf5, trivial⟩⟩
        have hB4 : Below w.heap.size w w4 := (((hB.trans (HBW.out.mono hwr)).alloc (by omega) _).alloc (by simp; omega) _).grown hgrow4 (by simp; omega) fun k e => (HI.out.own.lt k e).1
        have HOE := Lib.hid (all_encoded T e 1 he1 (by omega) _ _ 1 hfo hfe (by omega) hde ((hT.below hB4 h3).alloc _) (by simp; have := hB4.size; omega))
        have HST := Lib.hid (fun ok' want' hok hw hz => HI.out.step (ok' := ok') (want' := want') HBW.out HS2.out HB2.out hown4 hgrow4 hat4 (by rw [← he]; exact hfe) (by rw [← he]; exact hce) (by rw [← he]; exact hde) hok hw hz)
        clear hk4 hbox hf4 hf5 hfo hown4 hgrow4 hat4
        refine HOE.out.mono ?_
        rintro e' w6 ⟨a7, cap7, rfl, hbw6, hEN⟩
        clear HOE
        have hdg : (42 : UInt8) :: ((dgT T (1 : Nat)).data.toList ++ [13, 10]) = [42, 49, 13, 10] := by rw [show ((1 : Nat) : Int) = 1 from rfl, dg_one]; rfl
        rw [hdg] at hEN
        go_wp2_with fail
        cases hR : rightL (e.flat 1) with
        | false =>
          rw [hR, if_neg (by decide)] at hEN
          cases ok with
          | false =>
            have HE7 := Lib.hid hEN
            clear hEN
            go_wp2_with fail
            refine HE7.out.mono ?_
            rintro e' w7 ⟨B, rfl, hBz, hBt, hBf, hbw7⟩
            obtain ⟨q, hq⟩ : ∃ q, q = min B.size 4 := ⟨_, rfl⟩
            skip
            have hmin : min (B.size : Int) 4 = (q : Int) := by omega
            have hqb : (q : Int) ≤ B.size := by omega
            have hq0 : (0 : Int) ≤ q := by omega
            have hxz : (B.extract q B.size).size = B.size - q := by simp
            have hsz := HI.out.size
            have z1 : ¬ 9223372036854775807 < want.size + (B.extract q B.size).size := by rw [hxz]; omega
            have hLL := ((HST.out false (want ++ B.extract q B.size) (by rw [← he, hR]; rfl) (by rw [← he]; exact fun h => by cases h) (by rw [ByteArray.size_append, hxz]; omega)).later (alloc_below _ _)).later hbw6 |>.later hbw7
            have HLL := Lib.hid hLL
            have hjl : j + 1 + rest.len = t.len := by have := HJ.out; rw [Fo.len_cons] at this; omega
            clear hLL hBt hBf hbw7 hq hxz hsz
            go_wp2
            exact ⟨⟨j + 1, _, _, rest, false, _, rfl, by go_num, rfl, rfl, hjl, by omega, HLL.out⟩, by simp [intOf]; omega⟩
          | true =>
            have HE7 := Lib.hid hEN
            clear hEN
            go_wp2_with fail
            refine HE7.out.mono ?_
            rintro e' w7 ⟨B, rfl, hBz, hBt, hBf, hbw7⟩
            obtain ⟨q, hq⟩ : ∃ q, q = min B.size 4 := ⟨_, rfl⟩
            skip
            have hmin : min (B.size : Int) 4 = (q : Int) := by omega
            have hqb : (q : Int) ≤ B.size := by omega
            have hq0 : (0 : Int) ≤ q := by omega
            have hxz : (B.extract q B.size).size = B.size - q := by simp
            have hsz := HI.out.size
            have z1 : ¬ 9223372036854775807 < want.size + (B.extract q B.size).size := by rw [hxz]; omega
            have hLL := ((HST.out false (want ++ B.extract q B.size) (by rw [← he, hR]; rfl) (by rw [← he]; exact fun h => by cases h) (by rw [ByteArray.size_append, hxz]; omega)).later (alloc_below _ _)).later hbw6 |>.later hbw7
            have HLL := Lib.hid hLL
            have hjl : j + 1 + rest.len = t.len := by have := HJ.out; rw [Fo.len_cons] at this; omega
            clear hLL hBt hBf hbw7 hq hxz hsz
            go_wp2
            exact ⟨⟨j + 1, _, _, rest, false, _, rfl, by go_num, rfl, rfl, hjl, by omega, HLL.out⟩, by simp [intOf]; omega⟩
        | true =>
          rw [hR, if_pos rfl] at hEN
          cases ok with
          | false =>
            have HE7 := Lib.hid hEN
            clear hEN
            go_wp2_with fail
            refine HE7.out.mono ?_
            rintro e' w7 ⟨B, rfl, hBz, hBt, hBf, hbw7⟩
            obtain ⟨q, hq⟩ : ∃ q, q = min B.size 4 := ⟨_, rfl⟩
            skip
            have hmin : min (B.size : Int) 4 = (q : Int) := by omega
            have hqb : (q : Int) ≤ B.size := by omega
            have hq0 : (0 : Int) ≤ q := by omega
            have hxz : (B.extract q B.size).size = B.size - q := by simp
            have hsz := HI.out.size
            have z1 : ¬ 9223372036854775807 < want.size + (B.extract q B.size).size := by rw [hxz]; omega
            have hLL := ((HST.out false (want ++ B.extract q B.size) (by rw [← he, hR]; rfl) (by rw [← he]; exact fun h => by cases h) (by rw [ByteArray.size_append, hxz]; omega)).later (alloc_below _ _)).later hbw6 |>.later hbw7
            have HLL := Lib.hid hLL
            have hjl : j + 1 + rest.len = t.len := by have := HJ.out; rw [Fo.len_cons] at this; omega
            clear hLL hBt hBf hbw7 hq hxz hsz
            go_wp2
            exact ⟨⟨j + 1, _, _, rest, false, _, rfl, by go_num, rfl, rfl, hjl, by omega, HLL.out⟩, by simp [intOf]; omega⟩
          | true =>
            have HE7 := Lib.hid hEN
            clear hEN
            go_wp2_with fail
            refine HE7.out.mono ?_
            rintro e' w7 ⟨B, rfl, hBz, hBt, hBf, hbw7⟩
            obtain ⟨q, hq⟩ : ∃ q, q = min B.size 4 := ⟨_, rfl⟩
            have HX := Lib.hid (show (B.extract q B.size).data.toList = encE (dgT T) (e.flat 1) from by
              obtain ⟨x1, x2⟩ := cut_at B [42, 49, 13, 10] _ (hBt trivial)
              have : q = 4 := by rw [hq]; simp at x2; omega
              rw [this]
              exact x1)
            have hmin : min (B.size : Int) 4 = (q : Int) := by omega
            have hqb : (q : Int) ≤ B.size := by omega
            have hq0 : (0 : Int) ≤ q := by omega
            have hxz : (B.extract q B.size).size = B.size - q := by simp
            have hsz := HI.out.size
            have z1 : ¬ 9223372036854775807 < want.size + (B.extract q B.size).size := by rw [hxz]; omega
            have hLL := ((HST.out true (want ++ B.extract q B.size) (by rw [← he, hR]; rfl) (by rw [← he]; exact fun _ => by rw [ByteArray.data_append, Array.toList_append, HX.out]) (by rw [ByteArray.size_append, hxz]; omega)).later (alloc_below _ _)).later hbw6 |>.later hbw7
            have HLL := Lib.hid hLL
            have hjl : j + 1 + rest.len = t.len := by have := HJ.out; rw [Fo.len_cons] at this; omega
            clear hLL hBt hBf hbw7 hq hxz hsz
            go_wp2
            exact ⟨⟨j + 1, _, _, rest, true, _, rfl, by go_num, rfl, rfl, hjl, by omega, HLL.out⟩, by simp [intOf]; omega⟩
    · have hjt : (n : Int) ≤ j ∨ ((j : Int) < n ∧ (j : Int) = 20) := by omega
      have hown := hI.own
      rw [← hI.len] at hown
      have hlen := hI.len
      obtain ⟨a9, cap9, rfl, hf9⟩ := fo_of_own (ok := (w.heap.size ≤ ·)) hown (by omega) (fun k e => (hI.own.lt k e).1) (hI.all.imp fun _ _ ht => ht.weaken fun k _ hok => hok.1)
      rw [hlen] at *
      have hc9 := hI.cnt
      have hAE := all_encoded T done j hI.len (by omega) wr a9 cap9 hf9.any hI.fine1 (by have := Nat.mul_le_mul_right (most 3) hj20; omega) hI.dep (hT.below hI.below h3) (Nat.lt_of_lt_of_le h3 hI.below.size)
      unfold OnePost at hAE
      have hokv := hI.okv
      have HIB := Lib.hid hI.below
      have hwv := hI.wantv
      clear hown hc9 hf9 hI
      cases ok with
      | false =>
        rw [← hokv, if_neg (by decide)] at hAE
        have HAE := Lib.hid hAE
        clear hAE hokv hwv
        rcases hjt with hjt | ⟨hjt, hjt2⟩
        all_goals (
          go_wp2_with fail
          refine HAE.out.mono ?_
          rintro e' w6 ⟨a7, cap7, rfl, hbw6, hEN⟩
          have HEN := Lib.hid hEN
          clear hEN
          go_wp2_with fail
          refine HEN.out.mono ?_
          rintro e' w7 ⟨B, rfl, hBz, hBt, hBf, hbw7⟩
          obtain rfl := hBf trivial
          have HB7 := Lib.hid (below_all (below_all HIB.out hbw6) hbw7)
          clear hBt hBf hbw7 hbw6 HEN HAE
          go_wp2
          go_ret
          exact ⟨rfl, HB7.out⟩)
      | true =>
        rw [← hokv, if_pos rfl] at hAE
        have HAE := Lib.hid hAE
        have HWV := Lib.hid (hwv rfl)
        clear hAE hokv hwv
        by_cases h9 : j ≤ 9
        · have hjn : (n : Int) ≤ j := by omega
          have h9i : (j : Int) ≤ 9 := by omega
          clear hjt
          go_wp2_with fail
          refine HAE.out.mono ?_
          rintro e' w6 ⟨a7, cap7, rfl, hbw6, hEN⟩
          have HEN := Lib.hid hEN
          clear hEN
          go_wp2_with fail
          refine HEN.out.mono ?_
          rintro e' w7 ⟨B, rfl, hBz, hBt, hBf, hbw7⟩
          clear HEN HAE
          obtain ⟨x1, x2⟩ := cut_at B _ _ (hBt trivial)
          rw [dg_len T j (by omega), if_pos h9] at x1 x2
          have hsk : (4 : Int) ≤ B.size := by omega
          have hseq : ((B.extract 4 B.size).toList == want.toList) = true := by
            rw [beq_iff_eq, Lib.toList_data, Lib.toList_data, x1, HWV.out]
          have HB7 := Lib.hid (below_all (below_all HIB.out hbw6) hbw7)
          clear x1 x2 hBt hBf hbw7 hbw6
          go_wp2
          go_ret
          exact ⟨rfl, HB7.out⟩
        · have h9i : (9 : Int) < j := by omega
          rcases hjt with hjt | ⟨hjt, hjt2⟩
          · go_wp2_with fail
            refine HAE.out.mono ?_
            rintro e' w6 ⟨a7, cap7, rfl, hbw6, hEN⟩
            have HEN := Lib.hid hEN
            clear hEN
            go_wp2_with fail
            refine HEN.out.mono ?_
            rintro e' w7 ⟨B, rfl, hBz, hBt, hBf, hbw7⟩
            clear HEN HAE
            obtain ⟨x1, x2⟩ := cut_at B _ _ (hBt trivial)
            rw [dg_len T j (by omega), if_neg h9] at x1 x2
            have hsk : (5 : Int) ≤ B.size := by omega
            have hseq : ((B.extract 5 B.size).toList == want.toList) = true := by
              rw [beq_iff_eq, Lib.toList_data, Lib.toList_data, x1, HWV.out]
            have HB7 := Lib.hid (below_all (below_all HIB.out hbw6) hbw7)
            clear x1 x2 hBt hBf hbw7 hbw6
            go_wp2
            go_ret
            exact ⟨rfl, HB7.out⟩
          · go_wp2_with fail
            refine HAE.out.mono ?_
            rintro e' w6 ⟨a7, cap7, rfl, hbw6, hEN⟩
            have HEN := Lib.hid hEN
            clear hEN
            go_wp2_with fail
            refine HEN.out.mono ?_
            rintro e' w7 ⟨B, rfl, hBz, hBt, hBf, hbw7⟩
            clear HEN HAE
            obtain ⟨x1, x2⟩ := cut_at B _ _ (hBt trivial)
            rw [dg_len T j (by omega), if_neg h9] at x1 x2
            have hsk : (5 : Int) ≤ B.size := by omega
            have hseq : ((B.extract 5 B.size).toList == want.toList) = true := by
              rw [beq_iff_eq, Lib.toList_data, Lib.toList_data, x1, HWV.out]
            have HB7 := Lib.hid (below_all (below_all HIB.out hbw6) hbw7)
            clear x1 x2 hBt hBf hbw7 hbw6
            go_wp2
            go_ret
            exact ⟨rfl, HB7.out⟩
end Go.Proofs.YtkkdbjpcapjbkaaDoor
