/- Texts of one kind in one: ZLPut, ZLCut, ZMeth. -/
import Derived.Test.YtpaphfofjfjdlaaGreatQZB
/- A set's entries as a list: putting in, taking out, a new one. -/
namespace Go.Proofs.YtpaphfofjfjdlaaGreat
open Go.RowKit Go.Shelf Sk
attribute [local go_sem] Oper.semAt_some

variable {w w' w1 w2 : World} {l p q sd : Nat} {D D1 D2 : Nat → Prop} {L L1 L2 : List Nd} {m : ByteArray → Option Int} {n : Dc.Sh}
/-- What a step leaves: only the list's own blocks have turned, new ones are its own. -/
structure LStep (w w' : World) (l p : Nat) (L : List Nd) (D : Nat → Prop) (L' : List Nd) (D' : Nat → Prop) : Prop where
  far : Far (LOwn l p L D) w w'
  new : ∀ k, LOwn l p L' D' k → LOwn l p L D k ∨ w.heap.size ≤ k
theorem LStep.refl : LStep w w l p L D L D := ⟨Far.refl _ _, fun _ h => .inl h⟩
theorem LStep.trans (h : LStep w w1 l p L D L1 D1) (g : LStep w1 w2 l p L1 D1 L2 D2) : LStep w w2 l p L D L2 D2 :=
  ⟨h.far.trans g.far h.new, fun k hk => by
    rcases g.new k hk with h1 | h1
    · exact h.new k h1
    · exact .inr (Nat.le_trans h.far.size h1)⟩
theorem LStep.below (hb : Below w.heap.size w w1) : LStep w w1 l p L D L D := ⟨Far.of_below hb, fun _ h => .inl h⟩
theorem LStep.dict {m2 : ByteArray → Option Int} {n2 : Dc.Sh} (hn : Dc.IsNow D w q sd m2 n2 w') : LStep w w' l p L D L (Dc.grow Dc.tyI D w w') :=
  ⟨(ofDc hn.2).mono fun _ h => .inr (.inr h), fun k hk => by
    rcases hk with h | h | h
    · exact .inl (.inl h)
    · exact .inl (.inr (.inl h))
    · rcases h.1 with h | h
      · exact .inl (.inr (.inr h))
      · exact .inr h⟩
theorem isB_put {x : Nd} {k : Nat} (h : isB (hd p :: putL L x) k) : k = x.b ∨ isB (hd p :: L) k := by
  obtain ⟨y, hy, rfl⟩ := h
  rcases List.mem_cons.1 hy with rfl | hy
  · exact .inr ⟨_, List.mem_cons_self .., rfl⟩
  · unfold putL at hy
    rcases List.mem_append.1 hy with hy | hy
    · exact .inr ⟨y, List.mem_cons_of_mem _ (List.mem_of_mem_take hy), rfl⟩
    · rcases List.mem_cons.1 hy with rfl | hy
      · exact .inl rfl
      · exact .inr ⟨y, List.mem_cons_of_mem _ (List.mem_of_mem_drop hy), rfl⟩
theorem isB_cut {a b k : Nat} (h : isB (hd p :: (L.take a ++ L.drop b)) k) : isB (hd p :: L) k := by
  obtain ⟨y, hy, rfl⟩ := h
  rcases List.mem_cons.1 hy with rfl | hy
  · exact ⟨_, List.mem_cons_self .., rfl⟩
  · rcases List.mem_append.1 hy with hy | hy
    · exact ⟨y, List.mem_cons_of_mem _ (List.mem_of_mem_take hy), rfl⟩
    · exact ⟨y, List.mem_cons_of_mem _ (List.mem_of_mem_drop hy), rfl⟩
/-- The list by levels has turned. -/
theorem LAt.nodes (h : LAt w l p q D sd L m n) (hf : Far (isB (hd p :: L)) w w') (hl : Ls w' p L1) : LAt w' l p q D sd L1 m n :=
  ⟨hf.blk h.blk h.l_node, hl, h.is.far (toDc hf) (fun _ hk => h.d_node hk), h.sd⟩
theorem LStep.nodes (hf : Far (isB (hd p :: L)) w w') (hn : ∀ k, isB (hd p :: L1) k → isB (hd p :: L) k ∨ w.heap.size ≤ k) : LStep w w' l p L D L1 D :=
  ⟨hf.mono fun _ h => .inr (.inl h), fun k hk => by
    rcases hk with h | h | h
    · exact .inl (.inl h)
    · rcases hn k h with h | h
      · exact .inl (.inr (.inl h))
      · exact .inr h
    · exact .inl (.inr (.inr h))⟩

theorem l_insert (h : LAt w l p q D sd L m n) (hN : L.length ≤ 100000) (x : En) (hx : x.1.size ≤ 281474976710656) (lv : Nat) (hl : 0 < lv ∧ lv ≤ 32) (hno : x ∉ L.map en) :
    Calls Tryz.prog 73 #[.pointer (some ⟨p, 0, none⟩), .agg #[.string x.1, .int .i64 x.2], .int .i64 lv] w fun e w' => e = .returned (.int .i64 0) ∧ ∃ L1, L1.map en = putE (L.map en) x.1 x.2 ∧ LAt w' l p q D sd L1 m n ∧ LStep w w' l p L D L1 D := by
  have hh : has L x.1 x.2 = false := by
    cases h2 : has L x.1 x.2 with
    | false => rfl
    | true => exact absurd ((has_en h.ls.srt x.1 x.2).1 h2) hno
  refine (insert_ls h.ls hN x.1 hx x.2 lv hl).mono fun e w' hp => ?_
  obtain ⟨he, nb, hnb, hf, hls⟩ := hp.2 hh
  refine ⟨he, _, put_en L ⟨nb, x.1, x.2, lv⟩, h.nodes hf hls, LStep.nodes hf fun k hk => ?_⟩
  rcases isB_put hk with rfl | h1
  · exact .inr hnb
  · exact .inl h1
theorem l_delete (h : LAt w l p q D sd L m n) (hN : L.length ≤ 100000) (hd : Dist (L.map en)) (x : En) (hx : x ∈ L.map en) :
    Calls Tryz.prog 158 #[.pointer (some ⟨p, 0, none⟩), .agg #[.string x.1, .int .i64 x.2]] w fun e w' => e = .returned (.bool true) ∧ ∃ L1, L1.map en = rmE (L.map en) x.1 ∧ LAt w' l p q D sd L1 m n ∧ LStep w w' l p L D L1 D := by
  have hh : has L x.1 x.2 = true := (has_en h.ls.srt x.1 x.2).2 hx
  obtain ⟨i, hi⟩ := List.mem_iff_getElem?.1 hx
  have hp := pos_selfE (srt_en h.ls.srt) hi
  refine (delete_ls h.ls hN x.1 x.2).mono fun e w' hq => ?_
  obtain ⟨he, hf, hls⟩ := hq.2 hh
  refine ⟨he, _, ?_, h.nodes hf hls, LStep.nodes hf fun k hk => .inl (isB_cut hk)⟩
  rw [pos_en, hp, rmE_at hd hi, List.map_append, List.map_take, List.map_drop]
theorem l_cut (h : LAt w l p q D sd L m n) (hN : L.length ≤ 100000) (f t : Int) :
    Calls Tryz.prog 167 #[.pointer (some ⟨p, 0, none⟩), .int .i64 f, .int .i64 t] w fun e w' => e = .returned (.int .i64 (subE (L.map en) f t).length) ∧ ∃ L1, L1.map en = cutE (L.map en) f t ∧ LAt w' l p q D sd L1 m n ∧ LStep w w' l p L D L1 D := by
  rw [subE_len]
  unfold cutE
  rw [List.length_map]
  by_cases hlt : f0 f < t0 t L.length
  · rw [if_pos hlt]
    refine (cut_ls h.ls hN f t (f0 f) (t0 t L.length) (by unfold f0; omega) (by unfold t0 f0 at *; omega) hlt).mono fun e w' hq => ?_
    obtain ⟨he, hf, hls⟩ := hq
    refine ⟨by rw [he]; congr 2; omega, _, ?_, h.nodes hf hls, LStep.nodes hf fun k hk => .inl (isB_cut hk)⟩
    rw [List.map_append, List.map_take, List.map_drop]
  · rw [if_neg hlt]
    refine (cut_none p L rfl w h.ls.sk f t (by unfold t0 f0 at hlt; omega)).mono fun e w' hq => ?_
    obtain ⟨he, rfl⟩ := hq
    refine ⟨?_, L, rfl, h, LStep.refl⟩
    rw [he, show t0 t L.length - f0 f = 0 by omega]
    rfl
theorem l_set (h : LAt w l p q D sd L m n) (hn : n.n + 1 ≤ 1000000) (key : ByteArray) (hk : key.size ≤ 281474976710656) (v : Int) :
    Calls Tryz.prog 74 #[.pointer (some ⟨q, 0, none⟩), .string key, .int .i64 v] w fun e w' => (∃ bb, e = .returned (.bool bb)) ∧ ∃ D1, LAt w' l p q D1 sd L (putI m key v) (n.set (m key).isSome) ∧ LStep w w' l p L D L D1 :=
  (Dc.set_is h.sd h.is hn key hk v).mono fun _ _ ⟨he, hi⟩ => ⟨⟨_, he⟩, _, h.dict hi, LStep.dict hi⟩
theorem l_unset (h : LAt w l p q D sd L m n) (hn : n.n ≤ 1000000) (key : ByteArray) (hk : key.size ≤ 281474976710656) :
    Calls Tryz.prog 166 #[.pointer (some ⟨q, 0, none⟩), .string key] w fun e w' => (∃ bb, e = .returned (.bool bb)) ∧ ∃ D1, LAt w' l p q D1 sd L (remI m key) (n.del (m key).isSome) ∧ LStep w w' l p L D L D1 :=
  (Dc.del_is h.sd h.is hn key hk).mono fun _ _ ⟨he, hi, _⟩ => ⟨⟨_, he⟩, _, h.dict hi, LStep.dict hi⟩

/-- Entries put in, one by one. -/
def putAll (E xs : List En) : List En := xs.foldl (fun E x => putE E x.1 x.2) E
def putsI (m : ByteArray → Option Int) (xs : List En) : ByteArray → Option Int := xs.foldl (fun m x => putI m x.1 x.2) m
theorem putAll_snoc (E xs : List En) (k : Nat) (x : En) (h : xs[k]? = some x) : putAll E (xs.take (k + 1)) = putE (putAll E (xs.take k)) x.1 x.2 := by
  obtain ⟨hk, rfl⟩ := List.getElem?_eq_some_iff.1 h
  unfold putAll
  rw [List.take_succ_eq_append_getElem hk, List.foldl_append]
  rfl
theorem putsI_snoc (m : ByteArray → Option Int) (xs : List En) (k : Nat) (x : En) (h : xs[k]? = some x) : putsI m (xs.take (k + 1)) = putI (putsI m (xs.take k)) x.1 x.2 := by
  obtain ⟨hk, rfl⟩ := List.getElem?_eq_some_iff.1 h
  unfold putsI
  rw [List.take_succ_eq_append_getElem hk, List.foldl_append]
  rfl
theorem mem_putAll {xs : List En} : ∀ {E : List En} {y : En}, y ∈ putAll E xs ↔ y ∈ E ∨ y ∈ xs := by
  induction xs with
  | nil => intro E y; simp [putAll]
  | cons x xs ih =>
    intro E y
    show y ∈ putAll (putE E x.1 x.2) xs ↔ _
    rw [ih, mem_putE, List.mem_cons]
    constructor
    · rintro ((h | h) | h)
      · exact .inr (.inl h)
      · exact .inl h
      · exact .inr (.inr h)
    · rintro (h | h | h)
      · exact .inl (.inr h)
      · exact .inl (.inl h)
      · exact .inr h
theorem putAll_len {xs : List En} : ∀ {E : List En}, (putAll E xs).length = E.length + xs.length := by
  induction xs with
  | nil => intro E; rfl
  | cons x xs ih =>
    intro E
    show (putAll (putE E x.1 x.2) xs).length = _
    rw [ih, putE_len, List.length_cons]; omega
theorem not_before {xs : List En} (hd : Dist xs) {k : Nat} {x : En} (h : xs[k]? = some x) : x ∉ xs.take k := fun hm => by
  obtain ⟨j, hj⟩ := List.mem_iff_getElem?.1 hm
  have hjl := (List.getElem?_eq_some_iff.1 hj).1
  rw [List.length_take] at hjl
  rw [List.getElem?_take_of_lt (by omega)] at hj
  obtain ⟨h1, h2⟩ := List.getElem?_eq_some_iff.1 h
  obtain ⟨h3, h4⟩ := List.getElem?_eq_some_iff.1 hj
  exact List.pairwise_iff_getElem.1 hd j k h3 h1 (by omega) (by rw [h2, h4])
theorem set_n (n : Dc.Sh) (b : Bool) : (n.set b).n ≤ n.n + 1 := by rw [Dc.shset_n]; cases b <;> simp
theorem del_n (n : Dc.Sh) (b : Bool) : (n.del b).n ≤ n.n := by rw [Dc.shdel_n]; cases b <;> simp

/-- Behind k of them. -/
structure PutAt (w : World) (l p q sd : Nat) (D : Nat → Prop) (L : List Nd) (m : ByteArray → Option Int) (n : Dc.Sh) (xs : List En) (k : Nat) (W : World) : Prop where
  ex : ∃ D1 L1 n1, LAt W l p q D1 sd L1 (putsI m (xs.take k)) n1 ∧ L1.map en = putAll (L.map en) (xs.take k) ∧ n1.n ≤ n.n + k ∧ LStep w W l p L D L1 D1
theorem LStep.row {v : Value} {xs : List En} {n0 : Nat} (h : LAt w l p q D sd L m n) (hr : Row w n0 v xs) (hs : LStep w w1 l p L D L1 D1) : Row w1 n0 v xs :=
  hr.far hs.far fun _ _ _ hk ho => h.own_ty ho hk (by decide)
set_option maxHeartbeats 2000000 in
theorem l_put (h : LAt w l p q D sd L m n) (v : Value) (xs : List En) (hr : Row w 0 v xs) (hd : Dist xs) (hno : ∀ x ∈ xs, x ∉ L.map en) (hz : ∀ x ∈ xs, x.1.size ≤ 281474976710656) (hN : L.length + xs.length ≤ 100000) (hn : n.n + xs.length ≤ 999999) (lv : Nat) (hl : 0 < lv ∧ lv ≤ 32) :
    Calls Tryz.prog 71 #[.pointer (some ⟨l, 0, none⟩), .int .i64 lv, v] w fun e w' => e = .returned (.tuple #[]) ∧ PutAt w l p q sd D L m n xs xs.length w' := by
  obtain ⟨a, c, rfl⟩ := hr.form
  have HROW := Lib.hid (fun W L1 D1 (hs : LStep w W l p L D L1 D1) => hs.row h hr)
  have H0 := Lib.hid (show PutAt w l p q sd D L m n xs 0 w from ⟨D, L, n, h, rfl, by omega, LStep.refl⟩)
  have HNO := Lib.hid hno
  have HZ := Lib.hid hz
  have HDI := Lib.hid hd
  clear h hr hno hz hd
  go_enter Tryz.func71, Tryz.ntmps71
  go_wp2
  go_loopw [10] (fun i wr => ∃ (k : Nat), i = .int .i64 k ∧ k ≤ xs.length ∧ PutAt w l p q sd D L m n xs k wr) (fun i _ => xs.length - (intOf i).toNat)
  case atStart => exact ⟨0, rfl, by omega, H0.out⟩
  case round =>
    obtain ⟨k, rfl, hk, ⟨D1, L1, n1, h1, hE, hn1, hs⟩⟩ := hrel
    by_cases hlt : k < xs.length
    · have hx : xs[k]? = some xs[k] := List.getElem?_eq_getElem hlt
      generalize xs[k] = x at *
      obtain ⟨b, off, c', e1, g0, g1⟩ := row_cells (HROW.out wr _ _ hs) hx
      injection e1 with e1 _ e2
      subst e1
      subst e2
      have hxm := List.mem_of_getElem? hx
      have hlen : L1.length = L.length + k := by
        have := congrArg List.length hE
        rw [List.length_map, putAll_len, List.length_map, List.length_take] at this
        omega
      have hno1 : x ∉ L1.map en := by
        rw [hE, mem_putAll]
        rintro (h2 | h2)
        · exact HNO.out x hxm h2
        · exact not_before HDI.out hx h2
      have hzx := HZ.out x hxm
      have hb1 := (alloc_below wr (.cells #[.string x.1, .int .i64 x.2] 48)).trans ((drewB (wr.alloc (.cells #[.string x.1, .int .i64 x.2] 48)) 1).mono (by simp))
      have kE := (Blk.new wr 48 #[.string x.1, .int .i64 x.2])
      have hI := l_insert (h1.later hb1) (by omega) x hzx lv hl hno1
      have hE2 : ∀ L2 : List Nd, L2.map en = putE (L1.map en) x.1 x.2 → L2.map en = putAll (L.map en) (xs.take (k + 1)) := fun L2 h2 => by rw [h2, hE, putAll_snoc _ _ _ _ hx]
      have hm2 := putsI_snoc m xs k x hx
      have hl1 : (lv : Int) ≤ 32 := by omega
      have HSET := fun (W : World) (L2 : List Nd) (h2 : LAt W l p q D1 sd L2 (putsI m (xs.take k)) n1) => Lib.hid (l_set h2 (by omega) x.1 hzx x.2)
      rw [← hm2] at HSET
      have hsz := set_n n1 ((putsI m (xs.take k)) x.1).isSome
      have FIN := fun (W : World) (D2 : Nat → Prop) (L2 : List Nd) (h2 : LAt W l p q D2 sd L2 (putsI m (xs.take (k + 1))) (n1.set ((putsI m (xs.take k)) x.1).isSome)) (e2 : L2.map en = putE (L1.map en) x.1 x.2) (hs2 : LStep wr W l p L1 D1 L2 D2) =>
        Lib.hid (show PutAt w l p q sd D L m n xs (k + 1) W from ⟨D2, L2, _, h2, hE2 L2 e2, by omega, hs.trans hs2⟩)
      have HS1 := Lib.hid (show LStep wr ((wr.alloc (.cells #[.string x.1, .int .i64 x.2] 48)).drew) l p L1 D1 L1 D1 from LStep.below hb1)
      have HI := Lib.hid hI
      have HKE := fun (W : World) (L2 : List Nd) (D2 : Nat → Prop) (hs2 : LStep ((wr.alloc (.cells #[.string x.1, .int .i64 x.2] 48)).drew) W l p L1 D1 L2 D2) => Lib.hid (hs2.far.blk (kE.later (drewB _ 1)) (fun ho => (h1.later hb1).own_ty ho (kE.later (drewB _ 1)) (by decide)))
      have hk2 : (k : Int) < xs.length := by omega
      obtain ⟨c0, c1, _, _⟩ := facts2 h1.blk
      obtain ⟨d0, d1, _, _⟩ := facts2 (h1.later hb1).blk
      obtain ⟨f0, f1, _, _⟩ := facts2 kE
      clear h1 hE hs hn1 hx hlen hno1 hzx hb1 kE hI hE2 hm2 hsz hxm
      go_wp2_with fail
      have S0 : ((wr.alloc (.cells #[.string x.1, .int .i64 x.2] 48)).drew).cell? ⟨l, 0, none⟩ = some (.pointer (some ⟨p, 0, none⟩)) ∧ ((wr.alloc (.cells #[.string x.1, .int .i64 x.2] 48)).drew).cell? ⟨wr.heap.size, 0, none⟩ = some (.string x.1) ∧ ((wr.alloc (.cells #[.string x.1, .int .i64 x.2] 48)).drew).cell? ⟨wr.heap.size, 1, none⟩ = some (.int .i64 x.2) := ⟨d0, f0, f1⟩
      clear c0 c1 d0 d1 f0 f1 g0 g1
      go_region_held (fun W => W.cell? ⟨l, 0, none⟩ = some (.pointer (some ⟨p, 0, none⟩)) ∧ W.cell? ⟨wr.heap.size, 0, none⟩ = some (.string x.1) ∧ W.cell? ⟨wr.heap.size, 1, none⟩ = some (.int .i64 x.2)) (first | exact S0 | exact S1)
        (first
          | (go_at_call 73; refine HI.out.mono ?_; rintro e w2 ⟨rfl, L2, e2, h2, hs2⟩
             obtain ⟨c0, c1, _, _⟩ := facts2 h2.blk
             obtain ⟨f0, f1, _, _⟩ := facts2 (HKE w2 L2 D1 hs2).out
             have S1 : w2.cell? ⟨l, 0, none⟩ = some (.pointer (some ⟨p, 0, none⟩)) ∧ w2.cell? ⟨wr.heap.size, 0, none⟩ = some (.string x.1) ∧ w2.cell? ⟨wr.heap.size, 1, none⟩ = some (.int .i64 x.2) := ⟨c0, f0, f1⟩
             have hs3 := (HS1.out.trans hs2).trans (LStep.below (drewB w2 1))
             have h3 := h2.later (drewB w2 1)
             have S2 : w2.drew.cell? ⟨l, 1, none⟩ = some (.pointer (some ⟨q, 0, none⟩)) ∧ w2.drew.cell? ⟨wr.heap.size, 0, none⟩ = some (.string x.1) ∧ w2.drew.cell? ⟨wr.heap.size, 1, none⟩ = some (.int .i64 x.2) := ⟨c1, f0, f1⟩
             have HK3 := (HKE w2 L2 D1 hs2)
             have HKE3 := fun (W : World) (L3 : List Nd) (D3 : Nat → Prop) (hs4 : LStep w2.drew W l p L2 D1 L3 D3) => Lib.hid (hs4.far.blk (HK3.out.later (drewB w2 1)) (fun ho => h3.own_ty ho (HK3.out.later (drewB w2 1)) (by decide)))
             have HST := HSET w2.drew L2 h3
             have FIN2 := fun (W : World) (D2 : Nat → Prop) (h4 : LAt W l p q D2 sd L2 (putsI m (xs.take (k + 1))) (n1.set ((putsI m (xs.take k)) x.1).isSome)) (hs4 : LStep w2.drew W l p L2 D1 L2 D2) => FIN W D2 L2 h4 e2 (hs3.trans hs4)
             clear HI HKE h2 hs2 h3 hs3 c0 c1 f0 f1 HSET FIN HK3))
      all_goals (
        clear S1
        go_wp2_with fail
        go_region_held (fun W => W.cell? ⟨l, 1, none⟩ = some (.pointer (some ⟨q, 0, none⟩)) ∧ W.cell? ⟨wr.heap.size, 0, none⟩ = some (.string x.1) ∧ W.cell? ⟨wr.heap.size, 1, none⟩ = some (.int .i64 x.2)) (first | exact S2 | exact S3)
          (first
            | (go_at_call 74; refine HST.out.mono ?_; rintro e w3 ⟨⟨bb, rfl⟩, D2, h4, hs4⟩
               obtain ⟨c0, c1, _, _⟩ := facts2 h4.blk
               obtain ⟨f0, f1, _, _⟩ := facts2 (HKE3 w3 L2 D2 hs4).out
               have S3 : w3.cell? ⟨l, 1, none⟩ = some (.pointer (some ⟨q, 0, none⟩)) ∧ w3.cell? ⟨wr.heap.size, 0, none⟩ = some (.string x.1) ∧ w3.cell? ⟨wr.heap.size, 1, none⟩ = some (.int .i64 x.2) := ⟨c1, f0, f1⟩
               have HFIN := FIN2 w3 D2 h4 hs4
               clear HST HKE3 FIN2 h4 hs4 c0 c1 f0 f1))
        all_goals (
          clear S3
          go_wp2_with fail
          exact ⟨⟨k + 1, by go_num, hlt, HFIN.out⟩, by simp [intOf]; omega⟩))
    · obtain rfl : k = xs.length := by omega
      have HP := Lib.hid (show PutAt w l p q sd D L m n xs xs.length wr from ⟨D1, L1, n1, h1, hE, hn1, hs⟩)
      clear h1 hE hs hn1
      go_wp2_with fail
      go_returns
      exact ⟨rfl, HP.out⟩
end Go.Proofs.YtpaphfofjfjdlaaGreat
/- A set's entries as a list: cutting out, a new one. -/
namespace Go.Proofs.YtpaphfofjfjdlaaGreat
open Go.RowKit Go.Shelf Sk
attribute [local go_sem] Oper.semAt_some

variable {w w' w1 w2 : World} {l p q sd : Nat} {D D1 D2 : Nat → Prop} {L L1 L2 : List Nd} {m : ByteArray → Option Int} {n : Dc.Sh}
theorem remAll_snoc (m : ByteArray → Option Int) (xs : List En) (k : Nat) (x : En) (h : xs[k]? = some x) : remAll m (xs.take (k + 1)) = remI (remAll m (xs.take k)) x.1 := by
  obtain ⟨hk, rfl⟩ := List.getElem?_eq_some_iff.1 h
  unfold remAll
  rw [List.take_succ_eq_append_getElem hk, List.foldl_append]
  rfl
structure RemAt (w : World) (l p q sd : Nat) (D : Nat → Prop) (L : List Nd) (m : ByteArray → Option Int) (n : Dc.Sh) (xs : List En) (k : Nat) (W : World) : Prop where
  ex : ∃ D1 n1, LAt W l p q D1 sd L (remAll m (xs.take k)) n1 ∧ n1.n ≤ n.n ∧ LStep w W l p L D L D1
set_option maxHeartbeats 2000000 in
theorem l_cutAll (h : LAt w l p q D sd L m n) (hN : L.length ≤ 100000) (hn : n.n ≤ 999999) (hz : ∀ x ∈ L.map en, x.1.size ≤ 281474976710656) (hd : Dist (L.map en)) (hm : MapOf m (L.map en)) (f t : Int) :
    Calls Tryz.prog 157 #[.pointer (some ⟨l, 0, none⟩), .int .i64 f, .int .i64 t] w fun e w' => e = .returned (.int .i64 (subE (L.map en) f t).length) ∧
      ∃ D1 L1 m1 n1, L1.map en = cutE (L.map en) f t ∧ MapOf m1 (L1.map en) ∧ LAt w' l p q D1 sd L1 m1 n1 ∧ n1.n ≤ n.n ∧ LStep w w' l p L D L1 D1 := by
  have HR := Lib.hid (l_range h.ls hN f t)
  have hsub : ∀ x ∈ subE (L.map en) f t, x.1.size ≤ 281474976710656 := fun x hx => hz x (List.mem_of_mem_drop (List.mem_of_mem_take hx))
  have HZ := Lib.hid hsub
  have hmc : MapOf (remAll m (subE (L.map en) f t)) (cutE (L.map en) f t) := by
    rw [← rmAll_cut hd f t]
    exact hm.remAll
  have HMC := Lib.hid hmc
  have HC := fun (W : World) D1 m1 n1 (h1 : LAt W l p q D1 sd L m1 n1) => Lib.hid (l_cut h1 hN f t)
  have HH := Lib.hid h
  have hNs : (subE (L.map en) f t).length ≤ 100000 := by rw [subE_len, List.length_map]; unfold t0; omega
  obtain ⟨e0, e1, _, _⟩ := facts2 h.blk
  clear h hN hz hd hm hsub hmc
  generalize subE (L.map en) f t = xs at *
  generalize cutE (L.map en) f t = EC at *
  go_enter Tryz.func157, Tryz.ntmps157
  go_wp2_with fail
  refine HR.out.mono ?_
  rintro e w1 ⟨r, rfl, hr, hb⟩
  obtain ⟨a, c, rfl⟩ := hr.form
  have h1 := HH.out.later hb
  have HB := Lib.hid (show LStep w w1 l p L D L D from LStep.below hb)
  have H0 := Lib.hid (show RemAt w1 l p q sd D L m n xs 0 w1 from ⟨D, n, h1, Nat.le_refl _, LStep.refl⟩)
  have HROW := Lib.hid (fun W L1 D1 (hs : LStep w1 W l p L D L1 D1) => hs.row h1 hr)
  clear hb h1 hr HR HH e0 e1
  go_wp2_with fail
  go_loopw [17] (fun i wr => ∃ (k : Nat), i = .int .i64 k ∧ k ≤ xs.length ∧ RemAt w1 l p q sd D L m n xs k wr) (fun i _ => xs.length - (intOf i).toNat)
  case atStart => exact ⟨0, rfl, by omega, H0.out⟩
  case round =>
    obtain ⟨k, rfl, hk, ⟨D1, n1, h1, hn1, hs⟩⟩ := hrel
    by_cases hlt : k < xs.length
    · have hx : xs[k]? = some xs[k] := List.getElem?_eq_getElem hlt
      generalize xs[k] = x at *
      obtain ⟨b, off, c', e1, g0, g1⟩ := row_cells (HROW.out wr _ _ hs) hx
      injection e1 with e1 _ e2
      subst e1
      subst e2
      have hzx := HZ.out x (List.mem_of_getElem? hx)
      have hb1 := (alloc_below wr (.cells #[.string x.1, .int .i64 x.2] 48)).trans ((drewB (wr.alloc (.cells #[.string x.1, .int .i64 x.2] 48)) 1).mono (by simp))
      have kE := (Blk.new wr 48 #[.string x.1, .int .i64 x.2])
      have hm2 := remAll_snoc m xs k x hx
      have HST := Lib.hid (l_unset (w := (wr.alloc (.cells #[.string x.1, .int .i64 x.2] 48)).drew) (h1.later hb1) (by omega) x.1 hzx)
      rw [← hm2] at HST
      have hsz := del_n n1 ((remAll m (xs.take k)) x.1).isSome
      have FIN := fun (W : World) (D2 : Nat → Prop) (h2 : LAt W l p q D2 sd L (remAll m (xs.take (k + 1))) (n1.del ((remAll m (xs.take k)) x.1).isSome)) (hs2 : LStep ((wr.alloc (.cells #[.string x.1, .int .i64 x.2] 48)).drew) W l p L D1 L D2) =>
        Lib.hid (show RemAt w1 l p q sd D L m n xs (k + 1) W from ⟨D2, _, h2, by omega, (hs.trans (LStep.below hb1)).trans hs2⟩)
      have HKE := fun (W : World) (D2 : Nat → Prop) (hs2 : LStep ((wr.alloc (.cells #[.string x.1, .int .i64 x.2] 48)).drew) W l p L D1 L D2) => Lib.hid (hs2.far.blk (kE.later (drewB _ 1)) (fun ho => (h1.later hb1).own_ty ho (kE.later (drewB _ 1)) (by decide)))
      have hk2 : (k : Int) < xs.length := by omega
      obtain ⟨d0, d1, _, _⟩ := facts2 (h1.later hb1).blk
      obtain ⟨f0, f1, _, _⟩ := facts2 kE
      clear h1 hs hn1 hx hzx hb1 kE hm2 hsz
      go_wp2_with fail
      have S0 : ((wr.alloc (.cells #[.string x.1, .int .i64 x.2] 48)).drew).cell? ⟨l, 1, none⟩ = some (.pointer (some ⟨q, 0, none⟩)) ∧ ((wr.alloc (.cells #[.string x.1, .int .i64 x.2] 48)).drew).cell? ⟨wr.heap.size, 0, none⟩ = some (.string x.1) := ⟨d1, f0⟩
      clear d0 d1 f0 f1 g0 g1
      go_region_held (fun W => W.cell? ⟨l, 1, none⟩ = some (.pointer (some ⟨q, 0, none⟩)) ∧ W.cell? ⟨wr.heap.size, 0, none⟩ = some (.string x.1)) (first | exact S0 | exact S1)
        (first
          | (go_at_call 166; refine HST.out.mono ?_; rintro e w2 ⟨⟨bb, rfl⟩, D2, h2, hs2⟩
             obtain ⟨c0, c1, _, _⟩ := facts2 h2.blk
             obtain ⟨f0, f1, _, _⟩ := facts2 (HKE w2 D2 hs2).out
             have S1 : w2.cell? ⟨l, 1, none⟩ = some (.pointer (some ⟨q, 0, none⟩)) ∧ w2.cell? ⟨wr.heap.size, 0, none⟩ = some (.string x.1) := ⟨c1, f0⟩
             have HFIN := FIN w2 D2 h2 hs2
             clear HST HKE FIN h2 hs2 c0 c1 f0 f1))
      all_goals (
        clear S1
        go_wp2_with fail
        exact ⟨⟨k + 1, by go_num, hlt, HFIN.out⟩, by simp [intOf]; omega⟩)
    · obtain rfl : k = xs.length := by omega
      rw [List.take_length] at h1
      have HC2 := HC wr D1 _ n1 h1
      obtain ⟨e0, e1, _, _⟩ := facts2 h1.blk
      have HS := Lib.hid (HB.out.trans hs)
      clear h1 hs HC
      go_wp2_with fail
      refine HC2.out.mono ?_
      rintro e w3 ⟨rfl, L1, he1, h3, hs3⟩
      have HFIN := Lib.hid (show ∃ D1 L1 m1 n1, L1.map en = EC ∧ MapOf m1 (L1.map en) ∧ LAt w3 l p q D1 sd L1 m1 n1 ∧ n1.n ≤ n.n ∧ LStep w w3 l p L D L1 D1 from ⟨_, L1, _, n1, he1, by rw [he1]; exact HMC.out, h3, hn1, HS.out.trans hs3⟩)
      clear h3 hs3 he1 HC2
      go_wp2_with fail
      go_ret
      exact ⟨rfl, HFIN.out⟩

theorem l_new (v : Value) (xs : List En) (hsd : sd < 4294967296) (hr : Row w 0 v xs) (hd : Dist xs) (hz : ∀ x ∈ xs, x.1.size ≤ 281474976710656) (hN : xs.length ≤ 100000) :
    Calls Tryz.prog 62 #[.int .u32 sd, v] w fun e w' => ∃ l p q D L m n, e = .returned (.pointer (some ⟨l, 0, none⟩)) ∧ L.map en = putAll [] xs ∧ m = putsI (fun _ => none) xs ∧ LAt w' l p q D sd L m n ∧ n.n ≤ xs.length ∧ Below w.heap.size w w' ∧ (∀ k, LOwn l p L D k → w.heap.size ≤ k) := by
  have HN := fun W => Lib.hid (new_any W)
  have HD := fun W => Lib.hid (Dc.new_is sd W)
  have HR := Lib.hid hr
  have HP := fun W l p q D n (h : LAt W l p q D sd [] (fun _ => none) n) (hr : Row W 0 v xs) (hn : n.n = 0) => Lib.hid (l_put h v xs hr hd (fun x _ hx => by cases hx) hz (by simpa using hN) (by omega) 1 (by omega))
  clear hr hd hz hN
  go_enter Tryz.func62, Tryz.ntmps62
  go_wp2_with fail
  refine (HN _).out.mono ?_
  rintro e w1 ⟨rfl, hb1, hl1⟩
  go_wp2_with fail
  refine (HD _).out.mono ?_
  rintro e w2 ⟨q, rfl, hi, hb2⟩
  have hz1 := hb1.size
  have hz2 := hb2.size
  have hb3 := alloc_below w2 (.cells #[.pointer (some ⟨w.heap.size, 0, none⟩), .pointer (some ⟨q, 0, none⟩)] 120)
  have h3 : LAt (w2.alloc (.cells #[.pointer (some ⟨w.heap.size, 0, none⟩), .pointer (some ⟨q, 0, none⟩)] 120)) w2.heap.size w.heap.size q (Dc.fresh Dc.tyI w1 w2) sd [] (fun _ => none) ⟨4, 0, 0, 0⟩ :=
    ⟨Blk.new _ _ _, (hl1.later hb2).later hb3, hi.later hb3, hsd⟩
  have hbw := (hb1.trans (hb2.mono hz1)).trans (hb3.mono (by omega))
  have HP3 := HP _ _ _ _ _ _ h3 (HR.out.later hbw) rfl
  have HBW := Lib.hid hbw
  have HOW := Lib.hid (show ∀ k, LOwn w2.heap.size w.heap.size [] (Dc.fresh Dc.tyI w1 w2) k → w.heap.size ≤ k from fun k hk => by
    rcases hk with rfl | hk | hk
    · omega
    · obtain ⟨x, hx, rfl⟩ := hk
      simp at hx
      subst hx
      exact Nat.le_refl _
    · rcases hk.1 with h | h
      · exact h.elim
      · omega)
  clear hb1 hb2 hb3 hl1 hi hz1 hz2 h3 hbw HP HN HD HR
  go_wp2_with fail
  refine HP3.out.mono ?_
  rintro e w4 ⟨rfl, ⟨D1, L1, n1, h4, he4, hn4, hs4⟩⟩
  rw [List.take_length] at h4 he4
  have HFIN := Lib.hid (show ∃ l p q D L m n, Ending.returned (.pointer (some ⟨w2.heap.size, 0, none⟩)) = .returned (.pointer (some ⟨l, 0, none⟩)) ∧ L.map en = putAll [] xs ∧ m = putsI (fun _ => none) xs ∧ LAt w4 l p q D sd L m n ∧ n.n ≤ xs.length ∧ Below w.heap.size w w4 ∧ (∀ k, LOwn l p L D k → w.heap.size ≤ k) from
    ⟨_, _, q, D1, L1, _, n1, rfl, he4, rfl, h4, by simpa using hn4, HBW.out.trans (hs4.far.below HOW.out HBW.out.size), fun k hk => by
      rcases hs4.new k hk with h | h
      · exact HOW.out k h
      · exact Nat.le_trans HBW.out.size h⟩)
  clear h4 he4 hn4 hs4 HP3 HBW HOW
  go_wp2_with fail
  go_ret
  exact HFIN.out
end Go.Proofs.YtpaphfofjfjdlaaGreat
/- Methods that a list has by what it embeds. -/
namespace Go.Proofs.YtpaphfofjfjdlaaGreat
open Go.RowKit Go.Shelf Sk
attribute [local go_sem] Oper.semAt_some

theorem meth_row (name : String) (f : FuncId) (k : Nat) (W : World) (l p : Nat) (h : W.cell? ⟨l, 0, none⟩ = some (.pointer (some ⟨p, 0, none⟩)))
    (hm : ((Tryz.prog.info? 106).bind fun i => (i.methods.find? (·.name == name)).map fun m => (m.path.toList, m.func)) = some ([{ struct := 120, index := 0, deref := true }], some (f, true))) :
    (method (k + 1) 106 (.pointer (some ⟨l, 0, none⟩)) name).run Tryz.prog W = .ok (f, .pointer (some ⟨p, 0, none⟩)) W := by
  cases hi : Tryz.prog.info? 106 with
  | none => rw [hi] at hm; cases hm
  | some i =>
    rw [hi] at hm
    cases hf : i.methods.find? (·.name == name) with
    | none => rw [Option.bind_some, hf] at hm; cases hm
    | some mm =>
      rw [Option.bind_some, hf] at hm
      simp only [Option.map_some, Option.some.injEq, Prod.mk.injEq] at hm
      have hu := run_underlying (P := Tryz.prog) Tryz.underlying120
      have hu2 := run_underlying (P := Tryz.prog) Tryz.underlying115
      unfold method
      simp [typeInfo, hi, hf, hm.1, hm.2, follow, hu, hu2, receiverAt, Place.get, go_sem, h]
theorem meth_len {W : World} {l p : Nat} (h : W.cell? ⟨l, 0, none⟩ = some (.pointer (some ⟨p, 0, none⟩))) :
    (method 375 106 (.pointer (some ⟨l, 0, none⟩)) "Len").run Tryz.prog W = .ok (159, .pointer (some ⟨p, 0, none⟩)) W := meth_row "Len" 159 374 W l p h (by kernel_rfl)
theorem meth_at {W : World} {l p : Nat} (h : W.cell? ⟨l, 0, none⟩ = some (.pointer (some ⟨p, 0, none⟩))) :
    (method 375 106 (.pointer (some ⟨l, 0, none⟩)) "At").run Tryz.prog W = .ok (156, .pointer (some ⟨p, 0, none⟩)) W := meth_row "At" 156 374 W l p h (by kernel_rfl)
theorem meth_range {W : World} {l p : Nat} (h : W.cell? ⟨l, 0, none⟩ = some (.pointer (some ⟨p, 0, none⟩))) :
    (method 375 106 (.pointer (some ⟨l, 0, none⟩)) "Range").run Tryz.prog W = .ok (160, .pointer (some ⟨p, 0, none⟩)) W := meth_row "Range" 160 374 W l p h (by kernel_rfl)
theorem meth_delete {W : World} {l p : Nat} (h : W.cell? ⟨l, 0, none⟩ = some (.pointer (some ⟨p, 0, none⟩))) :
    (method 375 106 (.pointer (some ⟨l, 0, none⟩)) "Delete").run Tryz.prog W = .ok (158, .pointer (some ⟨p, 0, none⟩)) W := meth_row "Delete" 158 374 W l p h (by kernel_rfl)
end Go.Proofs.YtpaphfofjfjdlaaGreat
