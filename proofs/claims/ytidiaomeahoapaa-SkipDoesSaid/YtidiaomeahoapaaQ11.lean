/- Texts of one kind in one: Made, Places, Two. -/
import Derived.Test.YtidiaomeahoapaaQ10
/- made: a list behind acts. -/
namespace Go.Proofs.Ytidiaomeahoapaa
open Go.RowKit Go.Shelf
attribute [local go_sem] Oper.semAt_some

/-- The level of an act, less one. -/
def lv (n : Int) : Nat := (n % 32).toNat
theorem lv_lt (n : Int) : lv n < 32 := by unfold lv; omega
theorem bits_31 (n : Int) : bits .and .i64 n 31 = (lv n : Int) := by
  unfold bits
  show IntKind.i64.wrap ((BitVec.ofInt 64 n &&& BitVec.ofInt 64 31).toNat : Int) = _
  have h31 : (BitVec.ofInt 64 31).toNat = 31 := by decide
  have h2 : ∀ x : Nat, x &&& 31 = x % 32 := fun x => Nat.and_two_pow_sub_one_eq_mod x 5
  rw [BitVec.toNat_and, h31, h2, BitVec.toNat_ofInt]
  have h3 : ((n % ((2 ^ 64 : Nat) : Int)).toNat % 32) = (n % 32).toNat := by
    have : ((2 ^ 64 : Nat) : Int) = 18446744073709551616 := by decide
    rw [this]
    omega
  rw [h3]
  unfold lv
  exact IntWalk.i64_in _ (by omega)
def runM (l : List Ac) : List En := l.foldl (fun M x => effM x (lv x.l + 1) M) []
theorem insM_len (M : List En) (m : ByteArray) (s : Int) (l : Nat) : (insM M m s l).length = M.length + 1 := by
  have : posM M m s ≤ M.length := by unfold posM; exact (List.takeWhile_sublist _).length_le
  unfold insM; simp; omega
theorem cutM_len (M : List En) (a b : Nat) (h : a ≤ b) : (cutM M a b).length ≤ M.length := by unfold cutM; simp; omega
theorem effM_len (x : Ac) (l : Nat) (M : List En) : (effM x l M).length ≤ M.length + 1 := by
  unfold effM
  split
  · split
    · omega
    · rw [insM_len]; omega
  · split
    · split
      · exact Nat.le_trans (cutM_len _ _ _ (by omega)) (by omega)
      · omega
    · split
      · omega
      · split
        · exact Nat.le_trans (cutM_len _ _ _ (by omega)) (by omega)
        · omega
theorem runM_snoc (l : List Ac) (i : Nat) (x : Ac) (h : l[i]? = some x) : runM (l.take (i + 1)) = effM x (lv x.l + 1) (runM (l.take i)) := by
  obtain ⟨hi, he⟩ := List.getElem?_eq_some_iff.1 h
  unfold runM
  rw [List.take_succ_eq_append_getElem hi, he, List.foldl_append, List.foldl_cons, List.foldl_nil]

structure MadeAt (w0 : World) (q : Nat) (M : List En) (k : Nat) (W : World) : Prop where
  ex : ∃ L, L.map er = M ∧ Ls W q L ∧ Beyond w0.heap.size q L ∧ L.length ≤ k
  below : Below w0.heap.size w0 W
theorem MadeAt.act {w0 W W' : World} {q k : Nat} {L : List Nd} {M : List En} (hB : Beyond w0.heap.size q L) (hl : M.length ≤ k) (hb : Below w0.heap.size w0 W) (h : Act1 W W' q L M) : MadeAt w0 q M k W' := by
  obtain ⟨⟨L', h1, h2, h3⟩, hf⟩ := h
  refine ⟨⟨L', h1, h2, fun b hb' => ?_, ?_⟩, step_far hB hb hf⟩
  · rcases h3 b hb' with h | h
    · exact hB b h
    · exact Nat.le_trans hb.size h
  · have := congrArg List.length h1
    rw [List.length_map] at this
    omega

set_option maxRecDepth 100000 in
set_option maxHeartbeats 4000000 in
theorem made_any (a : Option Addr) (cap : Nat) (l : List Ac) (hn : l.length ≤ 9223372036854775807) (hu : ∀ x ∈ l, x.Fit) (w : World) (hA : Acts w a l) :
    Calls Try.prog 24 #[.slice a l.length cap] w fun e w' => ∃ q, e = .returned (.pointer (some ⟨q, 0, none⟩)) ∧ w.heap.size ≤ q ∧ MadeAt w q (runM (l.take 120)) 120 w' := by
  have HN := Lib.hid (new_any w)
  have HU := Lib.hid hu
  have HA := Lib.hid hA
  clear hu hA
  go_enter Try.func24, Try.ntmps24
  go_wp2_with fail
  refine HN.out.mono ?_
  rintro e w1 ⟨rfl, hb, hl1⟩
  have hm0 : MadeAt w w.heap.size (runM (l.take 0)) 0 w1 := ⟨⟨[], rfl, hl1, (by rintro k ⟨x, hx, rfl⟩; simp at hx; subst hx; exact Nat.le_refl _), Nat.le_refl _⟩, hb⟩
  have HM0 := Lib.hid hm0
  clear hb hl1 hm0 HN
  go_wp2_with fail
  go_loopw [4] (fun i wr => ∃ (k : Nat), i = .int .i64 k ∧ k ≤ min l.length 120 ∧ MadeAt w w.heap.size (runM (l.take k)) k wr) (fun i _ => 120 - (intOf i).toNat)
  case atStart => exact ⟨0, rfl, by omega, HM0.out⟩
  case round =>
    obtain ⟨k, rfl, hk, hM⟩ := hrel
    by_cases hlt : k < l.length ∧ k < 120
    · obtain ⟨hk1, hk2⟩ := hlt
      obtain ⟨b, off, rfl, hc⟩ := HA.out k hk1
      obtain ⟨⟨L, hL, hls, hby, hlen⟩, hbl⟩ := hM
      have hc6 : ∀ j u, (l[k]).cells[j]? = some u → wr.cell? ⟨b, off + k * 6 + j, none⟩ = some u := fun j u hj => by
        have := hc j u hj
        exact (hbl.cell (World.block_lt_of_cell? w _ this)).trans this
      have hfit := HU.out _ (List.getElem_mem hk1)
      have hsn := runM_snoc l k l[k] (List.getElem?_eq_getElem hk1)
      generalize l[k] = x at *
      have c0 := hc6 0 _ rfl
      have c1 := hc6 1 _ rfl
      have c2 := hc6 2 _ rfl
      have c3 := hc6 3 _ rfl
      have c4 := hc6 4 _ rfl
      have c5 := hc6 5 _ rfl
      have HD := Lib.hid (done_any (hls.later (drewB wr 1)) (by omega) x hfit (lv x.l + 1) (by have := lv_lt x.l; omega))
      rw [Nat.add_zero] at c0
      unfold Ac.val at HD
      have hb31 := bits_31 x.l
      have hwr : IntKind.i64.wrap (1 + bits .and .i64 x.l 31) = ((lv x.l + 1 : Nat) : Int) := by
        rw [hb31]
        have := lv_lt x.l
        rw [IntWalk.i64_in _ (by omega)]
        omega
      clear hb31
      have HBY := Lib.hid hby
      have HL := Lib.hid hL
      have HBL := Lib.hid hbl
      have HSN := Lib.hid hsn
      clear hc hc6 hfit hls hby hL hbl hsn HA HU
      obtain ⟨xd, xm, xs, xl, xf, xt⟩ := x
      simp only at c0 c1 c2 c3 c4 c5 HD hwr
      have hk3 : (k : Int) < l.length := by omega
      have hk4 : (k : Int) < 120 := by omega
      go_wp2_with fail
      go_region_with ((go_at_call 23; refine HD.out.mono ?_; rintro e w2 ⟨rfl, hact⟩; have HACT := Lib.hid hact; clear hact))
      all_goals (
        go_wp2_with fail
        refine ⟨⟨k + 1, by go_num, by omega, ?_⟩, by simp [intOf]; omega⟩
        rw [HSN.out]
        refine MadeAt.act HBY.out ?_ (HBL.out.trans ((drewB wr 1).mono HBL.out.size)) (HL.out ▸ HACT.out)
        have h1 := effM_len ⟨xd, xm, xs, xl, xf, xt⟩ (lv xl + 1) (runM (l.take k))
        have h2 := congrArg List.length HL.out
        rw [List.length_map] at h2
        omega)
    · have hke : k = min l.length 120 := by omega
      have hfin : MadeAt w w.heap.size (runM (l.take 120)) 120 wr := by
        have e1 : l.take k = l.take 120 := by
          rw [hke]
          by_cases h : l.length ≤ 120
          · rw [Nat.min_eq_left h, List.take_of_length_le (Nat.le_refl _), List.take_of_length_le h]
          · rw [Nat.min_eq_right (by omega)]
        rw [e1] at hM
        obtain ⟨⟨L, h1, h2, h3, h4⟩, h5⟩ := hM
        exact ⟨⟨L, h1, h2, h3, by omega⟩, h5⟩
      have HFN := Lib.hid hfin
      clear hM hfin
      by_cases hl : k < l.length
      · have h120 : ¬ (k : Int) < 120 := by omega
        have hl2 : (k : Int) < l.length := by omega
        go_wp2_with fail
        go_returns
        exact ⟨_, rfl, Nat.le_refl _, HFN.out⟩
      · have hl2 : ¬ (k : Int) < l.length := by omega
        go_wp2_with fail
        go_returns
        exact ⟨_, rfl, Nat.le_refl _, HFN.out⟩
end Go.Proofs.Ytidiaomeahoapaa
/- What is at a place is sought at that place. -/
namespace Go.Proofs.Ytidiaomeahoapaa
open Go.RowKit Go.Shelf
attribute [local go_sem] Oper.semAt_some

theorem pos_self {L : List Nd} (hs : Srt L) {i : Nat} {x : Nd} (hx : L[i]? = some x) : pos L x.m x.s = i ∧ has L x.m x.s = true := by
  have h1 := pos_spec hs x.m x.s i x hx
  rw [less_irr] at h1
  have h2 : ¬ i < pos L x.m x.s := by simpa using h1.symm
  obtain ⟨hi, he⟩ := List.getElem?_eq_some_iff.1 hx
  have h3 : pos L x.m x.s = i := by
    rcases Nat.lt_or_ge (pos L x.m x.s) i with h | h
    · have hj : L[pos L x.m x.s]? = some L[pos L x.m x.s] := List.getElem?_eq_getElem (by omega)
      have h4 := pos_spec hs x.m x.s _ _ hj
      have h5 := List.pairwise_iff_getElem.1 hs (pos L x.m x.s) i (by omega) hi h
      rw [he, h4] at h5
      simp at h5
    · omega
  refine ⟨h3, ?_⟩
  unfold has
  rw [h3, hx]
  simp

theorem alloc_below (w : World) (o : Obj) : Below w.heap.size w (w.alloc o) := (Below.refl _ _).alloc (Nat.le_refl _) _
variable {w0 : World}
set_option maxRecDepth 100000 in
set_option maxHeartbeats 8000000 in
theorem places_walk (a : Option Addr) (cap : Nat) (l : List Ac) (hn : l.length ≤ 9223372036854775807) (hu : ∀ x ∈ l, x.Fit) (w : World) (hA : Acts w a l) :
    Calls Try.prog 5 #[.slice a l.length cap] w fun e w' => e = .returned (.bool true) ∧ Below w.heap.size w w' := by
  have H10 := Lib.hid (shown_any w)
  have HM := fun w1 (hb : Below w.heap.size w w1) => Lib.hid (made_any a cap l hn hu w1 (hA.far (fun b o ho => (hb.block b (Array.getElem?_eq_some_iff.1 ho).1).trans ho)))
  clear hn hu hA
  go_enter Try.func5, Try.ntmps5
  go_wp2_with fail
  refine H10.out.mono ?_
  rintro e w1 ⟨rfl, hb1⟩
  have HM1 := HM w1 hb1
  have HB1 := Lib.hid hb1
  clear HM H10 hb1
  go_wp2_with fail
  refine HM1.out.mono ?_
  rintro e w2 ⟨q, rfl, hq, ⟨⟨L, hL, hls, hby, hlen⟩, hbl⟩⟩
  have hb2 := HB1.out.trans (hbl.mono HB1.out.size)
  have HB2 := Lib.hid hb2
  have HLS := Lib.hid hls
  have hlen2 : (L.length : Int) ≤ 120 := by omega
  have hlN : L.length ≤ 100000 := by omega
  have hlN2 : (hd q :: L).length ≤ 1000000 := by simp; omega
  clear HM1 HB1 hb2 hls hby hbl hL hq hlen
  go_wp2_with fail
  go_loopw [5] (fun i wr => ∃ (k : Nat), i = .int .i64 k ∧ k ≤ L.length ∧ Below w2.heap.size w2 wr) (fun i _ => L.length - (intOf i).toNat)
  case atStart => exact ⟨0, rfl, by omega, Below.refl _ _⟩
  case round =>
    obtain ⟨k, rfl, hk, hbr⟩ := hrel
    have hlr := HLS.out.later hbr
    have HLen := Lib.hid (len_any q L rfl hlr.sk)
    by_cases hlt : k < L.length
    · have hx : L[k]? = some L[k] := List.getElem?_eq_getElem hlt
      generalize L[k] = x at *
      obtain ⟨hp1, hp2⟩ := pos_self hlr.srt hx
      have HAt := Lib.hid (at_any q L rfl hlr.sk rfl hlN2 k x hx)
      have HSk := fun W (hb : Below wr.heap.size wr W) => Lib.hid (seek_ls (hlr.later hb) hlN x.m x.s)
      rw [hp1, hp2] at HSk
      have HBR := Lib.hid hbr
      clear hlr hx hp1 hp2 hbr
      have hk2 : (k : Int) < L.length := by omega
      go_wp2_with fail
      refine HLen.out.mono ?_
      rintro e w3 ⟨rfl, rfl⟩
      go_wp2_with fail
      refine HAt.out.mono ?_
      rintro e w4 ⟨rfl, hb4⟩
      have hb5 := hb4.trans ((alloc_below w4 (Obj.cells #[.string x.m, .int .i64 x.s] 32)).mono hb4.size)
      have HS2 := HSk _ hb5
      have HB5 := Lib.hid (HBR.out.trans (hb5.mono HBR.out.size))
      clear hb4 hb5 HSk HAt HLen HBR
      go_wp2_with fail
      refine HS2.out.mono ?_
      rintro e w6 ⟨rfl, hb6⟩
      have HB6 := Lib.hid (HB5.out.trans (hb6.mono HB5.out.size))
      clear hb6 HS2 HB5
      go_wp2_with fail
      exact ⟨⟨k + 1, by go_num, hlt, HB6.out⟩, by simp [intOf]; omega⟩
    · obtain rfl : k = L.length := by omega
      have HA1 := Lib.hid (at_out (some ⟨q, 0, none⟩) (-1) wr L.length (fun w' hb => len_any q L rfl (hlr.later hb).sk) (.inl (by decide)))
      have HLe := fun W (hb : Below wr.heap.size wr W) => Lib.hid (len_any q L rfl (hlr.later hb).sk)
      have HA2 := fun W (hb : Below wr.heap.size wr W) => Lib.hid (at_out (some ⟨q, 0, none⟩) L.length W L.length (fun w' hb' => len_any q L rfl ((hlr.later hb).later hb').sk) (.inr (Int.le_refl _)))
      have HBR := Lib.hid hbr
      clear hlr hbr
      go_wp2_with fail
      refine HLen.out.mono ?_
      rintro e w3 ⟨rfl, rfl⟩
      go_wp2_with fail
      refine HA1.out.mono ?_
      rintro e w4 ⟨rfl, hb4⟩
      have hb5 := hb4.trans ((alloc_below w4 (Obj.cells #[.string ⟨#[]⟩, .int .i64 0] 32)).mono hb4.size)
      have HLe2 := HLe _ hb5
      have HA3 := HA2 _ hb5
      have HB5 := Lib.hid (HBR.out.trans (hb5.mono HBR.out.size))
      clear hb4 hb5 HA1 HA2 HLe HLen HBR
      go_wp2_with fail
      refine HLe2.out.mono ?_
      rintro e w5 ⟨rfl, rfl⟩
      go_wp2_with fail
      refine HA3.out.mono ?_
      rintro e w6 ⟨rfl, hb6⟩
      have HB6 := Lib.hid (HB5.out.trans (hb6.mono HB5.out.size))
      clear hb6 HA3 HLe2 HB5
      go_wp2_with fail
      go_returns
      have h1 := HB6.out
      have h2 := HB2.out
      refine ⟨rfl, h2.trans (((h1).trans ((alloc_below w6 _).mono h1.size)).mono h2.size)⟩
end Go.Proofs.Ytidiaomeahoapaa
/- Two lists beside each other. -/
namespace Go.Proofs.Ytidiaomeahoapaa
open Go.RowKit Go.Shelf
attribute [local go_sem] Oper.semAt_some

structure Pair2 (B : Nat) (W : World) (p : Nat) (L : List Nd) (q : Nat) (K : List Nd) : Prop where
  one : Ls W p L
  two : Ls W q K
  b1 : Beyond B p L
  b2 : Beyond B q K
  apart : ∀ k, isB (hd p :: L) k → ¬ isB (hd q :: K) k
theorem Pair2.swap {B : Nat} {W : World} {p q : Nat} {L K : List Nd} (h : Pair2 B W p L q K) : Pair2 B W q K p L := ⟨h.two, h.one, h.b2, h.b1, fun k h1 h2 => h.apart k h2 h1⟩
theorem Pair2.later {B : Nat} {W W' : World} {p q : Nat} {L K : List Nd} (h : Pair2 B W p L q K) (hb : Below W.heap.size W W') : Pair2 B W' p L q K := ⟨h.one.later hb, h.two.later hb, h.b1, h.b2, h.apart⟩
theorem Pair2.act {B : Nat} {W W' : World} {p q : Nat} {L K : List Nd} {M : List En} (h : Pair2 B W p L q K) (hB : B ≤ W.heap.size) (ha : Act1 W W' p L M) : ∃ L', L'.map er = M ∧ Pair2 B W' p L' q K := by
  obtain ⟨⟨L', h1, h2, h3⟩, hf⟩ := ha
  refine ⟨L', h1, h2, h.two.far hf (fun k hk hs => h.apart k hs hk), fun k hk => ?_, h.b2, fun k hk hk2 => ?_⟩
  · rcases h3 k hk with e | e
    · exact h.b1 k e
    · exact Nat.le_trans hB e
  · rcases h3 k hk with e | e
    · exact h.apart k e hk2
    · have := h.two.sk.lt hk2
      omega
theorem Pair2.far {B : Nat} {W W' : World} {p q : Nat} {L K : List Nd} {M : List En} (h : Pair2 B W p L q K) (hB : B ≤ W.heap.size) (ha : Act1 W W' p L M) : Below B W W' := ha.far.below h.b1 hB
theorem Own32.far {W W' : World} {S : Nat → Prop} {n0 : Nat} {v : Value} {l : List Ent} (h : Own32 W n0 v l) (hf : Far S W W') (hS : ∀ k c, Blk W k 32 c → ¬ S k) : Own32 W' n0 v l := by
  refine ⟨h.1, ?_⟩
  rcases h.2 with hn | ⟨g, cap, cur, rfl, h1, h2, h3⟩
  · exact .inl hn
  · exact .inr ⟨g, cap, cur, rfl, h1, (hf.block g (Array.getElem?_eq_some_iff.1 h2).1 (hS g cur h2)).trans h2, h3⟩
theorem Act1.own {W W' : World} {p : Nat} {L : List Nd} {M : List En} {n0 : Nat} {v : Value} {l : List Ent} (ha : Act1 W W' p L M) (h : Ls W p L) (ho : Own32 W n0 v l) : Own32 W' n0 v l :=
  ho.far ha.far fun _ _ hb => h.sk.not_ty hb fun q => (ty_ne q).2.2.2

theorem lvs_er {L K : List Nd} (h : L.map er = K.map er) : lvs L = lvs K := by
  have key : ∀ (L K : List Nd), L.map er = K.map er → lvs L ≤ lvs K := fun L K h => lvs_le.2 fun x hx => by
    have h1 : er x ∈ K.map er := h ▸ List.mem_map_of_mem hx
    obtain ⟨y, hy, he⟩ := List.mem_map.1 h1
    have h2 : y.l = x.l := congrArg (fun z : En => z.2.2) he
    have := lvs_le.1 (Nat.le_refl (lvs K)) y hy
    omega
  exact Nat.le_antisymm (key L K h) (key K L h.symm)
def e2 (y : En) : Ent := (y.1, y.2.1)
theorem en_er (L : List Nd) : L.map en = (L.map er).map e2 := by rw [List.map_map]; rfl
theorem sub_all (E : List Ent) : sub E 0 E.length = E := by
  unfold sub from0 to0
  rw [show (max (0 : Int) 0).toNat = 0 from rfl, show (min (E.length : Int) (E.length : Int)).toNat = E.length by simp]
  simp

/-- Both ranges of all are the same. -/
theorem all_ls {w : World} {p : Nat} {L : List Nd} (h : Ls w p L) (hN : L.length ≤ 100000) : Calls Try.prog 18 #[.pointer (some ⟨p, 0, none⟩), .int .i64 0, .int .i64 L.length] w fun e w' => ∃ r, e = .returned r ∧ Own32 w' w.heap.size r (L.map en) ∧ Below w.heap.size w w' := by
  have h1 := range_ls h hN 0 L.length
  have h2 := sub_all (L.map en)
  rw [List.length_map] at h2
  rwa [h2] at h1
end Go.Proofs.Ytidiaomeahoapaa
