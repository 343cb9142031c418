/- How two scores are put together; a score put into a map. -/
import Derived.Test.YtjilfgkoibbcnaaDoorRight
import Derived.Test.YtjilfgkoibbcnaaDoorMul
namespace Go.Proofs.YtjilfgkoibbcnaaDoor
open Go.RowKit Go.Shelf
attribute [local go_sem] Oper.semAt_some

/-- Two scores put together: the number, and the error. -/
def joinN (g : Nat) (a b : Int) : Int := if g = 1 then sumN a b else if g = 2 then min a b else max a b
def joinE (g : Nat) (a b : Int) : Int := if g = 1 then sumE a b else 0
theorem joinN_i64 (g : Nat) {a b : Int} (ha : I64 a) (hb : I64 b) : I64 (joinN g a b) := by
  unfold joinN
  split
  · exact sumN_i64 a b
  · unfold I64 at *
    split <;> omega
theorem sumE_two (a b : Int) : sumE a b = 0 ∨ sumE a b = 11 := by unfold sumE; split <;> simp
theorem joinE_two (g : Nat) (a b : Int) : joinE g a b = 0 ∨ joinE g a b = 11 := by
  unfold joinE
  split
  · exact sumE_two a b
  · exact .inl rfl
def isG (g : Nat) : Prop := g = 1 ∨ g = 2 ∨ g = 3
/-- The function that puts them together. -/
def fvG (g : Nat) : Value := .func (.func (48 + g)) #[] #[]

set_option maxRecDepth 100000 in
theorem join_any (g : Nat) (hg : isG g) (a b : Int) (ha : I64 a) (hb : I64 b) (w : World) :
    Calls Tryd.prog (48 + g) #[.int .i64 a, .int .i64 b] w fun e w' => e = .returned (.tuple #[.int .i64 (joinN g a b), .int .i64 (joinE g a b)]) ∧ Below w.heap.size w w' := by
  rcases hg with rfl | rfl | rfl
  · exact add_any a b ha hb w
  · clear ha hb
    go_enter Tryd.func50, Tryd.ntmps50
    go_wp2
    go_ret2
    exact ⟨rfl, Below.refl _ _⟩
  · clear ha hb
    go_enter Tryd.func51, Tryd.ntmps51
    go_wp2
    go_ret2
    exact ⟨rfl, Below.refl _ _⟩

set_option maxRecDepth 100000 in
theorem joining_any (agg : Int) (w : World) : Calls Tryd.prog 37 #[.int .i64 agg] w fun e w' =>
    e = .returned (if agg = 1 ∨ agg = 2 ∨ agg = 3 then fvG agg.toNat else .nilFunc) ∧ w' = w := by
  by_cases h1 : agg = 1
  · subst h1
    go_enter Tryd.func37, Tryd.ntmps37
    go_wp2
    go_ret
    exact ⟨rfl, rfl⟩
  by_cases h2 : agg = 2
  · subst h2
    go_enter Tryd.func37, Tryd.ntmps37
    go_wp2
    go_ret
    exact ⟨rfl, rfl⟩
  by_cases h3 : agg = 3
  · subst h3
    go_enter Tryd.func37, Tryd.ntmps37
    go_wp2
    go_ret
    exact ⟨rfl, rfl⟩
  have e1 : (agg == 1) = false := by simpa using h1
  have e2 : (agg == 2) = false := by simpa using h2
  have e3 : (agg == 3) = false := by simpa using h3
  have e4 : ¬ (agg = 1 ∨ agg = 2 ∨ agg = 3) := by omega
  rw [if_neg e4]
  clear h1 h2 h3 e4
  go_enter Tryd.func37, Tryd.ntmps37
  go_wp2
  go_ret
  exact ⟨rfl, rfl⟩

/-- The two errors in memory. -/
structure Env (a0 a1 : Addr) (W : World) : Prop where
  g0 : W.cell? ⟨0, 0, none⟩ = some (.iface 124 (.pointer (some a0)))
  g1 : W.cell? ⟨1, 0, none⟩ = some (.iface 124 (.pointer (some a1)))
  ne : a1 ≠ a0
  b0 : ∃ c t, W.heap[a0.block]? = some (.cells c t (0, 0))
  b1 : ∃ c t, W.heap[a1.block]? = some (.cells c t (0, 0))
theorem Env.later {a0 a1 : Addr} {W W' : World} (h : Env a0 a1 W) (hb : Below W.heap.size W W') : Env a0 a1 W' := by
  obtain ⟨g0, g1, ne, ⟨c0, t0, b0⟩, ⟨c1, t1, b1⟩⟩ := h
  have k : ∀ {a : Addr} {v : Value}, W.cell? a = some v → W'.cell? a = some v := fun {a} {v} hv => (hb.cell (p := a) (World.block_lt_of_cell? W a hv)).trans hv
  exact ⟨k g0, k g1, ne, ⟨c0, t0, (hb.block _ (Array.getElem?_eq_some_iff.1 b0).1).trans b0⟩, ⟨c1, t1, (hb.block _ (Array.getElem?_eq_some_iff.1 b1).1).trans b1⟩⟩
theorem Env.kept {a0 a1 : Addr} {W W' : World} {b : Nat} (h : Env a0 a1 W) (hg : W.grownBy W' (some b)) (hm : ∃ es c, W.heap[b]? = some (.map es c)) : Env a0 a1 W' := by
  obtain ⟨g0, g1, ne, ⟨c0, t0, b0⟩, ⟨c1, t1, b1⟩⟩ := h
  obtain ⟨es, c, hm⟩ := hm
  have q : ∀ {a : Addr} {v : Value}, W.cell? a = some v → some a.block ≠ some b := fun {a} {v} hv e => by
    obtain ⟨o, ho, hw⟩ := not_walk_of_cell hv
    injection e with e
    rw [e, hm] at ho; cases ho; cases hw
  have q2 : ∀ {k : Nat} {c : Array Value} {t : TypeId}, W.heap[k]? = some (.cells c t (0, 0)) → some k ≠ some b := fun {k} {c} {t} hk e => by
    injection e with e
    rw [e, hm] at hk; cases hk
  exact ⟨hg.cell g0 (q g0), hg.cell g1 (q g1), ne, ⟨c0, t0, (hg.block _ (Array.getElem?_eq_some_iff.1 b0).1 (q2 b0)).trans b0⟩, ⟨c1, t1, (hg.block _ (Array.getElem?_eq_some_iff.1 b1).1 (q2 b1)).trans b1⟩⟩

/-- A score put in, times a weight. -/
def putS (g : Nat) (M : List Ent) (e : Ent) (wt : Int) : Option (List Ent) :=
  if sumE (e.2 * wt) 0 = 0 then
    match getM M e.1 with
    | none => some (putM M e.1 (sumN (e.2 * wt) 0))
    | some old => if joinE g old (sumN (e.2 * wt) 0) = 0 then some (putM M e.1 (joinN g old (sumN (e.2 * wt) 0))) else none
  else none
/-- All scores are numbers. -/
def NumM (M : List Ent) : Prop := ∀ x ∈ M, I64 x.2
theorem NumM.get {M : List Ent} (h : NumM M) {m : ByteArray} {s : Int} (hs : getM M m = some s) : I64 s := by
  unfold getM at hs
  obtain ⟨x, hx, rfl⟩ := Option.map_eq_some_iff.1 hs
  exact h x (List.mem_of_find?_eq_some hx)
theorem NumM.put {M : List Ent} (h : NumM M) (m : ByteArray) {s : Int} (hs : I64 s) : NumM (putM M m s) := fun x hx => by
  rcases List.mem_cons.1 hx with rfl | hx
  · exact hs
  · exact h x (List.mem_filter.1 hx).1
theorem NumM.puts {g : Nat} {M M' : List Ent} (h : NumM M) {e : Ent} {wt : Int} (hp : putS g M e wt = some M') : NumM M' := by
  unfold putS at hp
  split at hp
  · cases hm : getM M e.1 with
    | none =>
      rw [hm] at hp
      cases hp
      exact h.put _ (sumN_i64 _ _)
    | some old =>
      rw [hm] at hp
      simp only at hp
      split at hp
      · cases hp
        exact h.put _ (joinN_i64 g (h.get hm) (sumN_i64 _ _))
      · cases hp
  · cases hp

theorem grown_trans {A B C : World} {r : Option Nat} (h : A.grownBy B r) (g : B.grownBy C r) : A.grownBy C r :=
  ⟨g.os.trans h.os, g.tape.trans h.tape, g.output.trans h.output, Nat.le_trans h.size g.size, fun k hk hne => (g.block k (Nat.lt_of_lt_of_le hk h.size) hne).trans (h.block k hk hne)⟩
theorem grown_of_below {A B : World} (h : Below A.heap.size A B) (r : Option Nat) : A.grownBy B r := (below_grown h).but r

set_option maxRecDepth 100000 in
set_option maxHeartbeats 2000000 in
theorem put_any (g : Nat) (hg : isG g) (a0 a1 : Addr) (b : Nat) (M : List Ent) (hN : NumM M) (hM : M.length ≤ 1000000) (e : Ent) (hm : e.1.size ≤ 1000000) (hs : I64 e.2) (wt : Int) (hw : I64 wt) (w : World) (hE : Env a0 a1 w) (hI : MapIs w 2 b M) :
    Calls Tryd.prog 40 #[.map (some b), .agg #[.string e.1, .int .i64 e.2], .int .i64 wt, fvG g] w fun r w' =>
      w.grownBy w' (some b) ∧ match putS g M e wt with
        | some M' => r = .returned .nilIface ∧ MapIs w' 2 b M'
        | none => r = .returned (.iface 124 (.pointer (some a1))) ∧ MapIs w' 2 b M := by
  obtain ⟨m, s⟩ := e
  simp only at hm hs
  have HP := fun W => Lib.hid (mul_any s wt hs hw W)
  have hp64 := sumN_i64 (s * wt) 0
  have hz := fun W => Tryd.zeroValue2 W
  unfold putS
  simp only
  have hb1 := alloc_below w (.cells #[.string m, .int .i64 s] 38)
  have HB1 := Lib.hid hb1
  have hk := Blk.new w 38 #[.string m, .int .i64 s]
  obtain ⟨f0, f1, _, _⟩ := facts2 hk
  have HI := Lib.hid (fun W (hb : Below (w.alloc (.cells #[.string m, .int .i64 s] 38)).heap.size (w.alloc (.cells #[.string m, .int .i64 s] 38)) W) => (hI.alloc (.cells #[.string m, .int .i64 s] 38)).later hb)
  have HK := Lib.hid (fun W (hb : Below (w.alloc (.cells #[.string m, .int .i64 s] 38)).heap.size (w.alloc (.cells #[.string m, .int .i64 s] 38)) W) => facts2 (hk.later hb))
  have HEn := Lib.hid (fun W (hb : Below (w.alloc (.cells #[.string m, .int .i64 s] 38)).heap.size (w.alloc (.cells #[.string m, .int .i64 s] 38)) W) => (hE.later hb1).later hb)
  clear hI hE hk hb1
  cases hgm : getM M m with
  | none =>
    simp only
    rcases sumE_two (s * wt) 0 with he | he
    · rw [if_pos he]
      rw [he] at HP
      generalize sumN (s * wt) 0 = p at *
      clear he
      go_enter Tryd.func40, Tryd.ntmps40
      go_wp2_with fail
      refine (HP _).out.mono ?_
      rintro r w1 ⟨rfl, hb⟩
      obtain ⟨q0, q1, _, _⟩ := HK.out w1 hb
      have HI1 := Lib.hid (HI.out w1 hb)
      have HB := Lib.hid hb
      clear hb
      go_wp2_with (first
        | (at_lookup
           refine wpList_lookok rfl _ _ 43 rfl 2 Tryd.underlying43 Tryd.underlying2 (hz _) (b := b) (M := M) rfl HI1.out m rfl hm ?_
           rw [hgm]
           simp only [Option.getD_none, Option.isSome_none])
        | (at_mapUpdate
           refine wpList_put rfl _ _ _ 43 rfl 2 Tryd.underlying43 Tryd.underlying2 (b := b) (M := M) rfl HI1.out hM m p rfl rfl hm hp64 ?_
           intro W2 hM2 hg2
           have HM2 := Lib.hid hM2
           have HG2 := Lib.hid (grown_trans (grown_of_below (HB1.out.trans (HB.out.mono HB1.out.size)) _) hg2)
           clear hM2 hg2))
      go_ret
      exact ⟨HG2.out, rfl, HM2.out⟩
    · rw [if_neg (by rw [he]; decide)]
      rw [he] at HP
      generalize sumN (s * wt) 0 = p at *
      clear he
      go_enter Tryd.func40, Tryd.ntmps40
      go_wp2_with fail
      refine (HP _).out.mono ?_
      rintro r w1 ⟨rfl, hb⟩
      obtain ⟨q0, q1, _, _⟩ := HK.out w1 hb
      have q2 := (HEn.out w1 hb).g1
      have HI1 := Lib.hid (HI.out w1 hb)
      have HB := Lib.hid hb
      clear hb
      go_wp2_with (
          at_lookup
          refine wpList_lookok rfl _ _ 43 rfl 2 Tryd.underlying43 Tryd.underlying2 (hz _) (b := b) (M := M) rfl HI1.out m rfl hm ?_
          rw [hgm]
          simp only [Option.getD_none, Option.isSome_none])
      go_ret
      exact ⟨grown_of_below (HB1.out.trans (HB.out.mono HB1.out.size)) _, rfl, HI1.out⟩
  | some old =>
    simp only
    have ho64 := hN.get hgm
    have HJ := fun W => Lib.hid (join_any g hg old (sumN (s * wt) 0) ho64 hp64 W)
    have hj64 := joinN_i64 g ho64 hp64
    have hj2 := joinE_two g old (sumN (s * wt) 0)
    rcases sumE_two (s * wt) 0 with he | he
    · rw [if_pos he]
      rw [he] at HP
      generalize sumN (s * wt) 0 = p at *
      clear he
      generalize joinN g old p = jn at *
      have HJ64 := Lib.hid hj64
      have HM64 := Lib.hid hM
      have HMm := Lib.hid hm
      clear hj64 ho64 hs hw hN hM
      rcases hj2 with hj | hj
      · rw [if_pos hj]
        rw [hj] at HJ
        clear hj hp64
        rcases hg with rfl | rfl | rfl
        all_goals (
          unfold fvG
          simp only [Nat.reduceAdd] at HJ ⊢
          go_enter Tryd.func40, Tryd.ntmps40
          go_wp2_with fail
          refine (HP _).out.mono ?_
          rintro r w1 ⟨rfl, hb⟩
          obtain ⟨q0, q1, _, _⟩ := HK.out w1 hb
          have HI1 := Lib.hid (HI.out w1 hb)
          have HB := Lib.hid hb
          clear hb
          go_wp2_with (
           at_lookup
           refine wpList_lookok rfl _ _ 43 rfl 2 Tryd.underlying43 Tryd.underlying2 (hz _) (b := b) (M := M) rfl HI1.out m rfl HMm.out ?_
           rw [hgm]
           simp only [Option.getD_some, Option.isSome_some]
           clear hgm hz)
          refine (HJ _).out.mono ?_
          rintro r w2 ⟨rfl, hb⟩
          obtain ⟨q3, q4, _, _⟩ := HK.out w2 (HB.out.trans (hb.mono HB.out.size))
          have HI2 := Lib.hid (HI1.out.later hb)
          have HB2 := Lib.hid (HB1.out.trans ((HB.out.trans (hb.mono HB.out.size)).mono HB1.out.size))
          clear hb
          go_wp2_with (
            at_mapUpdate
            refine wpList_put rfl _ _ _ 43 rfl 2 Tryd.underlying43 Tryd.underlying2 (b := b) (M := M) rfl HI2.out HM64.out m jn rfl rfl HMm.out HJ64.out ?_
            intro W3 hM3 hg3
            have HM3 := Lib.hid hM3
            have HG3 := Lib.hid (grown_trans (grown_of_below HB2.out _) hg3)
            clear hM3 hg3)
          go_ret
          exact ⟨HG3.out, rfl, HM3.out⟩)
      · rw [if_neg (by rw [hj]; decide)]
        rw [hj] at HJ
        clear hj hp64
        rcases hg with rfl | rfl | rfl
        all_goals (
          unfold fvG
          simp only [Nat.reduceAdd] at HJ ⊢
          go_enter Tryd.func40, Tryd.ntmps40
          go_wp2_with fail
          refine (HP _).out.mono ?_
          rintro r w1 ⟨rfl, hb⟩
          obtain ⟨q0, q1, _, _⟩ := HK.out w1 hb
          have HI1 := Lib.hid (HI.out w1 hb)
          have HB := Lib.hid hb
          clear hb
          go_wp2_with (
           at_lookup
           refine wpList_lookok rfl _ _ 43 rfl 2 Tryd.underlying43 Tryd.underlying2 (hz _) (b := b) (M := M) rfl HI1.out m rfl HMm.out ?_
           rw [hgm]
           simp only [Option.getD_some, Option.isSome_some]
           clear hgm hz)
          refine (HJ _).out.mono ?_
          rintro r w2 ⟨rfl, hb⟩
          have q5 := (HEn.out w2 (HB.out.trans (hb.mono HB.out.size))).g1
          have HI2 := Lib.hid (HI1.out.later hb)
          have HB2 := Lib.hid (HB1.out.trans ((HB.out.trans (hb.mono HB.out.size)).mono HB1.out.size))
          clear hb
          go_wp2_with fail
          go_ret
          exact ⟨grown_of_below HB2.out _, rfl, HI2.out⟩)
    · rw [if_neg (by rw [he]; decide)]
      rw [he] at HP
      generalize sumN (s * wt) 0 = p at *
      clear he HJ hj64 hj2
      go_enter Tryd.func40, Tryd.ntmps40
      go_wp2_with fail
      refine (HP _).out.mono ?_
      rintro r w1 ⟨rfl, hb⟩
      obtain ⟨q0, q1, _, _⟩ := HK.out w1 hb
      have q2 := (HEn.out w1 hb).g1
      have HI1 := Lib.hid (HI.out w1 hb)
      have HB := Lib.hid hb
      clear hb
      go_wp2_with (
           at_lookup
           refine wpList_lookok rfl _ _ 43 rfl 2 Tryd.underlying43 Tryd.underlying2 (hz _) (b := b) (M := M) rfl HI1.out m rfl hm ?_
           rw [hgm]
           simp only [Option.getD_some, Option.isSome_some]
           clear hgm hz)
      go_ret
      exact ⟨grown_of_below (HB1.out.trans (HB.out.mono HB1.out.size)) _, rfl, HI1.out⟩
end Go.Proofs.YtjilfgkoibbcnaaDoor
