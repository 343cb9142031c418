/- The entries of scores, sorted. -/
import Derived.Test.YtjilfgkoibbcnaaDoorSame
namespace Go.Proofs.YtjilfgkoibbcnaaDoor
open Go.RowKit Go.Shelf Go.Sort
attribute [local go_sem] Oper.semAt_some

/-- What was collected so far. -/
structure Coll (M : List Ent) (left : Lit → Bool) (L : List Ent) : Prop where
  nd : NdM L
  got : ∀ x ∈ L, x ∈ M ∧ left (keyS x.1) = false
  all : ∀ x ∈ M, left (keyS x.1) = false → x ∈ L
theorem Coll.start {D : DataW Unit} {M : List Ent} (h : Like D M) : Coll M (Maps.has D) [] := ⟨List.nodup_nil, fun x hx => by simp at hx, fun x hx hl => by
  rw [h.has, (getM_mem h.nd x.1 x.2).2 hx] at hl; cases hl⟩
theorem Coll.step {D : DataW Unit} {M L : List Ent} {left : Lit → Bool} (hC : Coll M left L) (h : Like D M) (m : ByteArray) {c : Int} (hlk : left (keyS m) = true) (hat : ∀ z, D.atKey (keyS m) z = .lit (.int .i64 c)) :
    Coll M (fun z => left z && !z.sameKey (keyS m)) (L ++ [(m, c)]) ∧ (m, c) ∈ M := by
  have hhas := Maps.has_true_of_atKey hat
  rw [h.has] at hhas
  obtain ⟨s, hs⟩ := Option.isSome_iff_exists.1 hhas
  have hsc : s = c := by
    have := h.at_ m s hs (.lit (.bool true))
    rw [hat] at this
    injection this with this
    injection this with _ this
    exact this.symm
  subst hsc
  have hin := (getM_mem h.nd m s).1 hs
  have hnew : ∀ x ∈ L, x.1 ≠ m := fun x hx e => by have := (hC.got x hx).2; rw [e, hlk] at this; cases this
  have hsk : (keyS m).sameKey (keyS m) = true := by simp [keyS, Lit.sameKey]
  refine ⟨⟨?_, fun x hx => ?_, fun x hx hl => ?_⟩, hin⟩
  · unfold NdM
    rw [List.map_append]
    exact List.nodup_append.2 ⟨hC.nd, by simp, fun a ha b hb => by
      simp at hb; subst hb
      obtain ⟨x, hx, rfl⟩ := List.mem_map.1 ha
      exact hnew x hx⟩
  · rcases List.mem_append.1 hx with hx | hx
    · obtain ⟨h1, h2⟩ := hC.got x hx
      exact ⟨h1, by rw [h2]; rfl⟩
    · simp at hx
      subst hx
      exact ⟨hin, by rw [hsk]; simp⟩
  · by_cases e : x.1 = m
    · have h1 := (getM_mem h.nd x.1 x.2).2 hx
      rw [e, hs] at h1
      cases h1
      exact List.mem_append.2 (.inr (by rw [← e]; simp))
    · rw [Maps.sameKey_ne (keyS_ne e)] at hl
      exact List.mem_append.2 (.inl (hC.all x hx (by simpa using hl)))
theorem nd_of {M : List Ent} (h : NdM M) : M.Nodup := (List.pairwise_map.1 h).imp fun h e => h (by rw [e])
theorem Coll.perm {M L : List Ent} {left : Lit → Bool} (hC : Coll M left L) (hM : NdM M) (hl : ∀ kl, left kl = false) : L.Perm M :=
  (List.perm_ext_iff_of_nodup (nd_of hC.nd) (nd_of hM)).2 fun x => ⟨fun h => (hC.got x h).1, fun h => hC.all x h (hl _)⟩

set_option maxRecDepth 100000 in
set_option maxHeartbeats 2000000 in
theorem entries_any (b : Nat) (M : List Ent) (hM : M.length ≤ 1000000) (w : World) (hm : MapIs w 2 b M) :
    Calls Tryd.prog 31 #[.map (some b)] w fun e w' => ∃ r, e = .returned r ∧ Own w' w.heap.size r (sortS M) ∧ Below w.heap.size w w' := by
  obtain ⟨D, hown, hL⟩ := hm
  have hsz := hL.size
  have hnd := hL.nd
  have HL := Lib.hid hL
  have HD := Lib.hid hnd
  clear hL hnd
  go_enter Tryd.func31, Tryd.ntmps31
  go_wp2_with (first
    | (at_range; refine wpList_range_own _ rfl _ 43 rfl 9 2 law9 Tryd.underlying43 _ b _ _ rfl hown ?_; intro w0 hrg0 hg0 hs0)
    | go_in)
  go_frame
  rw [hsz] at hrg0
  go_loopw [3] (fun v wr => ∃ (r : Value) (left : Lit → Bool) (cnt : Nat) (L : List Ent), r = v ∧ wr.ranges Tryd.prog 9 (plainElem Tryd.prog 2) b w.heap.size M.length D left cnt ∧ L.length + cnt ≤ M.length ∧
      Own wr w.heap.size v L ∧ Hid (Coll M left L) ∧ Below w.heap.size w wr)
    (fun _ wr => wr.rangeLeft b w.heap.size)
  case atStart => exact ⟨_, _, _, [], rfl, hrg0, by simp, World.ownsRow_nil _ _ _ _, Lib.hid (Coll.start HL.out), (Below.refl _ _).grown hg0 (Nat.le_refl _) (fun j hj => by cases hj)⟩
  case round =>
    obtain ⟨r, left, cnt, L, rfl, hrg, hcs, hrow, hC, hnx⟩ := hrel
    clear hrg0 hg0 hs0 hsz
    go_wp2_with (first
      | (at_next; refine wpList_next_ranges _ rfl _ rfl 9 law9 (plainElem Tryd.prog 2) encStr (Value.int .i64) (fun key kl hk => by obtain ⟨x, hx, _⟩ := Maps.keyOf_str Tryd.underlying9 hk; exact ⟨x, hx⟩) (fun v y hv => by obtain ⟨c, rfl, _⟩ := plainElem_int_inv Tryd.underlying2 hv; exact ⟨c, rfl⟩) b w.heap.size _ _ _ _ rfl hrg ?_ ?_)
      | go_in)
    · intro hc0 hl0
      have hp := hC.out.perm HD.out hl0
      have HR := Lib.hid (sort_any r w.heap.size L (by omega) wr hrow)
      rw [sortS_of_perm hp] at HR
      have HB := Lib.hid hnx
      have HO := Lib.hid hrow
      clear hC hp hrow hnx hrg
      go_wp2_with fail
      refine HR.out.mono ?_
      rintro e w1 ⟨rfl, ho, hg⟩
      have HO1 := Lib.hid ho
      have HB1 := Lib.hid (HB.out.grown hg HB.out.size (fun k e => (World.ownsRow.lt HO.out k e).1))
      clear ho hg
      go_wp2_with fail
      go_ret
      exact ⟨_, rfl, HO1.out, HB1.out⟩
    · intro x c kl yd yp w2 cnt2 hkey hlk hv hat hrg2 hlt hg2 hs2 hen
      obtain ⟨x', ex, rfl, _⟩ := Maps.keyOf_str Tryd.underlying9 hkey
      obtain rfl : x = x' := encStr_inj ex
      obtain ⟨c', ec, hz, _⟩ := plainElem_int_inv Tryd.underlying2 hv
      cases ec
      have hyd : yd = .lit (.int .i64 c) := congrArg Prod.fst hz
      subst hyd
      obtain ⟨m, hm⟩ : ∃ m : ByteArray, m.data.toList = x := ⟨⟨x.toArray⟩, by simp⟩
      have hm2 : (⟨x.toArray⟩ : ByteArray) = m := ba_ext (by simp [hm])
      subst hm
      obtain ⟨hC2, _⟩ := hC.out.step HL.out m hlk hat
      have hrow2 := World.ownsRow.kept hrow hg2 (Or.inr (row_ne_iter hrow hrg).symm)
      have hbl := hrg.owns.lt
      unfold encStr at hen ⊢
      rw [hm2] at hen ⊢
      have HC2 := Lib.hid hC2
      have HN := Lib.hid hnx
      obtain ⟨g7, cap7, w7, hrun, hown7, hgrow⟩ := app_ent (W6 := w2) hrow2 (Below.refl _ _) (m, c) (by omega) (by have := hnx.size; have := hg2.size; omega)
      have hrg3 := (hrg2.alloc (.cells #[.string m, .int .i64 c] 38)).kept hgrow (by
          intro e1
          have := (World.ownsRow.lt hrow2 _ e1.symm).1
          have hb0 : b < w.heap.size := hown.lt
          omega) (row_ne_iter hrow2 hrg2)
      have HO7 := Lib.hid hown7
      have HR3 := Lib.hid hrg3
      have HLT := Lib.hid hlt
      have HRG := Lib.hid hrg
      have HB7 := Lib.hid (((hnx.grown hg2 hnx.size (fun j hj => by cases hj; exact Nat.le_refl _)).alloc (by have := hnx.size; have := hg2.size; omega) _).grown hgrow (by have := hnx.size; have := hg2.size; simp; omega) (fun j hj => (World.ownsRow.lt hrow2 j hj).1))
      clear hs2 hC2 hnx hrow hrow2 hrg hrg2 hown7 hgrow hrg3 hlt hat hv hlk hkey ex hm2 hz hg2 hbl
      go_wp2_with (at_builtin; refine wpList_append_ran rfl _ _ 26 26 rfl rfl rfl hrun ?_)
      go_roundw
      case rel => exact ⟨_, _, cnt2, L ++ [(m, c)], rfl, HR3.out, by have := HLT.out; simp; omega, HO7.out, HC2, HB7.out⟩
      case measure => rw [HR3.out.left_eq, HRG.out.left_eq]; exact HLT.out
end Go.Proofs.YtjilfgkoibbcnaaDoor
