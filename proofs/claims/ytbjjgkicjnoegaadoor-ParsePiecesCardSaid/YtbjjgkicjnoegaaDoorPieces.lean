/- The law ParsePieces's walk. -/
import Derived.Test.YtbjjgkicjnoegaaDoorMono
namespace Go.Proofs.YtbjjgkicjnoegaaDoor
open Go.RowKit Go.Shelf

/-- A list of numbers that can be read. -/
def Ints (W : World) (v : Value) (zs : List Int) : Prop :=
  ∃ a c, v = .slice a zs.length c ∧ ∀ i (h : i < zs.length), ∃ g o, a = some ⟨g, o, none⟩ ∧ W.cell? ⟨g, o + i, none⟩ = some (.int .i64 zs[i])

theorem all_told (b : Nat) (t : ByteArray) (w : World) (hP : PB w b t true) :
    Calls Tryd.prog 16 #[.pointer (some ⟨b, 0, none⟩), .int .i64 4000] w fun e w' => e = .returned (.tuple #[.slice none 0 0, .int .i64 40]) ∧ w' = w := by
  have H1 := Lib.hid (next_told b t w hP)
  clear hP
  go_enter Tryd.func16, Tryd.ntmps16
  go_wp2
  go_loopg [6, 7] 1 (fun _ sl i wr => sl = .slice none 0 0 ∧ i = .int .i64 0 ∧ wr = w)
  case atStart => exact ⟨rfl, rfl, rfl⟩
  case round =>
    obtain ⟨rfl, rfl, rfl⟩ := hrel
    go_wp2_with (go_at_call 18; refine H1.out.mono ?_; rintro e w1 ⟨rfl, rfl⟩)
    go_ret2
    exact ⟨rfl, rfl⟩

theorem ret_true {a b : Bool} (h : a = b) : Ending.returned (.bool a) = .returned (.bool b) := by rw [h]

theorem runS_len {T : Nat → Int} : ∀ {f : Nat} {acc : List (List UInt8)} {l : List UInt8}, (runS T f acc l).1.length ≤ acc.length + 65 * l.length
  | 0, acc, l => by rw [runS]; simp
  | f + 1, acc, l => by
    rw [runS]
    cases hs : argumentsS T l with
    | more => simp
    | wrong => simp
    | ok ss r =>
      have h1 := arguments_len hs
      have h2 := runS_len (T := T) (f := f) (acc := acc ++ nextL :: ss) (l := r)
      simp only [List.length_append, List.length_cons] at h2
      simp only
      omega

theorem size_of (z : Int) (n : Nat) : ∃ m : Nat, m ≤ n ∧ min (n : Int) (wrap64 ((IntKind.u64.wrap z).tmod 100)) = m := by
  have h1 : (0 : Int) ≤ IntKind.u64.wrap z := by
    unfold IntKind.wrap
    simp only [show IntKind.u64.signed = false from rfl, Bool.false_and, Bool.false_eq_true, if_false]
    exact Int.emod_nonneg _ (by decide)
  have h2 : 0 ≤ (IntKind.u64.wrap z).tmod 100 := Int.tmod_nonneg _ h1
  have h3 : (IntKind.u64.wrap z).tmod 100 < 100 := Int.tmod_lt_of_pos _ (by decide)
  have h4 : wrap64 ((IntKind.u64.wrap z).tmod 100) = (IntKind.u64.wrap z).tmod 100 := by
    generalize (IntKind.u64.wrap z).tmod 100 = y at *
    unfold wrap64
    omega
  rw [h4]
  generalize (IntKind.u64.wrap z).tmod 100 = y at *
  exact ⟨(min (n : Int) y).toNat, by omega, by omega⟩

set_option maxRecDepth 100000 in
set_option maxHeartbeats 2000000 in
theorem texts_more (va vb : Value) (A B : List (List UInt8)) (hA : A.length ≤ 1000000) (hB : B.length ≤ 1000000) (w : World) (ha : Strs w va A) (hb : Strs w vb B) :
    Calls Tryd.prog 12 #[va, vb] w fun e w' => e = .returned (.bool (decide (A = B))) ∧ ∃ n, w' = w.drewN n := by
  obtain ⟨a1, c1, rfl, h1⟩ := ha
  obtain ⟨a2, c2, rfl, h2⟩ := hb
  by_cases hl : A.length = B.length
  · have hl' : ((A.length : Int) != B.length) = false := by simp [hl]
    go_enter Tryd.func12, Tryd.ntmps12
    go_wp2
    go_loopw [5] (fun i wr => ∃ (k m : Nat), i = .int .i64 k ∧ k ≤ A.length ∧ wr = w.drewN m ∧ Hid (A.take k = B.take k)) (fun i _ => A.length - (intOf i).toNat)
    case atStart => exact ⟨0, 0, rfl, Nat.zero_le _, rfl, Lib.hid (by simp)⟩
    case round =>
      obtain ⟨k, m, rfl, hk, rfl, ht⟩ := hrel
      by_cases hlt : k < A.length
      · obtain ⟨g1, o1, e1, x1⟩ := h1 k hlt
        obtain ⟨g2, o2, e2, x2⟩ := h2 k (by omega)
        subst e1 e2
        have hlt2 : k < B.length := by omega
        unfold strV at x1 x2
        have d := strV_ne (a := A[k]) (b := B[k])
        have HD := Lib.hid d
        clear d
        generalize hak : A[k] = p at *
        generalize hbk : B[k] = q at *
        have HA1 := Lib.hid hak
        have HB1 := Lib.hid hbk
        clear hak hbk h1 h2
        go_wp2
        go_quiet (fail)
        go_wp2
        · have hx : (!(ba p).toList == (ba q).toList) = true := by assumption
          have hpq : p ≠ q := by
            have := HD.out
            rw [show ((ba p).toList != (ba q).toList) = true from hx] at this
            simpa using this.symm
          go_ret
          exact ⟨by rw [decide_eq_false (fun e : A = B => by subst e; exact hpq (HA1.out.symm.trans HB1.out))]; rfl, _, World.drewN_drewN _ _ _⟩
        · have hx : (!(ba p).toList == (ba q).toList) = false := by assumption
          have hpq : p = q := by
            have := HD.out
            rw [show ((ba p).toList != (ba q).toList) = false from hx] at this
            simpa using this.symm
          go_roundw
          case rel => exact ⟨k + 1, _, by go_num, hlt, rfl, Lib.hid (by
            rw [List.take_succ_eq_append_getElem hlt, List.take_succ_eq_append_getElem hlt2, ht.out, HA1.out, HB1.out, hpq])⟩
          case measure => simp [intOf]; omega
      · have HT := Lib.hid (show decide (A = B) = true by
          rw [decide_eq_true_iff]
          have := ht.out
          rwa [List.take_of_length_le (by omega), List.take_of_length_le (by omega)] at this)
        clear h1 h2
        go_wp2
        go_ret
        exact ⟨by rw [HT.out]; rfl, _, rfl⟩
  · have hl' : ((A.length : Int) != B.length) = true := by simp; omega
    go_enter Tryd.func12, Tryd.ntmps12
    go_wp2
    go_ret
    exact ⟨by rw [decide_eq_false (fun e => hl (by rw [e]))]; rfl, 0, rfl⟩

theorem cut_any (s : ByteArray) (hs : s.size ≤ 9223372036854775807) (w : World) : Calls Tryd.prog 13 #[.string s] w fun e w' => (∃ l : List UInt8, l.length ≤ 3000 ∧ e = .returned (.string (ba l))) ∧ w' = w := by
  go_enter Tryd.func13, Tryd.ntmps13
  go_wp2
  go_ret
  refine ⟨⟨(s.extract 0 (min (s.size : Int) 3000).toNat).data.toList, ?_, by rw [ba_of]; rfl⟩, rfl⟩
  rw [size_list, ByteArray.size_extract]
  omega

set_option maxRecDepth 100000 in
set_option maxHeartbeats 8000000 in
theorem pieces_any {T : Nat → Int} (s : ByteArray) (hs : s.size ≤ 9223372036854775807) (v : Value) (zs : List Int) (hzl : zs.length ≤ 9223372036854775807) (_hzr : ∀ z ∈ zs, i64R z) (w : World) (hE : Env T w) (hv : Ints w v zs) :
    Calls Tryd.prog 4 #[.string s, v] w fun e w' => e = .returned (.bool true) ∧ Below w.heap.size w w' := by
  obtain ⟨a, c, rfl, hc⟩ := hv
  obtain ⟨i0, hi0, hz0, hz1, hz2⟩ := info_parts Tryd.info9
  have H := Lib.hid (shown_any w hE)
  have HEE := Lib.hid hE
  have HC := Lib.hid hc
  clear hE hc
  have HN := fun w => Lib.hid (new_any w)
  go_enter Tryd.func4, Tryd.ntmps4
  have HU := fun w => Lib.hid (cut_any s hs w)
  go_wp2_with (first | (go_at_call 8; refine H.out.mono ?_; rintro e w1 ⟨rfl, hb⟩) | (go_at_call 13; refine (HU _).out.mono ?_; rintro e w1' ⟨⟨l, hl, rfl⟩, rfl⟩) | (go_at_call 14; refine (HN _).out.mono ?_; rintro e w2 ⟨rfl, rfl⟩))
  have hbz := hb.size
  have hP0 : PB ((w1'.alloc (.cells #[.string ⟨#[]⟩, .bool false] 53)).alloc (.cells #[.string ⟨#[]⟩, .bool false] 53)) w1'.heap.size ⟨#[]⟩ false := (show PB (w1'.alloc (.cells #[.string ⟨#[]⟩, .bool false] 53)) w1'.heap.size ⟨#[]⟩ false from heap_at rfl).later ((Below.refl _ _).alloc (Nat.le_refl _) _)
  have hQ0 : PB ((w1'.alloc (.cells #[.string ⟨#[]⟩, .bool false] 53)).alloc (.cells #[.string ⟨#[]⟩, .bool false] 53)) (w1'.heap.size + 1) ⟨#[]⟩ false := heap_at (by simp)
  have hE0 := ((HEE.out.later hb).alloc (.cells #[.string ⟨#[]⟩, .bool false] 53)).alloc (.cells #[.string ⟨#[]⟩, .bool false] 53)
  have hB0 : Below w.heap.size w ((w1'.alloc (.cells #[.string ⟨#[]⟩, .bool false] 53)).alloc (.cells #[.string ⟨#[]⟩, .bool false] 53)) := (hb.alloc hbz _).alloc (by simp; omega) _
  have hwp : w.heap.size ≤ w1'.heap.size := hbz
  have hw4 : 4 ≤ w.heap.size := HEE.out.size
  generalize (w1'.alloc (.cells #[.string ⟨#[]⟩, .bool false] 53)).alloc (.cells #[.string ⟨#[]⟩, .bool false] 53) = w2 at *
  generalize hpp : w1'.heap.size = p at *
  have hlz : (ba l).size = l.length := by rw [← size_list, ba_list]
  have hle : (⟨#[]⟩ ++ ba l : ByteArray).data.toList = l := by rw [ByteArray.toList_data_append]; rfl
  have hls : (⟨#[]⟩ ++ ba l : ByteArray).size = l.length := by rw [← size_list, hle]
  have F1 := Lib.hid (feed_ok p ⟨#[]⟩ (ba l) w2 hP0 (by rw [hlz]; show 0 + l.length ≤ _; omega))
  refine F1.out.mono ?_
  rintro e w3 ⟨rfl, rfl⟩
  clear F1
  have hP1 := hP0.set0 (⟨#[]⟩ ++ ba l)
  have hg1 := grown_set w2 p 0 (.string (⟨#[]⟩ ++ ba l))
  have hQ1 := hQ0.kept hg1 (by simp)
  have hE1 := hE0.grown hg1 (by omega)
  have hB1 := hB0.setCell (p := ⟨p, 0, none⟩) hwp (.string (⟨#[]⟩ ++ ba l))
  generalize w2.setCell ⟨p, 0, none⟩ (.string (⟨#[]⟩ ++ ba l)) = w3 at *
  have A1 := all_any p (by omega) (⟨#[]⟩ ++ ba l) (by rw [hls]; omega) w3 hE1 hP1
  rw [hle] at A1
  have A2 := Lib.hid A1
  have HQ := Lib.hid hQ1
  have HE := Lib.hid hE1
  have HB := Lib.hid hB1
  clear A1 hP0 hQ0 hE0 hB0 hP1 hg1 hQ1 hE1 hB1 hb
  go_wp2_with fail
  refine A2.out.mono ?_
  rintro e w4 ⟨vw, rfl, hg4, hP4, how⟩
  clear A2
  have hQ4 := HQ.out.kept hg4 (by simp)
  have hE4 := HE.out.grown hg4 (by omega)
  have hB4 := HB.out.grown hg4 HB.out.size (fun k e => by cases e; exact hwp)
  have hw34 := hg4.size
  have hq3 : p + 1 < w4.heap.size := hQ4.lt
  have hq33 : p + 1 < w3.heap.size := HQ.out.lt
  have hcode := (runS_code (T := T) (f := 4000) (acc := []) (l := l) (by omega))
  generalize hRL : runS T 4000 [] l = RL at *
  have HP4 := Lib.hid hP4
  have HQ4 := Lib.hid hQ4
  have HE4 := Lib.hid hE4
  have HB4 := Lib.hid hB4
  have HOW := Lib.hid how
  have HRL := Lib.hid hRL
  clear hP4 hQ4 hE4 hB4 how HQ HE HB hRL
  have h0 : runS T 4000 [] (l.take 0) = ([], 31, []) := by rw [List.take_zero, runS, arguments_nil]
  go_wp2
  go_loopg [11, 12, 13, 14] (min zs.length 60 + 1) (fun g gv ev rv iv wr => ∃ (v : Value) (k m : Nat) (t : ByteArray), v = gv ∧ iv = .int .i64 k ∧ g + k = min zs.length 60 + 1 ∧ m ≤ l.length ∧ (g = 0 → m = l.length) ∧ rv = .string (ba (l.drop m)) ∧
    ev = .int .i64 (runS T 4000 [] (l.take m)).2.1 ∧ Owned wr w4.heap.size v (runS T 4000 [] (l.take m)).1 ∧ PB wr (p + 1) t (decide ((runS T 4000 [] (l.take m)).2.1 = 40)) ∧ ((runS T 4000 [] (l.take m)).2.1 = 31 → t = ba (runS T 4000 [] (l.take m)).2.2) ∧ w4.grownBy wr (some (p + 1)))
  case atStart => exact ⟨_, 0, 0, ⟨#[]⟩, rfl, rfl, by omega, by omega, fun h => by omega, rfl, by rw [h0], by rw [h0]; exact World.ownsRow_nil _ _ _ _, by rw [h0]; exact HQ4.out, fun _ => by rw [h0]; rfl, grown_refl _ _⟩
  case round =>
    clear h0
    obtain ⟨gv, k, m, t, rfl, rfl, hgk, hml, hmN, rfl, rfl, hog, hPq, ht, hg⟩ := hrel
    have hB := HB4.out.grown hg HB4.out.size (fun k e => by cases e; omega)
    have hEr := HE4.out.grown hg (by omega)
    have hPp := HP4.out.kept hg (by simp)
    have hcr := runS_code (T := T) (f := 4000) (acc := []) (l := l.take m) (by rw [List.length_take]; omega)
    rw [List.length_take] at hcr
    by_cases hk : k < min zs.length 60 + 1
    · obtain ⟨f, rfl⟩ : ∃ f, gk = f + 1 := ⟨gk - 1, by omega⟩
      have hk1 : (k : Int) ≤ zs.length := by omega
      have hk2 : (k : Int) ≤ 60 := by omega
      generalize hR : runS T 4000 [] (l.take m) = R at *
      generalize hrr : l.drop m = rr at *
      have hrz : (ba rr).size = rr.length := by rw [← size_list, ba_list]
      have hrl : rr.length = l.length - m := by rw [← hrr, List.length_drop]
      have HX2 : Hid (∀ n, (ba rr).extract n rr.length = ba (l.drop (m + n))) := Lib.hid (fun n => ba_eq (by rw [extract_list, ba_list, List.take_of_length_le (Nat.le_refl _), ← hrr, List.drop_drop]))
      have HX1 : Hid (∀ n, (ba rr).extract 0 n = ba (rr.take n)) := Lib.hid (fun n => ba_eq (by rw [extract_list, ba_list]; simp))
      have HTK : Hid (∀ n, l.take (m + n) = l.take m ++ rr.take n) := Lib.hid (fun n => by rw [List.take_add, hrr])
      have HR := Lib.hid hR
      have HRL2 := Lib.hid hrl
      have hmr : m + rr.length = l.length := by omega
      clear hrr hR hrl
      rcases hcr.1 with hc31 | hc40
      · obtain rfl := ht hc31
        have hPq' : PB wr (p + 1) (ba R.2.2) false := by rw [hc31] at hPq; exact hPq
        have hog' : World.ownsRow wr w4.heap.size 9 1 gv R.1.length (R.1.map strV) := hog
        have hR1 : R.1.length ≤ 400000 := by rw [← HR.out]; exact Nat.le_trans runS_len (by rw [List.length_take]; simp; omega)
        have hR2 : (ba R.2.2).size = R.2.2.length := by rw [← size_list, ba_list]
        have hR3 : R.2.2.length ≤ 3000 := by omega
        have hsx : ∀ n, ((ba rr).extract 0 n).size ≤ rr.length := fun n => by rw [ByteArray.size_extract, hrz]; omega
        have hob : ∀ {W : World} {v : Value} {n : Nat} {xs : List Value}, W.ownsRow w4.heap.size 9 1 v n xs → v.ownBlock = none ∨ v.ownBlock ≠ some (p + 1) := fun h => by
          rename_i W v _ _
          cases hv : v.ownBlock with
          | none => exact .inl rfl
          | some g => exact .inr (fun e => by have := (h.lt g hv).1; cases e; omega)
        have HF : ∀ n ≤ rr.length, Hid (Calls Tryd.prog 15 #[.pointer (some ⟨p + 1, 0, none⟩), .string ((ba rr).extract 0 n)] wr fun e w' => e = .returned (.int .i64 0) ∧ w' = wr.setCell ⟨p + 1, 0, none⟩ (.string (ba R.2.2 ++ (ba rr).extract 0 n))) := fun n _ => Lib.hid (feed_ok (p + 1) (ba R.2.2) _ wr hPq' (by have := hsx n; omega))
        have HA := fun n (_ : n ≤ rr.length) => Lib.hid (all_any (T := T) (p + 1) (by omega) (ba R.2.2 ++ (ba rr).extract 0 n) (by have := hsx n; rw [ByteArray.size_append]; omega) (wr.setCell ⟨p + 1, 0, none⟩ (.string (ba R.2.2 ++ (ba rr).extract 0 n))) (hEr.grown (grown_set _ _ _ _) (by omega)) (hPq'.set0 _))
        have hXA : ∀ n, (ba R.2.2 ++ (ba rr).extract 0 n).data.toList = R.2.2 ++ rr.take n := fun n => by rw [ByteArray.toList_data_append, HX1.out n]; rfl
        simp only [hXA] at HA
        have HTN : ∀ n, runS T 4000 [] (l.take (m + n)) = (R.1 ++ (runS T 4000 [] (R.2.2 ++ rr.take n)).1, (runS T 4000 [] (R.2.2 ++ rr.take n)).2) := fun n => by
          rw [HTK.out n, runS_more (rr.take n) (o := R.1) (r := R.2.2) (by rw [← HTK.out n, List.length_take]; omega) (by rw [HR.out, ← hc31]), runS_acc]
        rcases (by omega : (k < zs.length ∧ k < 60) ∨ zs.length ≤ k ∨ (k < zs.length ∧ 60 ≤ k)) with hin | hin | hin
        · obtain ⟨hi1, hi2⟩ := hin
          have hi3 : (k : Int) < zs.length := by omega
          have hi4 : (k : Int) < 60 := by omega
          obtain ⟨g, o, rfl, hx0⟩ := HC.out k hi1
          have hx1 : wr.cell? ⟨g, o + k, none⟩ = some (.int .i64 zs[k]) := (hB.cell (p := ⟨g, o + k, none⟩) (World.block_lt_of_cell? _ _ hx0)).trans hx0
          generalize zs[k] = z at *
          clear hx0
          obtain ⟨n, hnl, hmin⟩ := size_of z rr.length
          have hx2 : (ba rr).extract n rr.length = ba (l.drop (m + n)) := HX2.out n
          have hnf : f ≠ 0 := by omega
          go_wp2_with (go_at_call 15; refine (HF n hnl).out.mono ?_; rintro e w5 ⟨rfl, rfl⟩)
          refine (HA n hnl).out.mono ?_
          rintro e w6 ⟨lv, rfl, hg6, hb6, hol⟩
          have HT := HTN n
          have hA1 : (runS T 4000 [] (R.2.2 ++ rr.take n)).1.length ≤ 400000 := Nat.le_trans runS_len (by rw [List.length_append, List.length_take]; simp; omega)
          generalize runS T 4000 [] (R.2.2 ++ rr.take n) = A at *
          have hg5 := (hg.trans (grown_set wr (p + 1) 0 (.string (ba R.2.2 ++ (ba rr).extract 0 n))))
          have hog6 : World.ownsRow w6 w4.heap.size 9 1 gv R.1.length (R.1.map strV) := World.ownsRow.kept (World.ownsRow.kept hog' (grown_set wr (p + 1) 0 _) (hob hog')) hg6 (hob hog')
          have hw56 : wr.heap.size ≤ w6.heap.size := by have := hg6.size; simpa using this
          have hw44 := hg.size
          have hgl := hog'.lt
          have hll : ∀ g, lv.ownBlock = some g → wr.heap.size ≤ g := fun g e => by have := (hol.lt g e).1; simpa using this
          have hlo : ∀ g, gv.ownBlock = some g → w4.heap.size ≤ g := fun g e => (hgl g e).1
          have hoc : ∀ (u : Value), u ∈ A.1.map strV → u.oneCell' = true := fun u hu => by
            obtain ⟨x, _, rfl⟩ := List.mem_map.1 hu
            rfl
          rcases hol.2 with ⟨hl0, hs0⟩ | ⟨lg, lcap, cur, hlg, _⟩
          · subst hl0
            have hA0 : A.1 = [] := List.eq_nil_of_length_eq_zero hs0
            go_wp2_with (at_builtin; refine wpList_append_own_none rfl _ _ 22 rfl w4.heap.size 9 i0 1 Tryd.underlying22 hi0 _ _ _ rfl hog6 rfl ?_)
            go_roundg f
            case measure => omega
            case rel => exact ⟨_, k + 1, m + n, _, rfl, by go_num, by omega, by omega, fun _ => by omega, by first | rfl | rw [hx2] | (rw [List.drop_eq_nil_of_le (by omega)]; rfl), by rw [HT], by rw [HT, hA0, List.append_nil]; exact hog6, by rw [HT]; exact hb6, fun _ => by rw [HT], hg5.trans hg6⟩
          · subst hlg
            have hAl : (A.1.map strV).length = A.1.length * 1 := by simp
            go_wp2_with (at_builtin; refine wpList_append_own _ rfl _ _ 22 rfl w4.heap.size 9 i0 (.string ⟨#[]⟩) 1 16 Tryd.underlying22 hi0 hz0 hz1 hz2 rfl (by decide) _ _ _ rfl hog6 ⟨lg, 0, none⟩ A.1.length lcap (A.1.map strV) rfl hAl (hol.cells rfl) hoc (by unfold maxLen; omega) (by omega) (by omega) ?_; intro v7 w7 hown7 hgrow _)
            have hgrow' : w6.grownBy w7 gv.ownBlock := hgrow
            go_roundg f
            case measure => omega
            case rel => exact ⟨_, k + 1, m + n, _, rfl, by go_num, by omega, by omega, fun _ => by omega, by first | rfl | rw [hx2] | (rw [List.drop_eq_nil_of_le (by omega)]; rfl), by rw [HT], by rw [HT]; show World.ownsRow _ _ _ _ _ _ _; rw [List.map_append, List.length_append]; exact hown7, by rw [HT]; exact hb6.kept hgrow' (fun e => by have := hlo (p + 1) e.symm; omega), fun _ => by rw [HT], grown_new (hg5.trans hg6) hgrow' hlo⟩
        · have hnl := Nat.le_refl rr.length
          have hx2 : (ba rr).extract rr.length rr.length = ba (l.drop (m + rr.length)) := HX2.out rr.length
          have hi3 : ¬ ((k : Int) < zs.length) := by omega
          go_wp2_with (go_at_call 15; refine (HF rr.length hnl).out.mono ?_; rintro e w5 ⟨rfl, rfl⟩)
          refine (HA rr.length hnl).out.mono ?_
          rintro e w6 ⟨lv, rfl, hg6, hb6, hol⟩
          have HT := HTN rr.length
          have hA1 : (runS T 4000 [] (R.2.2 ++ rr.take rr.length)).1.length ≤ 400000 := Nat.le_trans runS_len (by rw [List.length_append, List.length_take]; simp; omega)
          generalize runS T 4000 [] (R.2.2 ++ rr.take rr.length) = A at *
          have hg5 := (hg.trans (grown_set wr (p + 1) 0 (.string (ba R.2.2 ++ (ba rr).extract 0 rr.length))))
          have hog6 : World.ownsRow w6 w4.heap.size 9 1 gv R.1.length (R.1.map strV) := World.ownsRow.kept (World.ownsRow.kept hog' (grown_set wr (p + 1) 0 _) (hob hog')) hg6 (hob hog')
          have hw56 : wr.heap.size ≤ w6.heap.size := by have := hg6.size; simpa using this
          have hw44 := hg.size
          have hgl := hog'.lt
          have hll : ∀ g, lv.ownBlock = some g → wr.heap.size ≤ g := fun g e => by have := (hol.lt g e).1; simpa using this
          have hlo : ∀ g, gv.ownBlock = some g → w4.heap.size ≤ g := fun g e => (hgl g e).1
          have hoc : ∀ (u : Value), u ∈ A.1.map strV → u.oneCell' = true := fun u hu => by
            obtain ⟨x, _, rfl⟩ := List.mem_map.1 hu
            rfl
          rcases hol.2 with ⟨hl0, hs0⟩ | ⟨lg, lcap, cur, hlg, _⟩
          · subst hl0
            have hA0 : A.1 = [] := List.eq_nil_of_length_eq_zero hs0
            go_wp2_with (at_builtin; refine wpList_append_own_none rfl _ _ 22 rfl w4.heap.size 9 i0 1 Tryd.underlying22 hi0 _ _ _ rfl hog6 rfl ?_)
            go_roundg f
            case measure => omega
            case rel => exact ⟨_, k + 1, m + rr.length, _, rfl, by go_num, by omega, by omega, fun _ => by omega, by first | rfl | rw [hx2] | (rw [List.drop_eq_nil_of_le (by omega)]; rfl), by rw [HT], by rw [HT, hA0, List.append_nil]; exact hog6, by rw [HT]; exact hb6, fun _ => by rw [HT], hg5.trans hg6⟩
          · subst hlg
            have hAl : (A.1.map strV).length = A.1.length * 1 := by simp
            go_wp2_with (at_builtin; refine wpList_append_own _ rfl _ _ 22 rfl w4.heap.size 9 i0 (.string ⟨#[]⟩) 1 16 Tryd.underlying22 hi0 hz0 hz1 hz2 rfl (by decide) _ _ _ rfl hog6 ⟨lg, 0, none⟩ A.1.length lcap (A.1.map strV) rfl hAl (hol.cells rfl) hoc (by unfold maxLen; omega) (by omega) (by omega) ?_; intro v7 w7 hown7 hgrow _)
            have hgrow' : w6.grownBy w7 gv.ownBlock := hgrow
            go_roundg f
            case measure => omega
            case rel => exact ⟨_, k + 1, m + rr.length, _, rfl, by go_num, by omega, by omega, fun _ => by omega, by first | rfl | rw [hx2] | (rw [List.drop_eq_nil_of_le (by omega)]; rfl), by rw [HT], by rw [HT]; show World.ownsRow _ _ _ _ _ _ _; rw [List.map_append, List.length_append]; exact hown7, by rw [HT]; exact hb6.kept hgrow' (fun e => by have := hlo (p + 1) e.symm; omega), fun _ => by rw [HT], grown_new (hg5.trans hg6) hgrow' hlo⟩
        · have hnl := Nat.le_refl rr.length
          have hx2 : (ba rr).extract rr.length rr.length = ba (l.drop (m + rr.length)) := HX2.out rr.length
          have hi3 : (k : Int) < zs.length := by omega
          have hi4 : ¬ ((k : Int) < 60) := by omega
          go_wp2_with (go_at_call 15; refine (HF rr.length hnl).out.mono ?_; rintro e w5 ⟨rfl, rfl⟩)
          refine (HA rr.length hnl).out.mono ?_
          rintro e w6 ⟨lv, rfl, hg6, hb6, hol⟩
          have HT := HTN rr.length
          have hA1 : (runS T 4000 [] (R.2.2 ++ rr.take rr.length)).1.length ≤ 400000 := Nat.le_trans runS_len (by rw [List.length_append, List.length_take]; simp; omega)
          generalize runS T 4000 [] (R.2.2 ++ rr.take rr.length) = A at *
          have hg5 := (hg.trans (grown_set wr (p + 1) 0 (.string (ba R.2.2 ++ (ba rr).extract 0 rr.length))))
          have hog6 : World.ownsRow w6 w4.heap.size 9 1 gv R.1.length (R.1.map strV) := World.ownsRow.kept (World.ownsRow.kept hog' (grown_set wr (p + 1) 0 _) (hob hog')) hg6 (hob hog')
          have hw56 : wr.heap.size ≤ w6.heap.size := by have := hg6.size; simpa using this
          have hw44 := hg.size
          have hgl := hog'.lt
          have hll : ∀ g, lv.ownBlock = some g → wr.heap.size ≤ g := fun g e => by have := (hol.lt g e).1; simpa using this
          have hlo : ∀ g, gv.ownBlock = some g → w4.heap.size ≤ g := fun g e => (hgl g e).1
          have hoc : ∀ (u : Value), u ∈ A.1.map strV → u.oneCell' = true := fun u hu => by
            obtain ⟨x, _, rfl⟩ := List.mem_map.1 hu
            rfl
          rcases hol.2 with ⟨hl0, hs0⟩ | ⟨lg, lcap, cur, hlg, _⟩
          · subst hl0
            have hA0 : A.1 = [] := List.eq_nil_of_length_eq_zero hs0
            go_wp2_with (at_builtin; refine wpList_append_own_none rfl _ _ 22 rfl w4.heap.size 9 i0 1 Tryd.underlying22 hi0 _ _ _ rfl hog6 rfl ?_)
            go_roundg f
            case measure => omega
            case rel => exact ⟨_, k + 1, m + rr.length, _, rfl, by go_num, by omega, by omega, fun _ => by omega, by first | rfl | rw [hx2] | (rw [List.drop_eq_nil_of_le (by omega)]; rfl), by rw [HT], by rw [HT, hA0, List.append_nil]; exact hog6, by rw [HT]; exact hb6, fun _ => by rw [HT], hg5.trans hg6⟩
          · subst hlg
            have hAl : (A.1.map strV).length = A.1.length * 1 := by simp
            go_wp2_with (at_builtin; refine wpList_append_own _ rfl _ _ 22 rfl w4.heap.size 9 i0 (.string ⟨#[]⟩) 1 16 Tryd.underlying22 hi0 hz0 hz1 hz2 rfl (by decide) _ _ _ rfl hog6 ⟨lg, 0, none⟩ A.1.length lcap (A.1.map strV) rfl hAl (hol.cells rfl) hoc (by unfold maxLen; omega) (by omega) (by omega) ?_; intro v7 w7 hown7 hgrow _)
            have hgrow' : w6.grownBy w7 gv.ownBlock := hgrow
            go_roundg f
            case measure => omega
            case rel => exact ⟨_, k + 1, m + rr.length, _, rfl, by go_num, by omega, by omega, fun _ => by omega, by first | rfl | rw [hx2] | (rw [List.drop_eq_nil_of_le (by omega)]; rfl), by rw [HT], by rw [HT]; show World.ownsRow _ _ _ _ _ _ _; rw [List.map_append, List.length_append]; exact hown7, by rw [HT]; exact hb6.kept hgrow' (fun e => by have := hlo (p + 1) e.symm; omega), fun _ => by rw [HT], grown_new (hg5.trans hg6) hgrow' hlo⟩
      · have hPq' : PB wr (p + 1) t true := by rw [hc40] at hPq; exact hPq
        have hog' : World.ownsRow wr w4.heap.size 9 1 gv R.1.length (R.1.map strV) := hog
        have HF := Lib.hid (fun x => feed_told (p + 1) t x wr hPq')
        have HA := Lib.hid (all_told (p + 1) t wr hPq')
        have HT : ∀ n, ∃ r', runS T 4000 [] (l.take (m + n)) = (R.1, 40, r') := fun n => ⟨_, by rw [HTK.out n]; exact runS_bad _ (by rw [HR.out, ← hc40])⟩
        rcases (by omega : (k < zs.length ∧ k < 60) ∨ zs.length ≤ k ∨ (k < zs.length ∧ 60 ≤ k)) with hin | hin | hin
        · obtain ⟨hi1, hi2⟩ := hin
          have hi3 : (k : Int) < zs.length := by omega
          have hi4 : (k : Int) < 60 := by omega
          obtain ⟨g, o, rfl, hx0⟩ := HC.out k hi1
          have hx1 : wr.cell? ⟨g, o + k, none⟩ = some (.int .i64 zs[k]) := (hB.cell (p := ⟨g, o + k, none⟩) (World.block_lt_of_cell? _ _ hx0)).trans hx0
          generalize zs[k] = z at *
          clear hx0
          obtain ⟨n, hnl, hmin⟩ := size_of z rr.length
          have hx2 : (ba rr).extract n rr.length = ba (l.drop (m + n)) := HX2.out n
          have hnf : f ≠ 0 := by omega
          go_wp2_with (first
            | (go_at_call 15; refine (HF.out _).mono ?_; rintro e w5 ⟨rfl, rfl⟩)
            | (go_at_call 16; refine HA.out.mono ?_; rintro e w6 ⟨rfl, rfl⟩)
            | (at_builtin; refine wpList_append_own_none rfl _ _ 22 rfl w4.heap.size 9 i0 1 Tryd.underlying22 hi0 _ _ _ rfl hog' rfl ?_))
          go_roundg f
          case measure => omega
          case rel =>
            obtain ⟨r', hr'⟩ := HT n
            exact ⟨_, k + 1, m + n, t, rfl, by go_num, by omega, by omega, fun _ => by omega, by first | rfl | rw [hx2] | (rw [List.drop_eq_nil_of_le (by omega)]; rfl), by rw [hr'], by rw [hr']; exact hog, by rw [hr']; exact hPq', fun h => by rw [hr'] at h; simp at h, hg⟩
        · have hnl := Nat.le_refl rr.length
          have hx2 : (ba rr).extract rr.length rr.length = ba (l.drop (m + rr.length)) := HX2.out rr.length
          have hi3 : ¬ ((k : Int) < zs.length) := by omega
          go_wp2_with (first
            | (go_at_call 15; refine (HF.out _).mono ?_; rintro e w5 ⟨rfl, rfl⟩)
            | (go_at_call 16; refine HA.out.mono ?_; rintro e w6 ⟨rfl, rfl⟩)
            | (at_builtin; refine wpList_append_own_none rfl _ _ 22 rfl w4.heap.size 9 i0 1 Tryd.underlying22 hi0 _ _ _ rfl hog' rfl ?_))
          go_roundg f
          case measure => omega
          case rel =>
            obtain ⟨r', hr'⟩ := HT rr.length
            exact ⟨_, k + 1, m + rr.length, t, rfl, by go_num, by omega, by omega, fun _ => by omega, by first | rfl | rw [hx2] | (rw [List.drop_eq_nil_of_le (by omega)]; rfl), by rw [hr'], by rw [hr']; exact hog, by rw [hr']; exact hPq', fun h => by rw [hr'] at h; simp at h, hg⟩
        · have hnl := Nat.le_refl rr.length
          have hx2 : (ba rr).extract rr.length rr.length = ba (l.drop (m + rr.length)) := HX2.out rr.length
          have hi3 : (k : Int) < zs.length := by omega
          have hi4 : ¬ ((k : Int) < 60) := by omega
          go_wp2_with (first
            | (go_at_call 15; refine (HF.out _).mono ?_; rintro e w5 ⟨rfl, rfl⟩)
            | (go_at_call 16; refine HA.out.mono ?_; rintro e w6 ⟨rfl, rfl⟩)
            | (at_builtin; refine wpList_append_own_none rfl _ _ 22 rfl w4.heap.size 9 i0 1 Tryd.underlying22 hi0 _ _ _ rfl hog' rfl ?_))
          go_roundg f
          case measure => omega
          case rel =>
            obtain ⟨r', hr'⟩ := HT rr.length
            exact ⟨_, k + 1, m + rr.length, t, rfl, by go_num, by omega, by omega, fun _ => by omega, by first | rfl | rw [hx2] | (rw [List.drop_eq_nil_of_le (by omega)]; rfl), by rw [hr'], by rw [hr']; exact hog, by rw [hr']; exact hPq', fun h => by rw [hr'] at h; simp at h, hg⟩
    · obtain rfl : gk = 0 := by omega
      have htk : l.take m = l := List.take_of_length_le (by have := hmN rfl; omega)
      rw [htk, HRL.out] at hog hPq ht
      have how : World.ownsRow wr w3.heap.size 9 1 vw RL.1.length (RL.1.map strV) := World.ownsRow.kept HOW.out hg (by
        cases hv : vw.ownBlock with
        | none => exact .inl rfl
        | some g => exact .inr (fun e => by have := (World.ownsRow.lt HOW.out g hv).1; cases e; omega))
      have hRl : RL.1.length ≤ 1000000 := by rw [← HRL.out]; exact Nat.le_trans runS_len (by simp; omega)
      have X := Lib.hid (texts_more gv vw RL.1 RL.1 hRl hRl wr (Strs.of_owned hog) (Strs.of_owned (base := w3.heap.size) how))
      have hsame : (runS T 4000 [] (l.take m)) = RL := by rw [htk, HRL.out]
      have HD : ∀ n, Below wr.heap.size wr (wr.drewN n) := fun n => below_drewN (Below.refl _ _) n
      have HLp := fun n => Lib.hid (left_any p _ _ (wr.drewN n) (hPp.later (HD n)))
      have HLq := fun n => Lib.hid (left_any (p + 1) _ _ (wr.drewN n) (hPq.later (HD n)))
      have HBB := Lib.hid hB
      rw [hsame]
      clear hPp hPq hB hEr hog how hcr HD hsame HOW HP4 HRL hRl
      obtain ⟨ro, rc, rr⟩ := RL
      simp only at ht hcode X HLp HLq
      have hkk : ¬ ((k : Int) ≤ zs.length) ∨ ((k : Int) ≤ zs.length ∧ ¬ ((k : Int) ≤ 60)) := by omega
      rcases hcode.1 with rfl | rfl
      · obtain rfl := ht rfl
        rcases hkk with hk1 | ⟨hk1, hk2⟩
        all_goals
          go_wp2_with fail
          refine X.out.mono ?_
          rintro e w8 ⟨rfl, n8, rfl⟩
          have L1 := HLp n8
          have L2 := HLq n8
          have B8 := Lib.hid (below_drewN HBB.out n8)
          generalize wr.drewN n8 = w8 at *
          clear HLp HLq HBB X
          simp only [decide_true]
          go_wp2_with fail
          refine L1.out.mono ?_
          rintro e w9 ⟨rfl, hw9⟩
          subst hw9
          clear L1
          go_wp2_with fail
          refine L2.out.mono ?_
          rintro e w9 ⟨rfl, hw9⟩
          subst hw9
          clear L2
          go_wp2
          go_ret
          exact ⟨ret_true (by simp), B8.out⟩
      · rcases hkk with hk1 | ⟨hk1, hk2⟩
        all_goals
          go_wp2_with fail
          refine X.out.mono ?_
          rintro e w8 ⟨rfl, n8, rfl⟩
          have B8 := Lib.hid (below_drewN HBB.out n8)
          generalize wr.drewN n8 = w8 at *
          clear HLp HLq HBB X
          simp only [decide_true]
          go_wp2
          go_ret
          exact ⟨rfl, B8.out⟩

end Go.Proofs.YtbjjgkicjnoegaaDoor
