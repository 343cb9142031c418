/- The law ParseInline's walk. -/
import Derived.Test.YtbjjgkicjnoegaaDoorShown
import Derived.Test.YtbjjgkicjnoegaaDoorInlineText
namespace Go.Proofs.YtbjjgkicjnoegaaDoor
open Go.RowKit Go.Shelf

/-- The first words of a list. -/
def wordsOf (ss : List (List UInt8)) (k : Nat) : List (List UInt8) := (ss.take k).map wordOf
theorem wordsOf_len (ss : List (List UInt8)) (k : Nat) : (wordsOf ss k).length ≤ k := by simp [wordsOf]; omega
theorem wordsOf_ok (ss : List (List UInt8)) (k : Nat) : ∀ w ∈ wordsOf ss k, ∀ b ∈ w, okB b = true := by
  intro w hw
  simp only [wordsOf, List.mem_map] at hw
  obtain ⟨x, _, rfl⟩ := hw
  exact wordOf_ok x
theorem wordsOf_ten (ss : List (List UInt8)) (k : Nat) : ∀ w ∈ wordsOf ss k, w.length ≤ 10 := by
  intro w hw
  simp only [wordsOf, List.mem_map] at hw
  obtain ⟨x, _, rfl⟩ := hw
  exact wordOf_len x
theorem wordsOf_snoc (ss : List (List UInt8)) (k : Nat) (h : k < ss.length) : wordsOf ss (k + 1) = wordsOf ss k ++ [wordOf ss[k]] := by
  simp only [wordsOf]
  rw [List.take_succ_eq_append_getElem h, List.map_append]; rfl
theorem full_snoc (ws : List (List UInt8)) (w : List UInt8) : full (ws ++ [w]) = if w = [] then full ws else full ws ++ [w] := by
  unfold full
  rw [List.filter_append]
  by_cases h : w = [] <;> simp [h]

/-- What has been taken of a text, some of its bytes seen. -/
def someOf (x : List UInt8) (k : Nat) : List UInt8 := (x.take k).filter okB
theorem someOf_hit {x : List UInt8} {k : Nat} (h : k < x.length) (ho : okB x[k] = true) : someOf x (k + 1) = someOf x k ++ [x[k]] := by
  unfold someOf
  rw [List.take_succ_eq_append_getElem h, List.filter_append]; simp [ho]
theorem someOf_miss {x : List UInt8} {k : Nat} (h : k < x.length) (ho : okB x[k] = false) : someOf x (k + 1) = someOf x k := by
  unfold someOf
  rw [List.take_succ_eq_append_getElem h, List.filter_append]; simp [ho]
theorem someOf_end {x : List UInt8} {k : Nat} (h : ¬ k < x.length) (hl : (someOf x k).length ≤ 10) : someOf x k = wordOf x := by
  unfold someOf wordOf at *
  rw [List.take_of_length_le (by omega)] at *
  rw [List.take_of_length_le hl]
theorem someOf_ten {x : List UInt8} {k : Nat} (hl : (someOf x k).length = 10) : someOf x k = wordOf x := by
  unfold someOf wordOf at *
  conv => rhs; rw [← List.take_append_drop k x, List.filter_append, List.take_append_of_le_length (by omega), List.take_of_length_le (by omega)]

theorem okB_yes {b : UInt8} (h : ((48 : Int) ≤ b.toNat ∧ (b.toNat : Int) ≤ 57) ∨ ((97 : Int) ≤ b.toNat ∧ (b.toNat : Int) ≤ 122)) : okB b = true := by
  simp only [okB, Bool.or_eq_true, Bool.and_eq_true, decide_eq_true_eq, UInt8.le_iff_toNat_le]
  rcases h with h | h
  · left; exact ⟨by show 48 ≤ b.toNat; omega, by show b.toNat ≤ 57; omega⟩
  · right; exact ⟨by show 97 ≤ b.toNat; omega, by show b.toNat ≤ 122; omega⟩
theorem okB_no {b : UInt8} (h : ¬ (((48 : Int) ≤ b.toNat ∧ (b.toNat : Int) ≤ 57) ∨ ((97 : Int) ≤ b.toNat ∧ (b.toNat : Int) ≤ 122))) : okB b = false := by
  rw [← Bool.not_eq_true]
  intro ho
  simp only [okB, Bool.or_eq_true, Bool.and_eq_true, decide_eq_true_eq, UInt8.le_iff_toNat_le] at ho
  apply h
  rcases ho with ⟨h1, h2⟩ | ⟨h1, h2⟩
  · have h1 : 48 ≤ b.toNat := h1
    have h2 : b.toNat ≤ 57 := h2
    omega
  · have h1 : 97 ≤ b.toNat := h1
    have h2 : b.toNat ≤ 122 := h2
    omega
theorem ba_app (a b : List UInt8) : ba (a ++ b) = ba a ++ ba b := (ba_eq (by rw [ByteArray.toList_data_append]; rfl)).symm

set_option maxRecDepth 100000 in
set_option maxHeartbeats 8000000 in
theorem inline_any {T : Nat → Int} (v : Value) (ss : List (List UInt8)) (hsl : ss.length ≤ 9223372036854775807) (hsz : ∀ x ∈ ss, x.length ≤ 9223372036854775807) (cr tabs : Bool) (w : World) (hE : Env T w) (hv : Strs w v ss) :
    Calls Tryd.prog 6 #[v, .bool cr, .bool tabs] w fun e w' => e = .returned (.bool true) ∧ Below w.heap.size w w' := by
  obtain ⟨a, c, rfl, hc⟩ := hv
  obtain ⟨i0, hi0, hz0, hz1, hz2⟩ := info_parts Tryd.info9
  have H := Lib.hid (shown_any w hE)
  have HEE := Lib.hid hE
  clear hE
  go_enter Tryd.func6, Tryd.ntmps6
  go_wp2_with (go_at_call 8; refine H.out.mono ?_; rintro e w1 ⟨rfl, hb1⟩)
  go_loopg [8, 9, 10] (min ss.length 60) (fun g sv wv iv wr => ∃ (vw : Value) (k : Nat), vw = wv ∧ iv = .int .i64 k ∧ g + k = min ss.length 60 ∧ sv = .string (ba (cat tabs (wordsOf ss k))) ∧ Owned wr w.heap.size vw (full (wordsOf ss k)) ∧ Below w.heap.size w wr)
  case atStart => exact ⟨_, 0, rfl, rfl, rfl, by cases tabs <;> rfl, World.ownsRow_nil _ _ _ _, hb1⟩
  case round =>
    obtain ⟨vw, k, rfl, rfl, hgk, rfl, how, hb⟩ := hrel
    have hko : k ≤ 60 := by omega
    by_cases hlt : k < ss.length ∧ k < 60
    · obtain ⟨f, rfl⟩ : ∃ f, gk = f + 1 := ⟨gk - 1, by omega⟩
      obtain ⟨hk1, hk2⟩ := hlt
      have hk3 : (k : Int) < 60 := by omega
      obtain ⟨g, o, rfl, hx0⟩ := hc k hk1
      have hcx : wr.cell? ⟨g, o + k, none⟩ = some (strV ss[k]) := (hb.cell (p := ⟨g, o + k, none⟩) (World.block_lt_of_cell? _ _ hx0)).trans hx0
      have hxs := hsz _ (List.getElem_mem hk1)
      have HS := Lib.hid (wordsOf_snoc ss k hk1)
      generalize hxx : ss[k] = x at *
      unfold strV at hcx
      have hbs : (ba x).size = x.length := by rw [← size_list, ba_list]
      have HO := Lib.hid how
      have HB := Lib.hid hb
      have HXX := Lib.hid hxx
      clear hx0 how hb hxx
      have HC := Lib.hid hc
      have HSZ := Lib.hid hsz
      clear hc hsz
      go_wp2
      go_loopg [11, 12] x.length (fun g2 wv kv wr2 => ∃ (j : Nat), wv = .string (ba (someOf x j)) ∧ kv = .int .i64 j ∧ g2 + j = x.length ∧ (someOf x j).length ≤ 10 ∧ wr2 = wr)
      case atStart => exact ⟨0, rfl, rfl, rfl, by simp [someOf], rfl⟩
      case round =>
        obtain ⟨j, rfl, rfl, hgj, hten, rfl⟩ := hrel
        have hsm : (ba (someOf x j)).size = (someOf x j).length := by rw [← size_list, ba_list]
        by_cases hj : j < x.length ∧ (someOf x j).length < 10
        · obtain ⟨f2, rfl⟩ : ∃ f2, gk = f2 + 1 := ⟨gk - 1, by omega⟩
          obtain ⟨hj1, hj2⟩ := hj
          have hjs : j < (ba x).size := by omega
          obtain ⟨cc, hcc⟩ : ∃ cc, cc = x[j] := ⟨_, rfl⟩
          have hci : (ba x)[j] = cc := by rw [hcc]; rfl
          have hcs : (ba [cc]).size = 1 := by rw [← size_list, ba_list]; rfl
          have HH : okB cc = true → Hid (someOf x (j + 1) = someOf x j ++ [cc]) := fun ho => Lib.hid (by rw [hcc] at ho ⊢; exact someOf_hit hj1 ho)
          have HM : okB cc = false → Hid (someOf x (j + 1) = someOf x j) := fun ho => Lib.hid (by rw [hcc] at ho; exact someOf_miss hj1 ho)
          have hex : (ba x).extract j (j + 1) = ba [cc] := by
            rw [hcc]
            exact ba_eq (by rw [extract_list, ba_list, List.take_succ_eq_append_getElem hj1, List.drop_append_of_le_length (by simp; omega)]; simp; rfl)
          clear hcc hbs
          go_wp2
          all_goals
            first
            | (have ho : okB cc = true := okB_yes (by omega)
               go_roundg f2
               case measure => omega
               case rel => exact ⟨j + 1, by rw [(HH ho).out, ba_app], by go_num, by omega, by rw [(HH ho).out, List.length_append]; simp; omega, rfl⟩)
            | (have ho : okB cc = false := okB_no (by omega)
               go_roundg f2
               case measure => omega
               case rel => exact ⟨j + 1, by rw [(HM ho).out], by go_num, by omega, by rw [(HM ho).out]; omega, rfl⟩)
        · rcases (by omega : (j < x.length ∧ (someOf x j).length = 10) ∨ j = x.length) with ⟨hj1, hj2⟩ | hj1
          all_goals
            have hw : someOf x j = wordOf x := by first | exact someOf_ten hj2 | exact someOf_end (by omega) hten
            rw [← hw] at HS
            have hs1 := HS.out
            have hsz' : (wordsOf ss k).length ≤ k := wordsOf_len ss k
            have how : World.ownsRow wr w.heap.size 9 1 vw (full (wordsOf ss k)).length ((full (wordsOf ss k)).map strV) := HO.out
            have hb := HB.out
            have hbz := hb.size
            have hcl : ∀ t, (ba (cat t (wordsOf ss k))).size ≤ 720 := fun t => by
              rw [← size_list, ba_list]
              exact Nat.le_trans (cat_len t _ (wordsOf_ten ss k)) (by omega)
            clear hw HO HB
            generalize someOf x j = wd at *
            by_cases hwd : wd = []
            · subst hwd
              first
              | (exfalso; simp at hj2; done)
              | (have hne : (ba ([] : List UInt8)).toList.isEmpty = true := by rw [Lib.toList_data]; rfl
                 cases tabs
                 · have hcl := hcl false
                   go_wp2
                   go_roundg f
                   case measure => omega
                   case rel => exact ⟨_, k + 1, rfl, by go_num, by omega, by rw [hs1, cat_snoc, if_neg (by decide), ba_app, ba_app]; rfl, by rw [hs1, full_snoc, if_pos rfl]; exact how, hb⟩
                 · have hcl := hcl true
                   go_wp2
                   go_roundg f
                   case measure => omega
                   case rel => exact ⟨_, k + 1, rfl, by go_num, by omega, by rw [hs1, cat_snoc, if_pos rfl, ba_app, ba_app]; rfl, by rw [hs1, full_snoc, if_pos rfl]; exact how, hb⟩)
            · have hne : (ba wd).toList.isEmpty = false := by rw [Lib.toList_data, ba_list]; simpa using hwd
              have hful : (full (wordsOf ss k)).length ≤ 60 := Nat.le_trans (List.length_filter_le _ _) (by omega)
              cases tabs
              · have hcl := hcl false
                go_wp2_with (at_builtin; refine wpList_append_own _ rfl _ _ 22 rfl w.heap.size 9 i0 (.string ⟨#[]⟩) 1 16 Tryd.underlying22 hi0 hz0 hz1 hz2 rfl (by decide) _ _ _ rfl (how.alloc _) ⟨wr.heap.size, 0, none⟩ 1 1 [.string (ba wd)] rfl rfl (cell_one_new _ _ _) (by simp [Value.oneCell']) (by unfold maxLen; omega) (by omega) (by simp; omega) ?_; intro v' w2 hown2 hgrow _)
                have hgrow' : (wr.alloc (Obj.cells #[.string (ba wd)] 9)).grownBy w2 vw.ownBlock := hgrow
                have hga : wr.grownBy w2 vw.ownBlock := (World.grownBy_alloc wr _ _).trans hgrow'
                have hb2 := hb.grown hga hbz (fun g e => (how.lt g e).1)
                go_roundg f
                case measure => omega
                case rel => exact ⟨_, k + 1, rfl, by go_num, by omega, by rw [hs1, cat_snoc, if_neg (by decide), ba_app, ba_app]; rfl, by rw [hs1, full_snoc, if_neg hwd]; show World.ownsRow _ _ _ _ _ _ _; rw [List.map_append, List.length_append]; exact hown2, hb2⟩
              · have hcl := hcl true
                go_wp2_with (at_builtin; refine wpList_append_own _ rfl _ _ 22 rfl w.heap.size 9 i0 (.string ⟨#[]⟩) 1 16 Tryd.underlying22 hi0 hz0 hz1 hz2 rfl (by decide) _ _ _ rfl (how.alloc _) ⟨wr.heap.size, 0, none⟩ 1 1 [.string (ba wd)] rfl rfl (cell_one_new _ _ _) (by simp [Value.oneCell']) (by unfold maxLen; omega) (by omega) (by simp; omega) ?_; intro v' w2 hown2 hgrow _)
                have hgrow' : (wr.alloc (Obj.cells #[.string (ba wd)] 9)).grownBy w2 vw.ownBlock := hgrow
                have hga : wr.grownBy w2 vw.ownBlock := (World.grownBy_alloc wr _ _).trans hgrow'
                have hb2 := hb.grown hga hbz (fun g e => (how.lt g e).1)
                go_roundg f
                case measure => omega
                case rel => exact ⟨_, k + 1, rfl, by go_num, by omega, by rw [hs1, cat_snoc, if_pos rfl, ba_app, ba_app]; rfl, by rw [hs1, full_snoc, if_neg hwd]; show World.ownsRow _ _ _ _ _ _ _; rw [List.map_append, List.length_append]; exact hown2, hb2⟩
    · have hcl : (ba (cat tabs (wordsOf ss k))).size ≤ 720 := by
        rw [← size_list, ba_list]
        exact Nat.le_trans (cat_len tabs _ (wordsOf_ten ss k)) (by have := wordsOf_len ss k; omega)
      have hful : (full (wordsOf ss k)).length ≤ 60 := Nat.le_trans (List.length_filter_le _ _) (by have := wordsOf_len ss k; omega)
      have HA := args_cat T tabs cr (wordsOf ss k) (wordsOf_ok ss k) (wordsOf_ten ss k) (Nat.le_trans (wordsOf_len ss k) hko) [114, 101, 115, 116]
      have ht : ∀ l : List UInt8, (ba l ++ ⟨#[10, 114, 101, 115, 116]⟩ : ByteArray).data.toList = l ++ [10, 114, 101, 115, 116] := fun l => by rw [ByteArray.toList_data_append]; rfl
      have hsz5 : ∀ l : List UInt8, (ba l ++ ⟨#[10, 114, 101, 115, 116]⟩ : ByteArray).size = l.length + 5 := fun l => by rw [← size_list, ht]; simp
      have hbs : (ba (cat tabs (wordsOf ss k))).size = (cat tabs (wordsOf ss k)).length := by rw [← size_list, ba_list]
      have hb13 : (ba (cat tabs (wordsOf ss k) ++ [13])).size = (cat tabs (wordsOf ss k)).length + 1 := by rw [← size_list, ba_list]; simp
      have hws := wordsOf_len ss k
      have hre : (ba [114, 101, 115, 116]).toList = [114, 101, 115, 116] := by rw [Lib.toList_data]; rfl
      have e13 : (ba (cat tabs (wordsOf ss k)) ++ ⟨#[13]⟩ : ByteArray) = ba (cat tabs (wordsOf ss k) ++ [13]) := by rw [ba_app]; rfl
      have hEr := HEE.out.later hb
      rcases (by omega : ss.length ≤ k ∨ (k = 60 ∧ k < ss.length)) with hk1 | ⟨hk1, hk2⟩
      all_goals
        cases cr
        · have H0 := Split_any (T := T) (ba (cat tabs (wordsOf ss k)) ++ ⟨#[10, 114, 101, 115, 116]⟩) (by rw [hsz5]; simp; omega) wr hEr
          rw [ht] at H0
          simp only [Bool.false_eq_true, if_false] at HA
          rw [HA] at H0
          have H1 := Lib.hid H0
          have HO := Lib.hid how
          have HB := Lib.hid hb
          clear H0 HA how hb hc hEr ht hsz5
          generalize cat tabs (wordsOf ss k) = line at *
          generalize full (wordsOf ss k) = fl at *
          go_wp2_with fail
          refine H1.out.mono ?_
          rintro e w2 ⟨va, rfl, hb2, hoa⟩
          have X := Lib.hid (texts_any va vw fl fl (by omega) (by omega) w2 (Strs.of_owned hoa) ((Strs.of_owned HO.out).later hb2))
          have HB2 := Lib.hid (HB.out.trans (hb2.mono HB.out.size))
          clear H1 HO HB hb2 hoa
          go_wp2_with fail
          refine X.out.mono ?_
          rintro e w3 ⟨rfl, n3, rfl⟩
          have hB3 := below_drewN HB2.out n3
          clear X
          simp only [decide_true]
          go_wp2
          go_ret
          exact ⟨rfl, hB3⟩
        · have H0 := Split_any (T := T) (ba (cat tabs (wordsOf ss k)) ++ ⟨#[13]⟩ ++ ⟨#[10, 114, 101, 115, 116]⟩) (by rw [e13, hsz5]; simp; omega) wr hEr
          rw [e13, ht] at H0
          simp only [if_true] at HA
          rw [HA] at H0
          have H1 := Lib.hid H0
          have HO := Lib.hid how
          have HB := Lib.hid hb
          clear H0 HA how hb hc hEr ht hsz5
          generalize cat tabs (wordsOf ss k) = line at *
          generalize full (wordsOf ss k) = fl at *
          go_wp2_with fail
          refine H1.out.mono ?_
          rintro e w2 ⟨va, rfl, hb2, hoa⟩
          have X := Lib.hid (texts_any va vw fl fl (by omega) (by omega) w2 (Strs.of_owned hoa) ((Strs.of_owned HO.out).later hb2))
          have HB2 := Lib.hid (HB.out.trans (hb2.mono HB.out.size))
          clear H1 HO HB hb2 hoa
          go_wp2_with fail
          refine X.out.mono ?_
          rintro e w3 ⟨rfl, n3, rfl⟩
          have hB3 := below_drewN HB2.out n3
          clear X
          simp only [decide_true]
          go_wp2
          go_ret
          exact ⟨rfl, hB3⟩

end Go.Proofs.YtbjjgkicjnoegaaDoor
