/- The reference's parts: in how many sets a member is, what is right, two scores, a member's score. -/
import Derived.Test.YtjilfgkoibbcnaaDoorPartsM
import Derived.Test.YtjilfgkoibbcnaaDoorRefRight
namespace Go.Proofs.YtjilfgkoibbcnaaDoor
open Go.RowKit Go.Shelf
attribute [local go_sem] Oper.semAt_some

def inN (ls : List (List Ent)) (m : ByteArray) : Nat := (ls.filter fun l => hasM l m).length
theorem inN_vals (m : ByteArray) (ls : List (List Ent)) : ∀ p, (valsFrom m p ls).length = inN ls m := by
  induction ls with
  | nil => intro p; rfl
  | cons l r ih =>
    intro p
    rw [valsFrom, List.length_append, ih]
    unfold inN hasM
    cases h : getM l m with
    | none => rw [List.filter_cons_of_neg (by simp [h])]; simp
    | some s => rw [List.filter_cons_of_pos (by simp [h])]; simp; omega
theorem inN_le (ls : List (List Ent)) (m : ByteArray) : inN ls m ≤ ls.length := List.length_filter_le _ _
theorem inN_snoc (ls : List (List Ent)) (l : List Ent) (m : ByteArray) : inN (ls ++ [l]) m = inN ls m + if hasM l m = true then 1 else 0 := by
  unfold inN
  rw [List.filter_append, List.length_append]
  by_cases h : hasM l m = true
  · rw [if_pos h, List.filter_cons_of_pos (p := fun l => hasM l m) h]; rfl
  · rw [if_neg h, List.filter_cons_of_neg (p := fun l => hasM l m) h]; rfl

set_option maxRecDepth 100000 in
set_option maxHeartbeats 2000000 in
theorem in_any (a : Option Addr) (cap : Nat) (ls : List (List Ent)) (hls : OkS ls) (hnd : ∀ l ∈ ls, NdM l) (m : ByteArray) (w : World) (hS : Sets w a ls) :
    Calls Tryd.prog 29 #[.slice a ls.length cap, .string m] w fun e w' => e = .returned (.int .i64 (inN ls m)) ∧ w' = w := by
  have HS := Lib.hid hS.e
  have HL := Lib.hid hls
  have HN := Lib.hid hnd
  have hl1 := hls.1
  clear hS hls hnd
  go_enter Tryd.func29, Tryd.ntmps29
  go_wp2
  go_loopw [5, 6] (fun n i wr => ∃ (k : Nat), i = .int .i64 k ∧ k ≤ ls.length ∧ n = .int .i64 (inN (ls.take k) m) ∧ wr = w) (fun _ i _ => ls.length - (intOf i).toNat)
  case atStart => exact ⟨0, rfl, by omega, rfl, rfl⟩
  case round =>
    obtain ⟨k, rfl, hk, rfl, rfl⟩ := hrel
    have hle := inN_le (ls.take k) m
    rw [List.length_take] at hle
    by_cases hlt : k < ls.length
    · have hlt2 : (k : Int) < ls.length := by omega
      obtain ⟨g, off, ar, cr, rfl, c0, hE⟩ := HS.out k hlt
      have hln := (HL.out.2 _ (List.getElem_mem hlt)).1
      have hF := find_any ar cr ls[k] (by omega) m wr hE
      have hnx := inN_snoc (ls.take k) ls[k] m
      rw [← List.take_succ_eq_append_getElem hlt] at hnx
      have hnd := HN.out _ (List.getElem_mem hlt)
      cases hh : hasM ls[k] m with
      | true =>
        obtain ⟨j, hj⟩ := where_has hnd hh
        rw [hj] at hF
        rw [hh, if_pos rfl] at hnx
        have HF := Lib.hid hF
        have HX := Lib.hid hnx
        have hj0 : (0 : Int) ≤ (j : Int) := by omega
        generalize ls[k] = l at *
        generalize inN (ls.take k) m = c at *
        clear hF hnx hE hnd hh hj
        go_wp2_with fail
        refine HF.out.mono ?_
        rintro e w1 ⟨rfl, rfl⟩
        go_wp2_with fail
        exact ⟨⟨k + 1, by go_num, by omega, by rw [HX.out]; go_num, trivial⟩, by simp [intOf]; omega⟩
      | false =>
        rw [where_not hh] at hF
        rw [hh, if_neg (by simp)] at hnx
        have HF := Lib.hid hF
        have HX := Lib.hid hnx
        generalize ls[k] = l at *
        generalize inN (ls.take k) m = c at *
        clear hF hnx hE hnd hh
        go_wp2_with fail
        refine HF.out.mono ?_
        rintro e w1 ⟨rfl, rfl⟩
        go_wp2_with fail
        exact ⟨⟨k + 1, by go_num, by omega, by rw [HX.out]; rfl, trivial⟩, by simp [intOf]; omega⟩
    · obtain rfl : k = ls.length := by omega
      rw [List.take_of_length_le (Nat.le_refl _)]
      go_wp2
      go_returns
      exact ⟨rfl, rfl⟩

/-- What the reference wants of sets, weights and way. -/
def okAll (agg : Int) (ws : List Int) (ls : List (List Ent)) : Bool := rightsP ls && decide (ws.length = ls.length) && decide (1 ≤ agg ∧ agg ≤ 3)

set_option maxRecDepth 100000 in
set_option maxHeartbeats 2000000 in
theorem refRights_any (a aw : Option Addr) (cap cw n : Nat) (agg : Int) (ls : List (List Ent)) (hls : OkS ls) (w : World) (hS : Sets w a ls) :
    Calls Tryd.prog 28 #[.slice a ls.length cap, .slice aw n cw, .int .i64 agg] w fun e w' => e = .returned (.bool (rightsP ls && decide (n = ls.length) && decide (1 ≤ agg ∧ agg ≤ 3))) ∧ Below w.heap.size w w' := by
  have hl1 := hls.1
  have HL := Lib.hid hls
  have HS := Lib.hid hS
  clear hls hS
  go_enter Tryd.func28, Tryd.ntmps28
  go_wp2
  go_loopw [7] (fun i wr => ∃ (k : Nat), i = .int .i64 k ∧ k ≤ ls.length ∧ Below w.heap.size w wr ∧ Hid ((ls.take k).all rightP = true)) (fun i _ => ls.length - (intOf i).toNat)
  case atStart => exact ⟨0, rfl, by omega, Below.refl _ _, Lib.hid (by simp)⟩
  case round =>
    obtain ⟨k, rfl, hk, hb, hall⟩ := hrel
    by_cases hlt : k < ls.length
    · obtain ⟨g, off, ar, cr, rfl, hcell, hEr⟩ := (HS.out.later hb).e k hlt
      have hok := HL.out.2 _ (List.getElem_mem hlt)
      have hlt2 : (k : Int) < ls.length := by omega
      have htk : ls.take (k + 1) = ls.take k ++ [ls[k]] := List.take_succ_eq_append_getElem hlt
      have hin : ls[k] ∈ ls := List.getElem_mem hlt
      generalize ls[k] = l at *
      have HR := Lib.hid (refRight_any ar cr l hok.1 (fun e he => (hok.2.2 e he).1) wr hEr)
      have HB := Lib.hid hb
      cases hr : rightP l with
      | true =>
        rw [hr] at HR
        have HN := Lib.hid (show (ls.take (k + 1)).all rightP = true by rw [htk, List.all_append, hall.out]; simp [hr])
        clear hEr hok htk hin hr hb
        go_wp2_with fail
        refine HR.out.mono ?_
        rintro e w1 ⟨rfl, hb⟩
        have HB1 := Lib.hid (HB.out.trans (hb.mono HB.out.size))
        clear hb
        go_wp2_with fail
        exact ⟨⟨k + 1, by go_num, hlt, HB1.out, HN⟩, by simp [intOf]; omega⟩
      | false =>
        rw [hr] at HR
        have HN := Lib.hid (show rightsP ls = false by
          unfold rightsP
          have : ls.all rightP = false := by rw [Bool.eq_false_iff]; intro h; rw [List.all_eq_true.1 h l hin] at hr; cases hr
          rw [this, Bool.and_false])
        clear hEr hok htk hin hr hb
        go_wp2_with fail
        refine HR.out.mono ?_
        rintro e w1 ⟨rfl, hb⟩
        have HB1 := Lib.hid (HB.out.trans (hb.mono HB.out.size))
        clear hb
        go_wp2_with fail
        go_returns
        exact ⟨by rw [HN.out]; rfl, HB1.out⟩
    · obtain rfl : k = ls.length := by omega
      have HN := Lib.hid (show rightsP ls = decide (0 < ls.length) by
        have := hall.out
        rw [List.take_of_length_le (Nat.le_refl _)] at this
        unfold rightsP
        rw [this, Bool.and_true])
      have HB := Lib.hid hb
      clear hb hall
      by_cases h1 : 0 < ls.length
      · have h1' : (0 : Int) < ls.length := by omega
        by_cases h2 : n = ls.length
        · subst h2
          by_cases h3 : 1 ≤ agg
          · by_cases h4 : agg ≤ 3
            · go_wp2
              go_returns
              refine ⟨?_, HB.out⟩
              rw [HN.out]
              simp [h1] <;> omega
            · have h4' : 3 < agg := by omega
              go_wp2
              go_returns
              refine ⟨?_, HB.out⟩
              rw [HN.out]
              simp [h1] <;> omega
          · have h3' : agg < 1 := by omega
            go_wp2
            go_returns
            refine ⟨?_, HB.out⟩
            rw [HN.out]
            simp [h1] <;> omega
        · have h2' : ((n : Int) == (ls.length : Int)) = false := by simp; omega
          go_wp2
          go_returns
          refine ⟨?_, HB.out⟩
          rw [HN.out]
          simp [h1, h2]
      · have h1' : (ls.length : Int) ≤ 0 := by omega
        go_wp2
        go_returns
        refine ⟨?_, HB.out⟩
        rw [HN.out]
        simp [h1]

set_option maxRecDepth 100000 in
theorem together_any (g : Nat) (hg : isG g) (a b : Int) (ha : I64 a) (hb : I64 b) (w : World) :
    Calls Tryd.prog 55 #[.int .i64 a, .int .i64 b, .int .i64 g] w fun e w' => e = .returned (.tuple #[.int .i64 (joinN g a b), .int .i64 (joinE g a b)]) ∧ Below w.heap.size w w' := by
  rcases hg with rfl | rfl | rfl
  · have H := Lib.hid (refAdd_any a b ha hb w)
    clear ha hb
    go_enter Tryd.func55, Tryd.ntmps55
    go_wp2_with fail
    refine H.out.mono ?_
    rintro e w1 ⟨rfl, rfl⟩
    go_wp2_with fail
    go_ret2
    exact ⟨rfl, Below.refl _ _⟩
  · clear ha hb
    go_enter Tryd.func55, Tryd.ntmps55
    go_wp2
    go_ret2
    exact ⟨rfl, Below.refl _ _⟩
  · clear ha hb
    go_enter Tryd.func55, Tryd.ntmps55
    go_wp2
    go_ret2
    exact ⟨rfl, Below.refl _ _⟩

theorem vals_append (m : ByteArray) (a b : List (List Ent)) : ∀ p, valsFrom m p (a ++ b) = valsFrom m p a ++ valsFrom m (p + a.length) b := by
  induction a with
  | nil => intro p; rfl
  | cons l a ih =>
    intro p
    rw [List.cons_append, valsFrom, valsFrom, ih, List.append_assoc, List.length_cons, show p + 1 + a.length = p + (a.length + 1) by omega]
/-- What a member's score comes to. -/
def accV (g : Nat) (ws : List Int) (m : ByteArray) (ls : List (List Ent)) : Option (Option Int) := (valsFrom m 0 ls).foldl (stepV g ws) (some none)
theorem accV_snoc (g : Nat) (ws : List Int) (m : ByteArray) (ls : List (List Ent)) (l : List Ent) : accV g ws m (ls ++ [l]) = match getM l m with | some s => stepV g ws (accV g ws m ls) (ls.length, s) | none => accV g ws m ls := by
  unfold accV
  rw [vals_append, List.foldl_append, valsFrom, valsFrom, List.append_nil, Nat.zero_add]
  cases getM l m <;> rfl
theorem foldV_none (g : Nat) (ws : List Int) (xs : List (Nat × Int)) : xs.foldl (stepV g ws) none = none := by
  induction xs with
  | nil => rfl
  | cons x xs ih => rw [List.foldl_cons]; exact ih
theorem accV_more {g : Nat} {ws : List Int} {m : ByteArray} {ls : List (List Ent)} {k : Nat} (h : accV g ws m (ls.take k) = none) : accV g ws m ls = none := by
  unfold accV at *
  rw [← List.take_append_drop k ls, vals_append, List.foldl_append, h, foldV_none]
/-- .. as a triple. -/
def scoreT : Option (Option Int) → Nat → Int × Int × Int
  | none, _ => (0, 0, 11)
  | some o, n => (o.getD 0, n, 0)
theorem stepV_i64 {g : Nat} {ws : List Int} {o : Option (Option Int)} {x : Nat × Int} {v : Option Int} (h : stepV g ws o x = some v) (ho : ∀ u, o = some (some u) → I64 u) : ∃ y, v = some y ∧ I64 y := by
  unfold stepV at h
  split at h
  · cases h
  · rename_i o' 
    split at h
    · split at h
      · cases h
        exact ⟨_, rfl, sumN_i64 _ _⟩
      · rename_i old
        split at h
        · cases h
          exact ⟨_, rfl, joinN_i64 g (ho old rfl) (sumN_i64 _ _)⟩
        · cases h
    · cases h
end Go.Proofs.YtjilfgkoibbcnaaDoor
