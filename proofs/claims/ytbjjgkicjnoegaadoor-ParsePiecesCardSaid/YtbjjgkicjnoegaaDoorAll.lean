/- What the law takes out of a parser until it has no more. -/
import Derived.Test.YtbjjgkicjnoegaaDoorShown
import Derived.Laws.AppendOwnNone
namespace Go.Proofs.YtbjjgkicjnoegaaDoor
open Go.RowKit Go.Shelf

def nextL : List UInt8 := [110, 101, 120, 116]

/-- Requests, one behind the other: what came, how it ended, what is left. -/
def runS (T : Nat → Int) : Nat → List (List UInt8) → List UInt8 → List (List UInt8) × Int × List UInt8
  | 0, acc, l => (acc, 0, l)
  | k + 1, acc, l => match argumentsS T l with
    | .ok ss r => runS T k (acc ++ nextL :: ss) r
    | .more => (acc, 31, l)
    | .wrong => (acc, 40, l)

theorem bulksA_len {T : Nat → Int} : ∀ {k : Nat} {acc ss : List (List UInt8)} {l r : List UInt8}, bulksA T k acc l = .ok ss r → ss.length = acc.length + k ∧ r.length ≤ l.length
  | 0, acc, ss, l, r, h => by rw [bulksA] at h; cases h; simp
  | k + 1, acc, ss, l, r, h => by
    rw [bulksA] at h
    cases hb : bulkS T l with
    | more => rw [hb] at h; cases h
    | wrong => rw [hb] at h; cases h
    | ok s q =>
      rw [hb] at h
      have h1 := bulksA_len h
      have h2 := bulkS_size hb
      simp only [List.length_append, List.length_singleton] at h1
      omega

theorem numberS_short {T : Nat → Int} {l r : List UInt8} {n : Int} (h : numberS T l = .ok n r) : r.length < l.length := by
  unfold numberS at h
  cases hl : lineS endL 32 l with
  | more => rw [hl] at h; cases h
  | wrong => rw [hl] at h; cases h
  | ok p q =>
    have h2 := (lineS_size hl).2
    have e : endL.length = 2 := rfl
    rw [hl] at h
    simp only at h
    split at h
    · cases h; omega
    · cases h

theorem arguments_len {T : Nat → Int} {l r : List UInt8} {ss : List (List UInt8)} (h : argumentsS T l = .ok ss r) : ss.length ≤ 64 ∧ r.length < l.length := by
  unfold argumentsS at h
  split at h
  · cases hn : numberS T l with
    | more => rw [hn] at h; cases h
    | wrong => rw [hn] at h; cases h
    | ok n q =>
      rw [hn] at h
      simp only at h
      split at h
      · cases h
      · have h1 := bulksA_len h
        have h2 := numberS_short hn
        simp only [List.length_nil] at h1
        omega
  · cases hn : lineS lf 1024 l with
    | more => rw [hn] at h; cases h
    | wrong => rw [hn] at h; cases h
    | ok p q =>
      rw [hn] at h
      simp only at h
      split at h
      · cases h
      · cases h
        have := (lineS_size hn).2
        have e : lf.length = 1 := rfl
        omega

set_option maxRecDepth 100000 in
set_option maxHeartbeats 4000000 in
theorem all_any {T : Nat → Int} (b : Nat) (hb4 : 4 ≤ b) (t : ByteArray) (ht : t.size ≤ 100000) (w : World) (hE : Env T w) (hP : PB w b t false) :
    Calls Tryd.prog 16 #[.pointer (some ⟨b, 0, none⟩), .int .i64 4000] w fun e w' => ∃ v, e = .returned (.tuple #[v, .int .i64 (runS T 4000 [] t.data.toList).2.1]) ∧ w.grownBy w' (some b) ∧
      PB w' b (ba (runS T 4000 [] t.data.toList).2.2) (decide ((runS T 4000 [] t.data.toList).2.1 = 40)) ∧ Owned w' w.heap.size v (runS T 4000 [] t.data.toList).1 := by
  obtain ⟨i0, hi0, hz0, hz1, hz2⟩ := info_parts Tryd.info9
  have hbl := hP.lt
  have hob : ∀ {W : World} {v : Value} {n : Nat} {xs : List Value}, W.ownsRow w.heap.size 9 1 v n xs → v.ownBlock = none ∨ v.ownBlock ≠ some b := fun h => by
    rename_i W v _ _
    cases hv : v.ownBlock with
    | none => exact .inl rfl
    | some g => exact .inr (fun e => by have := (h.lt g hv).1; cases e; omega)
  go_enter Tryd.func16, Tryd.ntmps16
  go_wp2
  go_loopg [6, 7] 4000 (fun g sl i wr => ∃ (v : Value) (k : Nat) (acc : List (List UInt8)) (r : List UInt8), v = sl ∧ i = .int .i64 k ∧ g + k = 4000 ∧ acc.length ≤ 65 * k ∧ PB wr b (ba r) false ∧ r.length ≤ t.size ∧ w.grownBy wr (some b) ∧ Owned wr w.heap.size v acc ∧ Aside (runS T g acc r = runS T 4000 [] t.data.toList))
  case atStart => exact ⟨_, 0, [], t.data.toList, rfl, rfl, rfl, by simp, by rw [ba_of]; exact hP, by rw [size_list]; exact Nat.le_refl _, grown_refl _ _, World.ownsRow_nil _ _ _ _, rfl⟩
  case round =>
    obtain ⟨v, k, acc, r, rfl, rfl, hgk, hacc, hbr, hrl, hg, hown, hk⟩ := hrel
    by_cases hlt : (k : Int) < 4000
    · obtain ⟨f, rfl⟩ : ∃ f, gk = f + 1 := ⟨gk - 1, by omega⟩
      have HB := next_any b (ba r) (by rw [← size_list, ba_list]; omega) wr (hE.grown hg hb4) hbr
      rw [ba_list] at HB
      cases hs : argumentsS T r with
      | more =>
        rw [hs] at HB
        have HH := Lib.hid HB
        have HK := Lib.hid (show runS T (f + 1) acc r = (acc, 31, r) by rw [runS, hs])
        clear HB hs hbr
        go_wp2_with (go_at_call 18; refine HH.out.mono ?_; rintro e w1 ⟨rfl, hg1, hb1⟩)
        go_ret2
        rw [← hk.out, HK.out]
        exact ⟨_, rfl, hg.trans hg1, hb1, World.ownsRow.kept hown hg1 (hob hown)⟩
      | wrong =>
        rw [hs] at HB
        have HH := Lib.hid HB
        have HK := Lib.hid (show runS T (f + 1) acc r = (acc, 40, r) by rw [runS, hs])
        clear HB hs hbr
        go_wp2_with (go_at_call 18; refine HH.out.mono ?_; rintro e w1 ⟨rfl, hg1, hb1⟩)
        go_ret2
        rw [← hk.out, HK.out]
        exact ⟨_, rfl, hg.trans hg1, hb1, World.ownsRow.kept hown hg1 (hob hown)⟩
      | ok ss q =>
        have hln := arguments_len hs
        rw [hs] at HB
        have HH := Lib.hid HB
        have HK := Lib.hid (show runS T (f + 1) acc r = runS T f (acc ++ nextL :: ss) q by rw [runS, hs])
        clear HB hs hbr
        have hwz := hg.size
        go_wp2_with fail
        refine HH.out.mono ?_
        rintro e w1 ⟨lv, rfl, hg1, hb1, hol⟩
        clear HH
        have hown1 : w1.ownsRow w.heap.size 9 1 v acc.length (acc.map strV) := World.ownsRow.kept hown hg1 (hob hown)
        have hsw1 : w.heap.size ≤ w1.heap.size := Nat.le_trans hg.size hg1.size
        have hvl : ∀ g, v.ownBlock = some g → w.heap.size ≤ g ∧ g < wr.heap.size := hown.lt
        have hll : ∀ g, lv.ownBlock = some g → wr.heap.size ≤ g ∧ g < w1.heap.size := hol.lt
        have hlo : ∀ g, v.ownBlock = some g → w.heap.size ≤ g := fun g e => (hvl g e).1
        have hoc : ∀ (u : Value), u ∈ ss.map strV → u.oneCell' = true := fun u hu => by
          obtain ⟨x, _, rfl⟩ := List.mem_map.1 hu
          rfl
        have hll2 : (ss.map strV).length = ss.length := by simp
        have hbk := hb1.lt
        rcases hol.2 with ⟨hl0, hs0⟩ | ⟨g, cap, cur, hlg, _⟩
        · subst hl0
          obtain rfl : ss = [] := List.eq_nil_of_length_eq_zero hs0
          go_wp2_with (first
            | (at_builtin; refine wpList_append_own _ rfl _ _ 22 rfl w.heap.size 9 i0 (.string ⟨#[]⟩) 1 16 Tryd.underlying22 hi0 hz0 hz1 hz2 rfl (by decide) _ _ _ rfl (hown1.alloc _) ⟨w1.heap.size, 0, none⟩ 1 1 [.string ⟨#[110, 101, 120, 116]⟩] rfl rfl (cell_one_new _ _ _) (by simp [Value.oneCell']) (by unfold maxLen; omega) (by omega) (by simp; omega) ?_; intro v2 w2 hown2 hgrow _)
            | (at_builtin; refine wpList_append_own_none rfl _ _ 22 rfl w.heap.size 9 i0 1 Tryd.underlying22 hi0 _ _ _ rfl hown2 rfl ?_))
          have hgrow' : (w1.alloc (Obj.cells #[.string ⟨#[110, 101, 120, 116]⟩] 9)).grownBy w2 v.ownBlock := hgrow
          have hga : w1.grownBy w2 v.ownBlock := (World.grownBy_alloc w1 _ _).trans hgrow'
          have hg2 : w.grownBy w2 (some b) := grown_new (hg.trans hg1) hga hlo
          have hb2 : PB w2 b (ba q) false := hb1.kept hga (fun e => by have := hlo b e.symm; omega)
          go_roundg f
          case measure => omega
          case rel => exact ⟨_, k + 1, acc ++ [nextL], q, rfl, by go_num, by omega, by simp; omega, hb2, by omega, hg2, by show World.ownsRow _ _ _ _ _ _ _; rw [List.map_append, List.length_append]; exact hown2, by show _ = _; rw [← hk.out, HK.out]⟩
        · subst hlg
          go_wp2_with (first
            | (at_builtin; refine wpList_append_own _ rfl _ _ 22 rfl w.heap.size 9 i0 (.string ⟨#[]⟩) 1 16 Tryd.underlying22 hi0 hz0 hz1 hz2 rfl (by decide) _ _ _ rfl (hown1.alloc _) ⟨w1.heap.size, 0, none⟩ 1 1 [.string ⟨#[110, 101, 120, 116]⟩] rfl rfl (cell_one_new _ _ _) (by simp [Value.oneCell']) (by unfold maxLen; omega) (by omega) (by simp; omega) ?_; intro v2 w2 hown2 hgrow _
               have hgrow' : (w1.alloc (Obj.cells #[.string ⟨#[110, 101, 120, 116]⟩] 9)).grownBy w2 v.ownBlock := hgrow
               have hga : w1.grownBy w2 v.ownBlock := (World.grownBy_alloc w1 _ _).trans hgrow'
               have hol2 : w2.ownsRow wr.heap.size 9 1 (.slice (some ⟨g, 0, none⟩) ss.length cap) ss.length (ss.map strV) := World.ownsRow.kept hol hga (.inr (fun e => by have h1 := hll g rfl; have h2 := hvl g e.symm; omega))
               have hsw2 : w.heap.size ≤ w2.heap.size := Nat.le_trans hsw1 hga.size)
            | (at_builtin; refine wpList_append_own _ rfl _ _ 22 rfl w.heap.size 9 i0 (.string ⟨#[]⟩) 1 16 Tryd.underlying22 hi0 hz0 hz1 hz2 rfl (by decide) _ _ _ rfl hown2 ⟨g, 0, none⟩ ss.length cap (ss.map strV) rfl (by simp) (hol2.cells rfl) hoc (by unfold maxLen; omega) (by omega) (by omega) ?_; intro v3 w3 hown3 hgrow3 _))
          have hgrow3' : w2.grownBy w3 v2.ownBlock := hgrow3
          have hlo2 : ∀ g, v2.ownBlock = some g → w.heap.size ≤ g := fun g e => (hown2.lt g e).1
          have hg2 : w.grownBy w3 (some b) := grown_new (grown_new (hg.trans hg1) hga hlo) hgrow3' hlo2
          have hb2 : PB w3 b (ba q) false := (hb1.kept hga (fun e => by have := hlo b e.symm; omega)).kept hgrow3' (fun e => by have := hlo2 b e.symm; omega)
          go_roundg f
          case measure => omega
          case rel => exact ⟨_, k + 1, acc ++ nextL :: ss, q, rfl, by go_num, by omega, by simp; omega, hb2, by omega, hg2, by show World.ownsRow _ _ _ _ _ _ _; rw [List.map_append, List.length_append, List.map_cons, List.length_cons, Nat.add_comm ss.length 1, ← Nat.add_assoc, List.append_cons]; exact hown3, by show _ = _; rw [← hk.out, HK.out]⟩
    · obtain rfl : gk = 0 := by omega
      have HK := Lib.hid (show runS T 0 acc r = (acc, 0, r) from rfl)
      have HBX := Lib.hid hbr
      clear hbr
      go_wp2
      go_ret2
      rw [← hk.out, HK.out]
      exact ⟨_, rfl, hg, HBX.out, hown⟩

end Go.Proofs.YtbjjgkicjnoegaaDoor
