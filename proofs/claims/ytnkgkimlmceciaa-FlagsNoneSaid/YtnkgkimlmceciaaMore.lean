/- More laws on what is decided: their walks. -/
import Derived.Test.YtnkgkimlmceciaaLaws
namespace Go.Proofs.Ytnkgkimlmceciaa
open Go.RowKit Go.Shelf
attribute [local go_sem] Oper.semAt_some

/-- Decided again, without Incr. -/
theorem dec_twice {f : Fl} {is : Bool} {old n a d : Int} (hi : f.inc = false) (h : dec f is old n = (a, d, 0)) (hn : (!is && d == 0) = false) : dec f true a n = (a, 0, 0) := by
  obtain ⟨nx, xx, gt, lt, ch, inc⟩ := f
  simp only at hi
  subst hi
  cases hr : Fl.right ⟨nx, xx, gt, lt, ch, false⟩
  · simp [dec, hr] at h
  · cases is
    · cases xx
      · simp [dec, hr, deedN, deedD] at h
        obtain ⟨rfl, rfl⟩ := h
        cases nx <;> simp [dec, hr, deedN, deedD, stays]
      · simp [dec, hr] at h
        obtain ⟨rfl, rfl⟩ := h
        simp at hn
    · cases nx
      · simp [dec, hr, deedN, deedD] at h
        obtain ⟨h1, h2⟩ := h
        cases hs : stays gt lt old n
        · rw [hs] at h1
          simp at h1
          subst h1
          simp [dec, hr, deedN, deedD]
        · rw [hs] at h1
          simp at h1
          subst h1
          simp [dec, hr, deedN, deedD, hs]
      · simp [dec, hr] at h
        obtain ⟨rfl, rfl⟩ := h
        simp [dec, hr]
theorem dec_i64 {f : Fl} {is : Bool} {old n a d c : Int} (h1 : I64 old) (h2 : I64 n) (h : dec f is old n = (a, d, c)) : I64 a := by
  have h0 : I64 0 := ⟨by decide, by decide⟩
  have hs := fun o => sumN_i64 o n
  unfold dec deedN at h
  have e : a = (dec f is old n).1 := by unfold dec deedN; rw [h]
  rw [e]
  unfold dec deedN
  simp only
  repeat' split
  all_goals first | assumption | exact hs _
theorem dec_err {f : Fl} {is : Bool} {old n a d c : Int} (hi : f.inc = false) (h : dec f is old n = (a, d, c)) : c = 0 ∨ (c = 110 ∧ a = 0 ∧ d = 0) := by
  unfold dec at h
  simp only [hi, Bool.false_and, Bool.false_eq_true, if_false] at h
  split at h
  · simp at h; omega
  · split at h <;> (simp at h; omega)

set_option maxRecDepth 100000 in
set_option maxHeartbeats 2000000 in
/-- FlagsTwice. -/
theorem twice_walk (f : Fl) (is : Bool) (old n : Int) (h1 : I64 old) (h2 : I64 n) (w : World) : Calls Try.prog 5 #[f.v, .bool is, .int .i64 old, .int .i64 n] w fun e w' => e = .returned (.bool true) ∧ Below w.heap.size w w' := by
  have HS := fun w => Lib.hid (shown_any w)
  obtain ⟨nx, xx, gt, lt, ch, inc⟩ := f
  obtain ⟨a, d, c, hd⟩ : ∃ a d c, dec ⟨nx, xx, gt, lt, ch, false⟩ is old n = (a, d, c) := ⟨_, _, _, rfl⟩
  have HA := fun w => Lib.hid (decide_any ⟨nx, xx, gt, lt, ch, false⟩ is old n h1 h2 w)
  have HB := fun w => Lib.hid (decide_any ⟨nx, xx, gt, lt, ch, false⟩ true a n (dec_i64 h1 h2 hd) h2 w)
  rw [decT_of hd] at HA
  simp only [Fl.v, Fl.c] at HA HB ⊢
  clear h1 h2
  have HE := Lib.hid (dec_err rfl hd)
  have HD := Lib.hid hd
  clear hd
  go_enter Try.func5, Try.ntmps5
  have k0 := Blk.new w 23 #[.bool nx, .bool xx, .bool gt, .bool lt, .bool ch, .bool inc]
  have b0 : Below w.heap.size w (w.alloc (.cells #[.bool nx, .bool xx, .bool gt, .bool lt, .bool ch, .bool inc] 23)) := (Below.refl _ _).alloc (Nat.le_refl _) _
  have K0 := Lib.hid k0
  have B0 := Lib.hid b0
  clear k0 b0
  go_wp2_with fail
  refine (HS _).out.mono ?_
  rintro e w1 ⟨rfl, hb1⟩
  have k1 := K0.out.later hb1
  have B1 := Lib.hid ((B0.out.trans (hb1.mono B0.out.size)).setCell (p := ⟨w.heap.size, 5, none⟩) (Nat.le_refl _) (.bool false))
  have K1 := Lib.hid (k1.set 5 (.bool false))
  have f5 := k1.free 5
  have c5 := k1.cell 5
  simp at c5
  have k1c := K1.out
  simp at k1c
  have d0 := k1c.cell 0
  have d1 := k1c.cell 1
  have d2 := k1c.cell 2
  have d3 := k1c.cell 3
  have d4 := k1c.cell 4
  have d5 := k1c.cell 5
  simp at d0 d1 d2 d3 d4 d5
  have K1' := Lib.hid k1c
  clear K0 B0 hb1 K1 k1c k1
  go_wp2_with fail
  refine (HA _).out.mono ?_
  rintro e w2 ⟨rfl, hb2⟩
  have K2 := Lib.hid (K1'.out.later hb2)
  have B2 := Lib.hid (B1.out.trans (hb2.mono B1.out.size))
  clear K1' B1 hb2 d0 d1 d2 d3 d4 d5 f5 c5
  have c0 := K2.out.cell 0
  have c1 := K2.out.cell 1
  have c2 := K2.out.cell 2
  have c3 := K2.out.cell 3
  have c4 := K2.out.cell 4
  have c5 := K2.out.cell 5
  simp at c0 c1 c2 c3 c4 c5
  have he := HE.out
  clear HE
  have fin : ∀ w', w' = w2 → Below w.heap.size w w' := fun w' e => by rw [e]; exact B2.out
  have FIN := Lib.hid fin
  clear fin
  rcases he with rfl | ⟨rfl, rfl, rfl⟩
  · by_cases hn : (!is && d == 0) = true
    · obtain ⟨rfl, hd0⟩ : is = false ∧ d = 0 := by simpa using hn
      subst hd0
      go_wp2_with fail
      go_ret
      exact ⟨rfl, FIN.out _ rfl⟩
    · have ht := dec_twice rfl HD.out (by simpa using hn)
      rw [decT_of ht] at HB
      clear ht HD
      have hn2 : is = true ∨ (is = false ∧ (d == 0) = false) := by cases is <;> simp_all
      clear hn
      rcases hn2 with rfl | ⟨rfl, hdn⟩
      all_goals go_wp2_with fail
      all_goals refine (HB _).out.mono ?_
      all_goals rintro e w3 ⟨rfl, hb3⟩
      all_goals have HB3 := Lib.hid hb3
      all_goals clear hb3
      all_goals go_wp2_with fail
      all_goals go_ret
      all_goals exact ⟨by simp, B2.out.trans (HB3.out.mono B2.out.size)⟩
  · go_wp2_with fail
    go_ret
    exact ⟨rfl, FIN.out _ rfl⟩

/-- What is decided, case by case. -/
theorem dec_cases {f : Fl} {is : Bool} {old n a d c : Int} (h : dec f is old n = (a, d, c)) (hc : c = 0) :
    f.right = true ∧ ((is = false ∧ d = 0 ∧ f.xx = true) ∨ (is = false ∧ d = 1 ∧ f.xx = false) ∨ (is = true ∧ d = 0 ∧ a = old) ∨ (is = true ∧ d = 2 ∧ a ≠ old ∧ f.nx = false ∧ (f.gt = true → old < a) ∧ (f.lt = true → a < old))) := by
  obtain ⟨nx, xx, gt, lt, ch, inc⟩ := f
  subst hc
  cases hr : Fl.right ⟨nx, xx, gt, lt, ch, inc⟩
  · simp [dec, hr] at h
  refine ⟨rfl, ?_⟩
  cases is
  · cases xx
    · right; left
      simp [dec, hr, deedN, deedD] at h
      split at h
      · simp at h
      · simp at h; simp [h.2]
    · left
      simp [dec, hr] at h
      simp [h.2]
  · cases nx
    · simp [dec, hr, deedN, deedD] at h
      split at h
      · simp at h
      · generalize (if inc = true then sumN old n else n) = m at h
        simp only [Prod.mk.injEq, and_true] at h
        obtain ⟨h1, h2⟩ := h
        cases hs : stays gt lt old m
        · simp [hs] at h1 h2
          subst h1
          by_cases e : m = old
          · right; right; left
            simp [e] at h2
            exact ⟨rfl, by omega, e⟩
          · right; right; right
            simp [e] at h2
            simp [stays] at hs
            refine ⟨rfl, by omega, e, rfl, fun hg => ?_, fun hl => ?_⟩
            · have := hs.1 hg; omega
            · have := hs.2 hl; omega
        · simp [hs] at h1 h2
          right; right; left
          exact ⟨rfl, by omega, by omega⟩
    · right; right; left
      simp [dec, hr] at h
      exact ⟨rfl, by omega, by omega⟩
end Go.Proofs.Ytnkgkimlmceciaa
