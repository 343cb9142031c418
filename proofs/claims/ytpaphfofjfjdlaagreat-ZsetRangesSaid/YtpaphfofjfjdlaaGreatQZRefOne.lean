/- The reference's set beside the program's: what Add answers; a new one. -/
import Derived.Test.YtpaphfofjfjdlaaGreatQZRefAdd
namespace Go.Proofs.YtpaphfofjfjdlaaGreat
open Go.RowKit Go.Shelf Sk
attribute [local go_sem] Oper.semAt_some

/-- As long as no list was needed, all fits. -/
def FitE (isL : Bool) (le lm : Int) (E : List En) : Prop := isL = false → (E.length : Int) ≤ le ∧ ∀ e ∈ E, (e.1.size : Int) ≤ lm
theorem fit_nil (isL : Bool) {le lm : Int} (h : 0 ≤ le) : FitE isL le lm [] := fun _ => ⟨by simpa using h, fun e he => by cases he⟩
theorem FitE.sub {isL : Bool} {le lm : Int} {E E1 : List En} (h : FitE isL le lm E) (hl : E1.length ≤ E.length) (hm : ∀ e ∈ E1, e ∈ E) : FitE isL le lm E1 := fun hi => ⟨by have := (h hi).1; omega, fun e he => (h hi).2 e (hm e he)⟩
theorem addL_eq {isL : Bool} {le lm : Int} {E : List En} (h : FitE isL le lm E) (hd : Dist E) {m : ByteArray} {s lv : Int} (hb : badB m lv = false) :
    (isL || (decide (le < ((addE E m s).length : Int)) || decide (lm < (m.size : Int)))) = addL le lm isL E m lv := by
  unfold addL
  rw [hb, addE_len hd]
  cases isL with
  | true => simp
  | false =>
    obtain ⟨h1, h2⟩ := h rfl
    cases hh : hasE E m with
    | true =>
      obtain ⟨s', hs'⟩ := hasE_iff.1 hh
      have h3 := h2 _ hs'
      simp only [if_true, Bool.not_false, Bool.true_and, Bool.not_true, Bool.false_and, Bool.false_or]
      rw [decide_eq_false (by omega), decide_eq_false (by simp only at h3; omega)]
      rfl
    | false =>
      simp only [Bool.false_eq_true, if_false, Bool.not_false, Bool.true_and, Bool.false_or]
      congr 1
      apply decide_eq_decide.2
      push_cast
      omega
theorem fit_add {isL : Bool} {le lm : Int} {E : List En} (h : FitE isL le lm E) (hd : Dist E) (m : ByteArray) (s lv : Int) : FitE (addL le lm isL E m lv) le lm (addS E m s lv) := by
  unfold addS
  cases hb : badB m lv with
  | true =>
    unfold addL
    rw [hb]
    simpa using h
  | false =>
    rw [← addL_eq (s := s) h hd hb]
    simp only [Bool.false_eq_true, if_false]
    intro hi
    simp only [Bool.or_eq_false_iff, decide_eq_false_iff_not] at hi
    obtain ⟨h0, h1, h2⟩ := hi
    refine ⟨by omega, fun e he => ?_⟩
    rcases mem_addE.1 he with rfl | ⟨h3, _⟩
    · simp only; omega
    · exact (h h0).2 e h3

theorem ref_add {w : World} {r : Nat} {E : List En} {le lm : Int} {isL : Bool} (h : RefC w r E le lm isL) (hf : FitE isL le lm E) (hs : SrtE E) (hd : Dist E) (hz : ∀ x ∈ E, x.1.size ≤ 64) (h4 : E.length < 400) (m : ByteArray) (hm : m.size ≤ 281474976710656) (s lv : Int) :
    Calls Tryz.prog 36 #[.pointer (some ⟨r, 0, none⟩), .string m, .int .i64 s, .int .i64 lv] w fun e w' => e = .returned (.tuple #[.bool (addA E m lv), .int .i64 (addN m lv)]) ∧ RefC w' r (addS E m s lv) le lm (addL le lm isL E m lv) ∧ Far (fun k => k = r) w w' := by
  by_cases hb : 64 < m.size ∨ lv < 1 ∨ 32 < lv
  · have hb2 : badB m lv = true := decide_eq_true hb
    refine (refadd_arg _ m s lv hb hm w).mono ?_
    rintro e w' ⟨rfl, rfl⟩
    unfold addA addN addS addL
    rw [hb2]
    simp only [if_true, Bool.not_true, Bool.false_and, Bool.or_false]
    exact ⟨trivial, h, Far.refl _ _⟩
  · have hb2 : badB m lv = false := decide_eq_false hb
    refine (refadd_in h hs hd hz h4 m s lv (by omega) (by omega) (by omega)).mono ?_
    rintro e w' ⟨rfl, h1, h2⟩
    rw [addL_eq hf hd hb2] at h1
    unfold addA addN addS
    rw [hb2]
    exact ⟨rfl, h1, h2⟩

theorem ref_new (en mn le lm : Int) (hle : min (max en 0) 200 = le) (hlm : min (max mn 0) 64 = lm) (w : World) :
    Calls Tryz.prog 12 #[.agg #[.int .i64 en, .int .i64 mn]] w fun e w' => ∃ r, e = .returned (.pointer (some ⟨r, 0, none⟩)) ∧ w.heap.size ≤ r ∧ RefC w' r [] le lm false ∧ Below w.heap.size w w' := by
  have e1 : max 0 (min 200 en) = le := by omega
  have e2 : max 0 (min 64 mn) = lm := by omega
  have hb1 := alloc_below w (.cells #[.int .i64 en, .int .i64 mn] 23)
  have k1 := Blk.new w 23 #[.int .i64 en, .int .i64 mn]
  obtain ⟨c0, c1, _, _⟩ := facts2 k1
  have k2 := Blk.new (w.alloc (.cells #[.int .i64 en, .int .i64 mn] 23)) 37 #[.slice none 0 0, .int .i64 le, .int .i64 lm, .bool false]
  have HB := Lib.hid (hb1.alloc hb1.size (.cells #[.slice none 0 0, .int .i64 le, .int .i64 lm, .bool false] 37))
  have hsz : (w.alloc (.cells #[.int .i64 en, .int .i64 mn] 23)).heap.size = w.heap.size + 1 := Array.size_push _
  rw [hsz] at k2
  have HR := Lib.hid (show RefC ((w.alloc (.cells #[.int .i64 en, .int .i64 mn] 23)).alloc (.cells #[.slice none 0 0, .int .i64 le, .int .i64 lm, .bool false] 37)) (w.heap.size + 1) [] le lm false from ⟨none, 0, k2, Nat.le_refl _, Row.nil _ _⟩)
  clear hle hlm k1 k2 hb1 hsz
  go_enter Tryz.func12, Tryz.ntmps12
  go_wp2_with fail
  go_returns
  exact ⟨_, rfl, by omega, HR.out, HB.out⟩
end Go.Proofs.YtpaphfofjfjdlaaGreat
