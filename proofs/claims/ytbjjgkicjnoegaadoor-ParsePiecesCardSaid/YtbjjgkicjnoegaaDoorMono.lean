/- More bytes behind a request change nothing of it: plain facts. -/
import Derived.Test.YtbjjgkicjnoegaaDoorAll
namespace Go.Proofs.YtbjjgkicjnoegaaDoor
open Go.RowKit Go.Shelf

theorem pre_more : ∀ {m l : List UInt8} (x : List UInt8), m.length ≤ l.length → Lib.hasPrefix (l ++ x) m = Lib.hasPrefix l m
  | [], l, x, _ => by simp [Lib.hasPrefix]
  | a :: m, [], x, h => by simp at h
  | a :: m, b :: l, x, h => by
    have ih := pre_more (m := m) (l := l) x (by simpa using h)
    simp only [Lib.hasPrefix] at ih
    simp only [Lib.hasPrefix, List.cons_append, List.isPrefixOf, ih]

theorem lineS_ok (mark : List UInt8) (x : List UInt8) : ∀ {l : List UInt8} {n : Nat} {p r : List UInt8}, lineS mark n l = .ok p r → lineS mark n (l ++ x) = .ok p (r ++ x)
  | [], n, p, r, h => by rw [lineS.eq_def] at h; cases h
  | b :: l, n, p, r, h => by
    have hs := lineS_size h
    have hp := pre_more (m := mark) (l := b :: l) x (by omega)
    rw [List.cons_append] at hp ⊢
    rw [lineS.eq_def] at h ⊢
    simp only at h ⊢
    rw [hp]
    split at h
    · rename_i h1
      rw [if_pos h1]
      cases h
      rw [← List.cons_append, List.drop_append_of_le_length]
      have := hs.2
      simp only [List.length_nil, List.length_drop] at this
      omega
    · rename_i h1
      rw [if_neg h1]
      cases n with
      | zero => cases h
      | succ n =>
        simp only at h ⊢
        cases hl : lineS mark n l with
        | more => rw [hl] at h; cases h
        | wrong => rw [hl] at h; cases h
        | ok q s =>
          rw [hl] at h
          rw [lineS_ok mark x hl]
          cases h
          rfl

theorem lineS_bad (mark : List UInt8) (hm : mark.length ≤ 2) (x : List UInt8) : ∀ {l : List UInt8} {n : Nat}, lineS mark n l = .wrong → lineS mark n (l ++ x) = .wrong ∨ (1 < mark.length ∧ ∃ p r, lineS mark n (l ++ x) = .ok p r ∧ p.length = n)
  | [], n, h => by rw [lineS.eq_def] at h; cases h
  | b :: l, n, h => by
    rw [List.cons_append]
    rw [lineS.eq_def] at h ⊢
    simp only at h ⊢
    split at h
    · cases h
    · rename_i h1
      cases n with
      | zero =>
        by_cases h2 : Lib.hasPrefix (b :: (l ++ x)) mark = true
        · right
          refine ⟨?_, [], _, by rw [if_pos h2], rfl⟩
          rcases Nat.lt_or_ge 1 mark.length with h3 | h3
          · exact h3
          · exfalso
            have := pre_more (m := mark) (l := b :: l) x (by simp; omega)
            rw [List.cons_append, h2] at this
            exact h1 this.symm
        · left; rw [if_neg h2]
      | succ n =>
        simp only at h ⊢
        by_cases h2 : Lib.hasPrefix (b :: (l ++ x)) mark = true
        · exfalso
          have hlen : mark.length ≤ (b :: l).length ∨ (b :: l).length < mark.length := by omega
          rcases hlen with h3 | h3
          · have := pre_more (m := mark) (l := b :: l) x h3
            rw [List.cons_append, h2] at this
            exact h1 this.symm
          · cases l with
            | nil => simp [lineS] at h
            | cons c l => simp only [List.length_cons] at h3; omega
        · rw [if_neg h2]
          cases hl : lineS mark n l with
          | more => rw [hl] at h; cases h
          | ok q s => rw [hl] at h; cases h
          | wrong =>
            rcases lineS_bad mark hm x hl with h4 | ⟨h5, p, r, h4, h6⟩
            · left; rw [h4]
            · right; exact ⟨h5, b :: p, r, by rw [h4], by simp [h6]⟩

theorem numberS_ok {T : Nat → Int} {l r : List UInt8} {n : Int} (x : List UInt8) (h : numberS T l = .ok n r) : numberS T (l ++ x) = .ok n (r ++ x) := by
  unfold numberS at h ⊢
  cases hl : lineS endL 32 l with
  | more => rw [hl] at h; cases h
  | wrong => rw [hl] at h; cases h
  | ok p q =>
    rw [hl] at h
    rw [lineS_ok endL x hl]
    simp only at h ⊢
    split at h
    · cases h; rfl
    · cases h
theorem numberS_bad {T : Nat → Int} {l : List UInt8} (x : List UInt8) (h : numberS T l = .wrong) : numberS T (l ++ x) = .wrong := by
  unfold numberS at h ⊢
  cases hl : lineS endL 32 l with
  | more => rw [hl] at h; cases h
  | ok p q =>
    rw [hl] at h
    rw [lineS_ok endL x hl]
    simp only at h ⊢
    split at h
    · cases h
    · rfl
  | wrong =>
    rcases lineS_bad endL (by decide) x hl with h2 | ⟨_, p, r, h2, h3⟩
    · rw [h2]
    · rw [h2]
      simp only
      rw [show parseS T (p.drop 1) = none from by unfold parseS; rw [if_pos (by simp; omega)]]

theorem bytesS_ok {n : Nat} {l s r : List UInt8} (x : List UInt8) (h : bytesS n l = .ok s r) : bytesS n (l ++ x) = .ok s (r ++ x) := by
  unfold bytesS at h ⊢
  split at h
  · cases h
  · rename_i h1
    rw [if_neg (by simp; omega), List.drop_append_of_le_length (by omega), pre_more x (by simp [endL]; omega)]
    split at h
    · rename_i h2
      rw [if_pos h2]
      cases h
      rw [List.take_append_of_le_length (by omega), List.drop_append_of_le_length (by omega)]
    · cases h
theorem bytesS_bad {n : Nat} {l : List UInt8} (x : List UInt8) (h : bytesS n l = .wrong) : bytesS n (l ++ x) = .wrong := by
  unfold bytesS at h ⊢
  split at h
  · cases h
  · rename_i h1
    rw [if_neg (by simp; omega), List.drop_append_of_le_length (by omega), pre_more x (by simp [endL]; omega)]
    split at h
    · cases h
    · rename_i h2; rw [if_neg h2]

theorem numberS_nil (T : Nat → Int) : numberS T [] = .more := by unfold numberS; rw [lineS.eq_def]
theorem bulkS_ok {T : Nat → Int} {l s r : List UInt8} (x : List UInt8) (h : bulkS T l = .ok s r) : bulkS T (l ++ x) = .ok s (r ++ x) := by
  cases l with
  | nil => unfold bulkS at h; rw [if_neg (by simp), numberS_nil] at h; cases h
  | cons b l =>
    unfold bulkS at h ⊢
    simp only [List.cons_append, ne_eq, reduceCtorEq, not_false_eq_true, List.head?_cons, true_and] at h ⊢
    split at h
    · cases h
    · rename_i h1
      rw [if_neg h1]
      cases hn : numberS T (b :: l) with
      | more => rw [hn] at h; cases h
      | wrong => rw [hn] at h; cases h
      | ok n q =>
        have h2 := numberS_ok x hn
        rw [List.cons_append] at h2
        rw [hn] at h
        rw [h2]
        simp only at h ⊢
        split at h
        · cases h
        · rename_i h3; rw [if_neg h3]; exact bytesS_ok x h
theorem bulkS_bad {T : Nat → Int} {l : List UInt8} (x : List UInt8) (h : bulkS T l = .wrong) : bulkS T (l ++ x) = .wrong := by
  cases l with
  | nil => unfold bulkS at h; rw [if_neg (by simp), numberS_nil] at h; cases h
  | cons b l =>
    unfold bulkS at h ⊢
    simp only [List.cons_append, ne_eq, reduceCtorEq, not_false_eq_true, List.head?_cons, true_and] at h ⊢
    split at h
    · rename_i h1; rw [if_pos h1]
    · rename_i h1
      rw [if_neg h1]
      cases hn : numberS T (b :: l) with
      | more => rw [hn] at h; cases h
      | wrong =>
        have h2 := numberS_bad x hn
        rw [List.cons_append] at h2
        rw [h2]
      | ok n q =>
        have h2 := numberS_ok x hn
        rw [List.cons_append] at h2
        rw [hn] at h
        rw [h2]
        simp only at h ⊢
        split at h
        · rename_i h3; rw [if_pos h3]
        · rename_i h3; rw [if_neg h3]; exact bytesS_bad x h

theorem bulksA_ok {T : Nat → Int} (x : List UInt8) : ∀ {k : Nat} {acc ss : List (List UInt8)} {l r : List UInt8}, bulksA T k acc l = .ok ss r → bulksA T k acc (l ++ x) = .ok ss (r ++ x)
  | 0, acc, ss, l, r, h => by rw [bulksA] at h ⊢; cases h; rfl
  | k + 1, acc, ss, l, r, h => by
    rw [bulksA] at h ⊢
    cases hb : bulkS T l with
    | more => rw [hb] at h; cases h
    | wrong => rw [hb] at h; cases h
    | ok s q =>
      rw [hb] at h
      rw [bulkS_ok x hb]
      exact bulksA_ok x h
theorem bulksA_bad {T : Nat → Int} (x : List UInt8) : ∀ {k : Nat} {acc : List (List UInt8)} {l : List UInt8}, bulksA T k acc l = .wrong → bulksA T k acc (l ++ x) = .wrong
  | 0, acc, l, h => by rw [bulksA] at h; cases h
  | k + 1, acc, l, h => by
    rw [bulksA] at h ⊢
    cases hb : bulkS T l with
    | more => rw [hb] at h; cases h
    | wrong => rw [bulkS_bad x hb]
    | ok s q =>
      rw [hb] at h
      rw [bulkS_ok x hb]
      exact bulksA_bad x h

theorem star_more {b : UInt8} {l x : List UInt8} : Lib.hasPrefix (b :: l ++ x) starL = Lib.hasPrefix (b :: l) starL := pre_more x (by simp [starL])
theorem arguments_nil (T : Nat → Int) : argumentsS T [] = .more := by
  unfold argumentsS
  rw [if_neg (by decide), lineS.eq_def]
theorem arguments_ok {T : Nat → Int} {l r : List UInt8} {ss : List (List UInt8)} (x : List UInt8) (h : argumentsS T l = .ok ss r) : argumentsS T (l ++ x) = .ok ss (r ++ x) := by
  cases l with
  | nil => rw [arguments_nil] at h; cases h
  | cons b l =>
    unfold argumentsS at h ⊢
    rw [star_more]
    split at h
    · rename_i h1
      rw [if_pos h1]
      cases hn : numberS T (b :: l) with
      | more => rw [hn] at h; cases h
      | wrong => rw [hn] at h; cases h
      | ok n q =>
        rw [hn] at h
        rw [numberS_ok x hn]
        simp only at h ⊢
        split at h
        · cases h
        · rename_i h2; rw [if_neg h2]; exact bulksA_ok x h
    · rename_i h1
      rw [if_neg h1]
      cases hn : lineS lf 1024 (b :: l) with
      | more => rw [hn] at h; cases h
      | wrong => rw [hn] at h; cases h
      | ok p q =>
        rw [hn] at h
        rw [lineS_ok lf x hn]
        simp only at h ⊢
        split at h
        · cases h
        · rename_i h2; rw [if_neg h2]; cases h; rfl
theorem arguments_bad {T : Nat → Int} {l : List UInt8} (x : List UInt8) (h : argumentsS T l = .wrong) : argumentsS T (l ++ x) = .wrong := by
  cases l with
  | nil => rw [arguments_nil] at h; cases h
  | cons b l =>
    unfold argumentsS at h ⊢
    rw [star_more]
    split at h
    · rename_i h1
      rw [if_pos h1]
      cases hn : numberS T (b :: l) with
      | more => rw [hn] at h; cases h
      | wrong => rw [numberS_bad x hn]
      | ok n q =>
        rw [hn] at h
        rw [numberS_ok x hn]
        simp only at h ⊢
        split at h
        · rename_i h2; rw [if_pos h2]
        · rename_i h2; rw [if_neg h2]; exact bulksA_bad x h
    · rename_i h1
      rw [if_neg h1]
      cases hn : lineS lf 1024 (b :: l) with
      | more => rw [hn] at h; cases h
      | wrong =>
        rcases lineS_bad lf (by decide) x hn with h2 | ⟨h2, _⟩
        · rw [h2]
        · exact absurd h2 (by decide)
      | ok p q =>
        rw [hn] at h
        rw [lineS_ok lf x hn]
        simp only at h ⊢
        split at h
        · rename_i h2; rw [if_pos h2]
        · cases h

/-- All of them, with rounds enough. -/
theorem runS_same {T : Nat → Int} : ∀ {f f' : Nat} {acc : List (List UInt8)} {l : List UInt8}, l.length < f → l.length < f' → runS T f acc l = runS T f' acc l
  | f + 1, f' + 1, acc, l, h, h' => by
    rw [runS, runS]
    cases hs : argumentsS T l with
    | more => rfl
    | wrong => rfl
    | ok ss r =>
      have := (arguments_len hs).2
      exact runS_same (by omega) (by omega)
theorem runS_acc {T : Nat → Int} : ∀ {f : Nat} {acc : List (List UInt8)} {l : List UInt8}, runS T f acc l = (acc ++ (runS T f [] l).1, (runS T f [] l).2)
  | 0, acc, l => by simp [runS]
  | f + 1, acc, l => by
    rw [runS, runS]
    cases hs : argumentsS T l with
    | more => simp
    | wrong => simp
    | ok ss r =>
      simp only
      rw [runS_acc (acc := acc ++ nextL :: ss), runS_acc (acc := [] ++ nextL :: ss)]
      simp
theorem runS_code {T : Nat → Int} : ∀ {f : Nat} {acc : List (List UInt8)} {l : List UInt8}, l.length < f → ((runS T f acc l).2.1 = 31 ∨ (runS T f acc l).2.1 = 40) ∧ (runS T f acc l).2.2.length ≤ l.length
  | f + 1, acc, l, h => by
    rw [runS]
    cases hs : argumentsS T l with
    | more => simp
    | wrong => simp
    | ok ss r =>
      have h1 := (arguments_len hs).2
      have := runS_code (T := T) (f := f) (acc := acc ++ nextL :: ss) (l := r) (by omega)
      exact ⟨this.1, by have := this.2; simp only at this ⊢; omega⟩
/-- Asked for more: it goes on from what is left. -/
theorem runS_more {T : Nat → Int} (x : List UInt8) : ∀ {f : Nat} {acc o : List (List UInt8)} {l r : List UInt8}, (l ++ x).length < f → runS T f acc l = (o, 31, r) → runS T f acc (l ++ x) = runS T f o (r ++ x)
  | f + 1, acc, o, l, r, h, hr => by
    rw [runS] at hr
    cases hs : argumentsS T l with
    | more => rw [hs] at hr; cases hr; rfl
    | wrong => rw [hs] at hr; simp at hr
    | ok ss q =>
      rw [hs] at hr
      simp only at hr
      have h1 := (arguments_len hs).2
      rw [List.length_append] at h
      conv => lhs; rw [runS, arguments_ok x hs]
      simp only
      rw [runS_more x (by rw [List.length_append]; omega) hr]
      have h2 := (runS_code (T := T) (f := f) (acc := acc ++ nextL :: ss) (l := q) (by omega)).2
      rw [hr] at h2
      simp only at h2
      exact runS_same (by rw [List.length_append]; omega) (by rw [List.length_append]; omega)
/-- Told that bytes are wrong: more change nothing of what came. -/
theorem runS_bad {T : Nat → Int} (x : List UInt8) : ∀ {f : Nat} {acc o : List (List UInt8)} {l r : List UInt8}, runS T f acc l = (o, 40, r) → runS T f acc (l ++ x) = (o, 40, r ++ x)
  | 0, acc, o, l, r, hr => by rw [runS] at hr; simp at hr
  | f + 1, acc, o, l, r, hr => by
    rw [runS] at hr
    cases hs : argumentsS T l with
    | more => rw [hs] at hr; simp at hr
    | wrong => rw [hs] at hr; cases hr; rw [runS, arguments_bad x hs]
    | ok ss q =>
      rw [hs] at hr
      rw [runS, arguments_ok x hs]
      exact runS_bad x hr

end Go.Proofs.YtbjjgkicjnoegaaDoor
