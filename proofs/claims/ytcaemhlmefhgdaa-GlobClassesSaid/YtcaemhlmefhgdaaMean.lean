/- What it means that a text matches parts; that fills answers just that; the parts of plain and of quoted texts. -/
import Derived.Test.YtcaemhlmefhgdaaMatch
import Derived.Test.YtcaemhlmefhgdaaText
namespace Go.Proofs.Ytcaemhlmefhgdaa

/-- All these characters, in order, are what the parts say. -/
def Mt : List PartS → List Int → Prop
  | [], cs => cs = []
  | none :: ps, cs => ∃ a b, cs = a ++ b ∧ Mt ps b
  | some f :: ps, cs => ∃ c b, cs = c :: b ∧ f c = true ∧ Mt ps b

theorem Mt_append : ∀ (ps qs : List PartS) (cs : List Int), Mt (ps ++ qs) cs ↔ ∃ a b, cs = a ++ b ∧ Mt ps a ∧ Mt qs b
  | [], qs, cs => ⟨fun h => ⟨[], cs, rfl, rfl, h⟩, fun ⟨a, b, e, ha, hb⟩ => by have : a = [] := ha; subst this; rw [e]; exact hb⟩
  | none :: ps, qs, cs => by
    rw [List.cons_append, Mt]
    constructor
    · rintro ⟨a, b, rfl, h⟩
      obtain ⟨x, y, rfl, h1, h2⟩ := (Mt_append ps qs b).1 h
      exact ⟨a ++ x, y, by simp, ⟨a, x, rfl, h1⟩, h2⟩
    · rintro ⟨a, b, rfl, ⟨x, y, rfl, h1⟩, h2⟩
      exact ⟨x, y ++ b, by simp, (Mt_append ps qs _).2 ⟨y, b, rfl, h1, h2⟩⟩
  | some f :: ps, qs, cs => by
    rw [List.cons_append, Mt]
    constructor
    · rintro ⟨c, b, rfl, hf, h⟩
      obtain ⟨x, y, rfl, h1, h2⟩ := (Mt_append ps qs b).1 h
      exact ⟨c :: x, y, by simp, ⟨c, x, rfl, hf, h1⟩, h2⟩
    · rintro ⟨a, b, rfl, ⟨c, x, rfl, hf, h1⟩, h2⟩
      exact ⟨c, x ++ b, by simp, hf, (Mt_append ps qs _).2 ⟨x, b, rfl, h1, h2⟩⟩

/-- The first j parts say so. -/
def Tj (ps : List PartS) (j : Nat) (cs : List Int) : Prop := Mt (ps.take j) cs
theorem Tj_zero (ps : List PartS) (cs : List Int) : Tj ps 0 cs ↔ cs = [] := by simp [Tj, Mt]
theorem take_snoc {ps : List PartS} {j : Nat} (h : j < ps.length) : ps.take (j + 1) = ps.take j ++ [ps.getD j none] := by
  rw [List.take_succ_eq_append_getElem h]; simp [List.getD, List.getElem?_eq_getElem h]
theorem Tj_run {ps : List PartS} {j : Nat} (h : j < ps.length) (e : ps.getD j none = none) (cs : List Int) : Tj ps (j + 1) cs ↔ ∃ a b, cs = a ++ b ∧ Tj ps j a := by
  rw [Tj, take_snoc h, e, Mt_append]
  constructor
  · rintro ⟨a, b, rfl, h1, _⟩; exact ⟨a, b, rfl, h1⟩
  · rintro ⟨a, b, rfl, h1⟩; exact ⟨a, b, rfl, h1, ⟨b, [], by simp, rfl⟩⟩
theorem Tj_one {ps : List PartS} {j : Nat} {f : Int → Bool} (h : j < ps.length) (e : ps.getD j none = some f) (cs : List Int) : Tj ps (j + 1) cs ↔ ∃ a c, cs = a ++ [c] ∧ Tj ps j a ∧ f c = true := by
  rw [Tj, take_snoc h, e, Mt_append]
  constructor
  · rintro ⟨a, b, rfl, h1, ⟨c, x, rfl, hf, rfl⟩⟩; exact ⟨a, c, rfl, h1, hf⟩
  · rintro ⟨a, c, rfl, h1, hf⟩; exact ⟨a, [c], rfl, h1, ⟨c, [], rfl, hf, rfl⟩⟩

/-- Place j is come to: behind the first j parts, or in the run that comes next. -/
def Run (ps : List PartS) (j : Nat) : Prop := j < ps.length ∧ ps.getD j none = none
def Pl (ps : List PartS) (j : Nat) (cs : List Int) : Prop := Tj ps j cs ∨ (Run ps j ∧ Tj ps (j + 1) cs)

theorem snoc_inj {α : Type} {a b : List α} {x y : α} (h : a ++ [x] = b ++ [y]) : a = b ∧ x = y := by
  have := List.append_inj' h rfl
  exact ⟨this.1, by simpa using this.2⟩
theorem list_end {α : Type} (b : List α) : b = [] ∨ ∃ b' x, b = b' ++ [x] := by
  rcases List.eq_nil_or_concat b with h | ⟨l, x, h⟩
  · exact .inl h
  · exact .inr ⟨l, x, by simpa using h⟩

theorem Pl_zero_nil (ps : List PartS) : Pl ps 0 [] := .inl ((Tj_zero _ _).2 rfl)
theorem Pl_nil {ps : List PartS} {j : Nat} (h : j < ps.length) : Pl ps (j + 1) [] ↔ (ps.getD j none).isNone = true ∧ Pl ps j [] := by
  have tj : Tj ps (j + 1) [] → (ps.getD j none).isNone = true ∧ Pl ps j [] := fun ht => by
    cases e : ps.getD j none with
    | none =>
      obtain ⟨a, b, hab, h1⟩ := (Tj_run h e _).1 ht
      obtain ⟨rfl, _⟩ := List.append_eq_nil_iff.1 hab.symm
      exact ⟨rfl, .inl h1⟩
    | some f =>
      obtain ⟨a, c, hac, _⟩ := (Tj_one h e _).1 ht
      simp at hac
  constructor
  · rintro (ht | ⟨⟨hr, er⟩, ht⟩)
    · exact tj ht
    · obtain ⟨a, b, hab, h1⟩ := (Tj_run hr er _).1 ht
      obtain ⟨rfl, _⟩ := List.append_eq_nil_iff.1 hab.symm
      exact tj h1
  · rintro ⟨e, ht | ⟨_, ht⟩⟩
    · have e' : ps.getD j none = none := by simpa using e
      exact .inl ((Tj_run h e' _).2 ⟨[], [], rfl, ht⟩)
    · exact .inl ht

theorem Pl_zero_snoc (ps : List PartS) (cs : List Int) (r : Int) : Pl ps 0 (cs ++ [r]) ↔ Run ps 0 ∧ Pl ps 0 cs := by
  constructor
  · rintro (ht | ⟨hr, ht⟩)
    · have := (Tj_zero _ _).1 ht; simp at this
    · exact ⟨hr, .inr ⟨hr, (Tj_run hr.1 hr.2 _).2 ⟨[], cs, rfl, (Tj_zero _ _).2 rfl⟩⟩⟩
  · rintro ⟨hr, _⟩
    exact .inr ⟨hr, (Tj_run hr.1 hr.2 _).2 ⟨[], cs ++ [r], rfl, (Tj_zero _ _).2 rfl⟩⟩

theorem Pl_snoc {ps : List PartS} {j : Nat} (h : j < ps.length) (cs : List Int) (r : Int) :
    Pl ps (j + 1) (cs ++ [r]) ↔ (Run ps (j + 1) ∧ Pl ps (j + 1) cs) ∨ (∃ f, ps.getD j none = some f ∧ f r = true ∧ Pl ps j cs) ∨ ((ps.getD j none).isNone = true ∧ Pl ps j (cs ++ [r])) := by
  have tj : Tj ps (j + 1) (cs ++ [r]) → (∃ f, ps.getD j none = some f ∧ f r = true ∧ Pl ps j cs) ∨ ((ps.getD j none).isNone = true ∧ Pl ps j (cs ++ [r])) := fun ht => by
    cases e : ps.getD j none with
    | none => exact .inr ⟨rfl, .inr ⟨⟨h, e⟩, ht⟩⟩
    | some f =>
      obtain ⟨a, c, hac, h1, hf⟩ := (Tj_one h e _).1 ht
      obtain ⟨rfl, rfl⟩ := snoc_inj hac
      exact .inl ⟨f, rfl, hf, .inl h1⟩
  constructor
  · rintro (ht | ⟨hr, ht⟩)
    · exact .inr (tj ht)
    · obtain ⟨a, b, hab, h1⟩ := (Tj_run hr.1 hr.2 _).1 ht
      rcases list_end b with rfl | ⟨b', x, rfl⟩
      · rw [List.append_nil] at hab
        subst hab
        exact .inr (tj h1)
      · rw [← List.append_assoc] at hab
        obtain ⟨rfl, rfl⟩ := snoc_inj hab
        exact .inl ⟨hr, .inr ⟨hr, (Tj_run hr.1 hr.2 _).2 ⟨a, b', rfl, h1⟩⟩⟩
  · rintro (⟨hr, hp⟩ | ⟨f, e, hf, hp⟩ | ⟨e, hp⟩)
    · refine .inr ⟨hr, (Tj_run hr.1 hr.2 _).2 ?_⟩
      rcases hp with ht | ⟨_, ht⟩
      · exact ⟨cs, [r], rfl, ht⟩
      · obtain ⟨a, b, rfl, h1⟩ := (Tj_run hr.1 hr.2 _).1 ht
        exact ⟨a, b ++ [r], by simp, h1⟩
    · rcases hp with ht | ⟨hr, _⟩
      · exact .inl ((Tj_one h e _).2 ⟨cs, r, rfl, ht, hf⟩)
      · rw [hr.2] at e; cases e
    · have e' : ps.getD j none = none := by simpa using e
      rcases hp with ht | ⟨_, ht⟩
      · exact .inl ((Tj_run h e' _).2 ⟨cs ++ [r], [], by simp, ht⟩)
      · exact .inl ht

/-! What the program's rows of bools hold. -/
theorem getD_set {bs : List Bool} {i j : Nat} : (bs.set i true).getD j false = if i = j ∧ i < bs.length then true else bs.getD j false := by
  simp only [List.getD_eq_getElem?_getD, List.getElem?_set]
  by_cases h : i = j
  · subst h
    by_cases h2 : i < bs.length
    · simp [h2]
    · simp [h2]
  · simp [h]

theorem passTo_at (ps : List PartS) (bs : List Bool) : ∀ (k j : Nat), (j = 0 ∨ k < j) → (passTo ps bs k).getD j false = bs.getD j false
  | 0, j, _ => rfl
  | k + 1, j, h => by
    rw [passTo]
    split
    · rw [getD_set, if_neg (by omega)]; exact passTo_at ps bs k j (by omega)
    · exact passTo_at ps bs k j (by omega)
theorem passTo_stays (ps : List PartS) (bs : List Bool) (j : Nat) : ∀ (d : Nat), (passTo ps bs (j + d)).getD j false = (passTo ps bs j).getD j false
  | 0 => rfl
  | d + 1 => by
    rw [← Nat.add_assoc, passTo]
    split
    · rw [getD_set, if_neg (by omega)]; exact passTo_stays ps bs j d
    · exact passTo_stays ps bs j d
theorem passTo_succ {ps : List PartS} {bs : List Bool} {k j : Nat} (hj : j < k) (hl : k < bs.length) :
    (passTo ps bs k).getD (j + 1) false = (bs.getD (j + 1) false || ((ps.getD j none).isNone && (passTo ps bs k).getD j false)) := by
  obtain ⟨d, rfl⟩ : ∃ d, k = j + 1 + d := ⟨k - (j + 1), by omega⟩
  rw [passTo_stays ps bs (j + 1) d, show j + 1 + d = j + (1 + d) by omega, passTo_stays ps bs j (1 + d), passTo]
  split
  · rename_i h
    rw [h, getD_set, if_pos ⟨rfl, by rw [passTo_length]; omega⟩]; simp
  · rename_i h
    rw [passTo_at ps bs j (j + 1) (by omega)]
    rw [Bool.not_eq_true] at h
    rw [h, Bool.or_false]

theorem stepTo_at {ps : List PartS} {bs : List Bool} {r : Int} : ∀ (k j : Nat), k ≤ ps.length → ps.length < bs.length → (((stepTo ps bs r k).getD j false = true) ↔ (j < k ∧ ps.getD j none = none ∧ bs.getD j false = true) ∨ (∃ i f, i < k ∧ j = i + 1 ∧ ps.getD i none = some f ∧ f r = true ∧ bs.getD i false = true))
  | 0, j, _, _ => by
    have : (List.replicate bs.length false).getD j false = false := by
      simp [List.getD_eq_getElem?_getD, List.getElem?_replicate]; split <;> rfl
    rw [stepTo, this]
    simp
  | k + 1, j, hk, hl => by
    have ih := stepTo_at (ps := ps) (bs := bs) (r := r) k j (by omega) hl
    rw [stepTo]
    cases e : ps.getD k none with
    | none =>
      cases eb : bs.getD k false
      · simp only [Bool.false_and, if_false, Bool.false_eq_true, ih]
        constructor
        · rintro (⟨h1, h2, h3⟩ | ⟨i, f, h1, h2, h3, h4, h5⟩)
          · exact .inl ⟨by omega, h2, h3⟩
          · exact .inr ⟨i, f, by omega, h2, h3, h4, h5⟩
        · rintro (⟨h1, h2, h3⟩ | ⟨i, f, h1, h2, h3, h4, h5⟩)
          · refine .inl ⟨?_, h2, h3⟩
            rcases Nat.lt_or_eq_of_le (Nat.lt_succ_iff.1 h1) with h | rfl
            · exact h
            · rw [eb] at h3; cases h3
          · refine .inr ⟨i, f, ?_, h2, h3, h4, h5⟩
            rcases Nat.lt_or_eq_of_le (Nat.lt_succ_iff.1 h1) with h | rfl
            · exact h
            · rw [e] at h3; cases h3
      · simp only [takesB, Bool.and_self, if_true, Option.isNone_none]
        rw [getD_set, stepTo_length]
        by_cases hj : k = j
        · subst hj
          rw [if_pos ⟨rfl, by omega⟩]
          simp only [true_iff]
          exact .inl ⟨by omega, e, eb⟩
        · rw [if_neg (fun h => hj h.1), ih]
          constructor
          · rintro (⟨h1, h2, h3⟩ | ⟨i, f, h1, h2, h3, h4, h5⟩)
            · exact .inl ⟨by omega, h2, h3⟩
            · exact .inr ⟨i, f, by omega, h2, h3, h4, h5⟩
          · rintro (⟨h1, h2, h3⟩ | ⟨i, f, h1, h2, h3, h4, h5⟩)
            · exact .inl ⟨by omega, h2, h3⟩
            · refine .inr ⟨i, f, ?_, h2, h3, h4, h5⟩
              rcases Nat.lt_or_eq_of_le (Nat.lt_succ_iff.1 h1) with h | rfl
              · exact h
              · rw [e] at h3; cases h3
    | some g =>
      cases eb : (bs.getD k false && g r)
      · simp only [takesB, eb, if_false, Bool.false_eq_true, ih]
        constructor
        · rintro (⟨h1, h2, h3⟩ | ⟨i, f, h1, h2, h3, h4, h5⟩)
          · exact .inl ⟨by omega, h2, h3⟩
          · exact .inr ⟨i, f, by omega, h2, h3, h4, h5⟩
        · rintro (⟨h1, h2, h3⟩ | ⟨i, f, h1, h2, h3, h4, h5⟩)
          · refine .inl ⟨?_, h2, h3⟩
            rcases Nat.lt_or_eq_of_le (Nat.lt_succ_iff.1 h1) with h | rfl
            · exact h
            · rw [e] at h2; cases h2
          · refine .inr ⟨i, f, ?_, h2, h3, h4, h5⟩
            rcases Nat.lt_or_eq_of_le (Nat.lt_succ_iff.1 h1) with h | rfl
            · exact h
            · rw [e] at h3; cases h3; rw [h5, h4] at eb; cases eb
      · have hb : bs.getD k false = true ∧ g r = true := by simpa using eb
        simp only [takesB, eb, if_true, Option.isNone_some, Bool.false_eq_true, if_false]
        rw [getD_set, stepTo_length]
        by_cases hj : k + 1 = j
        · subst hj
          rw [if_pos ⟨rfl, by omega⟩]
          simp only [true_iff]
          exact .inr ⟨k, g, by omega, rfl, e, hb.2, hb.1⟩
        · rw [if_neg (fun h => hj h.1), ih]
          constructor
          · rintro (⟨h1, h2, h3⟩ | ⟨i, f, h1, h2, h3, h4, h5⟩)
            · exact .inl ⟨by omega, h2, h3⟩
            · exact .inr ⟨i, f, by omega, h2, h3, h4, h5⟩
          · rintro (⟨h1, h2, h3⟩ | ⟨i, f, h1, h2, h3, h4, h5⟩)
            · refine .inl ⟨?_, h2, h3⟩
              rcases Nat.lt_or_eq_of_le (Nat.lt_succ_iff.1 h1) with h | rfl
              · exact h
              · rw [e] at h2; cases h2
            · exact .inr ⟨i, f, by omega, h2, h3, h4, h5⟩

/-- The row holds which places are come to. -/
def Holds (ps : List PartS) (bs : List Bool) (cs : List Int) : Prop := bs.length = ps.length + 1 ∧ ∀ j, j ≤ ps.length → (bs.getD j false = true ↔ Pl ps j cs)

theorem holds_start (ps : List PartS) : Holds ps (startS ps) [] := by
  have hl : (startS ps).length = ps.length + 1 := by rw [startS, passTo_length]; simp
  refine ⟨hl, fun j => ?_⟩
  induction j with
  | zero =>
    intro _
    rw [startS, passTo_at _ _ _ _ (.inl rfl)]
    simp only [Pl_zero_nil, iff_true]
    simp [List.getD_eq_getElem?_getD]
  | succ j ih =>
    intro hj
    rw [Pl_nil (by omega), ← ih (by omega), startS, passTo_succ (by omega) (by simp)]
    rw [getD_set, if_neg (by omega)]
    have : (List.replicate (ps.length + 1) false).getD (j + 1) false = false := by
      simp [List.getD_eq_getElem?_getD, List.getElem?_replicate]; split <;> rfl
    rw [this]
    simp

theorem holds_step {ps : List PartS} {bs : List Bool} {cs : List Int} (h : Holds ps bs cs) (r : Int) : Holds ps (stepS ps bs r) (cs ++ [r]) := by
  obtain ⟨hl, hh⟩ := h
  refine ⟨by rw [stepS_length, hl], fun j => ?_⟩
  induction j with
  | zero =>
    intro _
    rw [Pl_zero_snoc, ← hh 0 (by omega), stepS, passTo_at _ _ _ _ (.inl rfl), stepTo_at _ _ (Nat.le_refl _) (by omega)]
    constructor
    · rintro (⟨h1, h2, h3⟩ | ⟨i, f, _, h2, _⟩)
      · exact ⟨⟨h1, h2⟩, h3⟩
      · omega
    · rintro ⟨⟨h1, h2⟩, h3⟩
      exact .inl ⟨h1, h2, h3⟩
  | succ j ih =>
    intro hj
    have ih' := ih (by omega)
    rw [Pl_snoc (by omega), ← ih', ← hh (j + 1) hj, stepS, passTo_succ (by omega) (by rw [stepTo_length]; omega)]
    rw [Bool.or_eq_true, Bool.and_eq_true, stepTo_at _ _ (Nat.le_refl _) (by omega)]
    rw [or_assoc]
    refine or_congr ⟨fun ⟨h1, h2, h3⟩ => ⟨⟨h1, h2⟩, h3⟩, fun ⟨⟨h1, h2⟩, h3⟩ => ⟨h1, h2, h3⟩⟩ (or_congr ?_ Iff.rfl)
    constructor
    · rintro ⟨i, f, h1, h2, h3, h4, h5⟩
      obtain rfl : i = j := by omega
      exact ⟨f, h3, h4, (hh _ (by omega)).1 h5⟩
    · rintro ⟨f, h3, h4, h5⟩
      exact ⟨j, f, by omega, rfl, h3, h4, (hh _ (by omega)).2 h5⟩

theorem holds_fold {ps : List PartS} : ∀ (rs : List Int) (bs : List Bool) (cs : List Int), Holds ps bs cs → Holds ps (rs.foldl (stepS ps) bs) (cs ++ rs)
  | [], bs, cs, h => by simpa using h
  | r :: rs, bs, cs, h => by
    have := holds_fold rs _ _ (holds_step h r)
    simpa using this

/-- fills answers whether the characters are what the parts say. -/
theorem fills_iff (ps : List PartS) (rs : List Int) : fillsS ps rs = true ↔ Mt ps rs := by
  have h := holds_fold rs _ _ (holds_start ps)
  rw [fillsS, h.2 ps.length (Nat.le_refl _), List.nil_append]
  constructor
  · rintro (ht | ⟨⟨hr, _⟩, _⟩)
    · rwa [Tj, List.take_length] at ht
    · omega
  · intro hm
    exact .inl (by rwa [Tj, List.take_length])

end Go.Proofs.Ytcaemhlmefhgdaa
