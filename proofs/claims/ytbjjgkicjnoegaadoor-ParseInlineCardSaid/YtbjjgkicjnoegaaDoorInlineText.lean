/- Plain facts on words between blanks and tabs. -/
import Derived.Test.YtbjjgkicjnoegaaDoorArguments
namespace Go.Proofs.YtbjjgkicjnoegaaDoor
open Go.RowKit Go.Shelf

/-- A blank or a tab. -/
def blank (b : UInt8) : Bool := b == 32 || b == 9

/-- The words of bytes, one begun. -/
def wl : List UInt8 → List UInt8 → List (List UInt8)
  | _, [] => []
  | cur, b :: l => if blank b then (if cur = [] then [] else [cur]) ++ wl [] l else wl (cur ++ [b]) l

theorem wl_nil (cur : List UInt8) : wl cur [] = [] := by rw [wl.eq_def]
theorem wl_blank {b : UInt8} (hb : blank b = true) (cur l : List UInt8) : wl cur (b :: l) = (if cur = [] then [] else [cur]) ++ wl [] l := by rw [wl, if_pos hb]

theorem wl_plain : ∀ (w cur l : List UInt8), (∀ b ∈ w, blank b = false) → wl cur (w ++ l) = wl (cur ++ w) l
  | [], cur, l, _ => by simp
  | b :: w, cur, l, h => by
    rw [List.cons_append, wl, h b (by simp)]
    simp only [Bool.false_eq_true, if_false]
    rw [wl_plain w (cur ++ [b]) l (fun x hx => h x (by simp [hx]))]
    simp

theorem wordsAt_wl (line : List UInt8) (ha : ∀ b ∈ line, b.toNat < 128) : ∀ (f pos fr : Nat), fr ≤ pos → pos ≤ line.length + 1 → line.length + 1 ≤ pos + f →
    wordsAt (ba (line ++ [32])) (ba line) f pos fr = wl ((line.take pos).drop fr) ((line ++ [32]).drop pos)
  | 0, pos, fr, _, h1, h2 => by
    obtain rfl : pos = line.length + 1 := by omega
    rw [show List.drop (line.length + 1) (line ++ [32]) = [] from List.drop_eq_nil_of_le (by simp), wordsAt, wl_nil]
  | f + 1, pos, fr, hf, h1, h2 => by
    have hsz : (ba (line ++ [32])).size = line.length + 1 := by rw [← size_list, ba_list]; simp
    by_cases hp : pos < line.length + 1
    · rw [wordsAt, hsz, if_pos hp, dec_eq, ba_list]
      have hd : (line ++ [32]).drop pos = (line ++ [32])[pos]'(by simp; omega) :: (line ++ [32]).drop (pos + 1) := List.drop_eq_getElem_cons (by simp; omega)
      have hlow : ((line ++ [32])[pos]'(by simp; omega)).toNat < 128 := by
        have hm : (line ++ [32])[pos]'(by simp; omega) ∈ line ++ [32] := List.getElem_mem _
        rcases List.mem_append.1 hm with hm | hm
        · exact ha _ hm
        · simp only [List.mem_singleton] at hm; rw [hm]; decide
      rw [hd, decL_ascii _ _ hlow]
      generalize hc : (line ++ [32])[pos]'(by simp; omega) = c at *
      simp only
      have hbl : (((c.toNat : Nat) : Int) = 32 ∨ ((c.toNat : Nat) : Int) = 9) ↔ blank c = true := by
        unfold blank
        rw [Bool.or_eq_true, beq_iff_eq, beq_iff_eq]
        constructor
        · rintro (h | h)
          · left; exact UInt8.toNat_inj.1 (by simpa using Int.ofNat_inj.1 h)
          · right; exact UInt8.toNat_inj.1 (by simpa using Int.ofNat_inj.1 h)
        · rintro (rfl | rfl)
          · left; rfl
          · right; rfl
      rw [wl]
      by_cases hb : blank c = true
      · rw [if_pos (hbl.2 hb), if_pos hb, wordsAt_wl line ha f (pos + 1) (pos + 1) (Nat.le_refl _) (by omega) (by omega), show List.drop (pos + 1) (line.take (pos + 1)) = [] from List.drop_eq_nil_of_le (by simp; omega)]
        congr 1
        by_cases hfp : fr < pos
        · rw [if_pos hfp, if_neg]
          · rw [extract_list, ba_list]
          · intro e
            have := congrArg List.length e
            simp at this
            omega
        · rw [if_neg hfp, if_pos]
          exact List.drop_eq_nil_of_le (by simp; omega)
      · have hpl : pos < line.length := by
          rcases Nat.lt_or_ge pos line.length with h | h
          · exact h
          · exfalso
            apply hb
            obtain rfl : pos = line.length := by omega
            rw [← hc, List.getElem_append_right (by simp)]
            simp [blank]
        rw [if_neg (fun h => hb (hbl.1 h)), if_neg hb, wordsAt_wl line ha f (pos + 1) fr (by omega) (by omega) (by omega)]
        congr 1
        have hcl : c = line[pos] := by rw [← hc, List.getElem_append_left hpl]
        rw [List.take_succ_eq_append_getElem hpl, List.drop_append_of_le_length (by simp; omega), hcl]
    · obtain rfl : pos = line.length + 1 := by omega
      rw [wordsAt, hsz, if_neg hp, show List.drop (line.length + 1) (line ++ [32]) = [] from List.drop_eq_nil_of_le (by simp), wl_nil]

theorem wordsS_wl (line : List UInt8) (ha : ∀ b ∈ line, b.toNat < 128) : wordsS (ba line) = wl [] (line ++ [32]) := by
  have h := wordsAt_wl line ha (line.length + 1) 0 0 (Nat.le_refl _) (by omega) (by omega)
  simp only [List.take_zero, List.drop_nil, List.drop_zero] at h
  rw [← h, wordsS]
  have e1 : ba line ++ ⟨#[32]⟩ = ba (line ++ [32]) := ba_eq (by simp [ba])
  have e2 : (ba line).size = line.length := by rw [← size_list, ba_list]
  rw [e1, e2]

/-- Letters and digits. -/
def okB (b : UInt8) : Bool := (48 ≤ b && b ≤ 57) || (97 ≤ b && b ≤ 122)
theorem okB_fin : ∀ n : Fin 256, okB (UInt8.ofNat n.1) = true → n.1 < 128 ∧ n.1 ≠ 32 ∧ n.1 ≠ 9 ∧ n.1 ≠ 10 ∧ n.1 ≠ 13 ∧ n.1 ≠ 42 := by decide +kernel
theorem okB_facts {b : UInt8} (h : okB b = true) : b.toNat < 128 ∧ b ≠ 32 ∧ b ≠ 9 ∧ b ≠ 10 ∧ b ≠ 13 ∧ b ≠ 42 := by
  have hf := okB_fin ⟨b.toNat, b.toNat_lt⟩ (by simpa using h)
  refine ⟨hf.1, ?_, ?_, ?_, ?_, ?_⟩ <;> (intro e; subst e; simp at hf)
theorem okB_blank {b : UInt8} (h : okB b = true) : blank b = false := by
  have := okB_facts h
  simp [blank, this.2.1, this.2.2.1]

/-- A word out of a text. -/
def wordOf (x : List UInt8) : List UInt8 := (x.filter okB).take 10
theorem wordOf_ok (x : List UInt8) : ∀ b ∈ wordOf x, okB b = true := fun _ hb => (List.mem_filter.1 (List.mem_of_mem_take hb)).2
theorem wordOf_len (x : List UInt8) : (wordOf x).length ≤ 10 := by unfold wordOf; simp; omega

/-- The line of words. -/
def catT (ws : List (List UInt8)) : List UInt8 := (ws.map fun w => [9, 32] ++ w).flatten
def catB (ws : List (List UInt8)) : List UInt8 := (ws.map fun w => w ++ [32]).flatten
def cat (tabs : Bool) (ws : List (List UInt8)) : List UInt8 := if tabs then catT ws else catB ws
def full (ws : List (List UInt8)) : List (List UInt8) := ws.filter (· ≠ [])

theorem wl_catB : ∀ ws : List (List UInt8), (∀ w ∈ ws, ∀ b ∈ w, okB b = true) → ∀ l, wl [] (catB ws ++ l) = full ws ++ wl [] l
  | [], _, l => by simp [catB, full]
  | w :: ws, h, l => by
    have e : catB (w :: ws) ++ l = w ++ (32 :: (catB ws ++ l)) := by simp [catB]
    rw [e, wl_plain _ _ _ (fun b hb => okB_blank (h w (by simp) b hb)), List.nil_append, wl_blank (by decide), wl_catB ws (fun x hx => h x (by simp [hx])) l]
    by_cases hw : w = []
    · simp [hw, full]
    · simp [hw, full]

theorem wl_catT : ∀ (ws : List (List UInt8)), (∀ w ∈ ws, ∀ b ∈ w, okB b = true) → ∀ cur, wl cur (catT ws ++ [32]) = (if cur = [] then [] else [cur]) ++ full ws
  | [], _, cur => by
    show wl cur [32] = _
    rw [wl_blank (by decide), wl_nil]
    simp [full]
  | w :: ws, h, cur => by
    have e : catT (w :: ws) ++ [32] = 9 :: 32 :: (w ++ (catT ws ++ [32])) := by simp [catT]
    rw [e, wl_blank (by decide), wl_blank (by decide), if_pos rfl, List.nil_append, wl_plain _ _ _ (fun b hb => okB_blank (h w (by simp) b hb)), List.nil_append, wl_catT ws (fun x hx => h x (by simp [hx])) w]
    by_cases hw : w = []
    · simp [hw, full]
    · simp [hw, full]

theorem cat_mem {tabs : Bool} {ws : List (List UInt8)} (h : ∀ w ∈ ws, ∀ b ∈ w, okB b = true) {b : UInt8} (hb : b ∈ cat tabs ws) : b.toNat < 128 ∧ b ≠ 10 ∧ b ≠ 13 ∧ b ≠ 42 := by
  have key : b = 9 ∨ b = 32 ∨ okB b = true := by
    unfold cat at hb
    split at hb
    · simp only [catT, List.mem_flatten, List.mem_map] at hb
      obtain ⟨l, ⟨w, hw, rfl⟩, hb⟩ := hb
      simp at hb
      rcases hb with rfl | rfl | hb
      · exact .inl rfl
      · exact .inr (.inl rfl)
      · exact .inr (.inr (h w hw b hb))
    · simp only [catB, List.mem_flatten, List.mem_map] at hb
      obtain ⟨l, ⟨w, hw, rfl⟩, hb⟩ := hb
      simp at hb
      rcases hb with hb | rfl
      · exact .inr (.inr (h w hw b hb))
      · exact .inr (.inl rfl)
  rcases key with rfl | rfl | hk
  · decide
  · decide
  · have := okB_facts hk
    exact ⟨this.1, this.2.2.2.1, this.2.2.2.2.1, this.2.2.2.2.2⟩

theorem wordsS_cat (tabs : Bool) (ws : List (List UInt8)) (h : ∀ w ∈ ws, ∀ b ∈ w, okB b = true) : wordsS (ba (cat tabs ws)) = full ws := by
  rw [wordsS_wl _ (fun b hb => (cat_mem h hb).1)]
  cases tabs
  · show wl [] (catB ws ++ [32]) = _
    rw [wl_catB ws h, wl_blank (by decide), wl_nil]; simp
  · show wl [] (catT ws ++ [32]) = _
    rw [wl_catT ws h]; rfl

theorem cat_len (tabs : Bool) : ∀ ws : List (List UInt8), (∀ w ∈ ws, w.length ≤ 10) → (cat tabs ws).length ≤ 12 * ws.length
  | [], _ => by cases tabs <;> simp [cat, catT, catB]
  | w :: ws, h => by
    have ih := cat_len tabs ws (fun x hx => h x (by simp [hx]))
    have hw := h w (by simp)
    cases tabs
    · simp only [cat, Bool.false_eq_true, if_false, catB, List.map_cons, List.flatten_cons, List.length_append, List.length_cons, List.length_nil] at ih ⊢
      omega
    · simp only [cat, if_true, catT, List.map_cons, List.flatten_cons, List.length_append, List.length_cons, List.length_nil] at ih ⊢
      omega
theorem cat_snoc (tabs : Bool) (ws : List (List UInt8)) (w : List UInt8) : cat tabs (ws ++ [w]) = if tabs then cat true ws ++ [9, 32] ++ w else cat false ws ++ w ++ [32] := by
  cases tabs <;> simp [cat, catT, catB]

theorem lineS_lf : ∀ (p : List UInt8) (n : Nat) (r : List UInt8), p.length ≤ n → (∀ b ∈ p, b ≠ 10) → lineS lf n (p ++ 10 :: r) = .ok p r
  | [], n, r, _, _ => by rw [lineS.eq_def]; simp [lf, Lib.hasPrefix]
  | b :: p, 0, r, h, _ => by simp at h
  | b :: p, n + 1, r, h, hb => by
    have ih := lineS_lf p n r (by simpa using h) (fun x hx => hb x (by simp [hx]))
    have h0 : Lib.hasPrefix (b :: (p ++ 10 :: r)) lf = false := by
      have := hb b (by simp)
      simp [Lib.hasPrefix, lf, List.isPrefixOf]
      exact fun e => this e.symm
    rw [List.cons_append, lineS.eq_def]
    simp [h0, ih]

theorem trimS_cr (p : List UInt8) : trimS (p ++ [13]) = p := by
  unfold trimS Lib.trimSuffix
  rw [if_pos]
  · simp
  · simp [Lib.hasSuffix]
theorem trimS_none {p : List UInt8} (h : ∀ b ∈ p, b ≠ 13) : trimS p = p := by
  unfold trimS Lib.trimSuffix
  rw [if_neg]
  intro hs
  have : (13 : UInt8) ∈ p := by
    have := List.isSuffixOf_iff_suffix.1 hs
    obtain ⟨t, rfl⟩ := this
    simp
  exact h 13 this rfl

/-- The whole line is split into its words. -/
theorem args_cat (T : Nat → Int) (tabs cr : Bool) (ws : List (List UInt8)) (h : ∀ w ∈ ws, ∀ b ∈ w, okB b = true) (hl : ∀ w ∈ ws, w.length ≤ 10) (hn : ws.length ≤ 60) (r : List UInt8) :
    argumentsS T ((if cr then cat tabs ws ++ [13] else cat tabs ws) ++ 10 :: r) = .ok (full ws) r := by
  have hlen := cat_len tabs ws hl
  have hno : ∀ b ∈ (if cr then cat tabs ws ++ [13] else cat tabs ws), b ≠ 10 ∧ b ≠ 42 := by
    intro b hb
    cases cr
    · exact ⟨(cat_mem h hb).2.1, (cat_mem h hb).2.2.2⟩
    · simp at hb
      rcases hb with hb | rfl
      · exact ⟨(cat_mem h hb).2.1, (cat_mem h hb).2.2.2⟩
      · decide
  have hL : (if cr then cat tabs ws ++ [13] else cat tabs ws).length ≤ 1024 := by cases cr <;> simp <;> omega
  have hT : trimS (if cr then cat tabs ws ++ [13] else cat tabs ws) = cat tabs ws := by
    cases cr
    · exact trimS_none (fun b hb => (cat_mem h hb).2.2.1)
    · exact trimS_cr _
  generalize (if cr then cat tabs ws ++ [13] else cat tabs ws) = p at *
  have hs : Lib.hasPrefix (p ++ 10 :: r) starL = false := by
    cases p with
    | nil => simp [Lib.hasPrefix, starL, List.isPrefixOf]
    | cons b p =>
      have := (hno b (by simp)).2
      simp [Lib.hasPrefix, starL, List.isPrefixOf]
      exact fun e => this e.symm
  unfold argumentsS
  rw [hs, if_neg (by simp), lineS_lf p 1024 r hL (fun b hb => (hno b hb).1)]
  simp only
  rw [hT, wordsS_cat tabs ws h, if_neg]
  have := List.length_filter_le (· ≠ []) ws
  simp only [full]
  omega

end Go.Proofs.YtbjjgkicjnoegaaDoor
