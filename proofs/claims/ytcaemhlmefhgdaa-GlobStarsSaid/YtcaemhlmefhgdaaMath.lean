/- What patterns match, in plain words: plain ones, quoted ones, stars, question marks, classes of letters. -/
import Derived.Test.YtcaemhlmefhgdaaQuote
namespace Go.Proofs.Ytcaemhlmefhgdaa

theorem amongP_one (c x : Int) : amongP [c] x = (x == c) := by
  have : spans [c] = [(c, c)] := by rw [spans_one _ _ (by simp)]; rfl
  rw [amongP, this, Bool.eq_iff_iff]
  simp [inSpan]; omega
/-- The part of one character. -/
def eqP (c : Int) : PartS := some (amongP [c])

theorem firstS_plain {c : Int} (h : specialR c = false) (r : List Int) : firstS (c :: r) = (eqP c, 1) := by
  simp [specialR] at h
  obtain ⟨⟨⟨h1, h2⟩, h3⟩, h4⟩ := h
  rw [firstS]
  simp only [List.getD_cons_zero, h1, h2, h3, h4, if_false, false_and]
  rfl
theorem firstS_esc (c : Int) (r : List Int) : firstS (92 :: c :: r) = (eqP c, 2) := by
  rw [firstS]
  simp only [List.getD_cons_zero, List.getD_cons_succ]
  rw [if_neg (by omega), if_neg (by omega), if_neg (by omega), if_pos (by simp)]
  rfl
theorem partsS_plain : ∀ (rs tail : List Int), rs.any specialR = false → partsS (rs ++ tail) = rs.map eqP ++ partsS tail
  | [], tail, _ => rfl
  | c :: rs, tail, h => by
    rw [List.any_cons, Bool.or_eq_false_iff] at h
    rw [List.cons_append, partsS_step (by simp), firstS_plain h.1]
    simp only [List.drop_succ_cons, List.drop_zero]
    rw [partsS_plain rs tail h.2]; rfl
theorem partsS_quote : ∀ rs : List Int, partsS (quoteR rs) = rs.map eqP
  | [] => rfl
  | c :: rs => by
    rw [quoteR]
    cases h : specialR c
    · simp only [if_false, Bool.false_eq_true]
      rw [partsS_step (by simp), firstS_plain h]
      simp only [List.drop_succ_cons, List.drop_zero]
      rw [partsS_quote rs]; rfl
    · simp only [if_true]
      rw [partsS_step (by simp), firstS_esc]
      simp only [List.drop_succ_cons, List.drop_zero]
      rw [partsS_quote rs]; rfl
theorem partsS_star (cs : List Int) : partsS (42 :: cs) = none :: partsS cs := by
  rw [partsS_step (by simp)]
  have : firstS (42 :: cs) = (none, 1) := by rw [firstS]; simp
  rw [this]; rfl
theorem partsS_any (cs : List Int) : partsS (63 :: cs) = some (inSpan 0 1114111) :: partsS cs := by
  rw [partsS_step (by simp)]
  have : firstS (63 :: cs) = (some (inSpan 0 1114111), 1) := by rw [firstS]; simp
  rw [this]; rfl

theorem Mt_eq : ∀ (rs cs : List Int), Mt (rs.map eqP) cs ↔ cs = rs
  | [], cs => Iff.rfl
  | r :: rs, cs => by
    rw [List.map_cons, eqP, Mt]
    constructor
    · rintro ⟨c, b, rfl, hc, h⟩
      rw [amongP_one] at hc
      rw [(Mt_eq rs b).1 h]
      simp at hc; rw [hc]
    · rintro rfl
      exact ⟨r, rs, rfl, by rw [amongP_one]; simp, (Mt_eq rs rs).2 rfl⟩
theorem Mt_star (ps : List PartS) (cs : List Int) : Mt (none :: ps) cs ↔ ∃ a b, cs = a ++ b ∧ Mt ps b := Iff.rfl
theorem Mt_any : ∀ (n : Nat) (ps : List PartS) (cs : List Int), (∀ c ∈ cs, ValidR c) → (Mt (List.replicate n (some (inSpan 0 1114111)) ++ ps) cs ↔ n ≤ cs.length ∧ Mt ps (cs.drop n))
  | 0, ps, cs, _ => by simp
  | n + 1, ps, cs, hv => by
    rw [List.replicate_succ, List.cons_append, Mt]
    constructor
    · rintro ⟨c, b, rfl, hc, h⟩
      obtain ⟨h1, h2⟩ := (Mt_any n ps b fun x hx => hv x (by simp [hx])).1 h
      exact ⟨by simp; omega, h2⟩
    · rintro ⟨h1, h2⟩
      cases cs with
      | nil => simp at h1
      | cons c b =>
        have hc := hv c (by simp)
        refine ⟨c, b, rfl, ?_, (Mt_any n ps b fun x hx => hv x (by simp [hx])).2 ⟨by simp at h1; exact h1, h2⟩⟩
        obtain ⟨_, h3, h4⟩ := hc
        simp [inSpan]; omega

theorem runesS_valid (s : ByteArray) : ∀ r ∈ runesS s, ValidR r := by rw [runesS_L]; exact runesL_valid _ _ (Nat.le_refl _)

theorem bool_of {a b : Bool} (h : a = true ↔ b = true) : a = b := by cases a <;> cases b <;> simp_all
theorem matchS_iff (p s : ByteArray) : matchS p s = true ↔ Mt (partsS (runesS p)) (runesS s) := fills_iff _ _

theorem plain_no {p : ByteArray} (h : plainS p = true) : (runesS p).any specialR = false := by rw [plainS] at h; simpa using h
theorem match_plain {p : ByteArray} (h : plainS p = true) (s : ByteArray) : matchS p s = true ↔ runesS s = runesS p := by
  have := partsS_plain (runesS p) [] (plain_no h)
  rw [List.append_nil, partsS_nil, List.append_nil] at this
  rw [matchS_iff, this, Mt_eq]

/-- Quoted. -/
def quoteS (s : ByteArray) : ByteArray := ⟨(quoteL s.data.toList).toArray⟩
theorem runesS_quote (s : ByteArray) : runesS (quoteS s) = quoteR (runesS s) := by
  rw [runesS_L, runesS_L, quoteS]
  simp only
  rw [quote_runes _ _ (Nat.le_refl _)]
theorem match_quote (s t : ByteArray) : matchS (quoteS s) t = true ↔ runesS t = runesS s := by
  rw [matchS_iff, runesS_quote, partsS_quote, Mt_eq]
theorem quoteS_size (s : ByteArray) : (quoteS s).size ≤ 2 * s.size := by
  have := quoteL_length s.data.toList
  show (quoteL s.data.toList).toArray.size ≤ 2 * s.data.size
  simpa using this

theorem text_eq (s t : ByteArray) : runesBytes (runesS s) = runesBytes (runesS t) ↔ runesS s = runesS t := by
  constructor
  · intro h
    have h' := congrArg (fun b : ByteArray => b.data.toList) h
    simp only [runesBytes_list] at h'
    exact (encs_inj (runesS_valid s) (runesS_valid t)).1 h'
  · intro h; rw [h]

theorem matchS_self {p : ByteArray} (h : plainS p = true) : matchS p p = true := (match_plain h p).2 rfl
theorem extract_le (s : ByteArray) (n : Nat) : (s.extract 0 n).size ≤ n := by rw [ByteArray.size_extract]; omega

/-- The capacity that '[]rune(p)' gets. -/
def capOf (w : World) (p : ByteArray) : Nat := grownCap w (runesS p).length 0 21
theorem run_runes_all (p : ByteArray) (hp : p.size ≤ 100000) (w : World) : (convert 9 29 (.string p)).run Try.prog w = .ok (.slice (some ⟨w.heap.size, 0, none⟩) (runesS p).length (capOf w p)) (runesWorld w p (capOf w p)) := by
  have hl := runesS_length p
  have h := run_runes_of_string (P := Try.prog) w 9 29 21 p Try.underlying9 Try.underlying29 Try.underlying21 (by rw [runesFrom_all]; simp; omega)
  rw [runesFrom_all] at h
  simp only [List.size_toArray, List.length_map] at h
  exact h
/-- string([]rune(p)), right behind. -/
theorem run_back (p : ByteArray) (cap : Nat) (w : World) : (convert 29 9 (.slice (some ⟨w.heap.size, 0, none⟩) (runesS p).length cap)).run Try.prog (runesWorld w p cap) = .ok (.string (runesBytes (runesS p))) (runesWorld w p cap) := by
  have hb : (runesWorld w p cap).heap[w.heap.size]? = some (Obj.cells (((runesS p).map (Value.int .i32)).toArray ++ Array.replicate (cap - (runesS p).length) (.int .i32 0)) 21 (0, 0)) := heap_at rfl
  have h := run_convert_runes (P := Try.prog) (runesWorld w p cap) 29 9 21 ⟨w.heap.size, 0, none⟩ (runesS p).length cap (runesS p) (Nat.le_refl _) Try.underlying29 Try.underlying21 Try.underlying9 (fun j hj => by
    have hadd : (⟨w.heap.size, 0, none⟩ : Addr).add j = ⟨w.heap.size, j, none⟩ := by unfold Addr.add; split <;> simp_all
    rw [hadd, cell_of_row _ _ j _ 21 (0, 0) hb, Array.getElem?_append_left (by simpa using hj)]
    simp [List.getD, List.getElem?_eq_getElem hj])
  rwa [List.take_length] at h

theorem toList_inj {a b : ByteArray} : a.toList = b.toList ↔ a = b := by
  constructor
  · intro h
    rw [ByteArray.toList_eq, ByteArray.toList_eq] at h
    exact ByteArray.ext (Array.ext' h)
  · intro h; rw [h]

open Go.RowKit in
theorem two_runes (w : World) (p s : ByteArray) (c d : Nat) : Below w.heap.size w (runesWorld (runesWorld w p c) s d) :=
  (runesWorld_below w p c).trans ((runesWorld_below _ s d).mono (by rw [runesWorld_size]; omega))
open Go.RowKit in
theorem four {w w1 w2 w3 w4 w5 : World} (h1 : Hid (Below w.heap.size w w1)) (h2 : Hid (Below w1.heap.size w1 w2)) (h3 : Hid (Below w2.heap.size w2 w3)) (h4 : Hid (Below w3.heap.size w3 w4)) (h5 : Below w4.heap.size w4 w5) : Below w.heap.size w w5 := by
  have s1 := h1.out.size
  have s2 := h2.out.size
  have s3 := h3.out.size
  have s4 := h4.out.size
  exact (((h1.out.trans (h2.out.mono s1)).trans (h3.out.mono (by omega))).trans (h4.out.mono (by omega))).trans (h5.mono (by omega))

open Go.RowKit in
theorem quote_S (s : ByteArray) (w : World) (hs : s.size ≤ 100000) : Calls Try.prog 13 #[.string s] w fun e w' => e = .returned (.string (quoteS s)) ∧ Below w.heap.size w w' :=
  (quote_any s w hs).mono fun _ _ h => h
open Go.RowKit in
theorem quote_ref_S (s : ByteArray) (w : World) (hs : s.size ≤ 100000) : Calls Try.prog 14 #[.string s] w fun e w' => e = .returned (.string (quoteS s)) ∧ Below w.heap.size w w' :=
  (quote_ref s w hs).mono fun _ _ h => h

end Go.Proofs.Ytcaemhlmefhgdaa
