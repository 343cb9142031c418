/- Plain facts on a text's characters: lists of bytes, lists of code points. Nothing of the program. -/
import Derived.Laws.RangeAny
import Derived.Laws.Cover4
namespace Go.Proofs.YtjcgfbmkgfhnaaaDoor

def cont (b : UInt8) : Bool := b.toNat / 64 == 2

/-- The first character of a list of bytes, and how many it takes. -/
def decL (l : List UInt8) : Nat × Nat := Utf8.decode ⟨l.toArray⟩ 0

theorem get_getD (s : ByteArray) (n : Nat) : s.get! n = s.data.toList.getD n 0 := by
  show s.data[n]! = _
  by_cases h : n < s.data.size
  · rw [getElem!_pos s.data n h, List.getD_eq_getElem?_getD, List.getElem?_eq_getElem (by simpa using h)]
    simp
  · rw [getElem!_neg s.data n h, List.getD_eq_getElem?_getD, List.getElem?_eq_none (by simpa using h)]
    rfl

theorem get_list (l : List UInt8) (k : Nat) : ByteArray.get! ⟨l.toArray⟩ (0 + k) = l.getD k 0 := by
  rw [get_getD, Nat.zero_add]
theorem size_list (l : List UInt8) (k : Nat) : decide (0 + k < ByteArray.size ⟨l.toArray⟩) = decide (k < l.length) := by
  rw [Nat.zero_add, decide_eq_decide]
  show k < l.toArray.size ↔ _
  simp

theorem dec_eq (s : ByteArray) (i : Nat) : Utf8.decode s i = decL (s.data.toList.drop i) := by
  have h1 : ∀ k, s.get! (i + k) = (s.data.toList.drop i).getD k 0 := fun k => by
    rw [get_getD]; simp [List.getD, List.getElem?_drop]
  have h2 : ∀ k, decide (i + k < s.size) = decide (k < (s.data.toList.drop i).length) := fun k => by
    rw [decide_eq_decide, List.length_drop, Array.length_toList]
    show i + k < s.data.size ↔ _
    omega
  simp only [decL, Utf8.decode, get_list, size_list, h1, h2]

theorem decL_width (l : List UInt8) : 1 ≤ (decL l).2 ∧ ((decL l).2 ≤ 1 ∨ (decL l).2 ≤ l.length) := by
  simp only [decL, Utf8.decode, get_list, size_list]
  repeat' split
  all_goals simp_all
  all_goals omega

/-- The first character hangs on the first byte and the continuation bytes behind it alone. -/
theorem decL_cont (b : UInt8) (l : List UInt8) : decL (b :: l) = decL (b :: l.takeWhile cont) := by
  match l with
  | [] => rfl
  | [x] => by_cases hx : cont x <;> simp [hx] <;> simp only [decL, Utf8.decode, get_list, size_list] <;> simp_all [cont]
  | [x, y] => by_cases hx : cont x <;> by_cases hy : cont y <;> simp [hx, hy] <;> simp only [decL, Utf8.decode, get_list, size_list] <;> simp_all [cont]
  | x :: y :: z :: r => by_cases hx : cont x <;> by_cases hy : cont y <;> by_cases hz : cont z <;> simp [hx, hy, hz] <;> simp only [decL, Utf8.decode, get_list, size_list] <;> simp_all [cont]

theorem decL_width_run (b : UInt8) (l : List UInt8) : 1 ≤ (decL (b :: l)).2 ∧ (decL (b :: l)).2 ≤ 1 + (l.takeWhile cont).length := by
  have h := decL_width (b :: l.takeWhile cont)
  rw [← decL_cont] at h
  simp only [List.length_cons] at h
  omega

/-- A list's characters. -/
def rl : Nat → List UInt8 → List Int
  | 0, _ => []
  | _ + 1, [] => []
  | f + 1, b :: l => ((decL (b :: l)).1 : Int) :: rl f ((b :: l).drop (decL (b :: l)).2)
def runesL (l : List UInt8) : List Int := rl l.length l

theorem rl_more : ∀ (f : Nat) (l : List UInt8), l.length ≤ f → rl f l = rl l.length l := by
  intro f
  induction f using Nat.strongRecOn with
  | ind f ih =>
    intro l h
    cases l with
    | nil => cases f <;> rfl
    | cons b l =>
      cases f with
      | zero => simp at h
      | succ f =>
        have hw := decL_width_run b l
        simp only [List.length_cons] at h
        simp only [List.length_cons, rl]
        rw [ih f (by omega) _ (by simp; omega), ih l.length (by omega) ((b :: l).drop (decL (b :: l)).2) (by simp; omega)]
theorem runesL_nil : runesL [] = [] := rfl
theorem runesL_cons (b : UInt8) (l : List UInt8) : runesL (b :: l) = ((decL (b :: l)).1 : Int) :: runesL ((b :: l).drop (decL (b :: l)).2) := by
  have hw := decL_width_run b l
  show rl (l.length + 1) (b :: l) = _
  rw [rl, rl_more l.length _ (by simp; omega)]
  rfl

theorem takeWhile_stop {a b : List UInt8} (h : ∀ x l, b = x :: l → cont x = false) : (a ++ b).takeWhile cont = a.takeWhile cont := by
  induction a with
  | nil =>
    cases b with
    | nil => rfl
    | cons x l => simp [h x l rfl]
  | cons c a ih => simp only [List.cons_append, List.takeWhile_cons, ih]

/-- Two texts' characters, if the second does not begin in the middle of one. -/
theorem runesL_append : ∀ (n : Nat) (a b : List UInt8), a.length ≤ n → (∀ x l, b = x :: l → cont x = false) → runesL (a ++ b) = runesL a ++ runesL b := by
  intro n
  induction n with
  | zero =>
    intro a b h _
    have : a = [] := List.eq_nil_of_length_eq_zero (by omega)
    subst this; simp [runesL_nil]
  | succ n ih =>
    intro a b h hb
    cases a with
    | nil => simp [runesL_nil]
    | cons c a =>
      have hw := decL_width_run c a
      have hl : (a.takeWhile cont).length ≤ a.length := (List.takeWhile_sublist cont).length_le
      have e : decL (c :: (a ++ b)) = decL (c :: a) := by rw [decL_cont, takeWhile_stop hb, ← decL_cont]
      rw [List.cons_append, runesL_cons, runesL_cons, e]
      have e2 : (c :: (a ++ b)).drop (decL (c :: a)).2 = (c :: a).drop (decL (c :: a)).2 ++ b := by
        rw [← List.cons_append, List.drop_append_of_le_length (by simp; omega)]
      rw [e2, ih _ _ (by simp at h ⊢; omega) hb]
      rfl

theorem decL_ascii (b : UInt8) (l : List UInt8) (h : b.toNat < 128) : decL (b :: l) = (b.toNat, 1) := by
  simp only [decL, Utf8.decode, get_list, size_list]
  simp [h]
theorem runesL_ascii (b : UInt8) (l : List UInt8) (h : b.toNat < 128) : runesL (b :: l) = (b.toNat : Int) :: runesL l := by
  rw [runesL_cons, decL_ascii b l h]; rfl
theorem cont_ascii {b : UInt8} (h : b.toNat < 128) : cont b = false := by
  simp [cont]; omega
theorem high_cont {b : UInt8} (h : cont b = true) : 128 ≤ b.toNat := by
  simp [cont] at h; omega

/-- A byte that is no ASCII one begins a character that is none. -/
theorem decL_high (b : UInt8) (l : List UInt8) (h : 128 ≤ b.toNat) : 128 ≤ (decL (b :: l)).1 := by
  have hn : ¬ b.toNat < 128 := by omega
  simp only [decL, Utf8.decode, get_list, size_list, List.getD_cons_zero, hn, if_false]
  repeat' split
  all_goals simp_all [Utf8.runeError]
  all_goals omega

/-- A code point that is none of the halves, and not too great. -/
def ValidR (r : Int) : Prop := Utf8.valid r = true ∧ 0 ≤ r ∧ r ≤ 1114111

theorem valid_low {c : Nat} (hc : c < 55296) : ValidR (c : Int) := ⟨by simp [Utf8.valid]; omega, by omega, by omega⟩
theorem valid_of {c : Nat} (hc : Utf8.valid (c : Int) = true) : ValidR (c : Int) := ⟨hc, by omega, by simp [Utf8.valid] at hc; omega⟩
theorem valid_err : ValidR ((Utf8.runeError : Nat) : Int) := ⟨by decide, by decide, by decide⟩
theorem decL_valid (b : UInt8) (l : List UInt8) : ValidR ((decL (b :: l)).1 : Int) := by
  simp only [decL, Utf8.decode, get_list, size_list]
  split
  · exact valid_low (by simp only; omega)
  split
  · split
    · exact valid_low (by simp only; omega)
    · exact valid_err
  split
  · split
    · rename_i h; exact valid_of (by rw [Bool.and_eq_true] at h; exact h.2)
    · exact valid_err
  split
  · split
    · rename_i h; exact valid_of (by rw [Bool.and_eq_true] at h; exact h.2)
    · exact valid_err
  · exact valid_err

theorem runesL_valid : ∀ (n : Nat) (l : List UInt8), l.length ≤ n → ∀ r ∈ runesL l, ValidR r := by
  intro n
  induction n with
  | zero =>
    intro l h r hr
    have : l = [] := List.eq_nil_of_length_eq_zero (by omega)
    subst this; simp [runesL_nil] at hr
  | succ n ih =>
    intro l h r hr
    cases l with
    | nil => simp [runesL_nil] at hr
    | cons b l =>
      rw [runesL_cons] at hr
      rcases List.mem_cons.1 hr with rfl | hr
      · exact decL_valid b l
      · have hw := decL_width_run b l
        exact ih _ (by simp at h ⊢; omega) r hr

theorem decL_two {b0 b1 : UInt8} {c : Nat} (l : List UInt8) (g0 : b0.toNat = 192 + c / 64) (g1 : b1.toNat = 128 + c % 64) (h1 : 128 ≤ c) (h2 : c < 2048) : decL (b0 :: b1 :: l) = (c, 2) := by
  have e1 : ¬ (192 + c / 64 < 128) := by omega
  have e2 : (192 + c / 64) / 32 = 6 := by omega
  have e3 : (128 + c % 64) / 64 = 2 := by omega
  have e4 : (192 + c / 64) % 32 * 64 + (128 + c % 64) % 64 = c := by omega
  have hn : 1 < (b0 :: b1 :: l).length := by simp
  simp only [decL, Utf8.decode, get_list, size_list, List.getD_cons_zero, List.getD_cons_succ, g0, g1, e1, e2, e3, e4, hn, if_false, decide_true, Bool.and_self, beq_self_eq_true, if_true, ge_iff_le, h1]
theorem decL_three {b0 b1 b2 : UInt8} {c : Nat} (l : List UInt8) (g0 : b0.toNat = 224 + c / 4096) (g1 : b1.toNat = 128 + c / 64 % 64) (g2 : b2.toNat = 128 + c % 64) (h1 : 2048 ≤ c) (h2 : c < 65536) (hv : Utf8.valid (c : Int) = true) :
    decL (b0 :: b1 :: b2 :: l) = (c, 3) := by
  have e1 : ¬ (224 + c / 4096 < 128) := by omega
  have e2 : ((224 + c / 4096) / 32 == 6) = false := by rw [beq_eq_false_iff_ne]; omega
  have e3 : (128 + c / 64 % 64) / 64 = 2 := by omega
  have e4 : (128 + c % 64) / 64 = 2 := by omega
  have e5 : (224 + c / 4096) / 16 = 14 := by omega
  have e6 : (224 + c / 4096) % 16 * 4096 + (128 + c / 64 % 64) % 64 * 64 + (128 + c % 64) % 64 = c := by omega
  have hn1 : 1 < (b0 :: b1 :: b2 :: l).length := by simp
  have hn : 2 < (b0 :: b1 :: b2 :: l).length := by simp
  simp only [decL, Utf8.decode, get_list, size_list, List.getD_cons_zero, List.getD_cons_succ, g0, g1, g2, e1, e2, e3, e4, e5, e6, hn, hn1, if_false, decide_true, Bool.and_self, Bool.false_and, beq_self_eq_true, if_true, ge_iff_le, h1, hv, Bool.false_eq_true]
theorem decL_four {b0 b1 b2 b3 : UInt8} {c : Nat} (l : List UInt8) (g0 : b0.toNat = 240 + c / 262144) (g1 : b1.toNat = 128 + c / 4096 % 64) (g2 : b2.toNat = 128 + c / 64 % 64) (g3 : b3.toNat = 128 + c % 64) (h1 : 65536 ≤ c) (h2 : c ≤ 1114111)
    (hv : Utf8.valid (c : Int) = true) : decL (b0 :: b1 :: b2 :: b3 :: l) = (c, 4) := by
  have e1 : ¬ (240 + c / 262144 < 128) := by omega
  have e2 : ((240 + c / 262144) / 32 == 6) = false := by rw [beq_eq_false_iff_ne]; omega
  have e2' : ((240 + c / 262144) / 16 == 14) = false := by rw [beq_eq_false_iff_ne]; omega
  have e3 : (128 + c / 64 % 64) / 64 = 2 := by omega
  have e4 : (128 + c % 64) / 64 = 2 := by omega
  have e4' : (128 + c / 4096 % 64) / 64 = 2 := by omega
  have e5 : (240 + c / 262144) / 8 = 30 := by omega
  have e6 : (240 + c / 262144) % 8 * 262144 + (128 + c / 4096 % 64) % 64 * 4096 + (128 + c / 64 % 64) % 64 * 64 + (128 + c % 64) % 64 = c := by omega
  have hn1 : 1 < (b0 :: b1 :: b2 :: b3 :: l).length := by simp
  have hn2 : 2 < (b0 :: b1 :: b2 :: b3 :: l).length := by simp
  have hn : 3 < (b0 :: b1 :: b2 :: b3 :: l).length := by simp
  simp only [decL, Utf8.decode, get_list, size_list, List.getD_cons_zero, List.getD_cons_succ, g0, g1, g2, g3, e1, e2, e2', e3, e4, e4', e5, e6, hn, hn1, hn2, if_false, decide_true, Bool.and_self, Bool.false_and, beq_self_eq_true, if_true, ge_iff_le, h1, hv, Bool.false_eq_true]

def encL (r : Int) : List UInt8 := (Utf8.encode r).data.toList

theorem ofNat_toNat {n : Nat} (h : n < 256) : (UInt8.ofNat n).toNat = n := by
  rw [UInt8.toNat_ofNat']; omega

theorem runes_one {c : Nat} (h : c < 128) (l : List UInt8) : runesL (UInt8.ofNat c :: l) = (c : Int) :: runesL l := by
  rw [runesL_ascii _ _ (by rw [ofNat_toNat (by omega)]; exact h), ofNat_toNat (by omega)]
theorem runes_two {c : Nat} (h : 128 ≤ c) (h2 : c < 2048) (l : List UInt8) : runesL (UInt8.ofNat (192 + c / 64) :: UInt8.ofNat (128 + c % 64) :: l) = (c : Int) :: runesL l := by
  rw [runesL_cons, decL_two l (ofNat_toNat (by omega)) (ofNat_toNat (by omega)) h h2]; rfl
theorem runes_three {c : Nat} (h : 2048 ≤ c) (h2 : c < 65536) (hv : Utf8.valid (c : Int) = true) (l : List UInt8) : runesL (UInt8.ofNat (224 + c / 4096) :: UInt8.ofNat (128 + c / 64 % 64) :: UInt8.ofNat (128 + c % 64) :: l) = (c : Int) :: runesL l := by
  rw [runesL_cons, decL_three l (ofNat_toNat (by omega)) (ofNat_toNat (by omega)) (ofNat_toNat (by omega)) h h2 hv]; rfl
theorem runes_four {c : Nat} (h : 65536 ≤ c) (h2 : c ≤ 1114111) (hv : Utf8.valid (c : Int) = true) (l : List UInt8) : runesL (UInt8.ofNat (240 + c / 262144) :: UInt8.ofNat (128 + c / 4096 % 64) :: UInt8.ofNat (128 + c / 64 % 64) :: UInt8.ofNat (128 + c % 64) :: l) = (c : Int) :: runesL l := by
  rw [runesL_cons, decL_four l (ofNat_toNat (by omega)) (ofNat_toNat (by omega)) (ofNat_toNat (by omega)) (ofNat_toNat (by omega)) h h2 hv]; rfl

theorem encL_one {r : Int} (hv : Utf8.valid r = true) (h : r.toNat < 128) : encL r = [UInt8.ofNat r.toNat] := by
  unfold encL Utf8.encode
  simp only [hv, if_true, h]
theorem encL_two {r : Int} (hv : Utf8.valid r = true) (h : ¬ r.toNat < 128) (h2 : r.toNat < 2048) : encL r = [UInt8.ofNat (192 + r.toNat / 64), UInt8.ofNat (128 + r.toNat % 64)] := by
  unfold encL Utf8.encode
  simp only [hv, if_true, h, h2, if_false]
theorem encL_three {r : Int} (hv : Utf8.valid r = true) (h : ¬ r.toNat < 128) (h2 : ¬ r.toNat < 2048) (h3 : r.toNat < 65536) : encL r = [UInt8.ofNat (224 + r.toNat / 4096), UInt8.ofNat (128 + r.toNat / 64 % 64), UInt8.ofNat (128 + r.toNat % 64)] := by
  unfold encL Utf8.encode
  simp only [hv, if_true, h, h2, if_false, h3]
theorem encL_four {r : Int} (hv : Utf8.valid r = true) (h : ¬ r.toNat < 128) (h2 : ¬ r.toNat < 2048) (h3 : ¬ r.toNat < 65536) : encL r = [UInt8.ofNat (240 + r.toNat / 262144), UInt8.ofNat (128 + r.toNat / 4096 % 64), UInt8.ofNat (128 + r.toNat / 64 % 64), UInt8.ofNat (128 + r.toNat % 64)] := by
  unfold encL Utf8.encode
  simp only [hv, if_true, h, h2, if_false, h3]

theorem runesL_enc {r : Int} (h : ValidR r) (l : List UInt8) : runesL (encL r ++ l) = r :: runesL l := by
  obtain ⟨hv, h0, h1⟩ := h
  have hc : ((r.toNat : Nat) : Int) = r := Int.toNat_of_nonneg h0
  have hm : r.toNat ≤ 1114111 := by omega
  have hv' : Utf8.valid ((r.toNat : Nat) : Int) = true := by rw [hc]; exact hv
  by_cases a1 : r.toNat < 128
  · rw [encL_one hv a1, List.cons_append, List.nil_append, runes_one a1, hc]
  by_cases a2 : r.toNat < 2048
  · rw [encL_two hv a1 a2]
    simp only [List.cons_append, List.nil_append]
    rw [runes_two (by omega) a2, hc]
  by_cases a3 : r.toNat < 65536
  · rw [encL_three hv a1 a2 a3]
    simp only [List.cons_append, List.nil_append]
    rw [runes_three (by omega) a3 hv', hc]
  · rw [encL_four hv a1 a2 a3]
    simp only [List.cons_append, List.nil_append]
    rw [runes_four (by omega) hm hv', hc]

/-- All characters' bytes. -/
def encsL (rs : List Int) : List UInt8 := (rs.map encL).flatten
theorem runesL_encs : ∀ rs : List Int, (∀ r ∈ rs, ValidR r) → runesL (encsL rs) = rs
  | [], _ => rfl
  | r :: rs, h => by
    rw [encsL, List.map_cons, List.flatten_cons, runesL_enc (h r (by simp))]
    rw [show (rs.map encL).flatten = encsL rs from rfl, runesL_encs rs fun x hx => h x (by simp [hx])]
theorem encs_inj {rs ts : List Int} (hr : ∀ r ∈ rs, ValidR r) (ht : ∀ r ∈ ts, ValidR r) : encsL rs = encsL ts ↔ rs = ts :=
  ⟨fun h => by rw [← runesL_encs rs hr, h, runesL_encs ts ht], fun h => by rw [h]⟩

theorem foldl_enc : ∀ (rs : List Int) (s : ByteArray), (rs.foldl (fun r n => r ++ Utf8.encode n) s).data.toList = s.data.toList ++ encsL rs
  | [], s => by simp [encsL]
  | r :: rs, s => by
    rw [List.foldl_cons, foldl_enc rs]
    simp [encsL, encL]
theorem runesBytes_list (rs : List Int) : (runesBytes rs).data.toList = encsL rs := by
  rw [runesBytes, foldl_enc]; rfl

/-! What is special, and quoted. -/
def specialB (b : UInt8) : Bool := b == 42 || b == 63 || b == 91 || b == 92
def specialR (r : Int) : Bool := r == 42 || r == 63 || r == 91 || r == 92
def quoteL : List UInt8 → List UInt8
  | [] => []
  | b :: l => if specialB b then 92 :: b :: quoteL l else b :: quoteL l
def quoteR : List Int → List Int
  | [] => []
  | r :: l => if specialR r then 92 :: r :: quoteR l else r :: quoteR l

theorem special_byte (b : UInt8) : specialR (b.toNat : Int) = specialB b := by
  have h : ∀ k : Nat, k < 256 → ((b.toNat : Int) == (k : Int)) = (b == UInt8.ofNat k) := fun k hk => by
    rw [Bool.eq_iff_iff, beq_iff_eq, beq_iff_eq]
    constructor
    · intro e
      have : b.toNat = k := by omega
      rw [← this]; simp
    · intro e; rw [e, ofNat_toNat hk]
  have h1 := h 42 (by omega); have h2 := h 63 (by omega); have h3 := h 91 (by omega); have h4 := h 92 (by omega)
  unfold specialR specialB
  exact congr (congrArg or (congr (congrArg or (congr (congrArg or h1) h2)) h3)) h4
theorem high_special {b : UInt8} (h : 128 ≤ b.toNat) : specialB b = false := by
  rw [← special_byte]; simp [specialR]; omega
theorem special_low {b : UInt8} (h : specialB b = true) : b.toNat < 128 := by
  rw [← special_byte] at h; simp [specialR] at h; omega
theorem special_high {n : Nat} (h : 128 ≤ n) : specialR (n : Int) = false := by simp [specialR]; omega

theorem quoteL_high : ∀ (a l : List UInt8), (∀ b ∈ a, specialB b = false) → quoteL (a ++ l) = a ++ quoteL l
  | [], _, _ => rfl
  | b :: a, l, h => by
    rw [List.cons_append, quoteL, h b (by simp), quoteL_high a l fun x hx => h x (by simp [hx])]; rfl

theorem mem_run : ∀ {l : List UInt8} {b : UInt8}, b ∈ l.takeWhile cont → cont b = true
  | [], b, h => by simp at h
  | c :: l, b, h => by
    rw [List.takeWhile_cons] at h
    split at h
    · rename_i hc
      rcases List.mem_cons.1 h with rfl | h
      · exact hc
      · exact mem_run h
    · simp at h
theorem take_run {l : List UInt8} {k : Nat} (hk : k ≤ (l.takeWhile cont).length) : l.take k = (l.takeWhile cont).take k ∧ ∀ b ∈ l.take k, cont b = true := by
  have e : l.take k = (l.takeWhile cont).take k := by
    conv => lhs; rw [← List.takeWhile_append_dropWhile (p := cont) (l := l)]
    rw [List.take_append_of_le_length hk]
  refine ⟨e, fun b hb => ?_⟩
  rw [e] at hb
  exact mem_run (List.mem_of_mem_take hb)
theorem takeWhile_all {a b : List UInt8} (h : ∀ x ∈ a, cont x = true) : (a ++ b).takeWhile cont = a ++ b.takeWhile cont := by
  induction a with
  | nil => rfl
  | cons c a ih => rw [List.cons_append, List.takeWhile_cons, h c (by simp), ih fun x hx => h x (by simp [hx])]; rfl
theorem takeWhile_quote : ∀ l : List UInt8, (quoteL l).takeWhile cont = l.takeWhile cont
  | [] => rfl
  | b :: l => by
    rw [quoteL]
    cases hb : specialB b
    · simp [List.takeWhile_cons, takeWhile_quote l]
    · have := cont_ascii (special_low hb)
      simp [List.takeWhile_cons, this]
      decide

/-- The first character's bytes, and what comes behind them. -/
theorem runes_split (b : UInt8) (l : List UInt8) : ∃ k, (decL (b :: l)).2 = k + 1 ∧ k ≤ (l.takeWhile cont).length ∧ runesL (b :: l) = ((decL (b :: l)).1 : Int) :: runesL (l.drop k) ∧ k ≤ l.length := by
  have hw := decL_width_run b l
  have hl : (l.takeWhile cont).length ≤ l.length := (List.takeWhile_sublist cont).length_le
  refine ⟨(decL (b :: l)).2 - 1, by omega, by omega, ?_, by omega⟩
  rw [runesL_cons]
  obtain ⟨k, hk⟩ : ∃ k, (decL (b :: l)).2 = k + 1 := ⟨(decL (b :: l)).2 - 1, by omega⟩
  rw [hk]; rfl

theorem quote_runes : ∀ (n : Nat) (l : List UInt8), l.length ≤ n → runesL (quoteL l) = quoteR (runesL l) := by
  intro n
  induction n with
  | zero =>
    intro l h
    have : l = [] := List.eq_nil_of_length_eq_zero (by omega)
    subst this; rfl
  | succ n ih =>
    intro l h
    cases l with
    | nil => rfl
    | cons b l =>
      simp only [List.length_cons] at h
      by_cases hb : b.toNat < 128
      · rw [runesL_ascii b l hb, quoteL, quoteR, special_byte]
        cases hs : specialB b
        · simp only [if_false, Bool.false_eq_true]
          rw [runesL_ascii _ _ hb, ih l (by omega)]
        · simp only [if_true]
          rw [runesL_ascii 92 _ (by decide), runesL_ascii _ _ hb, ih l (by omega)]
          rfl
      · obtain ⟨k, hk, hkl, hr, hkL⟩ := runes_split b l
        obtain ⟨_, ha⟩ := take_run hkl
        have hsp : ∀ x ∈ b :: l.take k, specialB x = false := fun x hx => by
          rcases List.mem_cons.1 hx with rfl | hx
          · exact high_special (by omega)
          · exact high_special (high_cont (ha x hx))
        have e1 : b :: l = (b :: l.take k) ++ l.drop k := by simp
        have e2 : quoteL (b :: l) = b :: (l.take k ++ quoteL (l.drop k)) := by
          rw [e1, quoteL_high _ _ hsp]; rfl
        have e3 : decL (b :: (l.take k ++ quoteL (l.drop k))) = decL (b :: l) := by
          rw [decL_cont, decL_cont b l, takeWhile_all ha, takeWhile_quote, ← takeWhile_all ha, List.take_append_drop]
        rw [hr, quoteR, special_high (decL_high b l (by omega)), e2, runesL_cons, e3, hk]
        simp only [if_false, Bool.false_eq_true]
        rw [← ih (l.drop k) (by simp; omega)]
        congr 2
        rw [List.drop_succ_cons, List.drop_append_of_le_length (by simp; omega)]
        rw [List.drop_eq_nil_of_le (by simp; omega), List.nil_append]

theorem plain_runes : ∀ (n : Nat) (l : List UInt8), l.length ≤ n → (runesL l).any specialR = l.any specialB := by
  intro n
  induction n with
  | zero =>
    intro l h
    have : l = [] := List.eq_nil_of_length_eq_zero (by omega)
    subst this; rfl
  | succ n ih =>
    intro l h
    cases l with
    | nil => rfl
    | cons b l =>
      simp only [List.length_cons] at h
      by_cases hb : b.toNat < 128
      · rw [runesL_ascii b l hb, List.any_cons, List.any_cons, special_byte, ih l (by omega)]
      · obtain ⟨k, hk, hkl, hr, hkL⟩ := runes_split b l
        obtain ⟨_, ha⟩ := take_run hkl
        rw [hr, List.any_cons, special_high (decL_high b l (by omega)), ih (l.drop k) (by simp; omega), List.any_cons, high_special (by omega)]
        conv => rhs; rw [← List.take_append_drop k l]
        rw [List.any_append]
        have : (l.take k).any specialB = false := by
          rw [List.any_eq_false]
          intro x hx
          rw [high_special (high_cont (ha x hx))]; simp
        rw [this]; rfl

end Go.Proofs.YtjcgfbmkgfhnaaaDoor
