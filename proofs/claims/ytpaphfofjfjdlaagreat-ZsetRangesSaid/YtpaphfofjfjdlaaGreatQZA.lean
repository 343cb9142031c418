/- Texts of one kind in one: ZMath, ZPack, ZLead. -/
import Derived.WalkKit
import Derived.Test.YtpaphfofjfjdlaaGreatQSkE
import Derived.Test.YtpaphfofjfjdlaaGreatQPkD
import Derived.Lib.MinMaxS
import Derived.Handy
/- Entries in order: putting in, taking out; nothing of the program in it. -/
namespace Go.Proofs.YtpaphfofjfjdlaaGreat

abbrev En := ByteArray × Int
def lessE (m : ByteArray) (s : Int) (m' : ByteArray) (s' : Int) : Bool := decide (s < s' ∨ s = s' ∧ m.data.toList < m'.data.toList)
theorem less_irr (a : ByteArray) (s : Int) : lessE a s a s = false := by
  simp only [lessE, decide_eq_false_iff_not]
  rintro (h | ⟨_, h⟩)
  · omega
  · exact List.lt_irrefl _ h
theorem less_tr {a b c : ByteArray} {s t u : Int} (h : lessE a s b t = true) (g : lessE b t c u = true) : lessE a s c u = true := by
  simp only [lessE, decide_eq_true_eq] at *
  rcases h with h | ⟨h, h'⟩ <;> rcases g with g | ⟨g, g'⟩
  · exact .inl (by omega)
  · exact .inl (by omega)
  · exact .inl (by omega)
  · exact .inr ⟨by omega, List.lt_trans h' g'⟩
theorem less_or (a b : ByteArray) (s t : Int) (h : lessE a s b t = false) (hn : ¬ (a = b ∧ s = t)) : lessE b t a s = true := by
  simp only [lessE, decide_eq_false_iff_not, decide_eq_true_eq] at *
  by_cases e : s = t
  · right
    refine ⟨e.symm, ?_⟩
    have h1 : ¬ a.data.toList < b.data.toList := fun h2 => h (.inr ⟨e, h2⟩)
    have h2 : a.data.toList ≠ b.data.toList := fun h2 => hn ⟨by cases a; cases b; simp at h2; rw [h2], e⟩
    rcases Std.le_total (a := a.data.toList) (b := b.data.toList) with h3 | h3
    · exact absurd (Std.lt_of_le_of_ne h3 h2) h1
    · exact Std.lt_of_le_of_ne h3 (Ne.symm h2)
  · left
    have : ¬ s < t := fun h2 => h (.inl h2)
    omega

/-- In their order; members once each. -/
def SrtE (E : List En) : Prop := E.Pairwise fun x y => lessE x.1 x.2 y.1 y.2 = true
def Dist (E : List En) : Prop := E.Pairwise fun x y => x.1 ≠ y.1
def posE (E : List En) (m : ByteArray) (s : Int) : Nat := (E.takeWhile fun x => lessE x.1 x.2 m s).length
def putE (E : List En) (m : ByteArray) (s : Int) : List En := E.take (posE E m s) ++ (m, s) :: E.drop (posE E m s)
def rmE (E : List En) (m : ByteArray) : List En := E.filter fun x => decide (x.1 ≠ m)
def addE (E : List En) (m : ByteArray) (s : Int) : List En := putE (rmE E m) m s
def hasE (E : List En) (m : ByteArray) : Bool := E.any fun x => decide (x.1 = m)
def whE (E : List En) (m : ByteArray) : Option Nat := E.findIdx? fun x => decide (x.1 = m)

theorem posE_le (E : List En) (m : ByteArray) (s : Int) : posE E m s ≤ E.length := by
  unfold posE; exact (List.takeWhile_sublist _).length_le
theorem posE_spec {E : List En} (hs : SrtE E) (m : ByteArray) (s : Int) : ∀ (i : Nat) (x : En), E[i]? = some x → lessE x.1 x.2 m s = decide (i < posE E m s) := by
  induction E with
  | nil => intro i x h; simp at h
  | cons y E ih =>
    intro i x h
    have hs' : SrtE E := (List.pairwise_cons.1 hs).2
    by_cases hy : lessE y.1 y.2 m s = true
    · have hp : posE (y :: E) m s = posE E m s + 1 := by simp [posE, hy]
      rw [hp]
      cases i with
      | zero => simp at h; subst h; simpa using hy
      | succ i =>
        rw [ih hs' i x (by simpa using h)]
        simp
    · have hp : posE (y :: E) m s = 0 := by simp [posE, hy]
      rw [hp]
      have hy' : lessE y.1 y.2 m s = false := by simpa using hy
      cases i with
      | zero => simp at h; subst h; simpa using hy'
      | succ i =>
        have hx : x ∈ E := List.mem_of_getElem? (by simpa using h : E[i]? = some x)
        have := (List.pairwise_cons.1 hs).1 x hx
        cases hxe : lessE x.1 x.2 m s with
        | false => simp
        | true => exact absurd (less_tr this hxe) hy
theorem mem_putE {E : List En} {m : ByteArray} {s : Int} {x : En} : x ∈ putE E m s ↔ x = (m, s) ∨ x ∈ E := by
  have h0 : x ∈ E ↔ x ∈ E.take (posE E m s) ∨ x ∈ E.drop (posE E m s) := by
    rw [← List.mem_append, List.take_append_drop]
  unfold putE
  rw [List.mem_append, List.mem_cons, h0]
  constructor
  · rintro (h | h | h)
    · exact .inr (.inl h)
    · exact .inl h
    · exact .inr (.inr h)
  · rintro (h | h | h)
    · exact .inr (.inl h)
    · exact .inl h
    · exact .inr (.inr h)
theorem putE_perm (E : List En) (m : ByteArray) (s : Int) : (putE E m s).Perm ((m, s) :: E) := by
  unfold putE
  refine List.perm_middle.trans ?_
  rw [List.take_append_drop]
theorem putE_len (E : List En) (m : ByteArray) (s : Int) : (putE E m s).length = E.length + 1 := (putE_perm E m s).length_eq
theorem srt_putE {E : List En} (hs : SrtE E) (m : ByteArray) (s : Int) (hn : (m, s) ∉ E) : SrtE (putE E m s) := by
  have hsp := posE_spec hs m s
  unfold putE
  refine List.pairwise_append.2 ⟨hs.sublist (List.take_sublist _ _), List.pairwise_cons.2 ⟨fun y hy => ?_, hs.sublist (List.drop_sublist _ _)⟩, fun y hy z hz => ?_⟩
  · have hyE : y ∈ E := List.mem_of_mem_drop hy
    obtain ⟨i, hi⟩ := List.mem_iff_getElem?.1 hy
    rw [List.getElem?_drop] at hi
    have h1 := hsp _ y hi
    rw [show decide (posE E m s + i < posE E m s) = false by simp] at h1
    exact less_or _ _ _ _ h1 (fun e => hn (by have e1 : y = (m, s) := Prod.ext e.1 e.2; rw [← e1]; exact hyE))
  · have hy1 : lessE y.1 y.2 m s = true := by
      obtain ⟨i, hi⟩ := List.mem_iff_getElem?.1 hy
      have hil := (List.getElem?_eq_some_iff.1 hi).1
      rw [List.length_take] at hil
      rw [List.getElem?_take_of_lt (by omega)] at hi
      rw [hsp i y hi]
      simp; omega
    rcases List.mem_cons.1 hz with rfl | hz
    · exact hy1
    · obtain ⟨i, hi⟩ := List.mem_iff_getElem?.1 hy
      obtain ⟨j, hj⟩ := List.mem_iff_getElem?.1 hz
      have hil := (List.getElem?_eq_some_iff.1 hi).1
      rw [List.length_take] at hil
      rw [List.getElem?_take_of_lt (by omega)] at hi
      rw [List.getElem?_drop] at hj
      obtain ⟨hi1, hi2⟩ := List.getElem?_eq_some_iff.1 hi
      obtain ⟨hj1, hj2⟩ := List.getElem?_eq_some_iff.1 hj
      have := List.pairwise_iff_getElem.1 hs i _ hi1 hj1 (by omega)
      rw [hi2, hj2] at this
      exact this
theorem dist_iff (E : List En) : Dist E ↔ (E.map (·.1)).Nodup := by unfold Dist List.Nodup; rw [List.pairwise_map]
theorem dist_putE {E : List En} (hd : Dist E) (m : ByteArray) (s : Int) (hn : ∀ x ∈ E, x.1 ≠ m) : Dist (putE E m s) := by
  have h := putE_perm E m s
  rw [dist_iff, (h.map (·.1)).nodup_iff, ← dist_iff]
  exact List.pairwise_cons.2 ⟨fun y hy e => hn y hy e.symm, hd⟩
theorem mem_rmE {E : List En} {m : ByteArray} {x : En} : x ∈ rmE E m ↔ x ∈ E ∧ x.1 ≠ m := by unfold rmE; simp [List.mem_filter]
theorem srt_rmE {E : List En} (hs : SrtE E) (m : ByteArray) : SrtE (rmE E m) := hs.sublist List.filter_sublist
theorem dist_rmE {E : List En} (hd : Dist E) (m : ByteArray) : Dist (rmE E m) := hd.sublist List.filter_sublist
theorem rmE_none {E : List En} {m : ByteArray} (h : ∀ x ∈ E, x.1 ≠ m) : rmE E m = E := by
  unfold rmE; exact List.filter_eq_self.2 fun x hx => by simpa using h x hx
theorem dist_uniq {E : List En} (hd : Dist E) {x y : En} (hx : x ∈ E) (hy : y ∈ E) (he : x.1 = y.1) : x = y := by
  obtain ⟨i, hi, rfl⟩ := List.mem_iff_getElem.1 hx
  obtain ⟨j, hj, rfl⟩ := List.mem_iff_getElem.1 hy
  rcases Nat.lt_trichotomy i j with h | h | h
  · exact absurd he (List.pairwise_iff_getElem.1 hd i j hi hj h)
  · subst h; rfl
  · exact absurd he.symm (List.pairwise_iff_getElem.1 hd j i hj hi h)
theorem rmE_at {E : List En} (hd : Dist E) {i : Nat} {x : En} (hx : E[i]? = some x) : rmE E x.1 = E.take i ++ E.drop (i + 1) := by
  obtain ⟨hi, he⟩ := List.getElem?_eq_some_iff.1 hx
  have h1 : E = E.take i ++ x :: E.drop (i + 1) := by rw [← he, ← List.drop_eq_getElem_cons hi, List.take_append_drop]
  have hd2 : Dist (E.take i ++ x :: E.drop (i + 1)) := by rw [← h1]; exact hd
  obtain ⟨_, h3, h4⟩ := List.pairwise_append.1 hd2
  have h5 := (List.pairwise_cons.1 h3).1
  have e1 : rmE (E.take i) x.1 = E.take i := rmE_none fun y hy => h4 y hy x (List.mem_cons_self ..)
  have e2 : rmE (E.drop (i + 1)) x.1 = E.drop (i + 1) := rmE_none fun y hy e => h5 y hy e.symm
  have e3 : rmE E x.1 = rmE (E.take i ++ x :: E.drop (i + 1)) x.1 := by rw [← h1]
  rw [e3]
  unfold rmE at *
  rw [List.filter_append, List.filter_cons_of_neg (by simp), e1, e2]
theorem whE_some {E : List En} {m : ByteArray} {i : Nat} (h : whE E m = some i) : ∃ s, E[i]? = some (m, s) := by
  unfold whE at h
  obtain ⟨hi, h1, _⟩ := List.findIdx?_eq_some_iff_getElem.1 h
  refine ⟨E[i].2, ?_⟩
  rw [List.getElem?_eq_getElem hi]
  have : E[i].1 = m := by simpa using h1
  rw [← this]
theorem whE_none {E : List En} {m : ByteArray} (h : whE E m = none) : ∀ x ∈ E, x.1 ≠ m := by
  unfold whE at h
  rw [List.findIdx?_eq_none_iff] at h
  intro x hx
  simpa using h x hx
theorem whE_at {E : List En} (hd : Dist E) {i : Nat} {x : En} (hx : E[i]? = some x) : whE E x.1 = some i := by
  cases h : whE E x.1 with
  | none => exact absurd rfl (whE_none h x (List.mem_of_getElem? hx))
  | some j =>
    obtain ⟨s, hs⟩ := whE_some h
    obtain ⟨hi, he⟩ := List.getElem?_eq_some_iff.1 hx
    obtain ⟨hj, he2⟩ := List.getElem?_eq_some_iff.1 hs
    rcases Nat.lt_trichotomy i j with h | h | h
    · exact absurd (by rw [he, he2]) (List.pairwise_iff_getElem.1 hd i j hi hj h)
    · rw [h]
    · exact absurd (by rw [he, he2]) (List.pairwise_iff_getElem.1 hd j i hj hi h)
theorem hasE_iff {E : List En} {m : ByteArray} : hasE E m = true ↔ ∃ s, (m, s) ∈ E := by
  unfold hasE
  rw [List.any_eq_true]
  constructor
  · rintro ⟨x, hx, h⟩
    have : x.1 = m := by simpa using h
    exact ⟨x.2, by rw [← this]; exact hx⟩
  · rintro ⟨s, hs⟩
    exact ⟨_, hs, by simp⟩
theorem hasE_wh (E : List En) (m : ByteArray) : hasE E m = (whE E m).isSome := by
  cases h : whE E m with
  | none =>
    cases h2 : hasE E m with
    | false => rfl
    | true => obtain ⟨s, hs⟩ := hasE_iff.1 h2; exact absurd rfl (whE_none h _ hs)
  | some i =>
    obtain ⟨s, hs⟩ := whE_some h
    exact hasE_iff.2 ⟨s, List.mem_of_getElem? hs⟩
theorem pos_selfE {E : List En} (hs : SrtE E) {i : Nat} {x : En} (hx : E[i]? = some x) : posE E x.1 x.2 = i := by
  have h1 := posE_spec hs x.1 x.2 i x hx
  rw [less_irr] at h1
  have h2 : ¬ i < posE E x.1 x.2 := by simpa using h1.symm
  obtain ⟨hi, he⟩ := List.getElem?_eq_some_iff.1 hx
  rcases Nat.lt_or_ge (posE E x.1 x.2) i with h | h
  · have hj : E[posE E x.1 x.2]? = some E[posE E x.1 x.2] := List.getElem?_eq_getElem (by omega)
    have h4 := posE_spec hs x.1 x.2 _ _ hj
    have h5 := List.pairwise_iff_getElem.1 hs (posE E x.1 x.2) i (by omega) hi h
    rw [he, h4] at h5
    simp at h5
  · omega
theorem addE_len {E : List En} (hd : Dist E) (m : ByteArray) (s : Int) : (addE E m s).length = if hasE E m then E.length else E.length + 1 := by
  unfold addE
  rw [putE_len, hasE_wh]
  cases h : whE E m with
  | none => rw [rmE_none (whE_none h)]; rfl
  | some i =>
    obtain ⟨t, ht⟩ := whE_some h
    have hi := (List.getElem?_eq_some_iff.1 ht).1
    have := rmE_at hd ht
    simp only at this
    rw [this]
    simp
    omega
theorem rmE_len {E : List En} (hd : Dist E) (m : ByteArray) : (rmE E m).length = if hasE E m then E.length - 1 else E.length := by
  have h1 := addE_len hd m 0
  unfold addE at h1
  rw [putE_len] at h1
  cases h : hasE E m with
  | true => rw [h] at h1; simp at h1 ⊢; omega
  | false => rw [h] at h1; simp at h1 ⊢; omega
theorem srt_addE {E : List En} (hs : SrtE E) (m : ByteArray) (s : Int) : SrtE (addE E m s) := srt_putE (srt_rmE hs m) m s fun h => (mem_rmE.1 h).2 rfl
theorem dist_addE {E : List En} (hd : Dist E) (m : ByteArray) (s : Int) : Dist (addE E m s) := dist_putE (dist_rmE hd m) m s fun _ h => (mem_rmE.1 h).2
theorem mem_addE {E : List En} {m : ByteArray} {s : Int} {x : En} : x ∈ addE E m s ↔ x = (m, s) ∨ x ∈ E ∧ x.1 ≠ m := by unfold addE; rw [mem_putE, mem_rmE]

/-- What a map tells of entries. -/
def MapOf (m : ByteArray → Option Int) (E : List En) : Prop := ∀ k v, m k = some v ↔ (k, v) ∈ E
def putI (m : ByteArray → Option Int) (key : ByteArray) (v : Int) : ByteArray → Option Int := fun k => if k = key then some v else m k
def remI (m : ByteArray → Option Int) (key : ByteArray) : ByteArray → Option Int := fun k => if k = key then none else m k
theorem MapOf.put {m : ByteArray → Option Int} {E : List En} (h : MapOf m E) (k : ByteArray) (v : Int) : MapOf (putI m k v) (addE E k v) := fun k' v' => by
  rw [mem_addE, ← h k' v']
  unfold putI
  by_cases e : k' = k
  · subst e; simp [eq_comm]
  · simp [e]
theorem MapOf.put_rm {m : ByteArray → Option Int} {E : List En} (h : MapOf m E) (k : ByteArray) (v : Int) : MapOf (putI m k v) (putE (rmE E k) k v) := h.put k v
theorem MapOf.rem {m : ByteArray → Option Int} {E : List En} (h : MapOf m E) (k : ByteArray) : MapOf (remI m k) (rmE E k) := fun k' v' => by
  rw [mem_rmE, ← h k' v']
  unfold remI
  by_cases e : k' = k
  · subst e; simp
  · simp [e]
theorem MapOf.isSome {m : ByteArray → Option Int} {E : List En} (h : MapOf m E) (k : ByteArray) : (m k).isSome = hasE E k := by
  cases hm : m k with
  | none =>
    cases h2 : hasE E k with
    | false => rfl
    | true =>
      obtain ⟨s, hs⟩ := hasE_iff.1 h2
      have := (h k s).2 hs
      rw [hm] at this; cases this
  | some v => exact (hasE_iff.2 ⟨v, (h k v).1 hm⟩).symm
/-- All but those of some members. -/
def rmAll (E : List En) (l : List En) : List En := l.foldl (fun E x => rmE E x.1) E
def remAll (m : ByteArray → Option Int) (l : List En) : ByteArray → Option Int := l.foldl (fun m x => remI m x.1) m
theorem MapOf.remAll {l : List En} : ∀ {m : ByteArray → Option Int} {E : List En}, MapOf m E → MapOf (remAll m l) (rmAll E l) := by
  induction l with
  | nil => intro m E h; exact h
  | cons x l ih => intro m E h; exact ih (h.rem x.1)
theorem mem_rmAll {l : List En} : ∀ {E : List En} {y : En}, y ∈ rmAll E l ↔ y ∈ E ∧ ∀ x ∈ l, y.1 ≠ x.1 := by
  induction l with
  | nil => intro E y; simp [rmAll]
  | cons x l ih =>
    intro E y
    show y ∈ rmAll (rmE E x.1) l ↔ _
    rw [ih, mem_rmE]
    simp [and_assoc]
theorem rmAll_mid {A M B : List En} (hd : Dist (A ++ M ++ B)) : rmAll (A ++ M ++ B) M = A ++ B := by
  induction M generalizing A with
  | nil => simp [rmAll]
  | cons x M ih =>
    show rmAll (rmE (A ++ (x :: M) ++ B) x.1) M = _
    have h1 : (A ++ (x :: M) ++ B)[A.length]? = some x := by simp
    rw [rmE_at hd h1]
    have h2 : (A ++ x :: M ++ B).take A.length = A := by simp
    have h3 : (A ++ x :: M ++ B).drop (A.length + 1) = M ++ B := by simp [List.drop_append]
    rw [h2, h3, ← List.append_assoc]
    refine ih ?_
    refine hd.sublist ?_
    simp
/-- What is cut out. -/
def f0 (f : Int) : Nat := (max f 0).toNat
def t0 (t : Int) (n : Nat) : Nat := (min t n).toNat
def subE (E : List En) (f t : Int) : List En := (E.drop (f0 f)).take (t0 t E.length - f0 f)
def cutE (E : List En) (f t : Int) : List En := if f0 f < t0 t E.length then E.take (f0 f) ++ E.drop (t0 t E.length) else E
theorem subE_len (E : List En) (f t : Int) : (subE E f t).length = t0 t E.length - f0 f := by
  unfold subE
  rw [List.length_take, List.length_drop]
  unfold t0
  omega
theorem subE_all (E : List En) : subE E 0 E.length = E := by
  unfold subE f0 t0
  simp
theorem sub_cut (E : List En) (f t : Int) (h : f0 f < t0 t E.length) : E = E.take (f0 f) ++ subE E f t ++ E.drop (t0 t E.length) := by
  unfold subE
  have h1 : (E.drop (f0 f)).drop (t0 t E.length - f0 f) = E.drop (t0 t E.length) := by
    rw [List.drop_drop]; congr 1; omega
  rw [← h1, List.append_assoc, List.take_append_drop, List.take_append_drop]
theorem rmAll_cut {E : List En} (hd : Dist E) (f t : Int) : rmAll E (subE E f t) = cutE E f t := by
  unfold cutE
  by_cases h : f0 f < t0 t E.length
  · rw [if_pos h]
    have h1 := sub_cut E f t h
    have hd2 := hd
    rw [h1] at hd2
    have := rmAll_mid hd2
    rw [← h1] at this
    exact this
  · rw [if_neg h]
    have : subE E f t = [] := List.eq_nil_of_length_eq_zero (by rw [subE_len]; omega)
    rw [this]
    rfl
theorem cutE_len (E : List En) (f t : Int) : (cutE E f t).length = E.length - (subE E f t).length := by
  unfold cutE
  rw [subE_len]
  split
  · simp; unfold t0 at *; omega
  · omega
theorem srt_cutE {E : List En} (hs : SrtE E) (f t : Int) : SrtE (cutE E f t) := by
  unfold cutE
  split
  · next h =>
    refine hs.sublist ?_
    conv => rhs; rw [sub_cut E f t h, List.append_assoc]
    exact (List.Sublist.refl _).append (List.sublist_append_right _ _)
  · exact hs
theorem dist_cutE {E : List En} (hs : Dist E) (f t : Int) : Dist (cutE E f t) := by
  unfold cutE
  split
  · next h =>
    refine hs.sublist ?_
    conv => rhs; rw [sub_cut E f t h, List.append_assoc]
    exact (List.Sublist.refl _).append (List.sublist_append_right _ _)
  · exact hs
theorem mem_cutE {E : List En} {f t : Int} {x : En} (h : x ∈ cutE E f t) : x ∈ E := by
  unfold cutE at h
  split at h
  · rcases List.mem_append.1 h with h | h
    · exact List.mem_of_mem_take h
    · exact List.mem_of_mem_drop h
  · exact h
theorem cut_one {E : List En} (hd : Dist E) {i : Nat} {x : En} (hx : E[i]? = some x) : cutE E i (i + 1 : Int) = rmE E x.1 := by
  have hi := (List.getElem?_eq_some_iff.1 hx).1
  have e1 : f0 (i : Int) = i := by unfold f0; omega
  have e2 : t0 ((i : Int) + 1) E.length = i + 1 := by unfold t0; omega
  unfold cutE
  rw [e1, e2, if_pos (by omega), rmE_at hd hx]
end Go.Proofs.YtpaphfofjfjdlaaGreat
/- A set's entries as a pack: what its form tells. -/
namespace Go.Proofs.YtpaphfofjfjdlaaGreat
open Go.RowKit Go.Shelf Sk
attribute [local go_sem] Oper.semAt_some

theorem alloc_below (w : World) (o : Obj) : Below w.heap.size w (w.alloc o) := (Below.refl _ _).alloc (Nat.le_refl _) _
/-- A list of entries in memory of one's own. -/
abbrev Own48 (W : World) (n0 : Nat) (v : Value) (l : List En) : Prop := Pk.Own35 W n0 v l
/-- What a pack of entries wants. -/
abbrev ValidE (E : List En) : Prop := Pk.Valid E

theorem valid_size {E : List En} (h : ValidE E) : (Pk.packB E).size ≤ 281474976710656 := by
  have := Pk.size_packB (fun e he => (h.each e he).1) (by have := h.many; omega)
  omega
theorem at_valid {E : List En} (h : ValidE E) (i : Int) : Pk.getS (Pk.packB E) i = (if i < 0 ∨ (E.length : Int) ≤ i then ((⟨#[]⟩, 0), 2) else (E.getD i.toNat (⟨#[]⟩, 0), 0)) := by
  unfold Pk.getS
  rw [Pk.right_packB h, Pk.ents_packB h]
  rfl

/-- A pack in memory. -/
structure PackAt (W : World) (b : Nat) (E : List En) : Prop where
  blk : Blk W b 75 #[.string (Pk.packB E)]
  ok : ValidE E
theorem PackAt.far {W W' : World} {b : Nat} {E : List En} {S : Nat → Prop} (h : PackAt W b E) (hf : Far S W W') (hn : ¬ S b) : PackAt W' b E := ⟨hf.blk h.blk hn, h.ok⟩
theorem PackAt.later {W W' : World} {b : Nat} {E : List En} (h : PackAt W b E) (hb : Below W.heap.size W W') : PackAt W' b E := ⟨h.blk.later hb, h.ok⟩

theorem own_slice {W : World} {n0 : Nat} {v : Value} {l : List En} (h : Own48 W n0 v l) : ∃ a c, v = .slice a l.length c ∧ l.length ≤ c := by
  rcases h.2 with ⟨rfl, h0⟩ | ⟨g, cap, cur, rfl, h1, h2, h3⟩
  · have hl : l = [] := List.eq_nil_of_length_eq_zero h0
    subst hl
    exact ⟨none, 0, rfl, Nat.le_refl _⟩
  · exact ⟨_, cap, rfl, h3.1⟩
/-- A list of entries that a call has made. -/
structure Row (W : World) (n0 : Nat) (v : Value) (l : List En) : Prop where
  form : ∃ a c, v = .slice a l.length c
  at' : ∀ i e, l[i]? = some e → ∃ b off c cur, v = .slice (some ⟨b, off, none⟩) l.length c ∧ n0 ≤ b ∧ Blk W b 48 cur ∧ W.cell? ⟨b, off + i * 2, none⟩ = some (.string e.1) ∧ W.cell? ⟨b, off + i * 2 + 1, none⟩ = some (.int .i64 e.2)
theorem Row.far {W W' : World} {n0 : Nat} {v : Value} {l : List En} {S : Nat → Prop} (h : Row W n0 v l) (hf : Far S W W') (hS : ∀ k cur, n0 ≤ k → Blk W k 48 cur → ¬ S k) : Row W' n0 v l :=
  ⟨h.form, fun i e he => by
    obtain ⟨b, off, c, cur, h1, h2, h3, h4, h5⟩ := h.at' i e he
    have h6 := hf.blk h3 (hS b cur h2 h3)
    refine ⟨b, off, c, cur, h1, h2, h6, ?_, ?_⟩
    · rw [h6.cell, ← h3.cell]; exact h4
    · rw [h6.cell, ← h3.cell]; exact h5⟩
theorem Row.later {W W' : World} {n0 : Nat} {v : Value} {l : List En} (h : Row W n0 v l) (hb : Below W.heap.size W W') : Row W' n0 v l := h.far (S := fun _ => False) (Far.of_below hb) (fun _ _ _ _ h => h)
theorem Row.mono {W : World} {n0 n1 : Nat} {v : Value} {l : List En} (h : Row W n0 v l) (hn : n1 ≤ n0) : Row W n1 v l :=
  ⟨h.form, fun i e he => by
    obtain ⟨b, off, c, cur, h1, h2, h3⟩ := h.at' i e he
    exact ⟨b, off, c, cur, h1, Nat.le_trans hn h2, h3⟩⟩
theorem Row.nil (W : World) (n0 : Nat) : Row W n0 (.slice none 0 0) [] := ⟨⟨none, 0, rfl⟩, fun i e h => by simp at h⟩
theorem cells48_at : ∀ (l : List En) (i : Nat) (e : En), l[i]? = some e → (Pk.cellsE l)[i * 2]? = some (.string e.1) ∧ (Pk.cellsE l)[i * 2 + 1]? = some (.int .i64 e.2)
  | [], i, e, h => by simp at h
  | x :: l, 0, e, h => by
    simp at h; subst h; exact ⟨rfl, rfl⟩
  | x :: l, i + 1, e, h => by
    have := cells48_at l i e (by simpa using h)
    rw [show (i + 1) * 2 = i * 2 + 1 + 1 by omega]
    exact this
theorem cells48_len : ∀ l : List En, (Pk.cellsE l).length = l.length * 2
  | [] => rfl
  | x :: l => by
    have := cells48_len l
    show (Pk.cellsE l).length + 1 + 1 = _
    rw [this, List.length_cons]; omega
/-- A part of a row of one's own. -/
theorem own_row {W : World} {n0 : Nat} {v : Value} {l : List En} (h : Own48 W n0 v l) : Row W n0 v l := by
  refine ⟨?_, fun i e he => ?_⟩
  · obtain ⟨a, c, h1, _⟩ := own_slice h
    exact ⟨a, c, h1⟩
  · obtain ⟨q1, q2⟩ := cells48_at l i e he
    have hi := (List.getElem?_eq_some_iff.1 he).1
    have hcl := cells48_len l
    rcases h.2 with ⟨rfl, h0⟩ | ⟨g, cap, cur, rfl, h1, h2, h3⟩
    · omega
    · refine ⟨g, 0, cap, cur, rfl, h1, h2, ?_, ?_⟩
      · rw [Nat.zero_add, h.cellAt (i * 2) (by omega)]; exact q1
      · rw [Nat.zero_add, h.cellAt (i * 2 + 1) (by omega)]; exact q2
theorem row_part {W : World} {n0 g cap : Nat} {l : List En} (h : Own48 W n0 (.slice (some ⟨g, 0, none⟩) l.length cap) l) (a k : Nat) (hk : a + k ≤ l.length) (hk0 : 0 < k) (c : Nat) :
    Row W n0 (.slice (some ⟨g, a * 2, none⟩) k c) ((l.drop a).take k) := by
  have hlen : ((l.drop a).take k).length = k := by simp; omega
  refine ⟨⟨_, c, by rw [hlen]⟩, fun i e he => ?_⟩
  have hi := (List.getElem?_eq_some_iff.1 he).1
  rw [hlen] at hi
  rw [List.getElem?_take_of_lt hi, List.getElem?_drop] at he
  obtain ⟨b, off, c2, cur, e1, e2, e3, e4, e5⟩ := (own_row h).at' (a + i) e he
  injection e1 with e1 _ _
  injection e1 with e1
  injection e1 with e1 e6 _
  subst e1
  subst e6
  refine ⟨g, a * 2, c, cur, by rw [hlen], e2, e3, ?_, ?_⟩
  · rw [← e4]; congr 2; omega
  · rw [← e5]; congr 2; omega

section
variable {w : World} {b : Nat} {E : List En}
theorem p_entries (h : PackAt w b E) : Calls Tryz.prog 63 #[.pointer (some ⟨b, 0, none⟩)] w fun e w' => ∃ r, e = .returned r ∧ Own48 w' w.heap.size r E ∧ Below w.heap.size w w' := by
  have HE := Lib.hid (Pk.entriesF_any (Pk.packB E) (valid_size h.ok) w)
  rw [Pk.ents_packB h.ok, Pk.right_packB h.ok] at HE
  simp only [if_true] at HE
  obtain ⟨c0, _⟩ := facts1 h.blk
  clear h
  go_enter Tryz.func63, Tryz.ntmps63
  go_wp2_with (go_at_call 72; refine HE.out.mono ?_; rintro e w1 ⟨r, rfl, ho, hb⟩)
  go_ret
  exact ⟨_, rfl, ho, hb⟩
theorem p_len (h : PackAt w b E) : Calls Tryz.prog 61 #[.pointer (some ⟨b, 0, none⟩)] w fun e w' => e = .returned (.int .i64 E.length) ∧ Below w.heap.size w w' := by
  have HE := Lib.hid (p_entries h)
  clear h
  go_enter Tryz.func61, Tryz.ntmps61
  go_wp2_with (go_at_call 63; refine HE.out.mono ?_; rintro e w1 ⟨r, rfl, ho, hb⟩; obtain ⟨a, c, rfl, _⟩ := own_slice ho)
  go_ret
  exact ⟨rfl, hb⟩
theorem p_at (h : PackAt w b E) (i : Int) : Calls Tryz.prog 137 #[.pointer (some ⟨b, 0, none⟩), .int .i64 i] w fun e w' =>
    e = .returned (.tuple #[.agg #[.string (Pk.getS (Pk.packB E) i).1.1, .int .i64 (Pk.getS (Pk.packB E) i).1.2], .bool ((Pk.getS (Pk.packB E) i).2 == 0)]) ∧ Below w.heap.size w w' := by
  have hb0 := alloc_below w (.cells #[.string ⟨#[]⟩, .int .i64 0] 48)
  have HE := Lib.hid (Pk.get_any (Pk.packB E) (valid_size h.ok) i (w.alloc (.cells #[.string ⟨#[]⟩, .int .i64 0] 48)))
  obtain ⟨c0, _⟩ := facts1 (h.later hb0).blk
  have HB := Lib.hid hb0
  have kR := Blk.new w 48 #[.string ⟨#[]⟩, .int .i64 0]
  generalize (Pk.getS (Pk.packB E) i) = g at *
  obtain ⟨⟨gm, gs⟩, er⟩ := g
  simp only at *
  clear h hb0
  go_enter Tryz.func137, Tryz.ntmps137
  go_wp2_with fail
  refine HE.out.mono ?_
  rintro e w1 ⟨rfl, hb⟩
  have k1 := kR.later hb
  have K2 := Lib.hid (k1.alloc (Obj.cells #[.string gm, .int .i64 gs] 48))
  have kN := Blk.new w1 48 #[.string gm, .int .i64 gs]
  obtain ⟨e0, e1, f0, f1⟩ := facts2 kN
  obtain ⟨e2, e3, f2, f3⟩ := facts2 K2.out
  have hb2 := HB.out.trans (hb.mono HB.out.size)
  have HB2 := Lib.hid (hb2.trans ((alloc_below w1 (Obj.cells #[.string gm, .int .i64 gs] 48)).mono hb2.size))
  clear hb hb2 k1 kN kR HE
  go_wp2_with fail
  obtain ⟨g1, g2, g3⟩ := Pk.set2 (.string gm) (.int .i64 gs) K2.out
  exact Pk.ret2t Tryz.results137 rfl rfl g1 rfl ⟨rfl, HB2.out.trans (g3 _ (Nat.le_refl _))⟩

set_option maxHeartbeats 1000000 in
theorem p_range (h : PackAt w b E) (f t : Int) : Calls Tryz.prog 140 #[.pointer (some ⟨b, 0, none⟩), .int .i64 f, .int .i64 t] w fun e w' => ∃ r, e = .returned r ∧ Row w' w.heap.size r (subE E f t) ∧ Below w.heap.size w w' := by
  have HE := Lib.hid (p_entries h)
  have hF : max f 0 = (f0 f : Int) := by unfold f0; omega
  clear h
  by_cases hlt : f0 f < t0 t E.length
  · have hT : min t (E.length : Int) = (t0 t E.length : Int) := by unfold t0 f0 at *; omega
    have hTl : t0 t E.length ≤ E.length := by unfold t0; omega
    unfold subE
    generalize f0 f = F at *
    generalize t0 t E.length = T at *
    have h1 : (0 : Int) ≤ F := by omega
    have h2 : (F : Int) ≤ T := by omega
    have h4 : ¬ (F : Int) ≥ T := by omega
    have h5 : (F : Int) < T := by omega
    go_enter Tryz.func140, Tryz.ntmps140
    go_wp2_with fail
    refine HE.out.mono ?_
    rintro e w1 ⟨r, rfl, ho, hb⟩
    have ho2 := ho.2
    rcases ho2 with ⟨rfl, h0⟩ | ⟨g, cap, cur, rfl, q1, q2, q3⟩
    · omega
    · have h3 : (T : Int) ≤ cap := by have := q3.1; omega
      have h6 : ¬ cap = F := by have := q3.1; omega
      have HR := Lib.hid (row_part ho F (T - F) (by omega) (by omega))
      clear q1 q2 q3 ho
      go_wp2_with fail
      all_goals (
        go_ret
        exact ⟨_, rfl, by simpa using HR.out _, hb⟩)
  · have h0 : subE E f t = [] := List.eq_nil_of_length_eq_zero (by rw [subE_len]; omega)
    rw [h0]
    have h6 : min t (E.length : Int) ≤ (f0 f : Int) := by unfold t0 f0 at *; omega
    generalize f0 f = F at *
    clear hlt h0
    go_enter Tryz.func140, Tryz.ntmps140
    go_wp2_with fail
    refine HE.out.mono ?_
    rintro e w1 ⟨r, rfl, ho, hb⟩
    obtain ⟨a, c, rfl, _⟩ := own_slice ho
    go_wp2_with fail
    all_goals (
      go_ret
      exact ⟨_, rfl, Row.nil _ _, hb⟩)
theorem p_bytes (h : PackAt w b E) : Calls Tryz.prog 141 #[.pointer (some ⟨b, 0, none⟩)] w fun e w' => e = .returned (.int .i64 (Pk.packB E).size) ∧ w' = w := by
  obtain ⟨c0, _⟩ := facts1 h.blk
  clear h
  go_enter Tryz.func141, Tryz.ntmps141
  go_wp2
  go_ret
  exact ⟨rfl, rfl⟩
theorem where_wh (E : List En) (m : ByteArray) : Pk.whereS E m = (match whE E m with | none => -1 | some i => (i : Int)) := rfl
theorem p_rank (h : PackAt w b E) (m : ByteArray) : Calls Tryz.prog 143 #[.pointer (some ⟨b, 0, none⟩), .string m] w fun e w' =>
    e = .returned (.tuple #[.int .i64 ((whE E m).getD 0), .bool (whE E m).isSome]) ∧ Below w.heap.size w w' := by
  have HE := Lib.hid (Pk.find_any (Pk.packB E) m (valid_size h.ok) w)
  rw [Pk.ents_packB h.ok, where_wh] at HE
  obtain ⟨c0, _⟩ := facts1 h.blk
  clear h
  generalize whE E m = q at *
  cases q with
  | none =>
    go_enter Tryz.func143, Tryz.ntmps143
    go_wp2_with (go_at_call 148; refine HE.out.mono ?_; rintro e w1 ⟨rfl, hb⟩)
    go_ret2
    exact ⟨rfl, hb⟩
  | some i =>
    have h1 : (0 : Int) ≤ i := by omega
    have h2 : max (i : Int) 0 = i := by omega
    have h3 : (i : Int) ≥ 0 := by omega
    go_enter Tryz.func143, Tryz.ntmps143
    go_wp2_with (go_at_call 148; refine HE.out.mono ?_; rintro e w1 ⟨rfl, hb⟩)
    go_ret2
    exact ⟨by simp, hb⟩
theorem p_score (h : PackAt w b E) (m : ByteArray) : Calls Tryz.prog 145 #[.pointer (some ⟨b, 0, none⟩), .string m] w fun e w' =>
    e = .returned (.tuple #[.int .i64 (Pk.getS (Pk.packB E) (Pk.whereS E m)).1.2, .bool ((Pk.getS (Pk.packB E) (Pk.whereS E m)).2 == 0)]) ∧ Below w.heap.size w w' := by
  have HE := Lib.hid (Pk.find_any (Pk.packB E) m (valid_size h.ok) w)
  rw [Pk.ents_packB h.ok] at HE
  have HA := fun W (hb : Below w.heap.size w W) => Lib.hid (p_at (h.later hb) (Pk.whereS E m))
  obtain ⟨c0, _⟩ := facts1 h.blk
  clear h
  generalize Pk.getS (Pk.packB E) (Pk.whereS E m) = g at *
  generalize Pk.whereS E m = q at *
  go_enter Tryz.func145, Tryz.ntmps145
  go_wp2_with fail
  refine HE.out.mono ?_
  rintro e w1 ⟨rfl, hb⟩
  have HA1 := HA w1 hb
  have HB := Lib.hid hb
  clear HA HE hb
  go_wp2_with fail
  refine HA1.out.mono ?_
  rintro e w2 ⟨rfl, hb2⟩
  have HB2 := Lib.hid (HB.out.trans (hb2.mono HB.out.size))
  have kN := Blk.new w2 48 #[.string g.1.1, .int .i64 g.1.2]
  obtain ⟨e0, e1, _, _⟩ := facts2 kN
  clear hb2 HB kN
  go_wp2_with fail
  go_ret2
  exact ⟨rfl, HB2.out.trans ((alloc_below w2 _).mono HB2.out.size)⟩
end
end Go.Proofs.YtpaphfofjfjdlaaGreat
/- How many entries, from the first one on, are what a search asks for: of a pack. -/
namespace Go.Proofs.YtpaphfofjfjdlaaGreat
open Go.RowKit Go.Shelf Sk
attribute [local go_sem] Oper.semAt_some

theorem drewB (W : World) (n : Nat) : Below W.heap.size W (W.drewN n) := ⟨rfl, rfl, rfl, Nat.le_refl _, fun _ _ => rfl⟩
set_option maxHeartbeats 2000000 in
theorem search_any (c0 c1 : Value) (n k : Nat) (hk : k ≤ n) (hn : n ≤ 1000000) (w : World)
    (H : ∀ W, Below w.heap.size w W → ∀ i : Nat, i < n → Calls Tryz.prog 54 #[.int .i64 i, c0, c1] W fun e w' => e = .returned (.bool (decide (k ≤ i))) ∧ Below W.heap.size W w') :
    Calls Tryz.prog 53 #[.int .i64 n, .func (.func 54) #[] #[c0, c1]] w fun e w' => e = .returned (.int .i64 k) ∧ Below w.heap.size w w' := by
  have HF := Lib.hid H
  clear H
  go_enter Tryz.func53, Tryz.ntmps53
  go_wp2
  go_loopg [5, 6] n (fun kx s5 s6 wr => ∃ (lo hi : Nat), s5 = .int .i64 lo ∧ s6 = .int .i64 hi ∧ lo ≤ k ∧ k ≤ hi ∧ hi ≤ n ∧ hi - lo ≤ kx ∧ Hid (Below w.heap.size w wr))
  case atStart => exact ⟨0, n, rfl, rfl, Nat.zero_le _, hk, Nat.le_refl _, by omega, Below.refl _ _⟩
  case round =>
    obtain ⟨lo, hi, rfl, rfl, hlk, hkh, hin, hg, I⟩ := hrel
    by_cases hlt : lo < hi
    · have hc := HF.out _ I.out ((lo + hi) / 2) (by omega)
      rw [show (((lo + hi) / 2 : Nat) : Int) = ((lo : Int) + (hi : Int)) / 2 by omega] at hc
      by_cases hp : k ≤ (lo + hi) / 2
      · rw [decide_eq_true hp] at hc
        go_wp2_with (go_at_call 54; refine hc.mono ?_; rintro e w' ⟨rfl, hb⟩)
        go_roundg ((lo + hi) / 2 - lo)
        case measure => omega
        case rel => exact ⟨lo, (lo + hi) / 2, rfl, by rw [show ((lo : Int) + (hi : Int)) / 2 = (((lo + hi) / 2 : Nat) : Int) by omega], hlk, hp, by omega, Nat.le_refl _, I.out.trans (hb.mono I.out.size)⟩
      · rw [decide_eq_false hp] at hc
        go_wp2_with (go_at_call 54; refine hc.mono ?_; rintro e w' ⟨rfl, hb⟩)
        go_roundg (hi - ((lo + hi) / 2 + 1))
        case measure => omega
        case rel => exact ⟨(lo + hi) / 2 + 1, hi, by rw [show ((lo : Int) + (hi : Int)) / 2 + 1 = (((lo + hi) / 2 + 1 : Nat) : Int) by omega], rfl, by omega, hkh, hin, Nat.le_refl _, I.out.trans (hb.mono I.out.size)⟩
    · obtain rfl : lo = k := by omega
      go_wp2
      go_ret
      exact ⟨rfl, I.out⟩

/-- What a search asks. -/
structure Ask (w : World) (A : Nat) (cb : Array Value) (E : List En) (k : Nat) : Prop where
  enter : ∀ args w, (callFunc A args).run Tryz.prog w = .ok (.enter A args) w
  le : k ≤ E.length
  call : ∀ W, Below w.heap.size w W → ∀ (i : Nat) (x : En), E[i]? = some x → Calls Tryz.prog A (#[.agg #[.string x.1, .int .i64 x.2]] ++ cb) W fun e w' => e = .returned (.bool (decide (i < k))) ∧ Below W.heap.size W w'
theorem Ask.later {w w' : World} {A : Nat} {cb : Array Value} {E : List En} {k : Nat} (h : Ask w A cb E k) (hb : Below w.heap.size w w') : Ask w' A cb E k := ⟨h.enter, h.le, fun W hW => h.call W (hb.trans (hW.mono hb.size))⟩

theorem not_le (i k : Nat) : (!decide (i < k)) = decide (k ≤ i) := by
  by_cases h : i < k
  · rw [decide_eq_true h, decide_eq_false (by omega)]; rfl
  · rw [decide_eq_false h, decide_eq_true (by omega)]; rfl
variable {w : World} {b : Nat} {E : List En}
theorem p_ask (h : PackAt w b E) {A : Nat} {cb : Array Value} {k : Nat} (ha : Ask w A cb E k) {q0 q1 : Nat} (k0 : Blk w q0 77 #[.iface 73 (.pointer (some ⟨b, 0, none⟩))]) (k1 : Blk w q1 85 #[.func (.func A) #[] cb]) (i : Nat) (hi : i < E.length) :
    Calls Tryz.prog 54 #[.int .i64 i, .pointer (some ⟨q0, 0, none⟩), .pointer (some ⟨q1, 0, none⟩)] w fun e w' => e = .returned (.bool (decide (k ≤ i))) ∧ Below w.heap.size w w' := by
  rw [← not_le]
  have HA := Lib.hid (p_at h i)
  rw [at_valid h.ok] at HA
  have hx : E[i]? = some E[i] := List.getElem?_eq_getElem hi
  have h1 : ¬ ((i : Int) < 0 ∨ (E.length : Int) ≤ i) := by omega
  rw [if_neg h1, Int.toNat_natCast, List.getD_eq_getElem?_getD, hx] at HA
  simp only [Option.getD_some] at HA
  generalize E[i] = x at *
  have HC := Lib.hid ha.call
  have eg := ha.enter
  have HX := Lib.hid hx
  have K1 := Lib.hid k1
  obtain ⟨e0, _⟩ := facts1 k0
  clear h ha hx h1 k0 k1
  go_enter Tryz.func54, Tryz.ntmps54
  go_wp2_with fail
  refine HA.out.mono ?_
  rintro e w1 ⟨rfl, hb⟩
  have kN := Blk.new w1 48 #[.string x.1, .int .i64 x.2]
  have hb2 := hb.trans ((alloc_below w1 (Obj.cells #[.string x.1, .int .i64 x.2] 48)).mono hb.size)
  have HQ := Lib.hid (HC.out _ hb2 i x HX.out)
  obtain ⟨e1, _⟩ := facts1 (K1.out.later hb2)
  obtain ⟨e2, e3, _, _⟩ := facts2 kN
  have HB2 := Lib.hid hb2
  clear hb hb2 HC HX K1 kN HA
  go_wp2_with (go_at_fn A; refine HQ.out.mono ?_; rintro e w2 ⟨rfl, hb3⟩)
  go_ret
  exact ⟨rfl, HB2.out.trans (hb3.mono HB2.out.size)⟩
theorem p_lead (h : PackAt w b E) {A : Nat} {cb : Array Value} {k : Nat} (ha : Ask w A cb E k) :
    Calls Tryz.prog 41 #[.iface 73 (.pointer (some ⟨b, 0, none⟩)), .func (.func A) #[] cb] w fun e w' => e = .returned (.int .i64 k) ∧ Below w.heap.size w w' := by
  obtain ⟨w1, hw1⟩ : ∃ w1, w1 = (w.alloc (.cells #[.iface 73 (.pointer (some ⟨b, 0, none⟩))] 77)).alloc (.cells #[.func (.func A) #[] cb] 85) := ⟨_, rfl⟩
  have hb1 : Below w.heap.size w w1 := by rw [hw1]; exact (alloc_below _ _).trans ((alloc_below _ _).mono (by simp))
  have k0 : Blk w1 w.heap.size 77 #[.iface 73 (.pointer (some ⟨b, 0, none⟩))] := by rw [hw1]; exact (Blk.new _ _ _).alloc _
  have k1 : Blk w1 (w.heap.size + 1) 85 #[.func (.func A) #[] cb] := by
    rw [hw1]
    have := Blk.new (w.alloc (.cells #[.iface 73 (.pointer (some ⟨b, 0, none⟩))] 77)) 85 #[.func (.func A) #[] cb]
    simpa using this
  have HL := Lib.hid (p_len (h.later hb1))
  have hmany := h.ok.many
  have HS := fun W (hb : Below w1.heap.size w1 W) => Lib.hid (search_any (.pointer (some ⟨w.heap.size, 0, none⟩)) (.pointer (some ⟨w.heap.size + 1, 0, none⟩)) E.length k ha.le (by omega) W
    (fun W' hb' i hi => p_ask ((h.later hb1).later (hb.trans (hb'.mono hb.size))) ((ha.later hb1).later (hb.trans (hb'.mono hb.size))) (k0.later (hb.trans (hb'.mono hb.size))) (k1.later (hb.trans (hb'.mono hb.size))) i hi))
  obtain ⟨e0, _⟩ := facts1 k0
  have HB1 := Lib.hid hb1
  have HW := Lib.hid hw1
  clear h ha k0 k1 hb1 hmany
  rw [hw1] at HL e0
  clear hw1
  go_enter Tryz.func41, Tryz.ntmps41
  go_wp2_with fail
  refine HL.out.mono ?_
  rintro e w2 ⟨rfl, hb2⟩
  rw [← HW.out] at hb2
  have HS2 := HS w2 hb2
  have HB2 := Lib.hid (HB1.out.trans (hb2.mono HB1.out.size))
  clear hb2 HS HL
  go_wp2_with (go_at_call 53; refine HS2.out.mono ?_; rintro e w3 ⟨rfl, hb3⟩)
  go_ret
  exact ⟨rfl, HB2.out.trans (hb3.mono HB2.out.size)⟩
end Go.Proofs.YtpaphfofjfjdlaaGreat
