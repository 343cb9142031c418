/- Texts of one kind in one: Ls, RefLess, Shown. -/
import Derived.Test.YtidiaomeahoapaaQ06
/- A list, as what it holds. -/
namespace Go.Proofs.Ytidiaomeahoapaa
open Go.RowKit Go.Shelf
attribute [local go_sem] Oper.semAt_some

theorem less_irr (a : ByteArray) (s : Int) : lessE a s a s = false := by
  simp only [lessE, decide_eq_false_iff_not]
  rintro (h | ⟨_, h⟩)
  · omega
  · exact List.lt_irrefl _ h
theorem less_tr {a b c : ByteArray} {s t u : Int} (h : lessE a s b t = true) (g : lessE b t c u = true) : lessE a s c u = true := by
  simp only [lessE, decide_eq_true_eq] at *
  rcases h with h | ⟨h, h'⟩ <;> rcases g with g | ⟨g, g'⟩
  · exact .inl (by omega)
  · exact .inl (by omega)
  · exact .inl (by omega)
  · exact .inr ⟨by omega, List.lt_trans h' g'⟩
theorem less_or (a b : ByteArray) (s t : Int) (h : lessE a s b t = false) (hn : ¬ (a = b ∧ s = t)) : lessE b t a s = true := by
  simp only [lessE, decide_eq_false_iff_not, decide_eq_true_eq] at *
  by_cases e : s = t
  · right
    refine ⟨e.symm, ?_⟩
    have h1 : ¬ a.data.toList < b.data.toList := fun h2 => h (.inr ⟨e, h2⟩)
    have h2 : a.data.toList ≠ b.data.toList := fun h2 => hn ⟨by cases a; cases b; simp at h2; rw [h2], e⟩
    rcases Std.le_total (a := a.data.toList) (b := b.data.toList) with h3 | h3
    · exact absurd (Std.lt_of_le_of_ne h3 h2) h1
    · exact Std.lt_of_le_of_ne h3 (Ne.symm h2)
  · left
    have : ¬ s < t := fun h2 => h (.inl h2)
    omega

/-- In their order. -/
def Srt (L : List Nd) : Prop := L.Pairwise fun x y => lessE x.m x.s y.m y.s = true
/-- How many stand ahead. -/
def pos (L : List Nd) (m : ByteArray) (s : Int) : Nat := (L.takeWhile fun x => lessE x.m x.s m s).length
theorem pos_le (L : List Nd) (m : ByteArray) (s : Int) : pos L m s ≤ L.length := by
  unfold pos; exact (List.takeWhile_sublist _).length_le
theorem pos_spec {L : List Nd} (hs : Srt L) (m : ByteArray) (s : Int) : ∀ (i : Nat) (x : Nd), L[i]? = some x → lessE x.m x.s m s = decide (i < pos L m s) := by
  induction L with
  | nil => intro i x h; simp at h
  | cons y L ih =>
    intro i x h
    have hs' : Srt L := (List.pairwise_cons.1 hs).2
    by_cases hy : lessE y.m y.s m s = true
    · have hp : pos (y :: L) m s = pos L m s + 1 := by simp [pos, hy]
      rw [hp]
      cases i with
      | zero => simp at h; subst h; simpa using hy
      | succ i =>
        rw [ih hs' i x (by simpa using h)]
        simp
    · have hp : pos (y :: L) m s = 0 := by simp [pos, hy]
      rw [hp]
      have hy' : lessE y.m y.s m s = false := by simpa using hy
      cases i with
      | zero => simp at h; subst h; simpa using hy'
      | succ i =>
        have hx : x ∈ L := List.mem_of_getElem? (by simpa using h : L[i]? = some x)
        have := (List.pairwise_cons.1 hs).1 x hx
        cases hxe : lessE x.m x.s m s with
        | false => simp
        | true => exact absurd (less_tr this hxe) hy
theorem hq_of {L : List Nd} (hs : Srt L) (p : Nat) (m : ByteArray) (s : Int) : ∀ q x, 0 < q → (hd p :: L)[q]? = some x → lessE x.m x.s m s = decide (q ≤ pos L m s) := by
  intro q x h0 hx
  obtain ⟨i, rfl⟩ : ∃ i, q = i + 1 := ⟨q - 1, by omega⟩
  rw [pos_spec hs m s i x (by simpa using hx), decide_eq_decide]
  omega
/-- Is an entry there? -/
def has (L : List Nd) (m : ByteArray) (s : Int) : Bool := match L[pos L m s]? with
  | some x => decide (x.m = m ∧ x.s = s)
  | none => false
theorem has_at (p : Nat) (L : List Nd) (m : ByteArray) (s : Int) : entAt (hd p :: L) (pos L m s + 1) m s = has L m s := by
  unfold entAt has
  rw [List.getElem?_cons_succ]
  rfl
theorem srt_put {L : List Nd} (hs : Srt L) (x : Nd) (hn : has L x.m x.s = false) : Srt (L.take (pos L x.m x.s) ++ x :: L.drop (pos L x.m x.s)) := by
  have hsp := pos_spec hs x.m x.s
  refine List.pairwise_append.2 ⟨hs.sublist (List.take_sublist _ _), List.pairwise_cons.2 ⟨fun y hy => ?_, hs.sublist (List.drop_sublist _ _)⟩, fun y hy z hz => ?_⟩
  · obtain ⟨i, hi⟩ := List.mem_iff_getElem?.1 hy
    rw [List.getElem?_drop] at hi
    have h1 := hsp _ y hi
    rw [show decide (pos L x.m x.s + i < pos L x.m x.s) = false by simp] at h1
    refine less_or _ _ _ _ h1 (fun e => ?_)
    cases i with
    | zero =>
      unfold has at hn
      rw [Nat.add_zero] at hi
      rw [hi] at hn
      simp [e] at hn
    | succ i =>
      have hl := (List.getElem?_eq_some_iff.1 hi).1
      have h2 : L[pos L x.m x.s]? = some L[pos L x.m x.s] := List.getElem?_eq_getElem (by omega)
      have h3 := hsp _ _ h2
      rw [show decide (pos L x.m x.s < pos L x.m x.s) = false by simp] at h3
      have h4 := List.pairwise_iff_getElem.1 hs (pos L x.m x.s) (pos L x.m x.s + (i + 1)) (by omega) hl (by omega)
      rw [(List.getElem?_eq_some_iff.1 hi).2, e.1, e.2] at h4
      rw [h4] at h3
      cases h3
  · have hy1 : lessE y.m y.s x.m x.s = true := by
      obtain ⟨i, hi⟩ := List.mem_iff_getElem?.1 hy
      have hil := (List.getElem?_eq_some_iff.1 hi).1
      rw [List.length_take] at hil
      rw [List.getElem?_take_of_lt (by omega)] at hi
      rw [hsp i y hi]
      simp; omega
    rcases List.mem_cons.1 hz with rfl | hz
    · exact hy1
    · obtain ⟨i, hi⟩ := List.mem_iff_getElem?.1 hy
      obtain ⟨j, hj⟩ := List.mem_iff_getElem?.1 hz
      have hil := (List.getElem?_eq_some_iff.1 hi).1
      rw [List.length_take] at hil
      rw [List.getElem?_take_of_lt (by omega)] at hi
      rw [List.getElem?_drop] at hj
      obtain ⟨hi1, hi2⟩ := List.getElem?_eq_some_iff.1 hi
      obtain ⟨hj1, hj2⟩ := List.getElem?_eq_some_iff.1 hj
      have := List.pairwise_iff_getElem.1 hs i _ hi1 hj1 (by omega)
      rw [hi2, hj2] at this
      exact this
theorem srt_cut {L : List Nd} (hs : Srt L) {a b : Nat} (h : a ≤ b) : Srt (L.take a ++ L.drop b) := by
  refine hs.sublist ?_
  have h1 : (L.take a ++ L.drop b).Sublist (L.take a ++ L.drop a) := (List.Sublist.refl _).append (by
    rw [show b = a + (b - a) by omega, ← List.drop_drop]
    exact List.drop_sublist _ _)
  rwa [List.take_append_drop] at h1

/-- A list in memory. -/
structure Ls (W : World) (p : Nat) (L : List Nd) : Prop where
  sk : Sk W (hd p :: L) (lk0 (hd p :: L)) (ah0 (hd p :: L)) L.length
  srt : Srt L
variable {w : World} {p : Nat} {L : List Nd}
theorem Ls.far {w' : World} {S : Nat → Prop} (h : Ls w p L) (hf : Far S w w') (hS : ∀ k, isB (hd p :: L) k → ¬ S k) : Ls w' p L := ⟨h.sk.far hf hS, h.srt⟩
theorem Ls.later {w' : World} (h : Ls w p L) (hb : Below w.heap.size w w') : Ls w' p L := ⟨h.sk.later hb, h.srt⟩
theorem ins_eq (p : Nat) (L : List Nd) (a : Nat) (x : Nd) : insF (hd p :: L) a x = hd p :: (L.take a ++ x :: L.drop a) := by unfold insF; rw [List.take_succ_cons, List.drop_succ_cons]; rfl
theorem rem_eq (p : Nat) (L : List Nd) (a b : Nat) : remF (hd p :: L) a b = hd p :: (L.take a ++ L.drop b) := by unfold remF; rw [List.take_succ_cons, List.drop_succ_cons]; rfl

theorem seek_ls (h : Ls w p L) (hN : L.length ≤ 100000) (m : ByteArray) (s : Int) : Calls Try.prog 25 #[.pointer (some ⟨p, 0, none⟩), .agg #[.string m, .int .i64 s]] w fun e w' => e = .returned (.tuple #[.int .i64 (pos L m s), .bool (has L m s)]) ∧ Below w.heap.size w w' := by
  have := seek_any p L rfl h.sk (by simp; omega) m s (pos L m s) (by have := pos_le L m s; simp; omega) (hq_of h.srt p m s)
  rwa [has_at] at this

/-- What Insert does. -/
def putL (L : List Nd) (x : Nd) : List Nd := L.take (pos L x.m x.s) ++ x :: L.drop (pos L x.m x.s)
theorem insert_ls (h : Ls w p L) (hN : L.length ≤ 100000) (m : ByteArray) (hm : m.size ≤ 281474976710656) (s : Int) (l : Nat) (hl : 0 < l ∧ l ≤ 32) :
    Calls Try.prog 27 #[.pointer (some ⟨p, 0, none⟩), .agg #[.string m, .int .i64 s], .int .i64 l] w fun e w' =>
      (has L m s = true → e = .returned (.int .i64 90) ∧ Below w.heap.size w w') ∧
      (has L m s = false → e = .returned (.int .i64 0) ∧ ∃ nb, w.heap.size ≤ nb ∧ Far (isB (hd p :: L)) w w' ∧ Ls w' p (putL L ⟨nb, m, s, l⟩)) := by
  have := insert_any p L rfl w h.sk (by simp; omega) rfl (pos L m s) (by have := pos_le L m s; simp; omega) m hm s l hl (hq_of h.srt p m s)
  rw [has_at] at this
  refine this.mono ?_
  rintro e w' ⟨h1, h2⟩
  refine ⟨h1, fun hh => ?_⟩
  obtain ⟨he, nb, hn, hf, hsk⟩ := h2 hh
  refine ⟨he, nb, hn, hf, ?_, srt_put h.srt ⟨nb, m, s, l⟩ hh⟩
  rw [ins_eq] at hsk
  have hlen : ((L.take (pos L m s) ++ (⟨nb, m, s, l⟩ : Nd) :: L.drop (pos L m s)).length : Int) = (L.length : Int) + 1 := by
    have := pos_le L m s
    simp; omega
  unfold putL
  rw [← hlen] at hsk
  exact hsk
theorem cut_ls (h : Ls w p L) (hN : L.length ≤ 100000) (f t : Int) (a b : Nat) (ha : (a : Int) = max f 0) (hb : (b : Int) = min t L.length) (hab : a < b) :
    Calls Try.prog 29 #[.pointer (some ⟨p, 0, none⟩), .int .i64 f, .int .i64 t] w fun e w' => e = .returned (.int .i64 ((b : Int) - a)) ∧ Far (isB (hd p :: L)) w w' ∧ Ls w' p (L.take a ++ L.drop b) := by
  refine (cut_any p L rfl w h.sk (by simp; omega) rfl f t a b ha hb hab).mono ?_
  rintro e w' ⟨he, hf, hsk⟩
  refine ⟨he, hf, ?_, srt_cut h.srt (by omega)⟩
  rw [rem_eq] at hsk
  have hlen : ((L.take a ++ L.drop b).length : Int) = (L.length : Int) - ((b : Int) - a) := by simp; omega
  rw [← hlen] at hsk
  exact hsk
theorem delete_ls (h : Ls w p L) (hN : L.length ≤ 100000) (m : ByteArray) (s : Int) : Calls Try.prog 28 #[.pointer (some ⟨p, 0, none⟩), .agg #[.string m, .int .i64 s]] w fun e w' =>
      (has L m s = false → e = .returned (.bool false) ∧ Below w.heap.size w w') ∧
      (has L m s = true → e = .returned (.bool true) ∧ Far (isB (hd p :: L)) w w' ∧ Ls w' p (L.take (pos L m s) ++ L.drop (pos L m s + 1))) := by
  have := delete_any p L rfl w h.sk (by simp; omega) rfl (pos L m s) (by have := pos_le L m s; simp; omega) m s (hq_of h.srt p m s)
  rw [has_at] at this
  refine this.mono ?_
  rintro e w' ⟨h1, h2⟩
  refine ⟨h1, fun hh => ?_⟩
  obtain ⟨he, hf, hsk⟩ := h2 hh
  refine ⟨he, hf, ?_, srt_cut h.srt (by omega)⟩
  rw [rem_eq] at hsk
  have hlt : pos L m s < L.length := by
    unfold has at hh
    split at hh
    · rename_i x hx; exact (List.getElem?_eq_some_iff.1 hx).1
    · cases hh
  have hlen : ((L.take (pos L m s) ++ L.drop (pos L m s + 1)).length : Int) = (L.length : Int) - 1 := by simp; omega
  rw [← hlen] at hsk
  exact hsk

/-- New. -/
def z63 : Array Value := z61 ++ #[.int .i64 0]
theorem info63 : (Try.prog.info? 63).map (fun i => (i.zero, i.size)) = some (some (.agg z63), 68) := by kernel_rfl
theorem zero63 (w : World) : (zeroValue 63).run Try.prog w = .ok (.agg z63) w := (zero_of_info info63).1 w
theorem z63_facts : z63.size = 68 ∧ z63[0]? = some (.string ⟨#[]⟩) ∧ z63[1]? = some (.int .i64 0) ∧ z63[2]? = some (.pointer none) ∧ z63[67]? = some (.int .i64 0) := ⟨by decide +kernel, rfl, rfl, rfl, rfl⟩
theorem z63_link : ∀ k : Fin 32, z63[3 + k.val * 2]? = some (.pointer none) ∧ z63[3 + k.val * 2 + 1]? = some (.int .i64 0) := by
  intro k
  match k with
  | ⟨k, hk⟩ =>
    have : k = 0 ∨ k = 1 ∨ k = 2 ∨ k = 3 ∨ k = 4 ∨ k = 5 ∨ k = 6 ∨ k = 7 ∨ k = 8 ∨ k = 9 ∨ k = 10 ∨ k = 11 ∨ k = 12 ∨ k = 13 ∨ k = 14 ∨ k = 15 ∨ k = 16 ∨ k = 17 ∨ k = 18 ∨ k = 19 ∨ k = 20 ∨ k = 21 ∨ k = 22 ∨ k = 23 ∨ k = 24 ∨ k = 25 ∨ k = 26 ∨ k = 27 ∨ k = 28 ∨ k = 29 ∨ k = 30 ∨ k = 31 := by omega
    rcases this with rfl | rfl | rfl | rfl | rfl | rfl | rfl | rfl | rfl | rfl | rfl | rfl | rfl | rfl | rfl | rfl | rfl | rfl | rfl | rfl | rfl | rfl | rfl | rfl | rfl | rfl | rfl | rfl | rfl | rfl | rfl | rfl <;> exact ⟨rfl, rfl⟩
set_option maxRecDepth 100000 in
theorem new_any (w : World) : Calls Try.prog 11 #[] w fun e w' => e = .returned (.pointer (some ⟨w.heap.size, 0, none⟩)) ∧ Below w.heap.size w w' ∧ Ls w' w.heap.size [] := by
  have hz := zero63
  obtain ⟨f0, f1, f2, f3, f4⟩ := z63_facts
  have hl := z63_link
  generalize z63 = zz at *
  have HL := Lib.hid hl
  have HF := Lib.hid (And.intro f1 (And.intro f2 (And.intro f3 f4)))
  clear hl f1 f2 f3 f4
  go_enter Try.func11, Try.ntmps11
  go_wp2_with fail
  go_returns
  obtain ⟨f1, f2, f3, f4⟩ := HF.out
  refine ⟨rfl, (Below.refl _ _).alloc (Nat.le_refl _) _, ⟨fun q x hx => ?_, fun q q' x x' hx hx' _ => ?_, fun q x hx => ?_⟩, List.Pairwise.nil⟩
  · cases q with
    | succ q => simp at hx
    | zero =>
      simp at hx
      subst hx
      refine ⟨zz, Blk.new _ _ _, by rw [f0]; rfl, f1, f2, f3, fun k hk => ?_, fun _ => f4⟩
      have hn : nxt [hd w.heap.size] k 0 = 1 := nxt_unique (by simp) (by omega) (by simp) (fun i h1 h2 => by omega) (fun h => by simp at h)
      unfold lk0
      rw [hn]
      have := HL.out ⟨k, hk⟩
      exact this
  · cases q <;> cases q' <;> simp at hx hx' <;> rfl
  · cases q with
    | succ q => simp at hx
    | zero => simp at hx; subst hx; exact ⟨(by decide : 0 < 32), Nat.le_refl 32⟩
end Go.Proofs.Ytidiaomeahoapaa
/- The reference's order. -/
namespace Go.Proofs.Ytidiaomeahoapaa
open Go.RowKit Go.Shelf
attribute [local go_sem] Oper.semAt_some

theorem lt_step {x y : List UInt8} {i : Nat} (hx : i < x.length) (hy : i < y.length) : (x.drop i < y.drop i) ↔ (x[i] < y[i] ∨ x[i] = y[i] ∧ x.drop (i + 1) < y.drop (i + 1)) := by
  rw [List.drop_eq_getElem_cons hx, List.drop_eq_getElem_cons hy, List.cons_lt_cons_iff]
theorem lt_end {x y : List UInt8} {i : Nat} (hx : i ≤ x.length) (hy : i ≤ y.length) (h : i = x.length ∨ i = y.length) : (x.drop i < y.drop i) ↔ x.length < y.length := by
  rcases h with rfl | rfl
  · rw [List.drop_length]
    cases hd : y.drop x.length with
    | nil =>
      have := List.drop_eq_nil_iff.1 hd
      simp; omega
    | cons u v =>
      have : x.length < y.length := by
        have h1 : (y.drop x.length).length = v.length + 1 := by rw [hd]; rfl
        rw [List.length_drop] at h1
        omega
      simp [this]
  · rw [List.drop_length]
    simp; omega

set_option maxRecDepth 100000 in
theorem refText_any (a b : ByteArray) (ha : a.size ≤ 281474976710656) (hb : b.size ≤ 281474976710656) (w : World) : Calls Try.prog 56 #[.string a, .string b] w fun e w' => e = .returned (.bool (decide (a.data.toList < b.data.toList))) ∧ Below w.heap.size w w' := by
  obtain ⟨bv, hbv⟩ : ∃ bv, bv = decide (a.data.toList < b.data.toList) := ⟨_, rfl⟩
  have HBV := Lib.hid hbv
  rw [← hbv]
  clear hbv
  go_enter Try.func56, Try.ntmps56
  go_wp2
  go_loopw [5] (fun i wr => ∃ j : Nat, i = .int .i64 j ∧ j ≤ a.size ∧ j ≤ b.size ∧ Hid ((a.data.toList.drop j < b.data.toList.drop j) ↔ (a.data.toList < b.data.toList)) ∧ Below w.heap.size w wr) (fun i _ => a.size - (intOf i).toNat)
  case atStart => exact ⟨0, rfl, by omega, by omega, Lib.hid (by rw [List.drop_zero, List.drop_zero]), Below.refl _ _⟩
  case round =>
    obtain ⟨j, rfl, hja, hjb, HI, hbel⟩ := hrel
    have HW := Lib.hid hbel
    clear hbel
    by_cases hlt : j < a.size ∧ j < b.size
    · obtain ⟨h1, h2⟩ := hlt
      have hst := lt_step (x := a.data.toList) (y := b.data.toList) (i := j) (by simpa using h1) (by simpa using h2)
      have HST := Lib.hid hst
      clear hst
      by_cases he : a[j] = b[j]
      · have he2 : ((a[j].toNat : Int) == (b[j].toNat : Int)) = true := by rw [he]; simp
        have HE := Lib.hid he
        clear he
        go_wp2
        go_quiet (fail)
        go_wp2
        refine ⟨⟨j + 1, by go_num, by omega, by omega, Lib.hid ?_, HW.out.trans ⟨rfl, rfl, rfl, Nat.le_refl _, fun _ _ => rfl⟩⟩, by simp [intOf]; omega⟩
        rw [← HI.out, HST.out]
        have h1 : a.data.toList[j]'(by simpa using h1) = b.data.toList[j]'(by simpa using h2) := HE.out
        simp [h1]
      · have he2 : ((a[j].toNat : Int) == (b[j].toNat : Int)) = false := by
          rw [beq_eq_false_iff_ne]
          intro e
          exact he (UInt8.toNat_inj.1 (by omega))
        have HE := Lib.hid he
        clear he
        go_wp2
        go_quiet (fail)
        go_wp2
        go_quiet (fail)
        go_wp2
        go_returns
        refine ⟨?_, HW.out.trans ⟨rfl, rfl, rfl, Nat.le_refl _, fun _ _ => rfl⟩⟩
        have hv : decide (a[j].toNat < b[j].toNat) = bv := by
          rw [HBV.out, decide_eq_decide, ← HI.out, HST.out]
          have hne : ¬ a.data.toList[j]'(by simpa using h1) = b.data.toList[j]'(by simpa using h2) := HE.out
          simp only [hne, false_and, or_false]
          exact UInt8.lt_iff_toNat_lt.symm
        rw [← hv]
        rfl
    · have hex : (a.size : Int) ≤ j ∨ ((j : Int) < a.size ∧ (b.size : Int) ≤ j) := by omega
      have HX := Lib.hid (show decide (a.size < b.size) = bv by
        have h := lt_end (x := a.data.toList) (y := b.data.toList) (i := j) (by simpa using hja) (by simpa using hjb) (by simp; omega)
        rw [HBV.out, decide_eq_decide, ← HI.out, h]
        simp)
      clear hlt
      rcases hex with hex | ⟨hex, hex2⟩
      all_goals (
        go_wp2
        go_returns
        refine ⟨?_, HW.out⟩
        rw [← HX.out]
        rfl)

set_option maxRecDepth 100000 in
theorem refLess_any (m m' : ByteArray) (hm : m.size ≤ 281474976710656) (hm' : m'.size ≤ 281474976710656) (s s' : Int) (w : World) : Calls Try.prog 45 #[.agg #[.string m, .int .i64 s], .agg #[.string m', .int .i64 s']] w fun e w' => e = .returned (.bool (lessE m s m' s')) ∧ Below w.heap.size w w' := by
  have hb : Below w.heap.size w ((w.alloc (.cells #[.string m, .int .i64 s] 32)).alloc (.cells #[.string m', .int .i64 s'] 32)) := ((Below.refl _ _).alloc (Nat.le_refl _) _).alloc (by simp) _
  have HB := Lib.hid hb
  clear hb
  have HL := fun w => refText_any m m' hm hm' w
  clear hm hm'
  have HL := fun w => Lib.hid (HL w)
  by_cases h1 : s < s'
  · go_enter Try.func45, Try.ntmps45
    go_wp2
    go_ret
    refine ⟨congrArg (fun b => Ending.returned (.bool b)) ?_, HB.out⟩
    simp [lessE, h1]
  · by_cases h : s = s'
    · have e1 : (s == s') = true := by simpa using h
      have H := Lib.hid h
      clear h
      go_enter Try.func45, Try.ntmps45
      go_wp2_with fail
      refine (HL _).out.mono ?_
      rintro e w5 ⟨rfl, hb5⟩
      have hb6 := Lib.hid (HB.out.trans (hb5.mono HB.out.size))
      clear hb5
      go_wp2_with fail
      go_ret
      refine ⟨congrArg (fun b => Ending.returned (.bool b)) ?_, hb6.out⟩
      have := H.out
      subst this
      simp [lessE]
    · have e1 : (s == s') = false := by simpa using h
      go_enter Try.func45, Try.ntmps45
      go_wp2
      go_ret
      refine ⟨congrArg (fun b => Ending.returned (.bool b)) ?_, HB.out⟩
      simp [lessE, h1, h]
end Go.Proofs.Ytidiaomeahoapaa
/- The example that every law asks. -/
namespace Go.Proofs.Ytidiaomeahoapaa
open Go.RowKit Go.Shelf
attribute [local go_sem] Oper.semAt_some

variable {w : World} {p : Nat} {L : List Nd}
theorem insert_new (h : Ls w p L) (hN : L.length ≤ 100000) (m : ByteArray) (hm : m.size ≤ 281474976710656) (s : Int) (l : Nat) (hl : 0 < l ∧ l ≤ 32) (hh : has L m s = false) :
    Calls Try.prog 27 #[.pointer (some ⟨p, 0, none⟩), .agg #[.string m, .int .i64 s], .int .i64 l] w fun e w' => e = .returned (.int .i64 0) ∧ ∃ nb, w.heap.size ≤ nb ∧ Far (isB (hd p :: L)) w w' ∧ Ls w' p (putL L ⟨nb, m, s, l⟩) :=
  (insert_ls h hN m hm s l hl).mono fun _ _ hp => hp.2 hh
theorem insert_old (h : Ls w p L) (hN : L.length ≤ 100000) (m : ByteArray) (hm : m.size ≤ 281474976710656) (s : Int) (l : Nat) (hl : 0 < l ∧ l ≤ 32) (hh : has L m s = true) :
    Calls Try.prog 27 #[.pointer (some ⟨p, 0, none⟩), .agg #[.string m, .int .i64 s], .int .i64 l] w fun e w' => e = .returned (.int .i64 90) ∧ Below w.heap.size w w' :=
  (insert_ls h hN m hm s l hl).mono fun _ _ hp => hp.1 hh

/-- All of a list's blocks lie at or beyond B. -/
def Beyond (B p : Nat) (L : List Nd) : Prop := ∀ k, isB (hd p :: L) k → B ≤ k
theorem Beyond.put {B p nb l : Nat} {L : List Nd} {m : ByteArray} {s : Int} (h : Beyond B p L) (hn : B ≤ nb) : Beyond B p (putL L ⟨nb, m, s, l⟩) := by
  rintro k ⟨x, hx, rfl⟩
  rcases List.mem_cons.1 hx with rfl | hx
  · exact h _ ⟨_, List.mem_cons_self .., rfl⟩
  · unfold putL at hx
    rcases List.mem_append.1 hx with hx | hx
    · exact h _ ⟨x, List.mem_cons_of_mem _ (List.mem_of_mem_take hx), rfl⟩
    · rcases List.mem_cons.1 hx with rfl | hx
      · exact hn
      · exact h _ ⟨x, List.mem_cons_of_mem _ (List.mem_of_mem_drop hx), rfl⟩
theorem Beyond.cut {B p a b : Nat} {L : List Nd} (h : Beyond B p L) : Beyond B p (L.take a ++ L.drop b) := by
  rintro k ⟨x, hx, rfl⟩
  rcases List.mem_cons.1 hx with rfl | hx
  · exact h _ ⟨_, List.mem_cons_self .., rfl⟩
  · rcases List.mem_append.1 hx with hx | hx
    · exact h _ ⟨x, List.mem_cons_of_mem _ (List.mem_of_mem_take hx), rfl⟩
    · exact h _ ⟨x, List.mem_cons_of_mem _ (List.mem_of_mem_drop hx), rfl⟩

abbrev ba (b : UInt8) : ByteArray := ⟨#[b]⟩
theorem less_facts : lessE (ba 97) 1 (ba 98) 1 = true ∧ lessE (ba 97) 1 (ba 99) 0 = false ∧ lessE (ba 99) 0 (ba 99) 0 = false := by decide +kernel
theorem ne_facts : ¬ (ba 97 = ba 98) ∧ ¬ (ba 97 = ba 99) := by decide +kernel

theorem step_far {w0 w w' : World} {p : Nat} {L : List Nd} (hB : Beyond w0.heap.size p L) (hb : Below w0.heap.size w0 w) (hf : Far (isB (hd p :: L)) w w') : Below w0.heap.size w0 w' := hb.trans (hf.below hB hb.size)
theorem step_put {w0 w : World} {p nb l : Nat} {L : List Nd} {m : ByteArray} {s : Int} (hB : Beyond w0.heap.size p L) (hb : Below w0.heap.size w0 w) (hn : w.heap.size ≤ nb) : Beyond w0.heap.size p (putL L ⟨nb, m, s, l⟩) := hB.put (Nat.le_trans hb.size hn)

set_option maxRecDepth 100000 in
set_option maxHeartbeats 4000000 in
theorem shown_any (w : World) : Calls Try.prog 10 #[] w fun e w' => e = .returned (.bool true) ∧ Below w.heap.size w w' := by
  obtain ⟨f1, f2, f3⟩ := less_facts
  obtain ⟨g1, g2⟩ := ne_facts
  have HN := Lib.hid (new_any w)
  go_enter Try.func10, Try.ntmps10
  go_wp2_with fail
  refine HN.out.mono ?_
  rintro e w1 ⟨rfl, hb1, hl1⟩
  have HI := Lib.hid (insert_new hl1 (by simp) (ba 97) (by decide) 1 1 (by decide) rfl)
  have B1 : Beyond w.heap.size w.heap.size [] := by
    rintro k ⟨x, hx, rfl⟩
    simp at hx
    subst hx
    exact Nat.le_refl _
  have HB1 := Lib.hid hb1
  have HBY := Lib.hid B1
  clear hb1 hl1 HN B1
  go_wp2_with fail
  refine HI.out.mono ?_
  rintro e w2 ⟨rfl, n1, hn1, hf, hl2⟩
  have hb2 := Lib.hid (step_far HBY.out HB1.out hf)
  have B2 := step_put (m := ba 97) (s := 1) (l := 1) HBY.out HB1.out hn1
  rw [show putL [] (⟨n1, ba 97, 1, 1⟩ : Nd) = [⟨n1, ba 97, 1, 1⟩] from rfl] at hl2 B2
  have h2 : has [(⟨n1, ba 97, 1, 1⟩ : Nd)] (ba 98) 1 = false := by simp [has, pos, f1]
  have HI2 := Lib.hid (insert_new hl2 (by simp) (ba 98) (by decide) 1 2 (by decide) h2)
  have HB2 := Lib.hid B2
  clear hn1 hf hl2 B2 h2 HI HB1 HBY
  go_wp2_with fail
  refine HI2.out.mono ?_
  rintro e w3 ⟨rfl, n2, hn2, hf, hl3⟩
  have hb3 := Lib.hid (step_far HB2.out hb2.out hf)
  have B3 := step_put (m := ba 98) (s := 1) (l := 2) HB2.out hb2.out hn2
  have e3 : putL [(⟨n1, ba 97, 1, 1⟩ : Nd)] ⟨n2, ba 98, 1, 2⟩ = [⟨n1, ba 97, 1, 1⟩, ⟨n2, ba 98, 1, 2⟩] := by simp [putL, pos, f1]
  rw [e3] at hl3 B3
  have h3 : has [(⟨n1, ba 97, 1, 1⟩ : Nd), ⟨n2, ba 98, 1, 2⟩] (ba 99) 0 = false := by simp [has, pos, f2]
  have HI3 := Lib.hid (insert_new hl3 (by simp) (ba 99) (by decide) 0 1 (by decide) h3)
  have HB3 := Lib.hid B3
  clear hn2 hf hl3 B3 h3 HI2 hb2 HB2 e3
  go_wp2_with fail
  refine HI3.out.mono ?_
  rintro e w4 ⟨rfl, n3, hn3, hf, hl4⟩
  have hb4 := Lib.hid (step_far HB3.out hb3.out hf)
  have B4 := step_put (m := ba 99) (s := 0) (l := 1) HB3.out hb3.out hn3
  have e4 : putL [(⟨n1, ba 97, 1, 1⟩ : Nd), ⟨n2, ba 98, 1, 2⟩] ⟨n3, ba 99, 0, 1⟩ = [⟨n3, ba 99, 0, 1⟩, ⟨n1, ba 97, 1, 1⟩, ⟨n2, ba 98, 1, 2⟩] := by simp [putL, pos, f2]
  rw [e4] at hl4 B4
  have h4 : has [(⟨n3, ba 99, 0, 1⟩ : Nd), ⟨n1, ba 97, 1, 1⟩, ⟨n2, ba 98, 1, 2⟩] (ba 99) 0 = true := by simp [has, pos, f3]
  have HI4 := Lib.hid (insert_old hl4 (by simp) (ba 99) (by decide) 0 1 (by decide) h4)
  have HL4 := Lib.hid hl4
  clear hn3 hf hl4 B4 h4 HI3 hb3 HB3 e4
  go_wp2_with fail
  refine HI4.out.mono ?_
  rintro e w5 ⟨rfl, hb⟩
  have hb5 := Lib.hid (hb4.out.trans (hb.mono hb4.out.size))
  have hl5 := HL4.out.later hb
  have HA := Lib.hid (at_any w.heap.size _ rfl hl5.sk rfl (by simp) 0 ⟨n3, ba 99, 0, 1⟩ rfl)
  have HL5 := Lib.hid hl5
  clear hb hl5 hb4 HL4 HI4
  go_wp2_with fail
  refine HA.out.mono ?_
  rintro e w6 ⟨rfl, hb⟩
  have hb6 := Lib.hid (hb5.out.trans (hb.mono hb5.out.size))
  have hl6 := (HL5.out.later hb).later ((Below.refl w6.heap.size w6).alloc (Nat.le_refl _) (Obj.cells #[.string (ba 99), .int .i64 0] 32))
  have HS := Lib.hid (spans_any w.heap.size _ rfl _ hl6.sk (by simp) 1 (by decide))
  clear hb hl6 hb5 HL5 HA
  have kE := Lib.hid (Blk.new w6 32 #[.string (ba 99), .int .i64 0])
  have hbE := Lib.hid ((Below.refl w6.heap.size w6).alloc (Nat.le_refl _) (Obj.cells #[.string (ba 99), .int .i64 0] 32))
  go_wp2_with fail
  refine HS.out.mono ?_
  rintro e w7 ⟨r, rfl, hown, hb⟩
  obtain ⟨e0, e1, _, _⟩ := facts2 (kE.out.later hb)
  have hd3 : diffs 0 (steps (hd w.heap.size :: [(⟨n3, ba 99, 0, 1⟩ : Nd), ⟨n1, ba 97, 1, 1⟩, ⟨n2, ba 98, 1, 2⟩]) 1 0) = [3] := rfl
  rw [hd3] at hown
  obtain ⟨g, cap, rfl⟩ : ∃ g cap, r = .slice (some ⟨g, 0, none⟩) 1 cap := by
    rcases hown.2 with ⟨_, h0⟩ | ⟨g, cap, cur, rfl, _⟩
    · simp at h0
    · exact ⟨g, cap, rfl⟩
  have c0 : w7.cell? ⟨g, 0, none⟩ = some (.int .i64 3) := hown.cellAt 0 (by simp)
  have hb7 := Lib.hid (hb6.out.trans ((hbE.out.trans (hb.mono hbE.out.size)).mono hb6.out.size))
  have heq := eq_ent (ba 99) (ba 99) 0 0 true (by simp)
  clear hown hb HS hb6 hd3 kE hbE
  go_wp2
  go_returns
  exact ⟨rfl, hb7.out⟩
end Go.Proofs.Ytidiaomeahoapaa
