/- A list, as what it holds. -/
import Derived.Test.YtidiaomeahoapaaSpans
namespace Go.Proofs.Ytidiaomeahoapaa
open Go.RowKit Go.Shelf
attribute [local go_sem] Oper.semAt_some

theorem less_irr (a : ByteArray) (s : Int) : lessE a s a s = false := by
  simp only [lessE, decide_eq_false_iff_not]
  rintro (h | ⟨_, h⟩)
  · omega
  · exact List.lt_irrefl _ h
theorem less_tr {a b c : ByteArray} {s t u : Int} (h : lessE a s b t = true) (g : lessE b t c u = true) : lessE a s c u = true := by
  simp only [lessE, decide_eq_true_eq] at *
  rcases h with h | ⟨h, h'⟩ <;> rcases g with g | ⟨g, g'⟩
  · exact .inl (by omega)
  · exact .inl (by omega)
  · exact .inl (by omega)
  · exact .inr ⟨by omega, List.lt_trans h' g'⟩
theorem less_or (a b : ByteArray) (s t : Int) (h : lessE a s b t = false) (hn : ¬ (a = b ∧ s = t)) : lessE b t a s = true := by
  simp only [lessE, decide_eq_false_iff_not, decide_eq_true_eq] at *
  by_cases e : s = t
  · right
    refine ⟨e.symm, ?_⟩
    have h1 : ¬ a.data.toList < b.data.toList := fun h2 => h (.inr ⟨e, h2⟩)
    have h2 : a.data.toList ≠ b.data.toList := fun h2 => hn ⟨by cases a; cases b; simp at h2; rw [h2], e⟩
    rcases Std.le_total (a := a.data.toList) (b := b.data.toList) with h3 | h3
    · exact absurd (Std.lt_of_le_of_ne h3 h2) h1
    · exact Std.lt_of_le_of_ne h3 (Ne.symm h2)
  · left
    have : ¬ s < t := fun h2 => h (.inl h2)
    omega

/-- In their order. -/
def Srt (L : List Nd) : Prop := L.Pairwise fun x y => lessE x.m x.s y.m y.s = true
/-- How many stand ahead. -/
def pos (L : List Nd) (m : ByteArray) (s : Int) : Nat := (L.takeWhile fun x => lessE x.m x.s m s).length
theorem pos_le (L : List Nd) (m : ByteArray) (s : Int) : pos L m s ≤ L.length := by
  unfold pos; exact (List.takeWhile_sublist _).length_le
theorem pos_spec {L : List Nd} (hs : Srt L) (m : ByteArray) (s : Int) : ∀ (i : Nat) (x : Nd), L[i]? = some x → lessE x.m x.s m s = decide (i < pos L m s) := by
  induction L with
  | nil => intro i x h; simp at h
  | cons y L ih =>
    intro i x h
    have hs' : Srt L := (List.pairwise_cons.1 hs).2
    by_cases hy : lessE y.m y.s m s = true
    · have hp : pos (y :: L) m s = pos L m s + 1 := by simp [pos, hy]
      rw [hp]
      cases i with
      | zero => simp at h; subst h; simpa using hy
      | succ i =>
        rw [ih hs' i x (by simpa using h)]
        simp
    · have hp : pos (y :: L) m s = 0 := by simp [pos, hy]
      rw [hp]
      have hy' : lessE y.m y.s m s = false := by simpa using hy
      cases i with
      | zero => simp at h; subst h; simpa using hy'
      | succ i =>
        have hx : x ∈ L := List.mem_of_getElem? (by simpa using h : L[i]? = some x)
        have := (List.pairwise_cons.1 hs).1 x hx
        cases hxe : lessE x.m x.s m s with
        | false => simp
        | true => exact absurd (less_tr this hxe) hy
theorem hq_of {L : List Nd} (hs : Srt L) (p : Nat) (m : ByteArray) (s : Int) : ∀ q x, 0 < q → (hd p :: L)[q]? = some x → lessE x.m x.s m s = decide (q ≤ pos L m s) := by
  intro q x h0 hx
  obtain ⟨i, rfl⟩ : ∃ i, q = i + 1 := ⟨q - 1, by omega⟩
  rw [pos_spec hs m s i x (by simpa using hx), decide_eq_decide]
  omega
/-- Is an entry there? -/
def has (L : List Nd) (m : ByteArray) (s : Int) : Bool := match L[pos L m s]? with
  | some x => decide (x.m = m ∧ x.s = s)
  | none => false
theorem has_at (p : Nat) (L : List Nd) (m : ByteArray) (s : Int) : entAt (hd p :: L) (pos L m s + 1) m s = has L m s := by
  unfold entAt has
  rw [List.getElem?_cons_succ]
  rfl
theorem srt_put {L : List Nd} (hs : Srt L) (x : Nd) (hn : has L x.m x.s = false) : Srt (L.take (pos L x.m x.s) ++ x :: L.drop (pos L x.m x.s)) := by
  have hsp := pos_spec hs x.m x.s
  refine List.pairwise_append.2 ⟨hs.sublist (List.take_sublist _ _), List.pairwise_cons.2 ⟨fun y hy => ?_, hs.sublist (List.drop_sublist _ _)⟩, fun y hy z hz => ?_⟩
  · obtain ⟨i, hi⟩ := List.mem_iff_getElem?.1 hy
    rw [List.getElem?_drop] at hi
    have h1 := hsp _ y hi
    rw [show decide (pos L x.m x.s + i < pos L x.m x.s) = false by simp] at h1
    refine less_or _ _ _ _ h1 (fun e => ?_)
    cases i with
    | zero =>
      unfold has at hn
      rw [Nat.add_zero] at hi
      rw [hi] at hn
      simp [e] at hn
    | succ i =>
      have hl := (List.getElem?_eq_some_iff.1 hi).1
      have h2 : L[pos L x.m x.s]? = some L[pos L x.m x.s] := List.getElem?_eq_getElem (by omega)
      have h3 := hsp _ _ h2
      rw [show decide (pos L x.m x.s < pos L x.m x.s) = false by simp] at h3
      have h4 := List.pairwise_iff_getElem.1 hs (pos L x.m x.s) (pos L x.m x.s + (i + 1)) (by omega) hl (by omega)
      rw [(List.getElem?_eq_some_iff.1 hi).2, e.1, e.2] at h4
      rw [h4] at h3
      cases h3
  · have hy1 : lessE y.m y.s x.m x.s = true := by
      obtain ⟨i, hi⟩ := List.mem_iff_getElem?.1 hy
      have hil := (List.getElem?_eq_some_iff.1 hi).1
      rw [List.length_take] at hil
      rw [List.getElem?_take_of_lt (by omega)] at hi
      rw [hsp i y hi]
      simp; omega
    rcases List.mem_cons.1 hz with rfl | hz
    · exact hy1
    · obtain ⟨i, hi⟩ := List.mem_iff_getElem?.1 hy
      obtain ⟨j, hj⟩ := List.mem_iff_getElem?.1 hz
      have hil := (List.getElem?_eq_some_iff.1 hi).1
      rw [List.length_take] at hil
      rw [List.getElem?_take_of_lt (by omega)] at hi
      rw [List.getElem?_drop] at hj
      obtain ⟨hi1, hi2⟩ := List.getElem?_eq_some_iff.1 hi
      obtain ⟨hj1, hj2⟩ := List.getElem?_eq_some_iff.1 hj
      have := List.pairwise_iff_getElem.1 hs i _ hi1 hj1 (by omega)
      rw [hi2, hj2] at this
      exact this
theorem srt_cut {L : List Nd} (hs : Srt L) {a b : Nat} (h : a ≤ b) : Srt (L.take a ++ L.drop b) := by
  refine hs.sublist ?_
  have h1 : (L.take a ++ L.drop b).Sublist (L.take a ++ L.drop a) := (List.Sublist.refl _).append (by
    rw [show b = a + (b - a) by omega, ← List.drop_drop]
    exact List.drop_sublist _ _)
  rwa [List.take_append_drop] at h1

/-- A list in memory. -/
structure Ls (W : World) (p : Nat) (L : List Nd) : Prop where
  sk : Sk W (hd p :: L) (lk0 (hd p :: L)) (ah0 (hd p :: L)) L.length
  srt : Srt L
variable {w : World} {p : Nat} {L : List Nd}
theorem Ls.far {w' : World} {S : Nat → Prop} (h : Ls w p L) (hf : Far S w w') (hS : ∀ k, isB (hd p :: L) k → ¬ S k) : Ls w' p L := ⟨h.sk.far hf hS, h.srt⟩
theorem Ls.later {w' : World} (h : Ls w p L) (hb : Below w.heap.size w w') : Ls w' p L := ⟨h.sk.later hb, h.srt⟩
theorem ins_eq (p : Nat) (L : List Nd) (a : Nat) (x : Nd) : insF (hd p :: L) a x = hd p :: (L.take a ++ x :: L.drop a) := by unfold insF; rw [List.take_succ_cons, List.drop_succ_cons]; rfl
theorem rem_eq (p : Nat) (L : List Nd) (a b : Nat) : remF (hd p :: L) a b = hd p :: (L.take a ++ L.drop b) := by unfold remF; rw [List.take_succ_cons, List.drop_succ_cons]; rfl

theorem seek_ls (h : Ls w p L) (hN : L.length ≤ 100000) (m : ByteArray) (s : Int) : Calls Try.prog 25 #[.pointer (some ⟨p, 0, none⟩), .agg #[.string m, .int .i64 s]] w fun e w' => e = .returned (.tuple #[.int .i64 (pos L m s), .bool (has L m s)]) ∧ Below w.heap.size w w' := by
  have := seek_any p L rfl h.sk (by simp; omega) m s (pos L m s) (by have := pos_le L m s; simp; omega) (hq_of h.srt p m s)
  rwa [has_at] at this

/-- What Insert does. -/
def putL (L : List Nd) (x : Nd) : List Nd := L.take (pos L x.m x.s) ++ x :: L.drop (pos L x.m x.s)
theorem insert_ls (h : Ls w p L) (hN : L.length ≤ 100000) (m : ByteArray) (hm : m.size ≤ 281474976710656) (s : Int) (l : Nat) (hl : 0 < l ∧ l ≤ 32) :
    Calls Try.prog 27 #[.pointer (some ⟨p, 0, none⟩), .agg #[.string m, .int .i64 s], .int .i64 l] w fun e w' =>
      (has L m s = true → e = .returned (.int .i64 90) ∧ Below w.heap.size w w') ∧
      (has L m s = false → e = .returned (.int .i64 0) ∧ ∃ nb, w.heap.size ≤ nb ∧ Far (isB (hd p :: L)) w w' ∧ Ls w' p (putL L ⟨nb, m, s, l⟩)) := by
  have := insert_any p L rfl w h.sk (by simp; omega) rfl (pos L m s) (by have := pos_le L m s; simp; omega) m hm s l hl (hq_of h.srt p m s)
  rw [has_at] at this
  refine this.mono ?_
  rintro e w' ⟨h1, h2⟩
  refine ⟨h1, fun hh => ?_⟩
  obtain ⟨he, nb, hn, hf, hsk⟩ := h2 hh
  refine ⟨he, nb, hn, hf, ?_, srt_put h.srt ⟨nb, m, s, l⟩ hh⟩
  rw [ins_eq] at hsk
  have hlen : ((L.take (pos L m s) ++ (⟨nb, m, s, l⟩ : Nd) :: L.drop (pos L m s)).length : Int) = (L.length : Int) + 1 := by
    have := pos_le L m s
    simp; omega
  unfold putL
  rw [← hlen] at hsk
  exact hsk
theorem cut_ls (h : Ls w p L) (hN : L.length ≤ 100000) (f t : Int) (a b : Nat) (ha : (a : Int) = max f 0) (hb : (b : Int) = min t L.length) (hab : a < b) :
    Calls Try.prog 29 #[.pointer (some ⟨p, 0, none⟩), .int .i64 f, .int .i64 t] w fun e w' => e = .returned (.int .i64 ((b : Int) - a)) ∧ Far (isB (hd p :: L)) w w' ∧ Ls w' p (L.take a ++ L.drop b) := by
  refine (cut_any p L rfl w h.sk (by simp; omega) rfl f t a b ha hb hab).mono ?_
  rintro e w' ⟨he, hf, hsk⟩
  refine ⟨he, hf, ?_, srt_cut h.srt (by omega)⟩
  rw [rem_eq] at hsk
  have hlen : ((L.take a ++ L.drop b).length : Int) = (L.length : Int) - ((b : Int) - a) := by simp; omega
  rw [← hlen] at hsk
  exact hsk
theorem delete_ls (h : Ls w p L) (hN : L.length ≤ 100000) (m : ByteArray) (s : Int) : Calls Try.prog 28 #[.pointer (some ⟨p, 0, none⟩), .agg #[.string m, .int .i64 s]] w fun e w' =>
      (has L m s = false → e = .returned (.bool false) ∧ Below w.heap.size w w') ∧
      (has L m s = true → e = .returned (.bool true) ∧ Far (isB (hd p :: L)) w w' ∧ Ls w' p (L.take (pos L m s) ++ L.drop (pos L m s + 1))) := by
  have := delete_any p L rfl w h.sk (by simp; omega) rfl (pos L m s) (by have := pos_le L m s; simp; omega) m s (hq_of h.srt p m s)
  rw [has_at] at this
  refine this.mono ?_
  rintro e w' ⟨h1, h2⟩
  refine ⟨h1, fun hh => ?_⟩
  obtain ⟨he, hf, hsk⟩ := h2 hh
  refine ⟨he, hf, ?_, srt_cut h.srt (by omega)⟩
  rw [rem_eq] at hsk
  have hlt : pos L m s < L.length := by
    unfold has at hh
    split at hh
    · rename_i x hx; exact (List.getElem?_eq_some_iff.1 hx).1
    · cases hh
  have hlen : ((L.take (pos L m s) ++ L.drop (pos L m s + 1)).length : Int) = (L.length : Int) - 1 := by simp; omega
  rw [← hlen] at hsk
  exact hsk

/-- New. -/
def z63 : Array Value := z61 ++ #[.int .i64 0]
theorem info63 : (Try.prog.info? 63).map (fun i => (i.zero, i.size)) = some (some (.agg z63), 68) := by kernel_rfl
theorem zero63 (w : World) : (zeroValue 63).run Try.prog w = .ok (.agg z63) w := (zero_of_info info63).1 w
theorem z63_facts : z63.size = 68 ∧ z63[0]? = some (.string ⟨#[]⟩) ∧ z63[1]? = some (.int .i64 0) ∧ z63[2]? = some (.pointer none) ∧ z63[67]? = some (.int .i64 0) := ⟨by decide +kernel, rfl, rfl, rfl, rfl⟩
theorem z63_link : ∀ k : Fin 32, z63[3 + k.val * 2]? = some (.pointer none) ∧ z63[3 + k.val * 2 + 1]? = some (.int .i64 0) := by
  intro k
  match k with
  | ⟨k, hk⟩ =>
    have : k = 0 ∨ k = 1 ∨ k = 2 ∨ k = 3 ∨ k = 4 ∨ k = 5 ∨ k = 6 ∨ k = 7 ∨ k = 8 ∨ k = 9 ∨ k = 10 ∨ k = 11 ∨ k = 12 ∨ k = 13 ∨ k = 14 ∨ k = 15 ∨ k = 16 ∨ k = 17 ∨ k = 18 ∨ k = 19 ∨ k = 20 ∨ k = 21 ∨ k = 22 ∨ k = 23 ∨ k = 24 ∨ k = 25 ∨ k = 26 ∨ k = 27 ∨ k = 28 ∨ k = 29 ∨ k = 30 ∨ k = 31 := by omega
    rcases this with rfl | rfl | rfl | rfl | rfl | rfl | rfl | rfl | rfl | rfl | rfl | rfl | rfl | rfl | rfl | rfl | rfl | rfl | rfl | rfl | rfl | rfl | rfl | rfl | rfl | rfl | rfl | rfl | rfl | rfl | rfl | rfl <;> exact ⟨rfl, rfl⟩
set_option maxRecDepth 100000 in
theorem new_any (w : World) : Calls Try.prog 11 #[] w fun e w' => e = .returned (.pointer (some ⟨w.heap.size, 0, none⟩)) ∧ Below w.heap.size w w' ∧ Ls w' w.heap.size [] := by
  have hz := zero63
  obtain ⟨f0, f1, f2, f3, f4⟩ := z63_facts
  have hl := z63_link
  generalize z63 = zz at *
  have HL := Lib.hid hl
  have HF := Lib.hid (And.intro f1 (And.intro f2 (And.intro f3 f4)))
  clear hl f1 f2 f3 f4
  go_enter Try.func11, Try.ntmps11
  go_wp2_with fail
  go_returns
  obtain ⟨f1, f2, f3, f4⟩ := HF.out
  refine ⟨rfl, (Below.refl _ _).alloc (Nat.le_refl _) _, ⟨fun q x hx => ?_, fun q q' x x' hx hx' _ => ?_, fun q x hx => ?_⟩, List.Pairwise.nil⟩
  · cases q with
    | succ q => simp at hx
    | zero =>
      simp at hx
      subst hx
      refine ⟨zz, Blk.new _ _ _, by rw [f0]; rfl, f1, f2, f3, fun k hk => ?_, fun _ => f4⟩
      have hn : nxt [hd w.heap.size] k 0 = 1 := nxt_unique (by simp) (by omega) (by simp) (fun i h1 h2 => by omega) (fun h => by simp at h)
      unfold lk0
      rw [hn]
      have := HL.out ⟨k, hk⟩
      exact this
  · cases q <;> cases q' <;> simp at hx hx' <;> rfl
  · cases q with
    | succ q => simp at hx
    | zero => simp at hx; subst hx; exact ⟨(by decide : 0 < 32), Nat.le_refl 32⟩
end Go.Proofs.Ytidiaomeahoapaa
