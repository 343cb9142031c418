/- Between: how many entries stand ahead of a range of scores, and up to its end. -/
import Derived.Test.YtpaphfofjfjdlaaGreatQZLeadL
namespace Go.Proofs.YtpaphfofjfjdlaaGreat
open Go.RowKit Go.Shelf Sk
attribute [local go_sem] Oper.semAt_some

/-- How many leading entries are below the range's start; how many are not past its end. -/
def kF (E : List En) (a : Int) (o : Bool) (i : Int) : Nat := (E.takeWhile fun e => !Bd.fromR e.2 a o i).length
def kT (E : List En) (a : Int) (o : Bool) (i : Int) : Nat := (E.takeWhile fun e => Bd.toR e.2 a o i).length
theorem srt_le {E : List En} (h : SrtE E) {i j : Nat} (hij : i ≤ j) {x y : En} (hx : E[i]? = some x) (hy : E[j]? = some y) : x.2 ≤ y.2 := by
  obtain ⟨h1, rfl⟩ := List.getElem?_eq_some_iff.1 hx
  obtain ⟨h2, rfl⟩ := List.getElem?_eq_some_iff.1 hy
  rcases Nat.eq_or_lt_of_le hij with e | e
  · subst e; exact Int.le_refl _
  · have := (List.pairwise_iff_getElem.1 h) i j h1 h2 e
    simp only [lessE, decide_eq_true_eq] at this
    omega
theorem take_at {p : En → Bool} : ∀ {E : List En}, (∀ (i j : Nat) (x y : En), i ≤ j → E[i]? = some x → E[j]? = some y → p y = true → p x = true) → ∀ (i : Nat) (x : En), E[i]? = some x → p x = decide (i < (E.takeWhile p).length)
  | [], _, i, x, h => by simp at h
  | z :: t, H, i, x, h => by
    cases hz : p z with
    | true =>
      rw [List.takeWhile_cons_of_pos hz]
      cases i with
      | zero => simp at h; subst h; simpa using hz
      | succ i =>
        rw [take_at (E := t) (fun i j x y hij hx hy => H (i + 1) (j + 1) x y (by omega) (by simpa using hx) (by simpa using hy)) i x (by simpa using h)]
        exact decide_eq_decide.2 (by simp)
    | false =>
      rw [List.takeWhile_cons_of_neg (by rw [hz]; decide)]
      simp only [List.length_nil, Nat.not_lt_zero, decide_false]
      rw [Bool.eq_false_iff]
      intro hx
      have := H 0 i z x (by omega) (by simp) h hx
      rw [hz] at this
      cases this
theorem kF_le (E : List En) (a : Int) (o : Bool) (i : Int) : kF E a o i ≤ E.length := (List.takeWhile_sublist _).length_le
theorem kT_le (E : List En) (a : Int) (o : Bool) (i : Int) : kT E a o i ≤ E.length := (List.takeWhile_sublist _).length_le
theorem kF_at {E : List En} (h : SrtE E) (a : Int) (o : Bool) (n : Int) (i : Nat) (x : En) (hx : E[i]? = some x) : (!Bd.fromR x.2 a o n) = decide (i < kF E a o n) := by
  refine take_at (p := fun e => !Bd.fromR e.2 a o n) (fun i j x y hij hx hy hp => ?_) i x hx
  have := srt_le h hij hx hy
  simp only [Bd.fromR, Bool.not_eq_true', decide_eq_false_iff_not] at hp ⊢
  rintro (h1 | ⟨h1, h2 | ⟨h2, h3⟩⟩)
  · exact hp (.inl h1)
  · exact hp (.inr ⟨h1, .inl (by omega)⟩)
  · refine hp (.inr ⟨h1, ?_⟩)
    by_cases e : y.2 = a
    · exact .inr ⟨e, h3⟩
    · exact .inl (by omega)
theorem kT_at {E : List En} (h : SrtE E) (a : Int) (o : Bool) (n : Int) (i : Nat) (x : En) (hx : E[i]? = some x) : Bd.toR x.2 a o n = decide (i < kT E a o n) := by
  refine take_at (p := fun e => Bd.toR e.2 a o n) (fun i j x y hij hx hy hp => ?_) i x hx
  have := srt_le h hij hx hy
  simp only [Bd.toR, decide_eq_true_eq] at hp ⊢
  rcases hp with h1 | ⟨h1, h2 | ⟨h2, h3⟩⟩
  · exact .inl h1
  · exact .inr ⟨h1, .inl (by omega)⟩
  · refine .inr ⟨h1, ?_⟩
    by_cases e : x.2 = a
    · exact .inr ⟨e, h3⟩
    · exact .inl (by omega)
theorem to_top (n : Int) : Bd.toR n 0 false 1 = true := by simp [Bd.toR]
theorem from_low (n : Int) : Bd.fromR n 0 false (-1) = true := by simp [Bd.fromR]

variable {w w' : World} {s c : Nat} {le lm : Int} {E : List En}
set_option maxRecDepth 100000 in
theorem ask_from (hs : SrtE E) (a n : Int) (o : Bool) {q0 q1 : Nat} (k0 : Blk w q0 51 #[.int .i64 a, .bool o, .int .i64 n]) (k1 : Blk w q1 51 #[.int .i64 0, .bool false, .int .i64 1]) :
    Ask w 42 #[.pointer (some ⟨q0, 0, none⟩), .pointer (some ⟨q1, 0, none⟩)] E (kF E a o n) := by
  refine ⟨enters_of Tryz.func42 (by kernel_rfl) rfl, kF_le _ _ _ _, fun W hb i x hx => ?_⟩
  rw [← kF_at hs a o n i x hx]
  have HL := fun W => Lib.hid (Bd.in_any x.2 a 0 o false n 1 W)
  simp only [Bd.inB_eq, to_top, Bool.and_true] at HL
  obtain ⟨g0, g1, g2, _⟩ := facts3 ((k0.later hb).alloc (.cells #[.string x.1, .int .i64 x.2] 48))
  obtain ⟨f0, f1, f2, _⟩ := facts3 ((k1.later hb).alloc (.cells #[.string x.1, .int .i64 x.2] 48))
  obtain ⟨e0, e1, _, _⟩ := facts2 (Blk.new W 48 #[.string x.1, .int .i64 x.2])
  have HB := Lib.hid (alloc_below W (.cells #[.string x.1, .int .i64 x.2] 48))
  clear hx hs k0 k1 hb
  generalize Bd.fromR x.2 a o n = bb at *
  show Calls Tryz.prog 42 #[.agg #[.string x.1, .int .i64 x.2], .pointer (some ⟨q0, 0, none⟩), .pointer (some ⟨q1, 0, none⟩)] W _
  go_enter Tryz.func42, Tryz.ntmps42
  go_wp2_with (go_at_call 43; refine (HL _).out.mono ?_; rintro e w1 ⟨rfl, hb1⟩)
  go_ret
  exact ⟨rfl, HB.out.trans (hb1.mono HB.out.size)⟩
set_option maxRecDepth 100000 in
theorem ask_to (hs : SrtE E) (a n : Int) (o : Bool) {q0 q1 : Nat} (k0 : Blk w q0 51 #[.int .i64 0, .bool false, .int .i64 (-1)]) (k1 : Blk w q1 51 #[.int .i64 a, .bool o, .int .i64 n]) :
    Ask w 44 #[.pointer (some ⟨q0, 0, none⟩), .pointer (some ⟨q1, 0, none⟩)] E (kT E a o n) := by
  refine ⟨enters_of Tryz.func44 (by kernel_rfl) rfl, kT_le _ _ _ _, fun W hb i x hx => ?_⟩
  rw [← kT_at hs a o n i x hx]
  have HL := fun W => Lib.hid (Bd.in_any x.2 0 a false o (-1) n W)
  simp only [Bd.inB_eq, from_low, Bool.true_and] at HL
  obtain ⟨g0, g1, g2, _⟩ := facts3 ((k0.later hb).alloc (.cells #[.string x.1, .int .i64 x.2] 48))
  obtain ⟨f0, f1, f2, _⟩ := facts3 ((k1.later hb).alloc (.cells #[.string x.1, .int .i64 x.2] 48))
  obtain ⟨e0, e1, _, _⟩ := facts2 (Blk.new W 48 #[.string x.1, .int .i64 x.2])
  have HB := Lib.hid (alloc_below W (.cells #[.string x.1, .int .i64 x.2] 48))
  clear hx hs k0 k1 hb
  generalize Bd.toR x.2 a o n = bb at *
  show Calls Tryz.prog 44 #[.agg #[.string x.1, .int .i64 x.2], .pointer (some ⟨q0, 0, none⟩), .pointer (some ⟨q1, 0, none⟩)] W _
  go_enter Tryz.func44, Tryz.ntmps44
  go_wp2_with (go_at_call 43; refine (HL _).out.mono ?_; rintro e w1 ⟨rfl, hb1⟩)
  go_ret
  exact ⟨rfl, HB.out.trans (hb1.mono HB.out.size)⟩

theorem now_form {S : Nat → Prop} {isL : Bool} (h : SetIs w s S isL le lm c E) : ∃ fv, ∀ W, Below w.heap.size w W → FormIs W fv E ∧ Calls Tryz.prog 39 #[.pointer (some ⟨s, 0, none⟩)] W fun e w' => e = .returned fv ∧ w' = W := by
  obtain ⟨fv, h1, h2, _⟩ := set_now h
  exact ⟨fv, fun W hb => ⟨h2.later hb, now_s (h1.later hb)⟩⟩
set_option maxRecDepth 100000 in
set_option maxHeartbeats 1000000 in
theorem set_between {S : Nat → Prop} {isL : Bool} (h : SetIs w s S isL le lm c E) (f1 f3 t1 t3 : Int) (f2 t2 : Bool) : Calls Tryz.prog 27 #[.pointer (some ⟨s, 0, none⟩), .agg #[.int .i64 f1, .bool f2, .int .i64 f3], .agg #[.int .i64 t1, .bool t2, .int .i64 t3]] w
    fun e w' => e = .returned (.tuple #[.int .i64 (kF E f1 f2 f3), .int .i64 (max (kF E f1 f2 f3) (kT E t1 t2 t3) : Nat)]) ∧ Below w.heap.size w w' := by
  have hs := h.good.srt
  obtain ⟨fv, hn⟩ := now_form h
  have HN := fun W hb => Lib.hid (hn W hb)
  have hB : Below w.heap.size w ((((w.alloc (.cells #[.int .i64 f1, .bool f2, .int .i64 f3] 51)).alloc (.cells #[.int .i64 t1, .bool t2, .int .i64 t3] 51)).alloc (.cells #[.int .i64 0, .bool false, .int .i64 (-1)] 51)).alloc (.cells #[.int .i64 0, .bool false, .int .i64 1] 51)) := ((((Below.refl w.heap.size w).alloc (Nat.le_refl _) _).alloc (by simp) _).alloc (by simp; omega) _).alloc (by simp; omega) _
  have k0 := (((Blk.new w 51 #[.int .i64 f1, .bool f2, .int .i64 f3]).alloc (.cells #[.int .i64 t1, .bool t2, .int .i64 t3] 51)).alloc (.cells #[.int .i64 0, .bool false, .int .i64 (-1)] 51)).alloc (.cells #[.int .i64 0, .bool false, .int .i64 1] 51)
  have k1 := ((Blk.new (w.alloc (.cells #[.int .i64 f1, .bool f2, .int .i64 f3] 51)) 51 #[.int .i64 t1, .bool t2, .int .i64 t3]).alloc (.cells #[.int .i64 0, .bool false, .int .i64 (-1)] 51)).alloc (.cells #[.int .i64 0, .bool false, .int .i64 1] 51)
  have k2 := (Blk.new ((w.alloc (.cells #[.int .i64 f1, .bool f2, .int .i64 f3] 51)).alloc (.cells #[.int .i64 t1, .bool t2, .int .i64 t3] 51)) 51 #[.int .i64 0, .bool false, .int .i64 (-1)]).alloc (.cells #[.int .i64 0, .bool false, .int .i64 1] 51)
  have k3 := Blk.new (((w.alloc (.cells #[.int .i64 f1, .bool f2, .int .i64 f3] 51)).alloc (.cells #[.int .i64 t1, .bool t2, .int .i64 t3] 51)).alloc (.cells #[.int .i64 0, .bool false, .int .i64 (-1)] 51)) 51 #[.int .i64 0, .bool false, .int .i64 1]
  simp only [World.size_alloc] at k1 k2 k3
  clear h hn
  go_enter Tryz.func27, Tryz.ntmps27
  go_wp2_with fail
  generalize ((((w.alloc (.cells #[.int .i64 f1, .bool f2, .int .i64 f3] 51)).alloc (.cells #[.int .i64 t1, .bool t2, .int .i64 t3] 51)).alloc (.cells #[.int .i64 0, .bool false, .int .i64 (-1)] 51)).alloc (.cells #[.int .i64 0, .bool false, .int .i64 1] 51)) = w1 at *
  have hf := (HN w1 hB).out.1
  have HL1 := Lib.hid (form_lead hf (ask_from hs f1 f3 f2 k0 k3))
  have HK1 := Lib.hid k1
  have HK2 := Lib.hid k2
  have HB := Lib.hid hB
  have HS := Lib.hid hs
  refine (HN w1 hB).out.2.mono ?_
  clear hf k0 k1 k2 k3 hB hs
  rintro e w2 ⟨rfl, rfl⟩
  go_wp2_with fail
  refine HL1.out.mono ?_
  rintro e w3 ⟨rfl, hb⟩
  have HB3 := Lib.hid (HB.out.trans (hb.mono HB.out.size))
  have HL3 := Lib.hid (form_lead (HN w3 HB3.out).out.1 (ask_to HS.out t1 t3 t2 (HK2.out.later hb) (HK1.out.later hb)))
  have HN3 := (HN w3 HB3.out).out.2
  clear hb HL1 HK1 HK2 HN HB
  go_wp2_with fail
  refine HN3.mono ?_
  rintro e w4 ⟨rfl, rfl⟩
  clear HN3
  go_wp2_with fail
  refine HL3.out.mono ?_
  rintro e w5 ⟨rfl, hb⟩
  have HB5 := Lib.hid (HB3.out.trans (hb.mono HB3.out.size))
  have hmx : max (kF E f1 f2 f3 : Int) (kT E t1 t2 t3 : Int) = (max (kF E f1 f2 f3) (kT E t1 t2 t3) : Nat) := by omega
  clear hb HL3 HB3
  go_wp2_with fail
  go_ret2
  exact ⟨rfl, HB5.out⟩
end Go.Proofs.YtpaphfofjfjdlaaGreat
