/- Where the least of uses is: the program's and the reference's. -/
import Derived.Test.YtpjggdmfgoajbaaIter
import Derived.ScopeJumps
namespace Go.Proofs.Ytpjggdmfgoajbaa
open Go.RowKit Go.Shelf
attribute [local go_sem] Oper.semAt_some
attribute [local go_sem] field0

/-- p is the first place of the least number. -/
structure IsLeast (xs : List Int) (p : Nat) : Prop where
  lt : p < xs.length
  le : ∀ (j : Nat) (h : j < xs.length), xs[p] ≤ xs[j]
  first : ∀ (j : Nat) (h : j < p), xs[p] < xs[j]
def leastN (xs : List Int) : Nat := (xs.findIdx? (fun x => xs.all (fun y => decide (x ≤ y)))).getD 0
theorem IsLeast.eq {xs : List Int} {p : Nat} (h : IsLeast xs p) : leastN xs = p := by
  unfold leastN
  have : xs.findIdx? (fun x => xs.all (fun y => decide (x ≤ y))) = some p := by
    rw [List.findIdx?_eq_some_iff_getElem]
    refine ⟨h.lt, ?_, fun j hj => ?_⟩
    · rw [List.all_eq_true]
      intro y hy
      obtain ⟨j, hj, rfl⟩ := List.mem_iff_getElem.1 hy
      simpa using h.le j hj
    · have hl := h.lt
      rw [Bool.not_eq_true, List.all_eq_false]
      refine ⟨xs[p], List.getElem_mem h.lt, ?_⟩
      have := h.first j hj
      simp; omega
  rw [this]; rfl

/-- What the program holds behind the first i numbers. -/
structure Part (xs : List Int) (i p : Nat) (f : Int) : Prop where
  f0 : 0 < f ∧ f ≤ 255
  le : ∀ (j : Nat) (h : j < xs.length), j < i → f ≤ xs[j]
  at_ : (p = 0 ∧ f = 255) ∨ (∃ h : p < xs.length, p < i ∧ xs[p] = f ∧ ∀ (j : Nat) (hj : j < p), f < xs[j])
theorem Part.zero (xs : List Int) : Part xs 0 0 255 := ⟨by omega, fun j _ h => by omega, .inl ⟨rfl, rfl⟩⟩
theorem Part.stop {xs : List Int} {i p : Nat} {f : Int} (h : Part xs i p f) (hx : xs[i]? = some 0) (hp : ∀ x ∈ xs, 0 ≤ x) : IsLeast xs i := by
  obtain ⟨hi, he⟩ := List.getElem?_eq_some_iff.1 hx
  refine ⟨hi, fun j hj => ?_, fun j hj => ?_⟩
  · rw [he]; exact hp _ (List.getElem_mem hj)
  · rw [he]; have := h.le j (by omega) hj; have := h.f0; omega
theorem Part.less {xs : List Int} {i p : Nat} {f x : Int} (h : Part xs i p f) (hx : xs[i]? = some x) (h0 : 0 < x) (hlt : x < f) : Part xs (i + 1) i x := by
  obtain ⟨hi, he⟩ := List.getElem?_eq_some_iff.1 hx
  have := h.f0
  refine ⟨by omega, fun j hj hji => ?_, .inr ⟨hi, by omega, he, fun j hj => ?_⟩⟩
  · by_cases e : j = i
    · subst e; omega
    · have := h.le j hj (by omega); omega
  · have := h.le j (by omega) hj; omega
theorem Part.more {xs : List Int} {i p : Nat} {f x : Int} (h : Part xs i p f) (hx : xs[i]? = some x) (hge : ¬ x < f) : Part xs (i + 1) p f := by
  obtain ⟨hi, he⟩ := List.getElem?_eq_some_iff.1 hx
  refine ⟨h.f0, fun j hj hji => ?_, ?_⟩
  · by_cases e : j = i
    · subst e; omega
    · exact h.le j hj (by omega)
  · rcases h.at_ with h | ⟨h1, h2, h3⟩
    · exact .inl h
    · exact .inr ⟨h1, by omega, h3⟩
theorem Part.done {xs : List Int} {p : Nat} {f : Int} (h : Part xs xs.length p f) (hne : 0 < xs.length) (hp : ∀ x ∈ xs, x ≤ 255) : IsLeast xs p := by
  rcases h.at_ with ⟨rfl, rfl⟩ | ⟨h1, _, h3, h4⟩
  · refine ⟨hne, fun j hj => ?_, fun j hj => by omega⟩
    have h1 := h.le j hj hj
    have h2 := hp _ (List.getElem_mem hne)
    omega
  · exact ⟨h1, fun j hj => by rw [h3]; exact h.le j hj hj, fun j hj => by rw [h3]; exact h4 j hj⟩

/-- What holds behind the first i rounds. -/
def Held (w : World) (xs : List Int) (i : Nat) (W : World) : Prop := Below w.heap.size w W ∧ ∃ (p : Nat) (f : Int), Blk W w.heap.size 3 #[.int .i64 p] ∧ Blk W (w.heap.size + 1) 3 #[.int .i64 f] ∧ Part xs i p f
theorem held_own (w : World) (xs : List Int) (B : Nat) (hB : w.heap.size ≤ B) : OwnFrom B (Held w xs) :=
  (own_below B w hB).and (own_ex fun _ => own_ex fun _ => (own_blk _ _ _ _).and ((own_blk _ _ _ _).and (own_pure _ _)))
/-- What holds where the rounds were broken off. -/
def Stopped (w : World) (xs : List Int) (W : World) : Prop := Below w.heap.size w W ∧ Blk W w.heap.size 3 #[.int .i64 (leastN xs)]
theorem stopped_own (w : World) (xs : List Int) (B : Nat) (hB : w.heap.size ≤ B) : OwnFrom B (fun (_ : Nat) W => Stopped w xs W) := (own_below B w hB).and (own_blk _ _ _ _)

set_option maxRecDepth 100000 in
set_option maxHeartbeats 4000000 in
theorem least_any (l : List Use) (now : Int) (hk : ∀ u ∈ l, Known u now) (hne : 0 < l.length) (hz : l.length ≤ 9223372036854775807) (a : Option Addr) (cap : Nat) (w : World) (hU : Uses w a l) :
    Calls Try.prog 25 #[.int .i64 now, .slice a l.length cap] w fun e w' => e = .returned (.int .i64 (leastN (cntsU l now))) ∧ Below w.heap.size w w' := by
  have HC := fun w => Lib.hid (counts_any now a l.length cap w)
  have HIT := fun bx bn L w hU hbn h0 h1 => Lib.hid (iter_any l now hk hz a cap bx bn L w hU hbn h0 h1)
  have HP := Lib.hid (show ∀ x ∈ cntsU l now, 0 ≤ x ∧ x ≤ 255 from fun x hx => by
    obtain ⟨u, hu, rfl⟩ := List.mem_map.1 hx
    exact cnt_in (hk u hu))
  have HL := Lib.hid (cnts_len l now)
  have HNE := Lib.hid hne
  generalize cntsU l now = xs at *
  clear hk hne hz
  refine (callsIn_wide (n := 6)).1 (callsIn_of_wp_marks Try.func25 rfl trivial ?_ rfl)
  refine wpIn_wide.2 ?_
  simp only [Try.ntmps25, List.size_toArray, List.length_cons, List.length_nil, Nat.reduceAdd, Nat.reduceSub, Array.replicate_succ, Array.replicate_zero, List.push_toArray, List.append_toArray, List.nil_append, List.cons_append]
  go_wp2
  refine wp_scope_straight ?_
  go_wp2
  refine wp_label ?_
  go_wp2_with fail
  refine (HC _).out.mono ?_
  rintro e w1 ⟨rfl, rfl⟩
  go_wp2_with fail
  have k0 : Blk ((((w.alloc (Obj.cells #[Value.int IntKind.i64 0] 3)).alloc (Obj.cells #[Value.int IntKind.i64 255] 3)).alloc (Obj.cells #[Value.int IntKind.i64 now] 3)).alloc (Obj.cells #[Value.slice a l.length cap] 34)) w.heap.size 3 #[.int .i64 (0 : Nat)] := (((Blk.new w 3 #[.int .i64 0]).alloc _).alloc _).alloc _
  have k1 : Blk ((((w.alloc (Obj.cells #[Value.int IntKind.i64 0] 3)).alloc (Obj.cells #[Value.int IntKind.i64 255] 3)).alloc (Obj.cells #[Value.int IntKind.i64 now] 3)).alloc (Obj.cells #[Value.slice a l.length cap] 34)) (w.heap.size + 1) 3 #[.int .i64 255] := ((Blk.new1 w _ 3 #[.int .i64 255]).alloc _).alloc _
  have k2 : Blk ((((w.alloc (Obj.cells #[Value.int IntKind.i64 0] 3)).alloc (Obj.cells #[Value.int IntKind.i64 255] 3)).alloc (Obj.cells #[Value.int IntKind.i64 now] 3)).alloc (Obj.cells #[Value.slice a l.length cap] 34)) (w.heap.size + 1 + 1) 3 #[.int .i64 now] := (Blk.new2 w _ _ 3 #[.int .i64 now]).alloc _
  have k3 : Blk ((((w.alloc (Obj.cells #[Value.int IntKind.i64 0] 3)).alloc (Obj.cells #[Value.int IntKind.i64 255] 3)).alloc (Obj.cells #[Value.int IntKind.i64 now] 3)).alloc (Obj.cells #[Value.slice a l.length cap] 34)) (w.heap.size + 1 + 1 + 1) 34 #[.slice a l.length cap] := by
    have := Blk.new (((w.alloc (Obj.cells #[Value.int IntKind.i64 0] 3)).alloc (Obj.cells #[Value.int IntKind.i64 255] 3)).alloc (Obj.cells #[Value.int IntKind.i64 now] 3)) 34 #[.slice a l.length cap]
    rwa [World.size_alloc, World.size_alloc, World.size_alloc] at this
  have hB : Below w.heap.size w ((((w.alloc (Obj.cells #[Value.int IntKind.i64 0] 3)).alloc (Obj.cells #[Value.int IntKind.i64 255] 3)).alloc (Obj.cells #[Value.int IntKind.i64 now] 3)).alloc (Obj.cells #[Value.slice a l.length cap] 34)) := ((((Below.refl _ _).alloc (Nat.le_refl _) _).alloc (by simp) _).alloc (by simp; omega) _).alloc (by simp; omega) _
  have hsz : ((((w.alloc (Obj.cells #[Value.int IntKind.i64 0] 3)).alloc (Obj.cells #[Value.int IntKind.i64 255] 3)).alloc (Obj.cells #[Value.int IntKind.i64 now] 3)).alloc (Obj.cells #[Value.slice a l.length cap] 34)).heap.size = w.heap.size + 4 := by simp
  have hUo := (hU.off (L := [w.heap.size, w.heap.size + 1]) (by simp)).keep (KeepC.of_below hB)
  have hit := (HIT (w.heap.size + 1 + 1 + 1) (w.heap.size + 1 + 1) [w.heap.size, w.heap.size + 1] _ hUo (by simp; omega) k3 k2).out
  have HHB := Lib.hid (show Held w xs 0 ((((w.alloc (Obj.cells #[Value.int IntKind.i64 0] 3)).alloc (Obj.cells #[Value.int IntKind.i64 255] 3)).alloc (Obj.cells #[Value.int IntKind.i64 now] 3)).alloc (Obj.cells #[Value.slice a l.length cap] 34)) from ⟨hB, 0, 255, k0, k1, Part.zero _⟩)
  generalize ((((w.alloc (Obj.cells #[Value.int IntKind.i64 0] 3)).alloc (Obj.cells #[Value.int IntKind.i64 255] 3)).alloc (Obj.cells #[Value.int IntKind.i64 now] 3)).alloc (Obj.cells #[Value.slice a l.length cap] 34)) = w1 at *
  clear HC HIT hU hUo k0 k1 k2 k3 hB
  refine (wpIn_wide (n := 6)).1 (range_x (gf := 32) (lb := #[.pointer (some ⟨w.heap.size + 1 + 1 + 1, 0, none⟩), .pointer (some ⟨w.heap.size + 1 + 1, 0, none⟩)]) (encs := encC) (xs := xs) (L := [w.heap.size, w.heap.size + 1]) rfl (enters_of Try.func32 (by kernel_rfl) rfl) hit (fun _ _ => rfl)
    (Held w xs)
    (fun c _ W => match c with
      | .exit id => id = 0 ∧ Stopped w xs W
      | _ => False)
    ?hI ?hIx ?h0 (fun i x a' W => a' = { tmps := #[Value.int IntKind.i64 now, Value.slice a l.length cap, undef, undef, Value.int IntKind.i64 0,
          Value.pointer (some { block := w.heap.size, off := 0 }), Value.pointer (some { block := w.heap.size + 1, off := 0 }), Value.int IntKind.i64 i, Value.int IntKind.i64 x, Value.int IntKind.i64 now, Value.slice a l.length cap,
          Value.func (Fn.func 32) #[] #[Value.pointer (some { block := w.heap.size + 1 + 1 + 1, off := 0 }), Value.pointer (some { block := w.heap.size + 1 + 1, off := 0 })], Value.int IntKind.i64 i, Value.int IntKind.i64 x, undef, undef, undef, undef, undef, undef, undef, undef, undef, undef, undef], defers := [] })
    (fun _ _ _ => own_pure _ _) ?assign ?body ?done ?stop)
  case hI => exact held_own _ _ _ (by omega)
  case hIx =>
    intro c
    cases c with
    | exit id => exact (own_pure _ _).and (stopped_own _ _ _ (by omega))
    | _ => exact own_pure _ _
  case h0 => exact HHB.out
  case assign =>
    rintro l2 i x W K hx' hh hK
    unfold encC
    gi_wp2
    exact hK _ _ (KeepsFrom.refl _ _) (KeepC.refl _ _) hh rfl
  case body =>
    rintro l2 i x a' W hx' ⟨hb, p, f, q1, q2, hp⟩ rfl
    obtain ⟨c1, c2⟩ := facts1 q1
    obtain ⟨d1, d2⟩ := facts1 q2
    have Q1 := Lib.hid q1
    have Q2 := Lib.hid q2
    have HPT := Lib.hid hp
    have HX := Lib.hid hx'
    have hge := (HP.out x (List.mem_of_getElem? hx')).1
    have HB := Lib.hid hb
    clear q1 q2 hp hx' hit hb
    by_cases h0 : x = 0
    · subst h0
      have HLS := Lib.hid ((HPT.out.stop HX.out fun x hx => (HP.out x hx).1).eq)
      gi_wp2
      refine ⟨(KeepsOthers.setCell _ _ _).from _, rfl, HB.out.setCell (p := ⟨w.heap.size, 0, none⟩) (Nat.le_refl _) _, ?_⟩
      rw [HLS.out]
      exact Q1.out.set 0 _
    · have h0b : (x == 0) = false := by simpa using h0
      have h0p : 0 < x := by omega
      clear h0
      by_cases hlt : x < f
      · have HN := Lib.hid (HPT.out.less HX.out h0p hlt)
        gi_wp2
        refine ⟨((KeepsOthers.setCell _ _ _).from _).trans ((KeepsOthers.setCell _ _ _).from _), (KeepC.set _ _ _ _ (by simp)).trans (KeepC.set _ _ _ _ (by simp)), (HB.out.setCell (p := ⟨w.heap.size, 0, none⟩) (Nat.le_refl _) _).setCell (p := ⟨w.heap.size + 1, 0, none⟩) (Nat.le_succ _) _, i, x, ?_, ?_, HN.out⟩
        · exact (Q1.out.set 0 _).setOther _ _ (by omega)
        · exact (Q2.out.setOther _ _ (by omega)).set 0 _
      · have HN := Lib.hid (HPT.out.more HX.out hlt)
        gi_wp2
        exact ⟨KeepsFrom.refl _ _, KeepC.refl _ _, HB.out, p, f, Q1.out, Q2.out, HN.out⟩
  case done =>
    rintro D W hD ⟨hb, p, f, q1, q2, hp⟩ hK
    obtain ⟨c1, c2⟩ := facts1 q1
    have hs := (hp.done (by rw [HL.out]; exact HNE.out) fun x hx => (HP.out x hx).2).eq
    have HS := Lib.hid hs
    have HK := Lib.hid hK
    have HB := Lib.hid hb
    clear hK q1 q2 hs hp hb hit
    simp only [Exit.inBlock, Exit.then]
    go_wp2
    exact leave (v := .int .i64 p) rfl HK.out (by simp [results, Try.results25, go_sem]) ⟨by rw [HS.out], below_put HB.out (by omega) _⟩
  case stop =>
    rintro D c j W hD hI hK
    cases c with
    | exit id =>
      obtain ⟨rfl, hb, q2⟩ := hI
      obtain ⟨d1, d2⟩ := facts1 q2
      have HK := Lib.hid hK
      have HB := Lib.hid hb
      clear hK q2 hb
      refine wpIn_wide.2 ?_
      go_wp2
      exact leave rfl HK.out (by simp [results, Try.results25, go_sem]) ⟨rfl, below_put HB.out (by omega) _⟩
    | _ => exact hI.elim
end Go.Proofs.Ytpjggdmfgoajbaa
