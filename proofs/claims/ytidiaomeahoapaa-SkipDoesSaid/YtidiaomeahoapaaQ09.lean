/- Texts of one kind in one: Range2, Backward, Back2. -/
import Derived.Test.YtidiaomeahoapaaQ08
/- Range: entries of places. -/
namespace Go.Proofs.Ytidiaomeahoapaa
open Go.RowKit Go.Shelf
attribute [local go_sem] Oper.semAt_some

/-- The entries of places. -/
def entsF (F : List Nd) (l : List Nat) : List Ent := l.map fun q => match F[q]? with | some x => (x.m, x.s) | none => (⟨#[]⟩, 0)
theorem steps_zero {F : List Nd} (hp : ∀ i, i < F.length → 0 < lev F i) (q : Nat) : steps F 0 q = List.range' (q + 1) (F.length - (q + 1)) := by
  unfold steps
  refine List.filter_eq_self.2 fun i hi => ?_
  rw [List.mem_range'_1] at hi
  simpa using hp i (by omega)

variable {F : List Nd} {ah : Nat → Value} {n : Int}
theorem range_none (p : Nat) (L : List Nd) (hF : F = hd p :: L) (w : World) (hw : Sk w F (lk0 F) ah n) (f t : Int) (h : min t n ≤ max f 0) : Calls Try.prog 18 #[.pointer (some ⟨p, 0, none⟩), .int .i64 f, .int .i64 t] w fun e w' => e = .returned (.slice none 0 0) ∧ Below w.heap.size w w' := by
  have HP := Lib.hid (part_any p L hF (hw.later ((Below.refl _ _).alloc (Nat.le_refl _) (Obj.cells #[.int .i64 t] 3))) f t)
  generalize max f 0 = a at *
  generalize min t n = b at *
  clear hw hF
  go_enter Try.func18, Try.ntmps18
  go_wp2_with fail
  refine wp_scope_straight ?_
  go_wp2_with fail
  refine HP.out.mono ?_
  rintro e w1 ⟨rfl, rfl⟩
  go_wp2
  rw [Exit.noGoto_ret]
  go_returns
  exact ⟨rfl, (Below.refl _ _).alloc (Nat.le_refl _) _⟩

set_option maxRecDepth 100000 in
set_option maxHeartbeats 4000000 in
theorem range_any (p : Nat) (L : List Nd) (hF : F = hd p :: L) (w : World) (hw : Sk w F (lk0 F) ah n) (hN : F.length ≤ 1000000) (hn : n = L.length) (f t : Int) (a b : Nat) (ha : (a : Int) = max f 0) (hb : (b : Int) = min t n) (hab : a < b) :
    Calls Try.prog 18 #[.pointer (some ⟨p, 0, none⟩), .int .i64 f, .int .i64 t] w fun e w' => ∃ r, e = .returned r ∧ Own32 w' w.heap.size r (entsF F (List.range' (a + 1) (b - a))) ∧ Below w.heap.size w w' := by
  have hFl : F.length = L.length + 1 := by rw [hF]; rfl
  have hbF : b < F.length := by omega
  have hp := lev_pos hw
  have hla := last_zero F hp a (by omega)
  have hix := index71 F a
  rw [hla] at hix
  obtain ⟨x0, hx0⟩ : ∃ x0, F[a]? = some x0 := ⟨_, List.getElem?_eq_getElem (by omega)⟩
  have hax := adr_some hx0
  unfold boxQ at hix
  have h00 : ((0 : Nat) : Int) = 0 := rfl
  simp only [hax, h00] at hix
  clear h00
  have hbx : Below w.heap.size w (w.alloc (.cells #[.int .i64 t] 3)) := (Below.refl _ _).alloc (Nat.le_refl _) _
  have HP := Lib.hid (part_any p L hF (hw.later hbx) f t)
  rw [← ha, ← hb] at HP
  have HT := fun W (hb1 : Below w.heap.size w W) => Lib.hid (toPlace_any p L hF (hw.later hb1) hN a (by omega))
  have hxs := steps_zero hp a
  have hsl : F.length - (a + 1) ≤ F.length := Nat.sub_le _ _
  have HW := Lib.hid hw
  have hab2 : ¬ (b : Int) ≤ a := by omega
  have hlv := hp a (by omega)
  rw [lev_some hx0] at hlv
  generalize wayA F a = WA at *
  refine (callsIn_wide (n := 6)).1 (callsIn_of_wp_marks Try.func18 rfl trivial ?_ rfl)
  refine wpIn_wide.2 ?_
  simp only [Try.ntmps18, List.size_toArray, List.length_cons, List.length_nil, Nat.reduceAdd, Nat.reduceSub, Array.replicate_succ, Array.replicate_zero, List.push_toArray, List.append_toArray, List.nil_append, List.cons_append]
  have hFa : F[0]? = some (hd p) := by rw [hF]; rfl
  clear hw hF ha hb hn hFl
  go_wp2_with fail
  refine wp_scope_straight ?_
  go_wp2_with fail
  refine HP.out.mono ?_
  rintro e w1 ⟨rfl, rfl⟩
  have HBX := Lib.hid hbx
  go_wp2_with fail
  refine wp_label ?_
  have hb1 : Below w.heap.size w ((w.alloc (.cells #[.int .i64 b] 3)).alloc (.cells #[.slice none 0 0] 27)) := ((Below.refl _ _).alloc (Nat.le_refl _) _).alloc (by simp) _
  have HT1 := HT _ hb1
  have k3 := (Blk.new w 3 #[.int .i64 b]).alloc (Obj.cells #[.slice none 0 0] 27)
  have kR := Blk.new (w.alloc (.cells #[.int .i64 b] 3)) 27 #[.slice none 0 0]
  simp only [World.size_alloc] at kR
  have HB1 := Lib.hid hb1
  have H3 := Lib.hid k3
  have HR := Lib.hid kR
  clear HT hb1 k3 kR HP hbx HBX
  go_wp2_with fail
  refine HT1.out.mono ?_
  rintro e w2 ⟨rfl, hb2⟩
  have k3 := H3.out.later hb2
  have kR := HR.out.later hb2
  have hB2 := HB1.out.trans (hb2.mono HB1.out.size)
  clear hb2 HT1 H3 HR HB1
  have HK3 := Lib.hid k3
  have HKR := Lib.hid kR
  have HB2 := Lib.hid hB2
  clear k3 kR hB2
  go_wp2_with fail
  have hz1 := HB2.out.size
  have hzr := HKR.out.lt
  have hS2 := HW.out.later HB2.out
  have hseq := forth_any F ah n w2 0 a x0 (by decide) hx0 hlv hN [] hS2 (by simp) (by simp)
  unfold stp at hseq
  rw [hax, hxs] at hseq
  generalize hxn : F.length - (a + 1) = xn at *
  have hxat : ∀ i x, (List.range' (a + 1) xn)[i]? = some x → x = a + 1 + i ∧ x < F.length ∧ i < xn := fun i x h => by
    obtain ⟨h1, h2⟩ := List.getElem?_eq_some_iff.1 h
    simp at h1 h2
    omega
  refine (wpIn_wide (n := 6)).1 (range_f (gf := 38) (encs := encQ F 0) (xs := List.range' (a + 1) xn) (L := []) rfl (enters_of Try.func38 (by kernel_rfl) rfl) hseq (fun _ _ => rfl)
    (fun i V => ∃ r, (i ≤ b - a ∧ Blk V w.heap.size 3 #[.int .i64 b] ∧ Blk V (w.heap.size + 1) 27 #[r]) ∧ Own32 V (w.heap.size + 2) r (entsF F (List.range' (a + 1) i)) ∧ Below w.heap.size w V)
    (fun c _ V => match c with
      | .exit id => ∃ r, (id = 0 ∧ Blk V (w.heap.size + 1) 27 #[r]) ∧ Own32 V (w.heap.size + 2) r (entsF F (List.range' (a + 1) (b - a))) ∧ Below w.heap.size w V
      | _ => False)
    ?hI ?hIx ?hIa ?hIxa ?h0 (fun _ x a' V => ∃ c, (True ∧ a' = { tmps := #[.pointer (some ⟨p, 0, none⟩), .int .i64 a, .int .i64 t, undef, undef, .pointer (some ⟨w.heap.size, 0, none⟩), .slice none 0 0, .pointer (some ⟨w.heap.size + 1, 0, none⟩), .pointer (some ⟨c, 0, none⟩), .tuple #[.int .i64 a, .int .i64 b], .pointer (some ⟨p, 0, none⟩), .int .i64 f, .int .i64 t, .tuple #[.int .i64 a, .int .i64 b], .int .i64 a, .int .i64 b, .int .i64 a, .int .i64 b, .bool false, .pointer (some ⟨p, 0, none⟩), .int .i64 a, .agg WA, .agg #[.pointer (some ⟨x0.b, 0, none⟩), .int .i64 ((a : Int) - 1), .int .i64 0], .func (.func 38) #[.agg #[.pointer (some ⟨x0.b, 0, none⟩), .int .i64 ((a : Int) - 1), .int .i64 0]] #[], stp F 0 x, undef, undef, undef, undef, undef, undef, undef, undef, undef, undef, undef, undef, undef], defers := [] }) ∧ Blk V c 69 (boxQ F 0 x)) ?hAx ?assign ?body ?done ?stop)
  case hI => exact own_ex fun r => ((own_pure _ _).and ((own_blk _ _ _ _).and (own_blk _ _ _ _))).and ((own_gen _ _ _ _ _).and (own_below _ w hz1))
  case hIx =>
    intro c
    cases c with
    | exit id => exact own_ex fun r => ((own_pure _ _).and (own_blk _ _ _ _)).and ((own_gen _ _ _ _ _).and (own_below _ w hz1))
    | _ => exact own_pure _ _
  case hIa =>
    rintro N hN2 i A B ⟨r, ⟨h1, h2, h3⟩, h4, h5⟩ hab
    exact ⟨r, ⟨h1, h2.aside hab (by omega), h3.aside hab (by omega)⟩, own_aside h4 hab (by decide), ((Far.of_below (S := fun _ => False) h5).aside hab (by omega)).below (fun _ h => h.elim) (Nat.le_refl _)⟩
  case hIxa =>
    rintro c N hN2 i A B h hab
    cases c with
    | exit id =>
      obtain ⟨r, ⟨h1, h3⟩, h4, h5⟩ := h
      exact ⟨r, ⟨h1, h3.aside hab (by omega)⟩, own_aside h4 hab (by decide), ((Far.of_below (S := fun _ => False) h5).aside hab (by omega)).below (fun _ h => h.elim) (Nat.le_refl _)⟩
    | _ => exact h
  case h0 => exact ⟨_, ⟨Nat.zero_le _, HK3.out, HKR.out⟩, World.ownsRow_nil _ _ _ _, HB2.out⟩
  case hAx => exact fun i x a' => own_ex fun c => (own_pure _ _).and (own_blk _ _ _ _)
  case assign =>
    rintro l i x V K' hx' ⟨r, ⟨h1, h2, h3⟩, h4, h5⟩ hK
    obtain ⟨y, hy⟩ : ∃ y, F[x]? = some y := ⟨_, List.getElem?_eq_getElem (hxat i x hx').2.1⟩
    have hay := adr_some hy
    have HK3' := Lib.hid hK
    have HI := Lib.hid (And.intro h1 (And.intro h2 (And.intro h3 (And.intro h4 h5))))
    have hsz2 : w.heap.size + 2 ≤ V.heap.size := h3.lt
    have HKP := Lib.hid hx'
    clear hK h1 h2 h3 h4 h5 hseq hx' hxat hS2
    unfold encQ stp
    rw [hay]
    gi_wp2
    have hbV := (Below.refl V.heap.size V).alloc (Nat.le_refl _) (Obj.cells #[Value.pointer (some ⟨y.b, 0, none⟩), Value.int IntKind.i64 ((x : Int) - 1), Value.int IntKind.i64 0] 69)
    obtain ⟨h1, h2, h3, h4, h5⟩ := HI.out
    refine HK3'.out _ _ (keeps_below hbV) (KeepC.of_below hbV) ⟨r, ⟨h1, h2.later hbV, h3.later hbV⟩, own_later h4 hbV, h5.trans (hbV.mono h5.size)⟩ ⟨V.heap.size, ⟨?_, ?_⟩, ?_⟩
    · trivial
    · unfold stp; rw [hay]; rfl
    · unfold boxQ; rw [hay]; exact Blk.new _ _ _
  case body =>
    rintro l i x a' V hx' ⟨r, ⟨h1, h2, h3⟩, h4, h5⟩ ⟨c, ⟨_, rfl⟩, kc⟩
    obtain ⟨hxe, hxl, hin⟩ := hxat i x hx'
    obtain ⟨y, hy⟩ : ∃ y, F[x]? = some y := ⟨_, List.getElem?_eq_getElem hxl⟩
    have hay := adr_some hy
    have hSV := HW.out.later h5
    obtain ⟨A, hA, hNA⟩ := hSV.node x y hy
    have a0 := (hA.cell 0).trans hNA.m
    have a1 := (hA.cell 1).trans hNA.s
    unfold boxQ at kc
    rw [hay] at kc
    obtain ⟨f0, f1, f2, _, _, _⟩ := facts3 kc
    obtain ⟨d0, d1⟩ := facts1 h2
    obtain ⟨e0, e1⟩ := facts1 h3
    by_cases hib : i = b - a
    · have hge : (b : Int) ≤ (x : Int) - 1 := by omega
      have HH := Lib.hid (And.intro h3 (And.intro h4 h5))
      clear h1 h2 h3 h4 h5 hseq hx' hxat hS2 hSV hA hNA hy a0 a1
      gi_wp2
      obtain ⟨g3, g4, g5⟩ := HH.out
      exact ⟨KeepsFrom.refl _ _, r, ⟨rfl, g3⟩, hib ▸ g4, g5⟩
    · have hge : ¬ (b : Int) ≤ (x : Int) - 1 := by omega
      have hlt3 := h3.lt
      have hmix : Try.prog.follows .mixedOrders = true := by kernel_rfl
      have hel : (entsF F (List.range' (a + 1) i)).length = i := by unfold entsF; simp
      obtain ⟨g, cap, W7, hrun, hown7, hgrow⟩ := app_ent h4 (drewB V 1) (y.m, y.s) (by rw [hel]; omega) (by have := h3.lt; show w.heap.size + 2 ≤ V.heap.size; omega)
      rw [hel] at hrun hown7
      have hR7 := (h3.later (drewB V 1)).grown hgrow (own_later h4 (drewB V 1)) (by decide)
      have h37 := (h2.later (drewB V 1)).grown hgrow (own_later h4 (drewB V 1)) (by decide)
      obtain ⟨t0, t1⟩ := facts1 hR7
      have HH := Lib.hid (And.intro h2 (And.intro h3 (And.intro h4 h5)))
      have HO := Lib.hid hown7
      have HG := Lib.hid hgrow
      have H37 := Lib.hid h37
      have HY := Lib.hid hy
      clear h1 h2 h3 h4 h5 hseq hx' hxat hS2 hSV hA hNA hy kc hown7 hgrow hR7 h37
      gi_wp2
      refine wpIn_region_any hmix ?_
      change wpAnyIn _ _ _ _ _ _ _ _ _ (World.drew _)
      all_goals (first | refine wpAnyIn_ready (rs := [0,1]) (by decide +kernel) (by simp) (AllReadyIn.cons rfl (fun K hK => ?_) (AllReadyIn.cons rfl (fun K hK => ?_) AllReadyIn.nil)) | refine wpAnyIn_ready (rs := [0,2]) (by decide +kernel) (by simp) (AllReadyIn.cons rfl (fun K hK => ?_) (AllReadyIn.cons rfl (fun K hK => ?_) AllReadyIn.nil)) | refine wpAnyIn_ready (rs := [0,3]) (by decide +kernel) (by simp) (AllReadyIn.cons rfl (fun K hK => ?_) (AllReadyIn.cons rfl (fun K hK => ?_) AllReadyIn.nil)) | refine wpAnyIn_ready (rs := [0,4]) (by decide +kernel) (by simp) (AllReadyIn.cons rfl (fun K hK => ?_) (AllReadyIn.cons rfl (fun K hK => ?_) AllReadyIn.nil)) | refine wpAnyIn_ready (rs := [0,5]) (by decide +kernel) (by simp) (AllReadyIn.cons rfl (fun K hK => ?_) (AllReadyIn.cons rfl (fun K hK => ?_) AllReadyIn.nil)) | refine wpAnyIn_ready (rs := [0,6]) (by decide +kernel) (by simp) (AllReadyIn.cons rfl (fun K hK => ?_) (AllReadyIn.cons rfl (fun K hK => ?_) AllReadyIn.nil)) | refine wpAnyIn_ready (rs := [0]) (by decide +kernel) (by simp) (AllReadyIn.cons rfl (fun K hK => ?_) AllReadyIn.nil) | refine wpAnyIn_ready (rs := [1]) (by decide +kernel) (by simp) (AllReadyIn.cons rfl (fun K hK => ?_) AllReadyIn.nil) | refine wpAnyIn_ready (rs := [2]) (by decide +kernel) (by simp) (AllReadyIn.cons rfl (fun K hK => ?_) AllReadyIn.nil) | refine wpAnyIn_ready (rs := [3]) (by decide +kernel) (by simp) (AllReadyIn.cons rfl (fun K hK => ?_) AllReadyIn.nil) | refine wpAnyIn_ready (rs := [4]) (by decide +kernel) (by simp) (AllReadyIn.cons rfl (fun K hK => ?_) AllReadyIn.nil) | refine wpAnyIn_ready (rs := [5]) (by decide +kernel) (by simp) (AllReadyIn.cons rfl (fun K hK => ?_) AllReadyIn.nil) | refine wpAnyIn_ready (rs := [6]) (by decide +kernel) (by simp) (AllReadyIn.cons rfl (fun K hK => ?_) AllReadyIn.nil) | refine wpAnyIn_ready (rs := [7]) (by decide +kernel) (by simp) (AllReadyIn.cons rfl (fun K hK => ?_) AllReadyIn.nil) | refine wpAnyIn_ready (rs := [8]) (by decide +kernel) (by simp) (AllReadyIn.cons rfl (fun K hK => ?_) AllReadyIn.nil))
      all_goals (first | (refine stepIn_append rfl _ _ 27 27 rfl rfl rfl hrun ?_; refine hK _ _ ?_; clear hK K) | (go_simp; refine hK _ _ ?_; clear hK K))
      all_goals (first | refine wpAnyIn_ready (rs := [0,1]) (by decide +kernel) (by simp) (AllReadyIn.cons rfl (fun K hK => ?_) (AllReadyIn.cons rfl (fun K hK => ?_) AllReadyIn.nil)) | refine wpAnyIn_ready (rs := [0,2]) (by decide +kernel) (by simp) (AllReadyIn.cons rfl (fun K hK => ?_) (AllReadyIn.cons rfl (fun K hK => ?_) AllReadyIn.nil)) | refine wpAnyIn_ready (rs := [0,3]) (by decide +kernel) (by simp) (AllReadyIn.cons rfl (fun K hK => ?_) (AllReadyIn.cons rfl (fun K hK => ?_) AllReadyIn.nil)) | refine wpAnyIn_ready (rs := [0,4]) (by decide +kernel) (by simp) (AllReadyIn.cons rfl (fun K hK => ?_) (AllReadyIn.cons rfl (fun K hK => ?_) AllReadyIn.nil)) | refine wpAnyIn_ready (rs := [0,5]) (by decide +kernel) (by simp) (AllReadyIn.cons rfl (fun K hK => ?_) (AllReadyIn.cons rfl (fun K hK => ?_) AllReadyIn.nil)) | refine wpAnyIn_ready (rs := [0,6]) (by decide +kernel) (by simp) (AllReadyIn.cons rfl (fun K hK => ?_) (AllReadyIn.cons rfl (fun K hK => ?_) AllReadyIn.nil)) | refine wpAnyIn_ready (rs := [0]) (by decide +kernel) (by simp) (AllReadyIn.cons rfl (fun K hK => ?_) AllReadyIn.nil) | refine wpAnyIn_ready (rs := [1]) (by decide +kernel) (by simp) (AllReadyIn.cons rfl (fun K hK => ?_) AllReadyIn.nil) | refine wpAnyIn_ready (rs := [2]) (by decide +kernel) (by simp) (AllReadyIn.cons rfl (fun K hK => ?_) AllReadyIn.nil) | refine wpAnyIn_ready (rs := [3]) (by decide +kernel) (by simp) (AllReadyIn.cons rfl (fun K hK => ?_) AllReadyIn.nil) | refine wpAnyIn_ready (rs := [4]) (by decide +kernel) (by simp) (AllReadyIn.cons rfl (fun K hK => ?_) AllReadyIn.nil) | refine wpAnyIn_ready (rs := [5]) (by decide +kernel) (by simp) (AllReadyIn.cons rfl (fun K hK => ?_) AllReadyIn.nil) | refine wpAnyIn_ready (rs := [6]) (by decide +kernel) (by simp) (AllReadyIn.cons rfl (fun K hK => ?_) AllReadyIn.nil) | refine wpAnyIn_ready (rs := [7]) (by decide +kernel) (by simp) (AllReadyIn.cons rfl (fun K hK => ?_) AllReadyIn.nil) | refine wpAnyIn_ready (rs := [8]) (by decide +kernel) (by simp) (AllReadyIn.cons rfl (fun K hK => ?_) AllReadyIn.nil))
      all_goals (first | (refine stepIn_append rfl _ _ 27 27 rfl rfl rfl hrun ?_; refine hK _ _ ?_; clear hK K) | (go_simp; refine hK _ _ ?_; clear hK K))
      all_goals (first | refine wpAnyIn_ready (rs := [0,1]) (by decide +kernel) (by simp) (AllReadyIn.cons rfl (fun K hK => ?_) (AllReadyIn.cons rfl (fun K hK => ?_) AllReadyIn.nil)) | refine wpAnyIn_ready (rs := [0,2]) (by decide +kernel) (by simp) (AllReadyIn.cons rfl (fun K hK => ?_) (AllReadyIn.cons rfl (fun K hK => ?_) AllReadyIn.nil)) | refine wpAnyIn_ready (rs := [0,3]) (by decide +kernel) (by simp) (AllReadyIn.cons rfl (fun K hK => ?_) (AllReadyIn.cons rfl (fun K hK => ?_) AllReadyIn.nil)) | refine wpAnyIn_ready (rs := [0,4]) (by decide +kernel) (by simp) (AllReadyIn.cons rfl (fun K hK => ?_) (AllReadyIn.cons rfl (fun K hK => ?_) AllReadyIn.nil)) | refine wpAnyIn_ready (rs := [0,5]) (by decide +kernel) (by simp) (AllReadyIn.cons rfl (fun K hK => ?_) (AllReadyIn.cons rfl (fun K hK => ?_) AllReadyIn.nil)) | refine wpAnyIn_ready (rs := [0,6]) (by decide +kernel) (by simp) (AllReadyIn.cons rfl (fun K hK => ?_) (AllReadyIn.cons rfl (fun K hK => ?_) AllReadyIn.nil)) | refine wpAnyIn_ready (rs := [0]) (by decide +kernel) (by simp) (AllReadyIn.cons rfl (fun K hK => ?_) AllReadyIn.nil) | refine wpAnyIn_ready (rs := [1]) (by decide +kernel) (by simp) (AllReadyIn.cons rfl (fun K hK => ?_) AllReadyIn.nil) | refine wpAnyIn_ready (rs := [2]) (by decide +kernel) (by simp) (AllReadyIn.cons rfl (fun K hK => ?_) AllReadyIn.nil) | refine wpAnyIn_ready (rs := [3]) (by decide +kernel) (by simp) (AllReadyIn.cons rfl (fun K hK => ?_) AllReadyIn.nil) | refine wpAnyIn_ready (rs := [4]) (by decide +kernel) (by simp) (AllReadyIn.cons rfl (fun K hK => ?_) AllReadyIn.nil) | refine wpAnyIn_ready (rs := [5]) (by decide +kernel) (by simp) (AllReadyIn.cons rfl (fun K hK => ?_) AllReadyIn.nil) | refine wpAnyIn_ready (rs := [6]) (by decide +kernel) (by simp) (AllReadyIn.cons rfl (fun K hK => ?_) AllReadyIn.nil) | refine wpAnyIn_ready (rs := [7]) (by decide +kernel) (by simp) (AllReadyIn.cons rfl (fun K hK => ?_) AllReadyIn.nil) | refine wpAnyIn_ready (rs := [8]) (by decide +kernel) (by simp) (AllReadyIn.cons rfl (fun K hK => ?_) AllReadyIn.nil))
      all_goals (first | (refine stepIn_append rfl _ _ 27 27 rfl rfl rfl hrun ?_; refine hK _ _ ?_; clear hK K) | (go_simp; refine hK _ _ ?_; clear hK K))
      all_goals (first | refine wpAnyIn_ready (rs := [0,1]) (by decide +kernel) (by simp) (AllReadyIn.cons rfl (fun K hK => ?_) (AllReadyIn.cons rfl (fun K hK => ?_) AllReadyIn.nil)) | refine wpAnyIn_ready (rs := [0,2]) (by decide +kernel) (by simp) (AllReadyIn.cons rfl (fun K hK => ?_) (AllReadyIn.cons rfl (fun K hK => ?_) AllReadyIn.nil)) | refine wpAnyIn_ready (rs := [0,3]) (by decide +kernel) (by simp) (AllReadyIn.cons rfl (fun K hK => ?_) (AllReadyIn.cons rfl (fun K hK => ?_) AllReadyIn.nil)) | refine wpAnyIn_ready (rs := [0,4]) (by decide +kernel) (by simp) (AllReadyIn.cons rfl (fun K hK => ?_) (AllReadyIn.cons rfl (fun K hK => ?_) AllReadyIn.nil)) | refine wpAnyIn_ready (rs := [0,5]) (by decide +kernel) (by simp) (AllReadyIn.cons rfl (fun K hK => ?_) (AllReadyIn.cons rfl (fun K hK => ?_) AllReadyIn.nil)) | refine wpAnyIn_ready (rs := [0,6]) (by decide +kernel) (by simp) (AllReadyIn.cons rfl (fun K hK => ?_) (AllReadyIn.cons rfl (fun K hK => ?_) AllReadyIn.nil)) | refine wpAnyIn_ready (rs := [0]) (by decide +kernel) (by simp) (AllReadyIn.cons rfl (fun K hK => ?_) AllReadyIn.nil) | refine wpAnyIn_ready (rs := [1]) (by decide +kernel) (by simp) (AllReadyIn.cons rfl (fun K hK => ?_) AllReadyIn.nil) | refine wpAnyIn_ready (rs := [2]) (by decide +kernel) (by simp) (AllReadyIn.cons rfl (fun K hK => ?_) AllReadyIn.nil) | refine wpAnyIn_ready (rs := [3]) (by decide +kernel) (by simp) (AllReadyIn.cons rfl (fun K hK => ?_) AllReadyIn.nil) | refine wpAnyIn_ready (rs := [4]) (by decide +kernel) (by simp) (AllReadyIn.cons rfl (fun K hK => ?_) AllReadyIn.nil) | refine wpAnyIn_ready (rs := [5]) (by decide +kernel) (by simp) (AllReadyIn.cons rfl (fun K hK => ?_) AllReadyIn.nil) | refine wpAnyIn_ready (rs := [6]) (by decide +kernel) (by simp) (AllReadyIn.cons rfl (fun K hK => ?_) AllReadyIn.nil) | refine wpAnyIn_ready (rs := [7]) (by decide +kernel) (by simp) (AllReadyIn.cons rfl (fun K hK => ?_) AllReadyIn.nil) | refine wpAnyIn_ready (rs := [8]) (by decide +kernel) (by simp) (AllReadyIn.cons rfl (fun K hK => ?_) AllReadyIn.nil))
      all_goals (first | (refine stepIn_append rfl _ _ 27 27 rfl rfl rfl hrun ?_; refine hK _ _ ?_; clear hK K) | (go_simp; refine hK _ _ ?_; clear hK K))
      all_goals (first | refine wpAnyIn_ready (rs := [0,1]) (by decide +kernel) (by simp) (AllReadyIn.cons rfl (fun K hK => ?_) (AllReadyIn.cons rfl (fun K hK => ?_) AllReadyIn.nil)) | refine wpAnyIn_ready (rs := [0,2]) (by decide +kernel) (by simp) (AllReadyIn.cons rfl (fun K hK => ?_) (AllReadyIn.cons rfl (fun K hK => ?_) AllReadyIn.nil)) | refine wpAnyIn_ready (rs := [0,3]) (by decide +kernel) (by simp) (AllReadyIn.cons rfl (fun K hK => ?_) (AllReadyIn.cons rfl (fun K hK => ?_) AllReadyIn.nil)) | refine wpAnyIn_ready (rs := [0,4]) (by decide +kernel) (by simp) (AllReadyIn.cons rfl (fun K hK => ?_) (AllReadyIn.cons rfl (fun K hK => ?_) AllReadyIn.nil)) | refine wpAnyIn_ready (rs := [0,5]) (by decide +kernel) (by simp) (AllReadyIn.cons rfl (fun K hK => ?_) (AllReadyIn.cons rfl (fun K hK => ?_) AllReadyIn.nil)) | refine wpAnyIn_ready (rs := [0,6]) (by decide +kernel) (by simp) (AllReadyIn.cons rfl (fun K hK => ?_) (AllReadyIn.cons rfl (fun K hK => ?_) AllReadyIn.nil)) | refine wpAnyIn_ready (rs := [0]) (by decide +kernel) (by simp) (AllReadyIn.cons rfl (fun K hK => ?_) AllReadyIn.nil) | refine wpAnyIn_ready (rs := [1]) (by decide +kernel) (by simp) (AllReadyIn.cons rfl (fun K hK => ?_) AllReadyIn.nil) | refine wpAnyIn_ready (rs := [2]) (by decide +kernel) (by simp) (AllReadyIn.cons rfl (fun K hK => ?_) AllReadyIn.nil) | refine wpAnyIn_ready (rs := [3]) (by decide +kernel) (by simp) (AllReadyIn.cons rfl (fun K hK => ?_) AllReadyIn.nil) | refine wpAnyIn_ready (rs := [4]) (by decide +kernel) (by simp) (AllReadyIn.cons rfl (fun K hK => ?_) AllReadyIn.nil) | refine wpAnyIn_ready (rs := [5]) (by decide +kernel) (by simp) (AllReadyIn.cons rfl (fun K hK => ?_) AllReadyIn.nil) | refine wpAnyIn_ready (rs := [6]) (by decide +kernel) (by simp) (AllReadyIn.cons rfl (fun K hK => ?_) AllReadyIn.nil) | refine wpAnyIn_ready (rs := [7]) (by decide +kernel) (by simp) (AllReadyIn.cons rfl (fun K hK => ?_) AllReadyIn.nil) | refine wpAnyIn_ready (rs := [8]) (by decide +kernel) (by simp) (AllReadyIn.cons rfl (fun K hK => ?_) AllReadyIn.nil))
      all_goals (first | (refine stepIn_append rfl _ _ 27 27 rfl rfl rfl hrun ?_; refine hK _ _ ?_; clear hK K) | (go_simp; refine hK _ _ ?_; clear hK K))
      all_goals (first | refine wpAnyIn_ready (rs := [0,1]) (by decide +kernel) (by simp) (AllReadyIn.cons rfl (fun K hK => ?_) (AllReadyIn.cons rfl (fun K hK => ?_) AllReadyIn.nil)) | refine wpAnyIn_ready (rs := [0,2]) (by decide +kernel) (by simp) (AllReadyIn.cons rfl (fun K hK => ?_) (AllReadyIn.cons rfl (fun K hK => ?_) AllReadyIn.nil)) | refine wpAnyIn_ready (rs := [0,3]) (by decide +kernel) (by simp) (AllReadyIn.cons rfl (fun K hK => ?_) (AllReadyIn.cons rfl (fun K hK => ?_) AllReadyIn.nil)) | refine wpAnyIn_ready (rs := [0,4]) (by decide +kernel) (by simp) (AllReadyIn.cons rfl (fun K hK => ?_) (AllReadyIn.cons rfl (fun K hK => ?_) AllReadyIn.nil)) | refine wpAnyIn_ready (rs := [0,5]) (by decide +kernel) (by simp) (AllReadyIn.cons rfl (fun K hK => ?_) (AllReadyIn.cons rfl (fun K hK => ?_) AllReadyIn.nil)) | refine wpAnyIn_ready (rs := [0,6]) (by decide +kernel) (by simp) (AllReadyIn.cons rfl (fun K hK => ?_) (AllReadyIn.cons rfl (fun K hK => ?_) AllReadyIn.nil)) | refine wpAnyIn_ready (rs := [0]) (by decide +kernel) (by simp) (AllReadyIn.cons rfl (fun K hK => ?_) AllReadyIn.nil) | refine wpAnyIn_ready (rs := [1]) (by decide +kernel) (by simp) (AllReadyIn.cons rfl (fun K hK => ?_) AllReadyIn.nil) | refine wpAnyIn_ready (rs := [2]) (by decide +kernel) (by simp) (AllReadyIn.cons rfl (fun K hK => ?_) AllReadyIn.nil) | refine wpAnyIn_ready (rs := [3]) (by decide +kernel) (by simp) (AllReadyIn.cons rfl (fun K hK => ?_) AllReadyIn.nil) | refine wpAnyIn_ready (rs := [4]) (by decide +kernel) (by simp) (AllReadyIn.cons rfl (fun K hK => ?_) AllReadyIn.nil) | refine wpAnyIn_ready (rs := [5]) (by decide +kernel) (by simp) (AllReadyIn.cons rfl (fun K hK => ?_) AllReadyIn.nil) | refine wpAnyIn_ready (rs := [6]) (by decide +kernel) (by simp) (AllReadyIn.cons rfl (fun K hK => ?_) AllReadyIn.nil) | refine wpAnyIn_ready (rs := [7]) (by decide +kernel) (by simp) (AllReadyIn.cons rfl (fun K hK => ?_) AllReadyIn.nil) | refine wpAnyIn_ready (rs := [8]) (by decide +kernel) (by simp) (AllReadyIn.cons rfl (fun K hK => ?_) AllReadyIn.nil))
      all_goals (first | (refine stepIn_append rfl _ _ 27 27 rfl rfl rfl hrun ?_; refine hK _ _ ?_; clear hK K) | (go_simp; refine hK _ _ ?_; clear hK K))
      all_goals (first | refine wpAnyIn_ready (rs := [0,1]) (by decide +kernel) (by simp) (AllReadyIn.cons rfl (fun K hK => ?_) (AllReadyIn.cons rfl (fun K hK => ?_) AllReadyIn.nil)) | refine wpAnyIn_ready (rs := [0,2]) (by decide +kernel) (by simp) (AllReadyIn.cons rfl (fun K hK => ?_) (AllReadyIn.cons rfl (fun K hK => ?_) AllReadyIn.nil)) | refine wpAnyIn_ready (rs := [0,3]) (by decide +kernel) (by simp) (AllReadyIn.cons rfl (fun K hK => ?_) (AllReadyIn.cons rfl (fun K hK => ?_) AllReadyIn.nil)) | refine wpAnyIn_ready (rs := [0,4]) (by decide +kernel) (by simp) (AllReadyIn.cons rfl (fun K hK => ?_) (AllReadyIn.cons rfl (fun K hK => ?_) AllReadyIn.nil)) | refine wpAnyIn_ready (rs := [0,5]) (by decide +kernel) (by simp) (AllReadyIn.cons rfl (fun K hK => ?_) (AllReadyIn.cons rfl (fun K hK => ?_) AllReadyIn.nil)) | refine wpAnyIn_ready (rs := [0,6]) (by decide +kernel) (by simp) (AllReadyIn.cons rfl (fun K hK => ?_) (AllReadyIn.cons rfl (fun K hK => ?_) AllReadyIn.nil)) | refine wpAnyIn_ready (rs := [0]) (by decide +kernel) (by simp) (AllReadyIn.cons rfl (fun K hK => ?_) AllReadyIn.nil) | refine wpAnyIn_ready (rs := [1]) (by decide +kernel) (by simp) (AllReadyIn.cons rfl (fun K hK => ?_) AllReadyIn.nil) | refine wpAnyIn_ready (rs := [2]) (by decide +kernel) (by simp) (AllReadyIn.cons rfl (fun K hK => ?_) AllReadyIn.nil) | refine wpAnyIn_ready (rs := [3]) (by decide +kernel) (by simp) (AllReadyIn.cons rfl (fun K hK => ?_) AllReadyIn.nil) | refine wpAnyIn_ready (rs := [4]) (by decide +kernel) (by simp) (AllReadyIn.cons rfl (fun K hK => ?_) AllReadyIn.nil) | refine wpAnyIn_ready (rs := [5]) (by decide +kernel) (by simp) (AllReadyIn.cons rfl (fun K hK => ?_) AllReadyIn.nil) | refine wpAnyIn_ready (rs := [6]) (by decide +kernel) (by simp) (AllReadyIn.cons rfl (fun K hK => ?_) AllReadyIn.nil) | refine wpAnyIn_ready (rs := [7]) (by decide +kernel) (by simp) (AllReadyIn.cons rfl (fun K hK => ?_) AllReadyIn.nil) | refine wpAnyIn_ready (rs := [8]) (by decide +kernel) (by simp) (AllReadyIn.cons rfl (fun K hK => ?_) AllReadyIn.nil))
      all_goals (first | (refine stepIn_append rfl _ _ 27 27 rfl rfl rfl hrun ?_; refine hK _ _ ?_; clear hK K) | (go_simp; refine hK _ _ ?_; clear hK K))
      all_goals (first | refine wpAnyIn_ready (rs := [0,1]) (by decide +kernel) (by simp) (AllReadyIn.cons rfl (fun K hK => ?_) (AllReadyIn.cons rfl (fun K hK => ?_) AllReadyIn.nil)) | refine wpAnyIn_ready (rs := [0,2]) (by decide +kernel) (by simp) (AllReadyIn.cons rfl (fun K hK => ?_) (AllReadyIn.cons rfl (fun K hK => ?_) AllReadyIn.nil)) | refine wpAnyIn_ready (rs := [0,3]) (by decide +kernel) (by simp) (AllReadyIn.cons rfl (fun K hK => ?_) (AllReadyIn.cons rfl (fun K hK => ?_) AllReadyIn.nil)) | refine wpAnyIn_ready (rs := [0,4]) (by decide +kernel) (by simp) (AllReadyIn.cons rfl (fun K hK => ?_) (AllReadyIn.cons rfl (fun K hK => ?_) AllReadyIn.nil)) | refine wpAnyIn_ready (rs := [0,5]) (by decide +kernel) (by simp) (AllReadyIn.cons rfl (fun K hK => ?_) (AllReadyIn.cons rfl (fun K hK => ?_) AllReadyIn.nil)) | refine wpAnyIn_ready (rs := [0,6]) (by decide +kernel) (by simp) (AllReadyIn.cons rfl (fun K hK => ?_) (AllReadyIn.cons rfl (fun K hK => ?_) AllReadyIn.nil)) | refine wpAnyIn_ready (rs := [0]) (by decide +kernel) (by simp) (AllReadyIn.cons rfl (fun K hK => ?_) AllReadyIn.nil) | refine wpAnyIn_ready (rs := [1]) (by decide +kernel) (by simp) (AllReadyIn.cons rfl (fun K hK => ?_) AllReadyIn.nil) | refine wpAnyIn_ready (rs := [2]) (by decide +kernel) (by simp) (AllReadyIn.cons rfl (fun K hK => ?_) AllReadyIn.nil) | refine wpAnyIn_ready (rs := [3]) (by decide +kernel) (by simp) (AllReadyIn.cons rfl (fun K hK => ?_) AllReadyIn.nil) | refine wpAnyIn_ready (rs := [4]) (by decide +kernel) (by simp) (AllReadyIn.cons rfl (fun K hK => ?_) AllReadyIn.nil) | refine wpAnyIn_ready (rs := [5]) (by decide +kernel) (by simp) (AllReadyIn.cons rfl (fun K hK => ?_) AllReadyIn.nil) | refine wpAnyIn_ready (rs := [6]) (by decide +kernel) (by simp) (AllReadyIn.cons rfl (fun K hK => ?_) AllReadyIn.nil) | refine wpAnyIn_ready (rs := [7]) (by decide +kernel) (by simp) (AllReadyIn.cons rfl (fun K hK => ?_) AllReadyIn.nil) | refine wpAnyIn_ready (rs := [8]) (by decide +kernel) (by simp) (AllReadyIn.cons rfl (fun K hK => ?_) AllReadyIn.nil))
      all_goals (first | (refine stepIn_append rfl _ _ 27 27 rfl rfl rfl hrun ?_; refine hK _ _ ?_; clear hK K) | (go_simp; refine hK _ _ ?_; clear hK K))
      all_goals (first | refine wpAnyIn_ready (rs := [0,1]) (by decide +kernel) (by simp) (AllReadyIn.cons rfl (fun K hK => ?_) (AllReadyIn.cons rfl (fun K hK => ?_) AllReadyIn.nil)) | refine wpAnyIn_ready (rs := [0,2]) (by decide +kernel) (by simp) (AllReadyIn.cons rfl (fun K hK => ?_) (AllReadyIn.cons rfl (fun K hK => ?_) AllReadyIn.nil)) | refine wpAnyIn_ready (rs := [0,3]) (by decide +kernel) (by simp) (AllReadyIn.cons rfl (fun K hK => ?_) (AllReadyIn.cons rfl (fun K hK => ?_) AllReadyIn.nil)) | refine wpAnyIn_ready (rs := [0,4]) (by decide +kernel) (by simp) (AllReadyIn.cons rfl (fun K hK => ?_) (AllReadyIn.cons rfl (fun K hK => ?_) AllReadyIn.nil)) | refine wpAnyIn_ready (rs := [0,5]) (by decide +kernel) (by simp) (AllReadyIn.cons rfl (fun K hK => ?_) (AllReadyIn.cons rfl (fun K hK => ?_) AllReadyIn.nil)) | refine wpAnyIn_ready (rs := [0,6]) (by decide +kernel) (by simp) (AllReadyIn.cons rfl (fun K hK => ?_) (AllReadyIn.cons rfl (fun K hK => ?_) AllReadyIn.nil)) | refine wpAnyIn_ready (rs := [0]) (by decide +kernel) (by simp) (AllReadyIn.cons rfl (fun K hK => ?_) AllReadyIn.nil) | refine wpAnyIn_ready (rs := [1]) (by decide +kernel) (by simp) (AllReadyIn.cons rfl (fun K hK => ?_) AllReadyIn.nil) | refine wpAnyIn_ready (rs := [2]) (by decide +kernel) (by simp) (AllReadyIn.cons rfl (fun K hK => ?_) AllReadyIn.nil) | refine wpAnyIn_ready (rs := [3]) (by decide +kernel) (by simp) (AllReadyIn.cons rfl (fun K hK => ?_) AllReadyIn.nil) | refine wpAnyIn_ready (rs := [4]) (by decide +kernel) (by simp) (AllReadyIn.cons rfl (fun K hK => ?_) AllReadyIn.nil) | refine wpAnyIn_ready (rs := [5]) (by decide +kernel) (by simp) (AllReadyIn.cons rfl (fun K hK => ?_) AllReadyIn.nil) | refine wpAnyIn_ready (rs := [6]) (by decide +kernel) (by simp) (AllReadyIn.cons rfl (fun K hK => ?_) AllReadyIn.nil) | refine wpAnyIn_ready (rs := [7]) (by decide +kernel) (by simp) (AllReadyIn.cons rfl (fun K hK => ?_) AllReadyIn.nil) | refine wpAnyIn_ready (rs := [8]) (by decide +kernel) (by simp) (AllReadyIn.cons rfl (fun K hK => ?_) AllReadyIn.nil))
      all_goals (first | (refine stepIn_append rfl _ _ 27 27 rfl rfl rfl hrun ?_; refine hK _ _ ?_; clear hK K) | (go_simp; refine hK _ _ ?_; clear hK K))
      all_goals refine wpAnyIn_done (by decide +kernel) ?_ _
      all_goals gi_wp2
      all_goals (
        obtain ⟨g2, g3, g4, g5⟩ := HH.out
        obtain ⟨z1, z2, z3, z4, z5⟩ := app_end g3 g4 (drewB V 1) HG.out HO.out (Nat.lt_succ_self _) g5 (Nat.le_succ _) (by decide) (by simp [itT]) (by simp [itT]) w2.heap.size []
        refine ⟨z1, z2, _, ⟨by omega, H37.out.setOther 0 _ (Nat.ne_of_lt (Nat.lt_succ_self _)), z4⟩, ?_, z3⟩
        have he : entsF F (List.range' (a + 1) (i + 1)) = entsF F (List.range' (a + 1) i) ++ [(y.m, y.s)] := by
          unfold entsF
          rw [List.range'_concat, List.map_append, Nat.one_mul, ← hxe]
          simp [HY.out]
        rw [he]
        exact z5)
  case done =>
    rintro Dd V hD ⟨r, ⟨h1, h2, h3⟩, h4, h5⟩ hVD
    clear hseq
    have hlen : (List.range' (a + 1) xn).length = b - a := by simp at h1 ⊢; omega
    rw [hlen] at h4
    obtain ⟨g0, g1⟩ := facts1 h3
    have HK := Lib.hid hVD
    have HO := Lib.hid h4
    have H5 := Lib.hid h5
    clear h1 h2 h3 h4 h5 hVD
    simp only [Exit.inBlock, Exit.then]
    go_wp2
    have hfin : (V.putObj Dd (.deferred none)).ownsRow w.heap.size 32 2 r _ _ := own_mono (ownsRow_putObj HO.out _ HK.out rfl) (by omega)
    rw [Exit.noGoto_ret]
    exact leave (v := r) rfl HK.out (by simp [results, Try.results18, go_sem]) ⟨_, rfl, hfin, below_put H5.out (by omega) _⟩
  case stop =>
    rintro Dd c i V hD h hVD
    cases c with
    | exit id =>
      obtain ⟨r, ⟨rfl, h3⟩, h4, h5⟩ := h
      clear hseq
      obtain ⟨g0, g1⟩ := facts1 h3
      have HK := Lib.hid hVD
      have HO := Lib.hid h4
      have H5 := Lib.hid h5
      clear h3 h4 h5 hVD
      refine wpIn_wide.2 ?_
      go_wp2
      have hfin : (V.putObj Dd (.deferred none)).ownsRow w.heap.size 32 2 r _ _ := own_mono (ownsRow_putObj HO.out _ HK.out rfl) (by omega)
      rw [Exit.noGoto_ret]
      exact leave (v := r) rfl HK.out (by simp [results, Try.results18, go_sem]) ⟨_, rfl, hfin, below_put H5.out (by omega) _⟩
    | _ => exact h.elim
end Go.Proofs.Ytidiaomeahoapaa
/- back: the nodes from a step on to the first one. -/
namespace Go.Proofs.Ytidiaomeahoapaa
open Go.RowKit Go.Shelf
attribute [local go_sem] Oper.semAt_some

def downs : Nat → List Nat
  | 0 => []
  | q + 1 => (q + 1) :: downs q
theorem downs_len : ∀ q, (downs q).length = q
  | 0 => rfl
  | q + 1 => by simp [downs, downs_len q]
theorem downs_at : ∀ (q i x : Nat), (downs q)[i]? = some x → x + i = q ∧ 0 < x
  | 0, i, x, h => by simp [downs] at h
  | q + 1, 0, x, h => by simp [downs] at h; omega
  | q + 1, i + 1, x, h => by
    have := downs_at q i x (by simpa [downs] using h)
    omega

set_option maxRecDepth 100000 in
set_option maxHeartbeats 4000000 in
theorem back_seq (F : List Nd) (n : Int) (w : World) (q0 : Nat) (x0 : Nd) (hx0 : F[q0]? = some x0) (hN : F.length ≤ 1000000) (L : List Nat) (hw : Sk w F (lk0 F) (ah0 F) n) (hL : ∀ b ∈ L, ¬ isB F b) (hL2 : ∀ b ∈ L, b < w.heap.size) :
    SeqF Try.prog 42 #[stp F 0 q0] #[] (encQ F 0) (downs q0) L w := by
  intro l J Jx W hW hJ hJx hY hJ0
  refine callsIn_of_wp Try.func42 rfl trivial ?_ rfl
  unfold stp
  simp only [Try.ntmps42, List.size_toArray, List.length_cons, List.length_nil, Nat.reduceAdd, Nat.reduceSub, Array.replicate_succ, Array.replicate_zero, List.push_toArray, List.append_toArray, List.nil_append, List.cons_append, List.append_nil]
  have h00 : ((0 : Nat) : Int) = 0 := rfl
  have HY := Lib.hid hY
  have HJ := Lib.hid hJ
  have HW := Lib.hid (hw.later hW)
  have HL := Lib.hid hL
  have hL2' : ∀ b ∈ L, b < W.heap.size := fun b hb => Nat.lt_of_lt_of_le (hL2 b hb) hW.size
  have HL2 := Lib.hid hL2'
  have HX0 := Lib.hid hx0
  have HJ0 := Lib.hid (hJ 0 W (W.alloc (.cells (boxQ F 0 q0) 69)) hJ0 (Aside.of_below ((Below.refl _ _).alloc (Nat.le_refl _) _)))
  clear hY hJ hJx hW hL hL2 hw hx0 hJ0 hL2'
  rw [h00]
  gi_wp2
  gi_loopw [4] (fun _ wr => ∃ (i q : Nat) (x : Nd), F[q]? = some x ∧ Blk wr W.heap.size 69 (boxQ F 0 q) ∧ (downs q0).drop i = downs q ∧ i ≤ (downs q0).length ∧ J i wr ∧ Sk wr F (lk0 F) (ah0 F) n ∧ W.heap.size ≤ wr.heap.size)
    (fun _ wr => (placeAt wr W.heap.size + 1).toNat)
  case atStart =>
    refine ⟨0, q0, x0, HX0.out, Blk.new _ _ _, rfl, Nat.zero_le _, HJ0.out, HW.out.later ((Below.refl _ _).alloc (Nat.le_refl _) _), by simp⟩
  case round =>
    obtain ⟨i, q, x, hx, kb, hd, hi, hJi, hS, hsz⟩ := hrel
    have hql : q < F.length := (List.getElem?_eq_some_iff.1 hx).1
    have hpl : placeAt wr W.heap.size = (q : Int) - 1 := by unfold placeAt; rw [kb.cell 1]; rfl
    have hae := adr_some hx
    have KB := Lib.hid kb
    have HS := Lib.hid hS
    unfold boxQ at kb
    rw [hae, h00] at kb
    obtain ⟨f0, f1, f2, f3, f4, f5⟩ := facts3 kb
    clear kb hS
    by_cases hq0 : q = 0
    · subst hq0
      have hneg : ¬ (0 : Int) ≤ ((0 : Nat) : Int) - 1 := by omega
      rw [show downs 0 = [] from rfl] at hd
      have hie : i = (downs q0).length := by
        have := congrArg List.length hd
        simp only [List.length_drop, List.length_nil] at this
        omega
      have HJI := Lib.hid hJi
      clear hJi hd
      gi_wp2
      refine ⟨fun _ h => (by cases h), ?_⟩
      gi_wp2
      go_end0
      exact ⟨⟨_, rfl⟩, .inl (hie ▸ HJI.out)⟩
    · obtain ⟨q, rfl⟩ : ∃ j, q = j + 1 := ⟨q - 1, by omega⟩
      have hpos : (0 : Int) ≤ ((q + 1 : Nat) : Int) - 1 := by omega
      rw [show downs (q + 1) = (q + 1) :: downs q from rfl] at hd
      have hil : (downs q0)[i]? = some (q + 1) := by
        have := congrArg (fun l => l[0]?) hd
        simpa using this
      have HD2 : (downs q0).drop (i + 1) = downs q := by
        have := congrArg (List.drop 1) hd
        simpa using this
      have HLE := Lib.hid (List.getElem?_eq_some_iff.1 hil).1
      obtain ⟨fn, tmps, assign, body, hy2, hR⟩ := HY.out i _ wr hil hJi
      unfold encQ stp at hy2
      have hq1 : ((q + 1 : Nat) : Int) - 1 = q := by omega
      rw [hae, h00, hq1] at hy2
      rw [hq1] at f1 hpl
      clear hpos hq0
      have HX := Lib.hid hx
      clear hil hd hi hx
      gi_wp2_with fail
      (try refine ⟨fun _ => by decide, ?_⟩)
      refine hR.mono ?_
      rintro e W3 (⟨rfl, hJ3, hk3⟩ | ⟨rfl, hJx3⟩)
      · have k3 := KB.out.keep hk3 (fun e => Nat.lt_irrefl _ (HL2.out _ e))
        have S3 := HS.out.keep hk3 HL.out
        obtain ⟨A, hA, hNA⟩ := S3.node (q + 1) x HX.out
        have ca := (hA.cell 2).trans hNA.a
        obtain ⟨z, hz⟩ : ∃ z, F[q]? = some z := ⟨_, List.getElem?_eq_getElem (by omega)⟩
        rw [show ah0 F (q + 1) = adr F q by unfold ah0; rw [if_neg (by omega)]; rfl, adr_some hz] at ca
        have haz := adr_some hz
        have K3 := Lib.hid k3
        have HS3 := Lib.hid S3
        unfold boxQ at k3
        rw [hae, h00, hq1] at k3
        clear f0 f1 f2 f3 f4 f5
        obtain ⟨f0, f1, f2, f3, f4, f5⟩ := facts3 k3
        have HZ := Lib.hid hz
        have hs3 := hk3.size
        clear hR hy2 k3 S3 hA hNA hz
        gi_wp2_with fail
        gi_region
        have q1 := K3.out
        have q2 := q1.set 0 (.pointer (some ⟨z.b, 0, none⟩))
        have q3 := q2.set 1 (.int .i64 ((q : Int) - 1))
        have q4 := (q3.set 2 (.int .i64 0)).drew
        have hAs : Aside W.heap.size W3 (((W3.setCell ⟨W.heap.size, 0, none⟩ (.pointer (some ⟨z.b, 0, none⟩))).setCell ⟨W.heap.size, 1, none⟩ (.int .i64 ((q : Int) - 1))).setCell ⟨W.heap.size, 2, none⟩ (.int .i64 0)).drew :=
          (Aside.set _ _ _ _ q1 (Nat.le_refl _)).trans ((Aside.set _ _ _ _ q2 (Nat.le_refl _)).trans ((Aside.set _ _ _ _ q3 (Nat.le_refl _)).trans (Aside.of_below (drewB _ 1))))
        have kq : Blk (((W3.setCell ⟨W.heap.size, 0, none⟩ (.pointer (some ⟨z.b, 0, none⟩))).setCell ⟨W.heap.size, 1, none⟩ (.int .i64 ((q : Int) - 1))).setCell ⟨W.heap.size, 2, none⟩ (.int .i64 0)).drew W.heap.size 69 (boxQ F 0 q) := by
          unfold boxQ
          rw [haz]
          exact q4
        have hpl3 : placeAt (((W3.setCell ⟨W.heap.size, 0, none⟩ (.pointer (some ⟨z.b, 0, none⟩))).setCell ⟨W.heap.size, 1, none⟩ (.int .i64 ((q : Int) - 1))).setCell ⟨W.heap.size, 2, none⟩ (.int .i64 0)).drew W.heap.size = (q : Int) - 1 := by unfold placeAt; rw [kq.cell 1]; rfl
        have HJ4 := HJ.out (i + 1) W3 _ hJ3 hAs
        have HS4 := HS3.out.aside hAs
        have hz4 := hAs.size
        generalize (((W3.setCell ⟨W.heap.size, 0, none⟩ (.pointer (some ⟨z.b, 0, none⟩))).setCell ⟨W.heap.size, 1, none⟩ (.int .i64 ((q : Int) - 1))).setCell ⟨W.heap.size, 2, none⟩ (.int .i64 0)).drew = W4 at *
        clear f0 f1 f2 f3 f4 f5 ca q1 q2 q3 q4 hAs
        have KQ := Lib.hid kq
        have HS5 := Lib.hid HS4
        clear kq HS4
        gi_wp2
        refine ⟨⟨i + 1, q, z, HZ.out, KQ.out, HD2, HLE.out, HJ4, HS5.out, by omega⟩, ?_⟩
        rw [hpl, hpl3]
        omega
      · clear hR hy2
        gi_wp2
        go_end0
        exact ⟨⟨_, rfl⟩, .inr ⟨_, hJx3⟩⟩
end Go.Proofs.Ytidiaomeahoapaa
/- Back: entries of places, the last one first. -/
namespace Go.Proofs.Ytidiaomeahoapaa
open Go.RowKit Go.Shelf
attribute [local go_sem] Oper.semAt_some

variable {F : List Nd} {n : Int}
theorem back_none (p : Nat) (L : List Nd) (hF : F = hd p :: L) (w : World) (hw : Sk w F (lk0 F) (ah0 F) n) (f t : Int) (h : min t n ≤ max f 0) : Calls Try.prog 26 #[.pointer (some ⟨p, 0, none⟩), .int .i64 f, .int .i64 t] w fun e w' => e = .returned (.slice none 0 0) ∧ Below w.heap.size w w' := by
  have HP := Lib.hid (part_any p L hF (hw.later ((Below.refl _ _).alloc (Nat.le_refl _) (Obj.cells #[.int .i64 f] 3))) f t)
  generalize max f 0 = a at *
  generalize min t n = b at *
  clear hw hF
  go_enter Try.func26, Try.ntmps26
  go_wp2_with fail
  refine wp_scope_straight ?_
  go_wp2_with fail
  refine HP.out.mono ?_
  rintro e w1 ⟨rfl, rfl⟩
  go_wp2
  rw [Exit.noGoto_ret]
  go_returns
  exact ⟨rfl, (Below.refl _ _).alloc (Nat.le_refl _) _⟩

set_option maxRecDepth 100000 in
set_option maxHeartbeats 4000000 in
theorem back_any (p : Nat) (L : List Nd) (hF : F = hd p :: L) (w : World) (hw : Sk w F (lk0 F) (ah0 F) n) (hN : F.length ≤ 1000000) (hn : n = L.length) (f t : Int) (a b : Nat) (ha : (a : Int) = max f 0) (hb : (b : Int) = min t n) (hab : a < b) :
    Calls Try.prog 26 #[.pointer (some ⟨p, 0, none⟩), .int .i64 f, .int .i64 t] w fun e w' => ∃ r, e = .returned r ∧ Own32 w' w.heap.size r (entsF F ((downs b).take (b - a))) ∧ Below w.heap.size w w' := by
  have hFl : F.length = L.length + 1 := by rw [hF]; rfl
  have hbF : b < F.length := by omega
  have hp := lev_pos hw
  have hla := last_zero F hp b (by omega)
  have hix := index71 F b
  rw [hla] at hix
  obtain ⟨x0, hx0⟩ : ∃ x0, F[b]? = some x0 := ⟨_, List.getElem?_eq_getElem (by omega)⟩
  have hax := adr_some hx0
  unfold boxQ at hix
  have h00 : ((0 : Nat) : Int) = 0 := rfl
  simp only [hax, h00] at hix
  clear h00
  have hbx : Below w.heap.size w (w.alloc (.cells #[.int .i64 f] 3)) := (Below.refl _ _).alloc (Nat.le_refl _) _
  have HP := Lib.hid (part_any p L hF (hw.later hbx) f t)
  rw [← ha, ← hb] at HP
  have HT := fun W (hb1 : Below w.heap.size w W) => Lib.hid (toPlace_any p L hF (hw.later hb1) hN b (by omega))
  have HW := Lib.hid hw
  have hab2 : ¬ (b : Int) ≤ a := by omega
  generalize wayA F b = WA at *
  refine (callsIn_wide (n := 6)).1 (callsIn_of_wp_marks Try.func26 rfl trivial ?_ rfl)
  refine wpIn_wide.2 ?_
  simp only [Try.ntmps26, List.size_toArray, List.length_cons, List.length_nil, Nat.reduceAdd, Nat.reduceSub, Array.replicate_succ, Array.replicate_zero, List.push_toArray, List.append_toArray, List.nil_append, List.cons_append]
  have hFa : F[0]? = some (hd p) := by rw [hF]; rfl
  clear hw hF ha hb hn hFl
  go_wp2_with fail
  refine wp_scope_straight ?_
  go_wp2_with fail
  refine HP.out.mono ?_
  rintro e w1 ⟨rfl, rfl⟩
  have HBX := Lib.hid hbx
  go_wp2_with fail
  refine wp_label ?_
  have hb1 : Below w.heap.size w ((w.alloc (.cells #[.int .i64 a] 3)).alloc (.cells #[.slice none 0 0] 27)) := ((Below.refl _ _).alloc (Nat.le_refl _) _).alloc (by simp) _
  have HT1 := HT _ hb1
  have k3 := (Blk.new w 3 #[.int .i64 a]).alloc (Obj.cells #[.slice none 0 0] 27)
  have kR := Blk.new (w.alloc (.cells #[.int .i64 a] 3)) 27 #[.slice none 0 0]
  simp only [World.size_alloc] at kR
  have HB1 := Lib.hid hb1
  have H3 := Lib.hid k3
  have HR := Lib.hid kR
  clear HT hb1 k3 kR HP hbx HBX
  go_wp2_with fail
  refine HT1.out.mono ?_
  rintro e w2 ⟨rfl, hb2⟩
  have k3 := H3.out.later hb2
  have kR := HR.out.later hb2
  have hB2 := HB1.out.trans (hb2.mono HB1.out.size)
  clear hb2 HT1 H3 HR HB1
  have HK3 := Lib.hid k3
  have HKR := Lib.hid kR
  have HB2 := Lib.hid hB2
  clear k3 kR hB2
  go_wp2_with fail
  have hz1 := HB2.out.size
  have hzr := HKR.out.lt
  have hS2 := HW.out.later HB2.out
  have hseq := back_seq F n w2 b x0 hx0 hN [] hS2 (by simp) (by simp)
  unfold stp at hseq
  rw [hax] at hseq
  have hxat : ∀ i x, (downs b)[i]? = some x → x + i = b ∧ x < F.length ∧ 0 < x := fun i x h => by
    have := downs_at b i x h
    omega
  refine (wpIn_wide (n := 6)).1 (range_f (gf := 42) (encs := encQ F 0) (xs := downs b) (L := []) rfl (enters_of Try.func42 (by kernel_rfl) rfl) hseq (fun _ _ => rfl)
    (fun i V => ∃ r, (i ≤ b - a ∧ Blk V w.heap.size 3 #[.int .i64 a] ∧ Blk V (w.heap.size + 1) 27 #[r]) ∧ Own32 V (w.heap.size + 2) r (entsF F ((downs b).take i)) ∧ Below w.heap.size w V)
    (fun c _ V => match c with
      | .exit id => ∃ r, (id = 0 ∧ Blk V (w.heap.size + 1) 27 #[r]) ∧ Own32 V (w.heap.size + 2) r (entsF F ((downs b).take (b - a))) ∧ Below w.heap.size w V
      | _ => False)
    ?hI ?hIx ?hIa ?hIxa ?h0 (fun _ x a' V => ∃ c, (True ∧ a' = { tmps := #[.pointer (some ⟨p, 0, none⟩), .int .i64 f, .int .i64 b, undef, .pointer (some ⟨w.heap.size, 0, none⟩), undef, .slice none 0 0, .pointer (some ⟨w.heap.size + 1, 0, none⟩), .pointer (some ⟨c, 0, none⟩), .tuple #[.int .i64 a, .int .i64 b], .pointer (some ⟨p, 0, none⟩), .int .i64 f, .int .i64 t, .tuple #[.int .i64 a, .int .i64 b], .int .i64 a, .int .i64 b, .int .i64 a, .int .i64 b, .bool false, .pointer (some ⟨p, 0, none⟩), .int .i64 b, .agg WA, .agg #[.pointer (some ⟨x0.b, 0, none⟩), .int .i64 ((b : Int) - 1), .int .i64 0], .func (.func 42) #[.agg #[.pointer (some ⟨x0.b, 0, none⟩), .int .i64 ((b : Int) - 1), .int .i64 0]] #[], stp F 0 x, undef, undef, undef, undef, undef, undef, undef, undef, undef, undef, undef, undef, undef], defers := [] }) ∧ Blk V c 69 (boxQ F 0 x)) ?hAx ?assign ?body ?done ?stop)
  case hI => exact own_ex fun r => ((own_pure _ _).and ((own_blk _ _ _ _).and (own_blk _ _ _ _))).and ((own_gen _ _ _ _ _).and (own_below _ w hz1))
  case hIx =>
    intro c
    cases c with
    | exit id => exact own_ex fun r => ((own_pure _ _).and (own_blk _ _ _ _)).and ((own_gen _ _ _ _ _).and (own_below _ w hz1))
    | _ => exact own_pure _ _
  case hIa =>
    rintro N hN2 i A B ⟨r, ⟨h1, h2, h3⟩, h4, h5⟩ hab
    exact ⟨r, ⟨h1, h2.aside hab (by omega), h3.aside hab (by omega)⟩, own_aside h4 hab (by decide), ((Far.of_below (S := fun _ => False) h5).aside hab (by omega)).below (fun _ h => h.elim) (Nat.le_refl _)⟩
  case hIxa =>
    rintro c N hN2 i A B h hab
    cases c with
    | exit id =>
      obtain ⟨r, ⟨h1, h3⟩, h4, h5⟩ := h
      exact ⟨r, ⟨h1, h3.aside hab (by omega)⟩, own_aside h4 hab (by decide), ((Far.of_below (S := fun _ => False) h5).aside hab (by omega)).below (fun _ h => h.elim) (Nat.le_refl _)⟩
    | _ => exact h
  case h0 => exact ⟨_, ⟨Nat.zero_le _, HK3.out, HKR.out⟩, World.ownsRow_nil _ _ _ _, HB2.out⟩
  case hAx => exact fun i x a' => own_ex fun c => (own_pure _ _).and (own_blk _ _ _ _)
  case assign =>
    rintro l i x V K' hx' ⟨r, ⟨h1, h2, h3⟩, h4, h5⟩ hK
    obtain ⟨y, hy⟩ : ∃ y, F[x]? = some y := ⟨_, List.getElem?_eq_getElem (hxat i x hx').2.1⟩
    have hay := adr_some hy
    have HK3' := Lib.hid hK
    have HI := Lib.hid (And.intro h1 (And.intro h2 (And.intro h3 (And.intro h4 h5))))
    have hsz2 : w.heap.size + 2 ≤ V.heap.size := h3.lt
    have HKP := Lib.hid hx'
    clear hK h1 h2 h3 h4 h5 hseq hx' hxat hS2
    unfold encQ stp
    rw [hay]
    gi_wp2
    have hbV := (Below.refl V.heap.size V).alloc (Nat.le_refl _) (Obj.cells #[Value.pointer (some ⟨y.b, 0, none⟩), Value.int IntKind.i64 ((x : Int) - 1), Value.int IntKind.i64 0] 69)
    obtain ⟨h1, h2, h3, h4, h5⟩ := HI.out
    refine HK3'.out _ _ (keeps_below hbV) (KeepC.of_below hbV) ⟨r, ⟨h1, h2.later hbV, h3.later hbV⟩, own_later h4 hbV, h5.trans (hbV.mono h5.size)⟩ ⟨V.heap.size, ⟨?_, ?_⟩, ?_⟩
    · trivial
    · unfold stp; rw [hay]; rfl
    · unfold boxQ; rw [hay]; exact Blk.new _ _ _
  case body =>
    rintro l i x a' V hx' ⟨r, ⟨h1, h2, h3⟩, h4, h5⟩ ⟨c, ⟨_, rfl⟩, kc⟩
    obtain ⟨hxe, hxl, hin⟩ := hxat i x hx'
    obtain ⟨y, hy⟩ : ∃ y, F[x]? = some y := ⟨_, List.getElem?_eq_getElem hxl⟩
    have hay := adr_some hy
    have hSV := HW.out.later h5
    obtain ⟨A, hA, hNA⟩ := hSV.node x y hy
    have a0 := (hA.cell 0).trans hNA.m
    have a1 := (hA.cell 1).trans hNA.s
    unfold boxQ at kc
    rw [hay] at kc
    obtain ⟨f0, f1, f2, _, _, _⟩ := facts3 kc
    obtain ⟨d0, d1⟩ := facts1 h2
    obtain ⟨e0, e1⟩ := facts1 h3
    by_cases hib : i = b - a
    · have hge : (x : Int) - 1 < (a : Int) := by omega
      have HH := Lib.hid (And.intro h3 (And.intro h4 h5))
      clear h1 h2 h3 h4 h5 hseq hx' hxat hS2 hSV hA hNA hy a0 a1
      gi_wp2
      obtain ⟨g3, g4, g5⟩ := HH.out
      exact ⟨KeepsFrom.refl _ _, r, ⟨rfl, g3⟩, hib ▸ g4, g5⟩
    · have hge : ¬ (x : Int) - 1 < (a : Int) := by omega
      have hlt3 := h3.lt
      have hmix : Try.prog.follows .mixedOrders = true := by kernel_rfl
      have hel : (entsF F ((downs b).take i)).length = i := by unfold entsF; rw [List.length_map, List.length_take, downs_len]; omega
      obtain ⟨g, cap, W7, hrun, hown7, hgrow⟩ := app_ent h4 (drewB V 1) (y.m, y.s) (by rw [hel]; omega) (by have := h3.lt; show w.heap.size + 2 ≤ V.heap.size; omega)
      rw [hel] at hrun hown7
      have hR7 := (h3.later (drewB V 1)).grown hgrow (own_later h4 (drewB V 1)) (by decide)
      have h37 := (h2.later (drewB V 1)).grown hgrow (own_later h4 (drewB V 1)) (by decide)
      obtain ⟨t0, t1⟩ := facts1 hR7
      have HH := Lib.hid (And.intro h2 (And.intro h3 (And.intro h4 h5)))
      have HO := Lib.hid hown7
      have HG := Lib.hid hgrow
      have H37 := Lib.hid h37
      have HY := Lib.hid hy
      have HXI := Lib.hid hx'
      clear h1 h2 h3 h4 h5 hseq hx' hxat hS2 hSV hA hNA hy kc hown7 hgrow hR7 h37
      gi_wp2
      refine wpIn_region_any hmix ?_
      change wpAnyIn _ _ _ _ _ _ _ _ _ (World.drew _)
      all_goals (first | refine wpAnyIn_ready (rs := [0,1]) (by decide +kernel) (by simp) (AllReadyIn.cons rfl (fun K hK => ?_) (AllReadyIn.cons rfl (fun K hK => ?_) AllReadyIn.nil)) | refine wpAnyIn_ready (rs := [0,2]) (by decide +kernel) (by simp) (AllReadyIn.cons rfl (fun K hK => ?_) (AllReadyIn.cons rfl (fun K hK => ?_) AllReadyIn.nil)) | refine wpAnyIn_ready (rs := [0,3]) (by decide +kernel) (by simp) (AllReadyIn.cons rfl (fun K hK => ?_) (AllReadyIn.cons rfl (fun K hK => ?_) AllReadyIn.nil)) | refine wpAnyIn_ready (rs := [0,4]) (by decide +kernel) (by simp) (AllReadyIn.cons rfl (fun K hK => ?_) (AllReadyIn.cons rfl (fun K hK => ?_) AllReadyIn.nil)) | refine wpAnyIn_ready (rs := [0,5]) (by decide +kernel) (by simp) (AllReadyIn.cons rfl (fun K hK => ?_) (AllReadyIn.cons rfl (fun K hK => ?_) AllReadyIn.nil)) | refine wpAnyIn_ready (rs := [0,6]) (by decide +kernel) (by simp) (AllReadyIn.cons rfl (fun K hK => ?_) (AllReadyIn.cons rfl (fun K hK => ?_) AllReadyIn.nil)) | refine wpAnyIn_ready (rs := [0]) (by decide +kernel) (by simp) (AllReadyIn.cons rfl (fun K hK => ?_) AllReadyIn.nil) | refine wpAnyIn_ready (rs := [1]) (by decide +kernel) (by simp) (AllReadyIn.cons rfl (fun K hK => ?_) AllReadyIn.nil) | refine wpAnyIn_ready (rs := [2]) (by decide +kernel) (by simp) (AllReadyIn.cons rfl (fun K hK => ?_) AllReadyIn.nil) | refine wpAnyIn_ready (rs := [3]) (by decide +kernel) (by simp) (AllReadyIn.cons rfl (fun K hK => ?_) AllReadyIn.nil) | refine wpAnyIn_ready (rs := [4]) (by decide +kernel) (by simp) (AllReadyIn.cons rfl (fun K hK => ?_) AllReadyIn.nil) | refine wpAnyIn_ready (rs := [5]) (by decide +kernel) (by simp) (AllReadyIn.cons rfl (fun K hK => ?_) AllReadyIn.nil) | refine wpAnyIn_ready (rs := [6]) (by decide +kernel) (by simp) (AllReadyIn.cons rfl (fun K hK => ?_) AllReadyIn.nil) | refine wpAnyIn_ready (rs := [7]) (by decide +kernel) (by simp) (AllReadyIn.cons rfl (fun K hK => ?_) AllReadyIn.nil) | refine wpAnyIn_ready (rs := [8]) (by decide +kernel) (by simp) (AllReadyIn.cons rfl (fun K hK => ?_) AllReadyIn.nil))
      all_goals (first | (refine stepIn_append rfl _ _ 27 27 rfl rfl rfl hrun ?_; refine hK _ _ ?_; clear hK K) | (go_simp; refine hK _ _ ?_; clear hK K))
      all_goals (first | refine wpAnyIn_ready (rs := [0,1]) (by decide +kernel) (by simp) (AllReadyIn.cons rfl (fun K hK => ?_) (AllReadyIn.cons rfl (fun K hK => ?_) AllReadyIn.nil)) | refine wpAnyIn_ready (rs := [0,2]) (by decide +kernel) (by simp) (AllReadyIn.cons rfl (fun K hK => ?_) (AllReadyIn.cons rfl (fun K hK => ?_) AllReadyIn.nil)) | refine wpAnyIn_ready (rs := [0,3]) (by decide +kernel) (by simp) (AllReadyIn.cons rfl (fun K hK => ?_) (AllReadyIn.cons rfl (fun K hK => ?_) AllReadyIn.nil)) | refine wpAnyIn_ready (rs := [0,4]) (by decide +kernel) (by simp) (AllReadyIn.cons rfl (fun K hK => ?_) (AllReadyIn.cons rfl (fun K hK => ?_) AllReadyIn.nil)) | refine wpAnyIn_ready (rs := [0,5]) (by decide +kernel) (by simp) (AllReadyIn.cons rfl (fun K hK => ?_) (AllReadyIn.cons rfl (fun K hK => ?_) AllReadyIn.nil)) | refine wpAnyIn_ready (rs := [0,6]) (by decide +kernel) (by simp) (AllReadyIn.cons rfl (fun K hK => ?_) (AllReadyIn.cons rfl (fun K hK => ?_) AllReadyIn.nil)) | refine wpAnyIn_ready (rs := [0]) (by decide +kernel) (by simp) (AllReadyIn.cons rfl (fun K hK => ?_) AllReadyIn.nil) | refine wpAnyIn_ready (rs := [1]) (by decide +kernel) (by simp) (AllReadyIn.cons rfl (fun K hK => ?_) AllReadyIn.nil) | refine wpAnyIn_ready (rs := [2]) (by decide +kernel) (by simp) (AllReadyIn.cons rfl (fun K hK => ?_) AllReadyIn.nil) | refine wpAnyIn_ready (rs := [3]) (by decide +kernel) (by simp) (AllReadyIn.cons rfl (fun K hK => ?_) AllReadyIn.nil) | refine wpAnyIn_ready (rs := [4]) (by decide +kernel) (by simp) (AllReadyIn.cons rfl (fun K hK => ?_) AllReadyIn.nil) | refine wpAnyIn_ready (rs := [5]) (by decide +kernel) (by simp) (AllReadyIn.cons rfl (fun K hK => ?_) AllReadyIn.nil) | refine wpAnyIn_ready (rs := [6]) (by decide +kernel) (by simp) (AllReadyIn.cons rfl (fun K hK => ?_) AllReadyIn.nil) | refine wpAnyIn_ready (rs := [7]) (by decide +kernel) (by simp) (AllReadyIn.cons rfl (fun K hK => ?_) AllReadyIn.nil) | refine wpAnyIn_ready (rs := [8]) (by decide +kernel) (by simp) (AllReadyIn.cons rfl (fun K hK => ?_) AllReadyIn.nil))
      all_goals (first | (refine stepIn_append rfl _ _ 27 27 rfl rfl rfl hrun ?_; refine hK _ _ ?_; clear hK K) | (go_simp; refine hK _ _ ?_; clear hK K))
      all_goals (first | refine wpAnyIn_ready (rs := [0,1]) (by decide +kernel) (by simp) (AllReadyIn.cons rfl (fun K hK => ?_) (AllReadyIn.cons rfl (fun K hK => ?_) AllReadyIn.nil)) | refine wpAnyIn_ready (rs := [0,2]) (by decide +kernel) (by simp) (AllReadyIn.cons rfl (fun K hK => ?_) (AllReadyIn.cons rfl (fun K hK => ?_) AllReadyIn.nil)) | refine wpAnyIn_ready (rs := [0,3]) (by decide +kernel) (by simp) (AllReadyIn.cons rfl (fun K hK => ?_) (AllReadyIn.cons rfl (fun K hK => ?_) AllReadyIn.nil)) | refine wpAnyIn_ready (rs := [0,4]) (by decide +kernel) (by simp) (AllReadyIn.cons rfl (fun K hK => ?_) (AllReadyIn.cons rfl (fun K hK => ?_) AllReadyIn.nil)) | refine wpAnyIn_ready (rs := [0,5]) (by decide +kernel) (by simp) (AllReadyIn.cons rfl (fun K hK => ?_) (AllReadyIn.cons rfl (fun K hK => ?_) AllReadyIn.nil)) | refine wpAnyIn_ready (rs := [0,6]) (by decide +kernel) (by simp) (AllReadyIn.cons rfl (fun K hK => ?_) (AllReadyIn.cons rfl (fun K hK => ?_) AllReadyIn.nil)) | refine wpAnyIn_ready (rs := [0]) (by decide +kernel) (by simp) (AllReadyIn.cons rfl (fun K hK => ?_) AllReadyIn.nil) | refine wpAnyIn_ready (rs := [1]) (by decide +kernel) (by simp) (AllReadyIn.cons rfl (fun K hK => ?_) AllReadyIn.nil) | refine wpAnyIn_ready (rs := [2]) (by decide +kernel) (by simp) (AllReadyIn.cons rfl (fun K hK => ?_) AllReadyIn.nil) | refine wpAnyIn_ready (rs := [3]) (by decide +kernel) (by simp) (AllReadyIn.cons rfl (fun K hK => ?_) AllReadyIn.nil) | refine wpAnyIn_ready (rs := [4]) (by decide +kernel) (by simp) (AllReadyIn.cons rfl (fun K hK => ?_) AllReadyIn.nil) | refine wpAnyIn_ready (rs := [5]) (by decide +kernel) (by simp) (AllReadyIn.cons rfl (fun K hK => ?_) AllReadyIn.nil) | refine wpAnyIn_ready (rs := [6]) (by decide +kernel) (by simp) (AllReadyIn.cons rfl (fun K hK => ?_) AllReadyIn.nil) | refine wpAnyIn_ready (rs := [7]) (by decide +kernel) (by simp) (AllReadyIn.cons rfl (fun K hK => ?_) AllReadyIn.nil) | refine wpAnyIn_ready (rs := [8]) (by decide +kernel) (by simp) (AllReadyIn.cons rfl (fun K hK => ?_) AllReadyIn.nil))
      all_goals (first | (refine stepIn_append rfl _ _ 27 27 rfl rfl rfl hrun ?_; refine hK _ _ ?_; clear hK K) | (go_simp; refine hK _ _ ?_; clear hK K))
      all_goals (first | refine wpAnyIn_ready (rs := [0,1]) (by decide +kernel) (by simp) (AllReadyIn.cons rfl (fun K hK => ?_) (AllReadyIn.cons rfl (fun K hK => ?_) AllReadyIn.nil)) | refine wpAnyIn_ready (rs := [0,2]) (by decide +kernel) (by simp) (AllReadyIn.cons rfl (fun K hK => ?_) (AllReadyIn.cons rfl (fun K hK => ?_) AllReadyIn.nil)) | refine wpAnyIn_ready (rs := [0,3]) (by decide +kernel) (by simp) (AllReadyIn.cons rfl (fun K hK => ?_) (AllReadyIn.cons rfl (fun K hK => ?_) AllReadyIn.nil)) | refine wpAnyIn_ready (rs := [0,4]) (by decide +kernel) (by simp) (AllReadyIn.cons rfl (fun K hK => ?_) (AllReadyIn.cons rfl (fun K hK => ?_) AllReadyIn.nil)) | refine wpAnyIn_ready (rs := [0,5]) (by decide +kernel) (by simp) (AllReadyIn.cons rfl (fun K hK => ?_) (AllReadyIn.cons rfl (fun K hK => ?_) AllReadyIn.nil)) | refine wpAnyIn_ready (rs := [0,6]) (by decide +kernel) (by simp) (AllReadyIn.cons rfl (fun K hK => ?_) (AllReadyIn.cons rfl (fun K hK => ?_) AllReadyIn.nil)) | refine wpAnyIn_ready (rs := [0]) (by decide +kernel) (by simp) (AllReadyIn.cons rfl (fun K hK => ?_) AllReadyIn.nil) | refine wpAnyIn_ready (rs := [1]) (by decide +kernel) (by simp) (AllReadyIn.cons rfl (fun K hK => ?_) AllReadyIn.nil) | refine wpAnyIn_ready (rs := [2]) (by decide +kernel) (by simp) (AllReadyIn.cons rfl (fun K hK => ?_) AllReadyIn.nil) | refine wpAnyIn_ready (rs := [3]) (by decide +kernel) (by simp) (AllReadyIn.cons rfl (fun K hK => ?_) AllReadyIn.nil) | refine wpAnyIn_ready (rs := [4]) (by decide +kernel) (by simp) (AllReadyIn.cons rfl (fun K hK => ?_) AllReadyIn.nil) | refine wpAnyIn_ready (rs := [5]) (by decide +kernel) (by simp) (AllReadyIn.cons rfl (fun K hK => ?_) AllReadyIn.nil) | refine wpAnyIn_ready (rs := [6]) (by decide +kernel) (by simp) (AllReadyIn.cons rfl (fun K hK => ?_) AllReadyIn.nil) | refine wpAnyIn_ready (rs := [7]) (by decide +kernel) (by simp) (AllReadyIn.cons rfl (fun K hK => ?_) AllReadyIn.nil) | refine wpAnyIn_ready (rs := [8]) (by decide +kernel) (by simp) (AllReadyIn.cons rfl (fun K hK => ?_) AllReadyIn.nil))
      all_goals (first | (refine stepIn_append rfl _ _ 27 27 rfl rfl rfl hrun ?_; refine hK _ _ ?_; clear hK K) | (go_simp; refine hK _ _ ?_; clear hK K))
      all_goals (first | refine wpAnyIn_ready (rs := [0,1]) (by decide +kernel) (by simp) (AllReadyIn.cons rfl (fun K hK => ?_) (AllReadyIn.cons rfl (fun K hK => ?_) AllReadyIn.nil)) | refine wpAnyIn_ready (rs := [0,2]) (by decide +kernel) (by simp) (AllReadyIn.cons rfl (fun K hK => ?_) (AllReadyIn.cons rfl (fun K hK => ?_) AllReadyIn.nil)) | refine wpAnyIn_ready (rs := [0,3]) (by decide +kernel) (by simp) (AllReadyIn.cons rfl (fun K hK => ?_) (AllReadyIn.cons rfl (fun K hK => ?_) AllReadyIn.nil)) | refine wpAnyIn_ready (rs := [0,4]) (by decide +kernel) (by simp) (AllReadyIn.cons rfl (fun K hK => ?_) (AllReadyIn.cons rfl (fun K hK => ?_) AllReadyIn.nil)) | refine wpAnyIn_ready (rs := [0,5]) (by decide +kernel) (by simp) (AllReadyIn.cons rfl (fun K hK => ?_) (AllReadyIn.cons rfl (fun K hK => ?_) AllReadyIn.nil)) | refine wpAnyIn_ready (rs := [0,6]) (by decide +kernel) (by simp) (AllReadyIn.cons rfl (fun K hK => ?_) (AllReadyIn.cons rfl (fun K hK => ?_) AllReadyIn.nil)) | refine wpAnyIn_ready (rs := [0]) (by decide +kernel) (by simp) (AllReadyIn.cons rfl (fun K hK => ?_) AllReadyIn.nil) | refine wpAnyIn_ready (rs := [1]) (by decide +kernel) (by simp) (AllReadyIn.cons rfl (fun K hK => ?_) AllReadyIn.nil) | refine wpAnyIn_ready (rs := [2]) (by decide +kernel) (by simp) (AllReadyIn.cons rfl (fun K hK => ?_) AllReadyIn.nil) | refine wpAnyIn_ready (rs := [3]) (by decide +kernel) (by simp) (AllReadyIn.cons rfl (fun K hK => ?_) AllReadyIn.nil) | refine wpAnyIn_ready (rs := [4]) (by decide +kernel) (by simp) (AllReadyIn.cons rfl (fun K hK => ?_) AllReadyIn.nil) | refine wpAnyIn_ready (rs := [5]) (by decide +kernel) (by simp) (AllReadyIn.cons rfl (fun K hK => ?_) AllReadyIn.nil) | refine wpAnyIn_ready (rs := [6]) (by decide +kernel) (by simp) (AllReadyIn.cons rfl (fun K hK => ?_) AllReadyIn.nil) | refine wpAnyIn_ready (rs := [7]) (by decide +kernel) (by simp) (AllReadyIn.cons rfl (fun K hK => ?_) AllReadyIn.nil) | refine wpAnyIn_ready (rs := [8]) (by decide +kernel) (by simp) (AllReadyIn.cons rfl (fun K hK => ?_) AllReadyIn.nil))
      all_goals (first | (refine stepIn_append rfl _ _ 27 27 rfl rfl rfl hrun ?_; refine hK _ _ ?_; clear hK K) | (go_simp; refine hK _ _ ?_; clear hK K))
      all_goals (first | refine wpAnyIn_ready (rs := [0,1]) (by decide +kernel) (by simp) (AllReadyIn.cons rfl (fun K hK => ?_) (AllReadyIn.cons rfl (fun K hK => ?_) AllReadyIn.nil)) | refine wpAnyIn_ready (rs := [0,2]) (by decide +kernel) (by simp) (AllReadyIn.cons rfl (fun K hK => ?_) (AllReadyIn.cons rfl (fun K hK => ?_) AllReadyIn.nil)) | refine wpAnyIn_ready (rs := [0,3]) (by decide +kernel) (by simp) (AllReadyIn.cons rfl (fun K hK => ?_) (AllReadyIn.cons rfl (fun K hK => ?_) AllReadyIn.nil)) | refine wpAnyIn_ready (rs := [0,4]) (by decide +kernel) (by simp) (AllReadyIn.cons rfl (fun K hK => ?_) (AllReadyIn.cons rfl (fun K hK => ?_) AllReadyIn.nil)) | refine wpAnyIn_ready (rs := [0,5]) (by decide +kernel) (by simp) (AllReadyIn.cons rfl (fun K hK => ?_) (AllReadyIn.cons rfl (fun K hK => ?_) AllReadyIn.nil)) | refine wpAnyIn_ready (rs := [0,6]) (by decide +kernel) (by simp) (AllReadyIn.cons rfl (fun K hK => ?_) (AllReadyIn.cons rfl (fun K hK => ?_) AllReadyIn.nil)) | refine wpAnyIn_ready (rs := [0]) (by decide +kernel) (by simp) (AllReadyIn.cons rfl (fun K hK => ?_) AllReadyIn.nil) | refine wpAnyIn_ready (rs := [1]) (by decide +kernel) (by simp) (AllReadyIn.cons rfl (fun K hK => ?_) AllReadyIn.nil) | refine wpAnyIn_ready (rs := [2]) (by decide +kernel) (by simp) (AllReadyIn.cons rfl (fun K hK => ?_) AllReadyIn.nil) | refine wpAnyIn_ready (rs := [3]) (by decide +kernel) (by simp) (AllReadyIn.cons rfl (fun K hK => ?_) AllReadyIn.nil) | refine wpAnyIn_ready (rs := [4]) (by decide +kernel) (by simp) (AllReadyIn.cons rfl (fun K hK => ?_) AllReadyIn.nil) | refine wpAnyIn_ready (rs := [5]) (by decide +kernel) (by simp) (AllReadyIn.cons rfl (fun K hK => ?_) AllReadyIn.nil) | refine wpAnyIn_ready (rs := [6]) (by decide +kernel) (by simp) (AllReadyIn.cons rfl (fun K hK => ?_) AllReadyIn.nil) | refine wpAnyIn_ready (rs := [7]) (by decide +kernel) (by simp) (AllReadyIn.cons rfl (fun K hK => ?_) AllReadyIn.nil) | refine wpAnyIn_ready (rs := [8]) (by decide +kernel) (by simp) (AllReadyIn.cons rfl (fun K hK => ?_) AllReadyIn.nil))
      all_goals (first | (refine stepIn_append rfl _ _ 27 27 rfl rfl rfl hrun ?_; refine hK _ _ ?_; clear hK K) | (go_simp; refine hK _ _ ?_; clear hK K))
      all_goals (first | refine wpAnyIn_ready (rs := [0,1]) (by decide +kernel) (by simp) (AllReadyIn.cons rfl (fun K hK => ?_) (AllReadyIn.cons rfl (fun K hK => ?_) AllReadyIn.nil)) | refine wpAnyIn_ready (rs := [0,2]) (by decide +kernel) (by simp) (AllReadyIn.cons rfl (fun K hK => ?_) (AllReadyIn.cons rfl (fun K hK => ?_) AllReadyIn.nil)) | refine wpAnyIn_ready (rs := [0,3]) (by decide +kernel) (by simp) (AllReadyIn.cons rfl (fun K hK => ?_) (AllReadyIn.cons rfl (fun K hK => ?_) AllReadyIn.nil)) | refine wpAnyIn_ready (rs := [0,4]) (by decide +kernel) (by simp) (AllReadyIn.cons rfl (fun K hK => ?_) (AllReadyIn.cons rfl (fun K hK => ?_) AllReadyIn.nil)) | refine wpAnyIn_ready (rs := [0,5]) (by decide +kernel) (by simp) (AllReadyIn.cons rfl (fun K hK => ?_) (AllReadyIn.cons rfl (fun K hK => ?_) AllReadyIn.nil)) | refine wpAnyIn_ready (rs := [0,6]) (by decide +kernel) (by simp) (AllReadyIn.cons rfl (fun K hK => ?_) (AllReadyIn.cons rfl (fun K hK => ?_) AllReadyIn.nil)) | refine wpAnyIn_ready (rs := [0]) (by decide +kernel) (by simp) (AllReadyIn.cons rfl (fun K hK => ?_) AllReadyIn.nil) | refine wpAnyIn_ready (rs := [1]) (by decide +kernel) (by simp) (AllReadyIn.cons rfl (fun K hK => ?_) AllReadyIn.nil) | refine wpAnyIn_ready (rs := [2]) (by decide +kernel) (by simp) (AllReadyIn.cons rfl (fun K hK => ?_) AllReadyIn.nil) | refine wpAnyIn_ready (rs := [3]) (by decide +kernel) (by simp) (AllReadyIn.cons rfl (fun K hK => ?_) AllReadyIn.nil) | refine wpAnyIn_ready (rs := [4]) (by decide +kernel) (by simp) (AllReadyIn.cons rfl (fun K hK => ?_) AllReadyIn.nil) | refine wpAnyIn_ready (rs := [5]) (by decide +kernel) (by simp) (AllReadyIn.cons rfl (fun K hK => ?_) AllReadyIn.nil) | refine wpAnyIn_ready (rs := [6]) (by decide +kernel) (by simp) (AllReadyIn.cons rfl (fun K hK => ?_) AllReadyIn.nil) | refine wpAnyIn_ready (rs := [7]) (by decide +kernel) (by simp) (AllReadyIn.cons rfl (fun K hK => ?_) AllReadyIn.nil) | refine wpAnyIn_ready (rs := [8]) (by decide +kernel) (by simp) (AllReadyIn.cons rfl (fun K hK => ?_) AllReadyIn.nil))
      all_goals (first | (refine stepIn_append rfl _ _ 27 27 rfl rfl rfl hrun ?_; refine hK _ _ ?_; clear hK K) | (go_simp; refine hK _ _ ?_; clear hK K))
      all_goals (first | refine wpAnyIn_ready (rs := [0,1]) (by decide +kernel) (by simp) (AllReadyIn.cons rfl (fun K hK => ?_) (AllReadyIn.cons rfl (fun K hK => ?_) AllReadyIn.nil)) | refine wpAnyIn_ready (rs := [0,2]) (by decide +kernel) (by simp) (AllReadyIn.cons rfl (fun K hK => ?_) (AllReadyIn.cons rfl (fun K hK => ?_) AllReadyIn.nil)) | refine wpAnyIn_ready (rs := [0,3]) (by decide +kernel) (by simp) (AllReadyIn.cons rfl (fun K hK => ?_) (AllReadyIn.cons rfl (fun K hK => ?_) AllReadyIn.nil)) | refine wpAnyIn_ready (rs := [0,4]) (by decide +kernel) (by simp) (AllReadyIn.cons rfl (fun K hK => ?_) (AllReadyIn.cons rfl (fun K hK => ?_) AllReadyIn.nil)) | refine wpAnyIn_ready (rs := [0,5]) (by decide +kernel) (by simp) (AllReadyIn.cons rfl (fun K hK => ?_) (AllReadyIn.cons rfl (fun K hK => ?_) AllReadyIn.nil)) | refine wpAnyIn_ready (rs := [0,6]) (by decide +kernel) (by simp) (AllReadyIn.cons rfl (fun K hK => ?_) (AllReadyIn.cons rfl (fun K hK => ?_) AllReadyIn.nil)) | refine wpAnyIn_ready (rs := [0]) (by decide +kernel) (by simp) (AllReadyIn.cons rfl (fun K hK => ?_) AllReadyIn.nil) | refine wpAnyIn_ready (rs := [1]) (by decide +kernel) (by simp) (AllReadyIn.cons rfl (fun K hK => ?_) AllReadyIn.nil) | refine wpAnyIn_ready (rs := [2]) (by decide +kernel) (by simp) (AllReadyIn.cons rfl (fun K hK => ?_) AllReadyIn.nil) | refine wpAnyIn_ready (rs := [3]) (by decide +kernel) (by simp) (AllReadyIn.cons rfl (fun K hK => ?_) AllReadyIn.nil) | refine wpAnyIn_ready (rs := [4]) (by decide +kernel) (by simp) (AllReadyIn.cons rfl (fun K hK => ?_) AllReadyIn.nil) | refine wpAnyIn_ready (rs := [5]) (by decide +kernel) (by simp) (AllReadyIn.cons rfl (fun K hK => ?_) AllReadyIn.nil) | refine wpAnyIn_ready (rs := [6]) (by decide +kernel) (by simp) (AllReadyIn.cons rfl (fun K hK => ?_) AllReadyIn.nil) | refine wpAnyIn_ready (rs := [7]) (by decide +kernel) (by simp) (AllReadyIn.cons rfl (fun K hK => ?_) AllReadyIn.nil) | refine wpAnyIn_ready (rs := [8]) (by decide +kernel) (by simp) (AllReadyIn.cons rfl (fun K hK => ?_) AllReadyIn.nil))
      all_goals (first | (refine stepIn_append rfl _ _ 27 27 rfl rfl rfl hrun ?_; refine hK _ _ ?_; clear hK K) | (go_simp; refine hK _ _ ?_; clear hK K))
      all_goals (first | refine wpAnyIn_ready (rs := [0,1]) (by decide +kernel) (by simp) (AllReadyIn.cons rfl (fun K hK => ?_) (AllReadyIn.cons rfl (fun K hK => ?_) AllReadyIn.nil)) | refine wpAnyIn_ready (rs := [0,2]) (by decide +kernel) (by simp) (AllReadyIn.cons rfl (fun K hK => ?_) (AllReadyIn.cons rfl (fun K hK => ?_) AllReadyIn.nil)) | refine wpAnyIn_ready (rs := [0,3]) (by decide +kernel) (by simp) (AllReadyIn.cons rfl (fun K hK => ?_) (AllReadyIn.cons rfl (fun K hK => ?_) AllReadyIn.nil)) | refine wpAnyIn_ready (rs := [0,4]) (by decide +kernel) (by simp) (AllReadyIn.cons rfl (fun K hK => ?_) (AllReadyIn.cons rfl (fun K hK => ?_) AllReadyIn.nil)) | refine wpAnyIn_ready (rs := [0,5]) (by decide +kernel) (by simp) (AllReadyIn.cons rfl (fun K hK => ?_) (AllReadyIn.cons rfl (fun K hK => ?_) AllReadyIn.nil)) | refine wpAnyIn_ready (rs := [0,6]) (by decide +kernel) (by simp) (AllReadyIn.cons rfl (fun K hK => ?_) (AllReadyIn.cons rfl (fun K hK => ?_) AllReadyIn.nil)) | refine wpAnyIn_ready (rs := [0]) (by decide +kernel) (by simp) (AllReadyIn.cons rfl (fun K hK => ?_) AllReadyIn.nil) | refine wpAnyIn_ready (rs := [1]) (by decide +kernel) (by simp) (AllReadyIn.cons rfl (fun K hK => ?_) AllReadyIn.nil) | refine wpAnyIn_ready (rs := [2]) (by decide +kernel) (by simp) (AllReadyIn.cons rfl (fun K hK => ?_) AllReadyIn.nil) | refine wpAnyIn_ready (rs := [3]) (by decide +kernel) (by simp) (AllReadyIn.cons rfl (fun K hK => ?_) AllReadyIn.nil) | refine wpAnyIn_ready (rs := [4]) (by decide +kernel) (by simp) (AllReadyIn.cons rfl (fun K hK => ?_) AllReadyIn.nil) | refine wpAnyIn_ready (rs := [5]) (by decide +kernel) (by simp) (AllReadyIn.cons rfl (fun K hK => ?_) AllReadyIn.nil) | refine wpAnyIn_ready (rs := [6]) (by decide +kernel) (by simp) (AllReadyIn.cons rfl (fun K hK => ?_) AllReadyIn.nil) | refine wpAnyIn_ready (rs := [7]) (by decide +kernel) (by simp) (AllReadyIn.cons rfl (fun K hK => ?_) AllReadyIn.nil) | refine wpAnyIn_ready (rs := [8]) (by decide +kernel) (by simp) (AllReadyIn.cons rfl (fun K hK => ?_) AllReadyIn.nil))
      all_goals (first | (refine stepIn_append rfl _ _ 27 27 rfl rfl rfl hrun ?_; refine hK _ _ ?_; clear hK K) | (go_simp; refine hK _ _ ?_; clear hK K))
      all_goals refine wpAnyIn_done (by decide +kernel) ?_ _
      all_goals gi_wp2
      all_goals (
        obtain ⟨g2, g3, g4, g5⟩ := HH.out
        obtain ⟨z1, z2, z3, z4, z5⟩ := app_end g3 g4 (drewB V 1) HG.out HO.out (Nat.lt_succ_self _) g5 (Nat.le_succ _) (by decide) (by simp [itT]) (by simp [itT]) w2.heap.size []
        refine ⟨z1, z2, _, ⟨by omega, H37.out.setOther 0 _ (Nat.ne_of_lt (Nat.lt_succ_self _)), z4⟩, ?_, z3⟩
        have he : entsF F ((downs b).take (i + 1)) = entsF F ((downs b).take i) ++ [(y.m, y.s)] := by
          obtain ⟨hi1, hi2⟩ := List.getElem?_eq_some_iff.1 HXI.out
          unfold entsF
          rw [List.take_succ_eq_append_getElem hi1, hi2, List.map_append]
          simp [HY.out]
        rw [he]
        exact z5)
  case done =>
    rintro Dd V hD ⟨r, ⟨h1, h2, h3⟩, h4, h5⟩ hVD
    clear hseq
    have hlen : (downs b).length = b - a := by rw [downs_len] at h1 ⊢; omega
    rw [hlen] at h4
    obtain ⟨g0, g1⟩ := facts1 h3
    have HK := Lib.hid hVD
    have HO := Lib.hid h4
    have H5 := Lib.hid h5
    clear h1 h2 h3 h4 h5 hVD
    simp only [Exit.inBlock, Exit.then]
    go_wp2
    have hfin : (V.putObj Dd (.deferred none)).ownsRow w.heap.size 32 2 r _ _ := own_mono (ownsRow_putObj HO.out _ HK.out rfl) (by omega)
    rw [Exit.noGoto_ret]
    exact leave (v := r) rfl HK.out (by simp [results, Try.results26, go_sem]) ⟨_, rfl, hfin, below_put H5.out (by omega) _⟩
  case stop =>
    rintro Dd c i V hD h hVD
    cases c with
    | exit id =>
      obtain ⟨r, ⟨rfl, h3⟩, h4, h5⟩ := h
      clear hseq
      obtain ⟨g0, g1⟩ := facts1 h3
      have HK := Lib.hid hVD
      have HO := Lib.hid h4
      have H5 := Lib.hid h5
      clear h3 h4 h5 hVD
      refine wpIn_wide.2 ?_
      go_wp2
      have hfin : (V.putObj Dd (.deferred none)).ownsRow w.heap.size 32 2 r _ _ := own_mono (ownsRow_putObj HO.out _ HK.out rfl) (by omega)
      rw [Exit.noGoto_ret]
      exact leave (v := r) rfl HK.out (by simp [results, Try.results26, go_sem]) ⟨_, rfl, hfin, below_put H5.out (by omega) _⟩
    | _ => exact h.elim
end Go.Proofs.Ytidiaomeahoapaa
