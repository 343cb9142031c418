/- Texts of one kind in one: SkRange2. -/
import Derived.Test.YtpfoicpnpgojdaaGreatDoorQSkRem04
/- Range: entries of places. -/
namespace Go.Proofs.YtpfoicpnpgojdaaGreatDoor.Sk
open Go.RowKit Go.Shelf
attribute [local go_sem] Oper.semAt_some

/-- The entries of places. -/
def entsF (F : List Nd) (l : List Nat) : List Ent := l.map fun q => match F[q]? with | some x => (x.m, x.s) | none => (⟨#[]⟩, 0)
theorem steps_zero {F : List Nd} (hp : ∀ i, i < F.length → 0 < lev F i) (q : Nat) : steps F 0 q = List.range' (q + 1) (F.length - (q + 1)) := by
  unfold steps
  refine List.filter_eq_self.2 fun i hi => ?_
  rw [List.mem_range'_1] at hi
  simpa using hp i (by omega)

variable {F : List Nd} {ah : Nat → Value} {n : Int}
theorem range_none (p : Nat) (L : List Nd) (hF : F = hd p :: L) (w : World) (hw : Sk w F (lk0 F) ah n) (f t : Int) (h : min t n ≤ max f 0) : Calls Tryz.prog 300 #[.pointer (some ⟨p, 0, none⟩), .int .i64 f, .int .i64 t] w fun e w' => e = .returned (.slice none 0 0) ∧ Below w.heap.size w w' := by
  have HP := Lib.hid (part_any p L hF (hw.later ((Below.refl _ _).alloc (Nat.le_refl _) (Obj.cells #[.int .i64 t] 3))) f t)
  generalize max f 0 = a at *
  generalize min t n = b at *
  clear hw hF
  go_enter Tryz.func300, Tryz.ntmps300
  go_wp2_with fail
  refine wp_scope_straight ?_
  go_wp2_with fail
  refine HP.out.mono ?_
  rintro e w1 ⟨rfl, rfl⟩
  go_wp2
  rw [Exit.noGoto_ret]
  go_returns
  exact ⟨rfl, (Below.refl _ _).alloc (Nat.le_refl _) _⟩

set_option maxRecDepth 100000 in
set_option maxHeartbeats 4000000 in
theorem range_any (p : Nat) (L : List Nd) (hF : F = hd p :: L) (w : World) (hw : Sk w F (lk0 F) ah n) (hN : F.length ≤ 1000000) (hn : n = L.length) (f t : Int) (a b : Nat) (ha : (a : Int) = max f 0) (hb : (b : Int) = min t n) (hab : a < b) :
    Calls Tryz.prog 300 #[.pointer (some ⟨p, 0, none⟩), .int .i64 f, .int .i64 t] w fun e w' => ∃ r, e = .returned r ∧ Own32 w' w.heap.size r (entsF F (List.range' (a + 1) (b - a))) ∧ Below w.heap.size w w' := by
  have hFl : F.length = L.length + 1 := by rw [hF]; rfl
  have hbF : b < F.length := by omega
  have hp := lev_pos hw
  have hla := last_zero F hp a (by omega)
  have hix := index71 F a
  rw [hla] at hix
  obtain ⟨x0, hx0⟩ : ∃ x0, F[a]? = some x0 := ⟨_, List.getElem?_eq_getElem (by omega)⟩
  have hax := adr_some hx0
  unfold boxQ at hix
  have h00 : ((0 : Nat) : Int) = 0 := rfl
  simp only [hax, h00] at hix
  clear h00
  have hbx : Below w.heap.size w (w.alloc (.cells #[.int .i64 t] 3)) := (Below.refl _ _).alloc (Nat.le_refl _) _
  have HP := Lib.hid (part_any p L hF (hw.later hbx) f t)
  rw [← ha, ← hb] at HP
  have HT := fun W (hb1 : Below w.heap.size w W) => Lib.hid (toPlace_any p L hF (hw.later hb1) hN a (by omega))
  have hxs := steps_zero hp a
  have hsl : F.length - (a + 1) ≤ F.length := Nat.sub_le _ _
  have HW := Lib.hid hw
  have hab2 : ¬ (b : Int) ≤ a := by omega
  have hlv := hp a (by omega)
  rw [lev_some hx0] at hlv
  generalize wayA F a = WA at *
  refine (callsIn_wide (n := 6)).1 (callsIn_of_wp_marks Tryz.func300 rfl trivial ?_ rfl)
  refine wpIn_wide.2 ?_
  simp only [Tryz.ntmps300, List.size_toArray, List.length_cons, List.length_nil, Nat.reduceAdd, Nat.reduceSub, Array.replicate_succ, Array.replicate_zero, List.push_toArray, List.append_toArray, List.nil_append, List.cons_append]
  have hFa : F[0]? = some (hd p) := by rw [hF]; rfl
  clear hw hF ha hb hn hFl
  go_wp2_with fail
  refine wp_scope_straight ?_
  go_wp2_with fail
  refine HP.out.mono ?_
  rintro e w1 ⟨rfl, rfl⟩
  have HBX := Lib.hid hbx
  go_wp2_with fail
  refine wp_label ?_
  have hb1 : Below w.heap.size w ((w.alloc (.cells #[.int .i64 b] 3)).alloc (.cells #[.slice none 0 0] 55)) := ((Below.refl _ _).alloc (Nat.le_refl _) _).alloc (by simp) _
  have HT1 := HT _ hb1
  have k3 := (Blk.new w 3 #[.int .i64 b]).alloc (Obj.cells #[.slice none 0 0] 55)
  have kR := Blk.new (w.alloc (.cells #[.int .i64 b] 3)) 55 #[.slice none 0 0]
  simp only [World.size_alloc] at kR
  have HB1 := Lib.hid hb1
  have H3 := Lib.hid k3
  have HR := Lib.hid kR
  clear HT hb1 k3 kR HP hbx HBX
  go_wp2_with fail
  refine HT1.out.mono ?_
  rintro e w2 ⟨rfl, hb2⟩
  have k3 := H3.out.later hb2
  have kR := HR.out.later hb2
  have hB2 := HB1.out.trans (hb2.mono HB1.out.size)
  clear hb2 HT1 H3 HR HB1
  have HK3 := Lib.hid k3
  have HKR := Lib.hid kR
  have HB2 := Lib.hid hB2
  clear k3 kR hB2
  go_wp2_with fail
  have hz1 := HB2.out.size
  have hzr := HKR.out.lt
  have hS2 := HW.out.later HB2.out
  have hseq := forth_any F ah n w2 0 a x0 (by decide) hx0 hlv hN [] hS2 (by simp) (by simp)
  unfold stp at hseq
  rw [hax, hxs] at hseq
  generalize hxn : F.length - (a + 1) = xn at *
  have hxat : ∀ i x, (List.range' (a + 1) xn)[i]? = some x → x = a + 1 + i ∧ x < F.length ∧ i < xn := fun i x h => by
    obtain ⟨h1, h2⟩ := List.getElem?_eq_some_iff.1 h
    simp at h1 h2
    omega
  refine (wpIn_wide (n := 6)).1 (range_f (gf := 240) (encs := encQ F 0) (xs := List.range' (a + 1) xn) (L := []) rfl (enters_of Tryz.func240 (by kernel_rfl) rfl) hseq (fun _ _ => rfl)
    (fun i V => ∃ r, (i ≤ b - a ∧ Blk V w.heap.size 3 #[.int .i64 b] ∧ Blk V (w.heap.size + 1) 55 #[r]) ∧ Own32 V (w.heap.size + 2) r (entsF F (List.range' (a + 1) i)) ∧ Below w.heap.size w V)
    (fun c _ V => match c with
      | .exit id => ∃ r, (id = 0 ∧ Blk V (w.heap.size + 1) 55 #[r]) ∧ Own32 V (w.heap.size + 2) r (entsF F (List.range' (a + 1) (b - a))) ∧ Below w.heap.size w V
      | _ => False)
    ?hI ?hIx ?hIa ?hIxa ?h0 (fun _ x a' V => ∃ c, (True ∧ a' = { tmps := #[.pointer (some ⟨p, 0, none⟩), .int .i64 a, .int .i64 t, undef, undef, .pointer (some ⟨w.heap.size, 0, none⟩), .slice none 0 0, .pointer (some ⟨w.heap.size + 1, 0, none⟩), .pointer (some ⟨c, 0, none⟩), .tuple #[.int .i64 a, .int .i64 b], .pointer (some ⟨p, 0, none⟩), .int .i64 f, .int .i64 t, .tuple #[.int .i64 a, .int .i64 b], .int .i64 a, .int .i64 b, .int .i64 a, .int .i64 b, .bool false, .pointer (some ⟨p, 0, none⟩), .int .i64 a, .agg WA, .agg #[.pointer (some ⟨x0.b, 0, none⟩), .int .i64 ((a : Int) - 1), .int .i64 0], .func (.func 240) #[.agg #[.pointer (some ⟨x0.b, 0, none⟩), .int .i64 ((a : Int) - 1), .int .i64 0]] #[], stp F 0 x, undef, undef, undef, undef, undef, undef, undef, undef, undef, undef, undef, undef, undef], defers := [] }) ∧ Blk V c 301 (boxQ F 0 x)) ?hAx ?assign ?body ?done ?stop)
  case hI => exact own_ex fun r => ((own_pure _ _).and ((own_blk _ _ _ _).and (own_blk _ _ _ _))).and ((own_gen _ _ _ _ _).and (own_below _ w hz1))
  case hIx =>
    intro c
    cases c with
    | exit id => exact own_ex fun r => ((own_pure _ _).and (own_blk _ _ _ _)).and ((own_gen _ _ _ _ _).and (own_below _ w hz1))
    | _ => exact own_pure _ _
  case hIa =>
    rintro N hN2 i A B ⟨r, ⟨h1, h2, h3⟩, h4, h5⟩ hab
    exact ⟨r, ⟨h1, h2.aside hab (by omega), h3.aside hab (by omega)⟩, own_aside h4 hab (by decide), ((Far.of_below (S := fun _ => False) h5).aside hab (by omega)).below (fun _ h => h.elim) (Nat.le_refl _)⟩
  case hIxa =>
    rintro c N hN2 i A B h hab
    cases c with
    | exit id =>
      obtain ⟨r, ⟨h1, h3⟩, h4, h5⟩ := h
      exact ⟨r, ⟨h1, h3.aside hab (by omega)⟩, own_aside h4 hab (by decide), ((Far.of_below (S := fun _ => False) h5).aside hab (by omega)).below (fun _ h => h.elim) (Nat.le_refl _)⟩
    | _ => exact h
  case h0 => exact ⟨_, ⟨Nat.zero_le _, HK3.out, HKR.out⟩, World.ownsRow_nil _ _ _ _, HB2.out⟩
  case hAx => exact fun i x a' => own_ex fun c => (own_pure _ _).and (own_blk _ _ _ _)
  case assign =>
    rintro l i x V K' hx' ⟨r, ⟨h1, h2, h3⟩, h4, h5⟩ hK
    obtain ⟨y, hy⟩ : ∃ y, F[x]? = some y := ⟨_, List.getElem?_eq_getElem (hxat i x hx').2.1⟩
    have hay := adr_some hy
    have HK3' := Lib.hid hK
    have HI := Lib.hid (And.intro h1 (And.intro h2 (And.intro h3 (And.intro h4 h5))))
    have hsz2 : w.heap.size + 2 ≤ V.heap.size := h3.lt
    have HKP := Lib.hid hx'
    clear hK h1 h2 h3 h4 h5 hseq hx' hxat hS2
    unfold encQ stp
    rw [hay]
    gi_wp2
    have hbV := (Below.refl V.heap.size V).alloc (Nat.le_refl _) (Obj.cells #[Value.pointer (some ⟨y.b, 0, none⟩), Value.int IntKind.i64 ((x : Int) - 1), Value.int IntKind.i64 0] 301)
    obtain ⟨h1, h2, h3, h4, h5⟩ := HI.out
    refine HK3'.out _ _ (keeps_below hbV) (KeepC.of_below hbV) ⟨r, ⟨h1, h2.later hbV, h3.later hbV⟩, own_later h4 hbV, h5.trans (hbV.mono h5.size)⟩ ⟨V.heap.size, ⟨?_, ?_⟩, ?_⟩
    · trivial
    · unfold stp; rw [hay]; rfl
    · unfold boxQ; rw [hay]; exact Blk.new _ _ _
  case body =>
    rintro l i x a' V hx' ⟨r, ⟨h1, h2, h3⟩, h4, h5⟩ ⟨c, ⟨_, rfl⟩, kc⟩
    obtain ⟨hxe, hxl, hin⟩ := hxat i x hx'
    obtain ⟨y, hy⟩ : ∃ y, F[x]? = some y := ⟨_, List.getElem?_eq_getElem hxl⟩
    have hay := adr_some hy
    have hSV := HW.out.later h5
    obtain ⟨A, hA, hNA⟩ := hSV.node x y hy
    have a0 := (hA.cell 0).trans hNA.m
    have a1 := (hA.cell 1).trans hNA.s
    unfold boxQ at kc
    rw [hay] at kc
    obtain ⟨f0, f1, f2, _, _, _⟩ := facts3 kc
    obtain ⟨d0, d1⟩ := facts1 h2
    obtain ⟨e0, e1⟩ := facts1 h3
    by_cases hib : i = b - a
    · have hge : (b : Int) ≤ (x : Int) - 1 := by omega
      have HH := Lib.hid (And.intro h3 (And.intro h4 h5))
      clear h1 h2 h3 h4 h5 hseq hx' hxat hS2 hSV hA hNA hy a0 a1
      gi_wp2
      obtain ⟨g3, g4, g5⟩ := HH.out
      exact ⟨KeepsFrom.refl _ _, r, ⟨rfl, g3⟩, hib ▸ g4, g5⟩
    · have hge : ¬ (b : Int) ≤ (x : Int) - 1 := by omega
      have hlt3 := h3.lt
      have hmix : Tryz.prog.follows .mixedOrders = true := by kernel_rfl
      have hel : (entsF F (List.range' (a + 1) i)).length = i := by unfold entsF; simp
      obtain ⟨g, cap, W7, hrun, hown7, hgrow⟩ := app_ent h4 (drewB V 1) (y.m, y.s) (by rw [hel]; omega) (by have := h3.lt; show w.heap.size + 2 ≤ V.heap.size; omega)
      rw [hel] at hrun hown7
      have hR7 := (h3.later (drewB V 1)).grown hgrow (own_later h4 (drewB V 1)) (by decide)
      have h37 := (h2.later (drewB V 1)).grown hgrow (own_later h4 (drewB V 1)) (by decide)
      obtain ⟨t0, t1⟩ := facts1 hR7
      have HH := Lib.hid (And.intro h2 (And.intro h3 (And.intro h4 h5)))
      have HO := Lib.hid hown7
      have HG := Lib.hid hgrow
      have H37 := Lib.hid h37
      have HY := Lib.hid hy
      clear h1 h2 h3 h4 h5 hseq hx' hxat hS2 hSV hA hNA hy kc hown7 hgrow hR7 h37
      gi_wp2
      refine wpIn_region_any hmix ?_
      change wpAnyIn _ _ _ _ _ _ _ _ _ (World.drew _)
      all_goals (first | refine wpAnyIn_ready (rs := [0,1]) (by decide +kernel) (by simp) (AllReadyIn.cons rfl (fun K hK => ?_) (AllReadyIn.cons rfl (fun K hK => ?_) AllReadyIn.nil)) | refine wpAnyIn_ready (rs := [0,2]) (by decide +kernel) (by simp) (AllReadyIn.cons rfl (fun K hK => ?_) (AllReadyIn.cons rfl (fun K hK => ?_) AllReadyIn.nil)) | refine wpAnyIn_ready (rs := [0,3]) (by decide +kernel) (by simp) (AllReadyIn.cons rfl (fun K hK => ?_) (AllReadyIn.cons rfl (fun K hK => ?_) AllReadyIn.nil)) | refine wpAnyIn_ready (rs := [0,4]) (by decide +kernel) (by simp) (AllReadyIn.cons rfl (fun K hK => ?_) (AllReadyIn.cons rfl (fun K hK => ?_) AllReadyIn.nil)) | refine wpAnyIn_ready (rs := [0,5]) (by decide +kernel) (by simp) (AllReadyIn.cons rfl (fun K hK => ?_) (AllReadyIn.cons rfl (fun K hK => ?_) AllReadyIn.nil)) | refine wpAnyIn_ready (rs := [0,6]) (by decide +kernel) (by simp) (AllReadyIn.cons rfl (fun K hK => ?_) (AllReadyIn.cons rfl (fun K hK => ?_) AllReadyIn.nil)) | refine wpAnyIn_ready (rs := [0]) (by decide +kernel) (by simp) (AllReadyIn.cons rfl (fun K hK => ?_) AllReadyIn.nil) | refine wpAnyIn_ready (rs := [1]) (by decide +kernel) (by simp) (AllReadyIn.cons rfl (fun K hK => ?_) AllReadyIn.nil) | refine wpAnyIn_ready (rs := [2]) (by decide +kernel) (by simp) (AllReadyIn.cons rfl (fun K hK => ?_) AllReadyIn.nil) | refine wpAnyIn_ready (rs := [3]) (by decide +kernel) (by simp) (AllReadyIn.cons rfl (fun K hK => ?_) AllReadyIn.nil) | refine wpAnyIn_ready (rs := [4]) (by decide +kernel) (by simp) (AllReadyIn.cons rfl (fun K hK => ?_) AllReadyIn.nil) | refine wpAnyIn_ready (rs := [5]) (by decide +kernel) (by simp) (AllReadyIn.cons rfl (fun K hK => ?_) AllReadyIn.nil) | refine wpAnyIn_ready (rs := [6]) (by decide +kernel) (by simp) (AllReadyIn.cons rfl (fun K hK => ?_) AllReadyIn.nil) | refine wpAnyIn_ready (rs := [7]) (by decide +kernel) (by simp) (AllReadyIn.cons rfl (fun K hK => ?_) AllReadyIn.nil) | refine wpAnyIn_ready (rs := [8]) (by decide +kernel) (by simp) (AllReadyIn.cons rfl (fun K hK => ?_) AllReadyIn.nil))
      all_goals (first | (refine stepIn_append rfl _ _ 55 55 rfl rfl rfl hrun ?_; refine hK _ _ ?_; clear hK K) | (go_simp; refine hK _ _ ?_; clear hK K))
      all_goals (first | refine wpAnyIn_ready (rs := [0,1]) (by decide +kernel) (by simp) (AllReadyIn.cons rfl (fun K hK => ?_) (AllReadyIn.cons rfl (fun K hK => ?_) AllReadyIn.nil)) | refine wpAnyIn_ready (rs := [0,2]) (by decide +kernel) (by simp) (AllReadyIn.cons rfl (fun K hK => ?_) (AllReadyIn.cons rfl (fun K hK => ?_) AllReadyIn.nil)) | refine wpAnyIn_ready (rs := [0,3]) (by decide +kernel) (by simp) (AllReadyIn.cons rfl (fun K hK => ?_) (AllReadyIn.cons rfl (fun K hK => ?_) AllReadyIn.nil)) | refine wpAnyIn_ready (rs := [0,4]) (by decide +kernel) (by simp) (AllReadyIn.cons rfl (fun K hK => ?_) (AllReadyIn.cons rfl (fun K hK => ?_) AllReadyIn.nil)) | refine wpAnyIn_ready (rs := [0,5]) (by decide +kernel) (by simp) (AllReadyIn.cons rfl (fun K hK => ?_) (AllReadyIn.cons rfl (fun K hK => ?_) AllReadyIn.nil)) | refine wpAnyIn_ready (rs := [0,6]) (by decide +kernel) (by simp) (AllReadyIn.cons rfl (fun K hK => ?_) (AllReadyIn.cons rfl (fun K hK => ?_) AllReadyIn.nil)) | refine wpAnyIn_ready (rs := [0]) (by decide +kernel) (by simp) (AllReadyIn.cons rfl (fun K hK => ?_) AllReadyIn.nil) | refine wpAnyIn_ready (rs := [1]) (by decide +kernel) (by simp) (AllReadyIn.cons rfl (fun K hK => ?_) AllReadyIn.nil) | refine wpAnyIn_ready (rs := [2]) (by decide +kernel) (by simp) (AllReadyIn.cons rfl (fun K hK => ?_) AllReadyIn.nil) | refine wpAnyIn_ready (rs := [3]) (by decide +kernel) (by simp) (AllReadyIn.cons rfl (fun K hK => ?_) AllReadyIn.nil) | refine wpAnyIn_ready (rs := [4]) (by decide +kernel) (by simp) (AllReadyIn.cons rfl (fun K hK => ?_) AllReadyIn.nil) | refine wpAnyIn_ready (rs := [5]) (by decide +kernel) (by simp) (AllReadyIn.cons rfl (fun K hK => ?_) AllReadyIn.nil) | refine wpAnyIn_ready (rs := [6]) (by decide +kernel) (by simp) (AllReadyIn.cons rfl (fun K hK => ?_) AllReadyIn.nil) | refine wpAnyIn_ready (rs := [7]) (by decide +kernel) (by simp) (AllReadyIn.cons rfl (fun K hK => ?_) AllReadyIn.nil) | refine wpAnyIn_ready (rs := [8]) (by decide +kernel) (by simp) (AllReadyIn.cons rfl (fun K hK => ?_) AllReadyIn.nil))
      all_goals (first | (refine stepIn_append rfl _ _ 55 55 rfl rfl rfl hrun ?_; refine hK _ _ ?_; clear hK K) | (go_simp; refine hK _ _ ?_; clear hK K))
      all_goals (first | refine wpAnyIn_ready (rs := [0,1]) (by decide +kernel) (by simp) (AllReadyIn.cons rfl (fun K hK => ?_) (AllReadyIn.cons rfl (fun K hK => ?_) AllReadyIn.nil)) | refine wpAnyIn_ready (rs := [0,2]) (by decide +kernel) (by simp) (AllReadyIn.cons rfl (fun K hK => ?_) (AllReadyIn.cons rfl (fun K hK => ?_) AllReadyIn.nil)) | refine wpAnyIn_ready (rs := [0,3]) (by decide +kernel) (by simp) (AllReadyIn.cons rfl (fun K hK => ?_) (AllReadyIn.cons rfl (fun K hK => ?_) AllReadyIn.nil)) | refine wpAnyIn_ready (rs := [0,4]) (by decide +kernel) (by simp) (AllReadyIn.cons rfl (fun K hK => ?_) (AllReadyIn.cons rfl (fun K hK => ?_) AllReadyIn.nil)) | refine wpAnyIn_ready (rs := [0,5]) (by decide +kernel) (by simp) (AllReadyIn.cons rfl (fun K hK => ?_) (AllReadyIn.cons rfl (fun K hK => ?_) AllReadyIn.nil)) | refine wpAnyIn_ready (rs := [0,6]) (by decide +kernel) (by simp) (AllReadyIn.cons rfl (fun K hK => ?_) (AllReadyIn.cons rfl (fun K hK => ?_) AllReadyIn.nil)) | refine wpAnyIn_ready (rs := [0]) (by decide +kernel) (by simp) (AllReadyIn.cons rfl (fun K hK => ?_) AllReadyIn.nil) | refine wpAnyIn_ready (rs := [1]) (by decide +kernel) (by simp) (AllReadyIn.cons rfl (fun K hK => ?_) AllReadyIn.nil) | refine wpAnyIn_ready (rs := [2]) (by decide +kernel) (by simp) (AllReadyIn.cons rfl (fun K hK => ?_) AllReadyIn.nil) | refine wpAnyIn_ready (rs := [3]) (by decide +kernel) (by simp) (AllReadyIn.cons rfl (fun K hK => ?_) AllReadyIn.nil) | refine wpAnyIn_ready (rs := [4]) (by decide +kernel) (by simp) (AllReadyIn.cons rfl (fun K hK => ?_) AllReadyIn.nil) | refine wpAnyIn_ready (rs := [5]) (by decide +kernel) (by simp) (AllReadyIn.cons rfl (fun K hK => ?_) AllReadyIn.nil) | refine wpAnyIn_ready (rs := [6]) (by decide +kernel) (by simp) (AllReadyIn.cons rfl (fun K hK => ?_) AllReadyIn.nil) | refine wpAnyIn_ready (rs := [7]) (by decide +kernel) (by simp) (AllReadyIn.cons rfl (fun K hK => ?_) AllReadyIn.nil) | refine wpAnyIn_ready (rs := [8]) (by decide +kernel) (by simp) (AllReadyIn.cons rfl (fun K hK => ?_) AllReadyIn.nil))
      all_goals (first | (refine stepIn_append rfl _ _ 55 55 rfl rfl rfl hrun ?_; refine hK _ _ ?_; clear hK K) | (go_simp; refine hK _ _ ?_; clear hK K))
      all_goals (first | refine wpAnyIn_ready (rs := [0,1]) (by decide +kernel) (by simp) (AllReadyIn.cons rfl (fun K hK => ?_) (AllReadyIn.cons rfl (fun K hK => ?_) AllReadyIn.nil)) | refine wpAnyIn_ready (rs := [0,2]) (by decide +kernel) (by simp) (AllReadyIn.cons rfl (fun K hK => ?_) (AllReadyIn.cons rfl (fun K hK => ?_) AllReadyIn.nil)) | refine wpAnyIn_ready (rs := [0,3]) (by decide +kernel) (by simp) (AllReadyIn.cons rfl (fun K hK => ?_) (AllReadyIn.cons rfl (fun K hK => ?_) AllReadyIn.nil)) | refine wpAnyIn_ready (rs := [0,4]) (by decide +kernel) (by simp) (AllReadyIn.cons rfl (fun K hK => ?_) (AllReadyIn.cons rfl (fun K hK => ?_) AllReadyIn.nil)) | refine wpAnyIn_ready (rs := [0,5]) (by decide +kernel) (by simp) (AllReadyIn.cons rfl (fun K hK => ?_) (AllReadyIn.cons rfl (fun K hK => ?_) AllReadyIn.nil)) | refine wpAnyIn_ready (rs := [0,6]) (by decide +kernel) (by simp) (AllReadyIn.cons rfl (fun K hK => ?_) (AllReadyIn.cons rfl (fun K hK => ?_) AllReadyIn.nil)) | refine wpAnyIn_ready (rs := [0]) (by decide +kernel) (by simp) (AllReadyIn.cons rfl (fun K hK => ?_) AllReadyIn.nil) | refine wpAnyIn_ready (rs := [1]) (by decide +kernel) (by simp) (AllReadyIn.cons rfl (fun K hK => ?_) AllReadyIn.nil) | refine wpAnyIn_ready (rs := [2]) (by decide +kernel) (by simp) (AllReadyIn.cons rfl (fun K hK => ?_) AllReadyIn.nil) | refine wpAnyIn_ready (rs := [3]) (by decide +kernel) (by simp) (AllReadyIn.cons rfl (fun K hK => ?_) AllReadyIn.nil) | refine wpAnyIn_ready (rs := [4]) (by decide +kernel) (by simp) (AllReadyIn.cons rfl (fun K hK => ?_) AllReadyIn.nil) | refine wpAnyIn_ready (rs := [5]) (by decide +kernel) (by simp) (AllReadyIn.cons rfl (fun K hK => ?_) AllReadyIn.nil) | refine wpAnyIn_ready (rs := [6]) (by decide +kernel) (by simp) (AllReadyIn.cons rfl (fun K hK => ?_) AllReadyIn.nil) | refine wpAnyIn_ready (rs := [7]) (by decide +kernel) (by simp) (AllReadyIn.cons rfl (fun K hK => ?_) AllReadyIn.nil) | refine wpAnyIn_ready (rs := [8]) (by decide +kernel) (by simp) (AllReadyIn.cons rfl (fun K hK => ?_) AllReadyIn.nil))
      all_goals (first | (refine stepIn_append rfl _ _ 55 55 rfl rfl rfl hrun ?_; refine hK _ _ ?_; clear hK K) | (go_simp; refine hK _ _ ?_; clear hK K))
      all_goals (first | refine wpAnyIn_ready (rs := [0,1]) (by decide +kernel) (by simp) (AllReadyIn.cons rfl (fun K hK => ?_) (AllReadyIn.cons rfl (fun K hK => ?_) AllReadyIn.nil)) | refine wpAnyIn_ready (rs := [0,2]) (by decide +kernel) (by simp) (AllReadyIn.cons rfl (fun K hK => ?_) (AllReadyIn.cons rfl (fun K hK => ?_) AllReadyIn.nil)) | refine wpAnyIn_ready (rs := [0,3]) (by decide +kernel) (by simp) (AllReadyIn.cons rfl (fun K hK => ?_) (AllReadyIn.cons rfl (fun K hK => ?_) AllReadyIn.nil)) | refine wpAnyIn_ready (rs := [0,4]) (by decide +kernel) (by simp) (AllReadyIn.cons rfl (fun K hK => ?_) (AllReadyIn.cons rfl (fun K hK => ?_) AllReadyIn.nil)) | refine wpAnyIn_ready (rs := [0,5]) (by decide +kernel) (by simp) (AllReadyIn.cons rfl (fun K hK => ?_) (AllReadyIn.cons rfl (fun K hK => ?_) AllReadyIn.nil)) | refine wpAnyIn_ready (rs := [0,6]) (by decide +kernel) (by simp) (AllReadyIn.cons rfl (fun K hK => ?_) (AllReadyIn.cons rfl (fun K hK => ?_) AllReadyIn.nil)) | refine wpAnyIn_ready (rs := [0]) (by decide +kernel) (by simp) (AllReadyIn.cons rfl (fun K hK => ?_) AllReadyIn.nil) | refine wpAnyIn_ready (rs := [1]) (by decide +kernel) (by simp) (AllReadyIn.cons rfl (fun K hK => ?_) AllReadyIn.nil) | refine wpAnyIn_ready (rs := [2]) (by decide +kernel) (by simp) (AllReadyIn.cons rfl (fun K hK => ?_) AllReadyIn.nil) | refine wpAnyIn_ready (rs := [3]) (by decide +kernel) (by simp) (AllReadyIn.cons rfl (fun K hK => ?_) AllReadyIn.nil) | refine wpAnyIn_ready (rs := [4]) (by decide +kernel) (by simp) (AllReadyIn.cons rfl (fun K hK => ?_) AllReadyIn.nil) | refine wpAnyIn_ready (rs := [5]) (by decide +kernel) (by simp) (AllReadyIn.cons rfl (fun K hK => ?_) AllReadyIn.nil) | refine wpAnyIn_ready (rs := [6]) (by decide +kernel) (by simp) (AllReadyIn.cons rfl (fun K hK => ?_) AllReadyIn.nil) | refine wpAnyIn_ready (rs := [7]) (by decide +kernel) (by simp) (AllReadyIn.cons rfl (fun K hK => ?_) AllReadyIn.nil) | refine wpAnyIn_ready (rs := [8]) (by decide +kernel) (by simp) (AllReadyIn.cons rfl (fun K hK => ?_) AllReadyIn.nil))
      all_goals (first | (refine stepIn_append rfl _ _ 55 55 rfl rfl rfl hrun ?_; refine hK _ _ ?_; clear hK K) | (go_simp; refine hK _ _ ?_; clear hK K))
      all_goals (first | refine wpAnyIn_ready (rs := [0,1]) (by decide +kernel) (by simp) (AllReadyIn.cons rfl (fun K hK => ?_) (AllReadyIn.cons rfl (fun K hK => ?_) AllReadyIn.nil)) | refine wpAnyIn_ready (rs := [0,2]) (by decide +kernel) (by simp) (AllReadyIn.cons rfl (fun K hK => ?_) (AllReadyIn.cons rfl (fun K hK => ?_) AllReadyIn.nil)) | refine wpAnyIn_ready (rs := [0,3]) (by decide +kernel) (by simp) (AllReadyIn.cons rfl (fun K hK => ?_) (AllReadyIn.cons rfl (fun K hK => ?_) AllReadyIn.nil)) | refine wpAnyIn_ready (rs := [0,4]) (by decide +kernel) (by simp) (AllReadyIn.cons rfl (fun K hK => ?_) (AllReadyIn.cons rfl (fun K hK => ?_) AllReadyIn.nil)) | refine wpAnyIn_ready (rs := [0,5]) (by decide +kernel) (by simp) (AllReadyIn.cons rfl (fun K hK => ?_) (AllReadyIn.cons rfl (fun K hK => ?_) AllReadyIn.nil)) | refine wpAnyIn_ready (rs := [0,6]) (by decide +kernel) (by simp) (AllReadyIn.cons rfl (fun K hK => ?_) (AllReadyIn.cons rfl (fun K hK => ?_) AllReadyIn.nil)) | refine wpAnyIn_ready (rs := [0]) (by decide +kernel) (by simp) (AllReadyIn.cons rfl (fun K hK => ?_) AllReadyIn.nil) | refine wpAnyIn_ready (rs := [1]) (by decide +kernel) (by simp) (AllReadyIn.cons rfl (fun K hK => ?_) AllReadyIn.nil) | refine wpAnyIn_ready (rs := [2]) (by decide +kernel) (by simp) (AllReadyIn.cons rfl (fun K hK => ?_) AllReadyIn.nil) | refine wpAnyIn_ready (rs := [3]) (by decide +kernel) (by simp) (AllReadyIn.cons rfl (fun K hK => ?_) AllReadyIn.nil) | refine wpAnyIn_ready (rs := [4]) (by decide +kernel) (by simp) (AllReadyIn.cons rfl (fun K hK => ?_) AllReadyIn.nil) | refine wpAnyIn_ready (rs := [5]) (by decide +kernel) (by simp) (AllReadyIn.cons rfl (fun K hK => ?_) AllReadyIn.nil) | refine wpAnyIn_ready (rs := [6]) (by decide +kernel) (by simp) (AllReadyIn.cons rfl (fun K hK => ?_) AllReadyIn.nil) | refine wpAnyIn_ready (rs := [7]) (by decide +kernel) (by simp) (AllReadyIn.cons rfl (fun K hK => ?_) AllReadyIn.nil) | refine wpAnyIn_ready (rs := [8]) (by decide +kernel) (by simp) (AllReadyIn.cons rfl (fun K hK => ?_) AllReadyIn.nil))
      all_goals (first | (refine stepIn_append rfl _ _ 55 55 rfl rfl rfl hrun ?_; refine hK _ _ ?_; clear hK K) | (go_simp; refine hK _ _ ?_; clear hK K))
      all_goals (first | refine wpAnyIn_ready (rs := [0,1]) (by decide +kernel) (by simp) (AllReadyIn.cons rfl (fun K hK => ?_) (AllReadyIn.cons rfl (fun K hK => ?_) AllReadyIn.nil)) | refine wpAnyIn_ready (rs := [0,2]) (by decide +kernel) (by simp) (AllReadyIn.cons rfl (fun K hK => ?_) (AllReadyIn.cons rfl (fun K hK => ?_) AllReadyIn.nil)) | refine wpAnyIn_ready (rs := [0,3]) (by decide +kernel) (by simp) (AllReadyIn.cons rfl (fun K hK => ?_) (AllReadyIn.cons rfl (fun K hK => ?_) AllReadyIn.nil)) | refine wpAnyIn_ready (rs := [0,4]) (by decide +kernel) (by simp) (AllReadyIn.cons rfl (fun K hK => ?_) (AllReadyIn.cons rfl (fun K hK => ?_) AllReadyIn.nil)) | refine wpAnyIn_ready (rs := [0,5]) (by decide +kernel) (by simp) (AllReadyIn.cons rfl (fun K hK => ?_) (AllReadyIn.cons rfl (fun K hK => ?_) AllReadyIn.nil)) | refine wpAnyIn_ready (rs := [0,6]) (by decide +kernel) (by simp) (AllReadyIn.cons rfl (fun K hK => ?_) (AllReadyIn.cons rfl (fun K hK => ?_) AllReadyIn.nil)) | refine wpAnyIn_ready (rs := [0]) (by decide +kernel) (by simp) (AllReadyIn.cons rfl (fun K hK => ?_) AllReadyIn.nil) | refine wpAnyIn_ready (rs := [1]) (by decide +kernel) (by simp) (AllReadyIn.cons rfl (fun K hK => ?_) AllReadyIn.nil) | refine wpAnyIn_ready (rs := [2]) (by decide +kernel) (by simp) (AllReadyIn.cons rfl (fun K hK => ?_) AllReadyIn.nil) | refine wpAnyIn_ready (rs := [3]) (by decide +kernel) (by simp) (AllReadyIn.cons rfl (fun K hK => ?_) AllReadyIn.nil) | refine wpAnyIn_ready (rs := [4]) (by decide +kernel) (by simp) (AllReadyIn.cons rfl (fun K hK => ?_) AllReadyIn.nil) | refine wpAnyIn_ready (rs := [5]) (by decide +kernel) (by simp) (AllReadyIn.cons rfl (fun K hK => ?_) AllReadyIn.nil) | refine wpAnyIn_ready (rs := [6]) (by decide +kernel) (by simp) (AllReadyIn.cons rfl (fun K hK => ?_) AllReadyIn.nil) | refine wpAnyIn_ready (rs := [7]) (by decide +kernel) (by simp) (AllReadyIn.cons rfl (fun K hK => ?_) AllReadyIn.nil) | refine wpAnyIn_ready (rs := [8]) (by decide +kernel) (by simp) (AllReadyIn.cons rfl (fun K hK => ?_) AllReadyIn.nil))
      all_goals (first | (refine stepIn_append rfl _ _ 55 55 rfl rfl rfl hrun ?_; refine hK _ _ ?_; clear hK K) | (go_simp; refine hK _ _ ?_; clear hK K))
      all_goals (first | refine wpAnyIn_ready (rs := [0,1]) (by decide +kernel) (by simp) (AllReadyIn.cons rfl (fun K hK => ?_) (AllReadyIn.cons rfl (fun K hK => ?_) AllReadyIn.nil)) | refine wpAnyIn_ready (rs := [0,2]) (by decide +kernel) (by simp) (AllReadyIn.cons rfl (fun K hK => ?_) (AllReadyIn.cons rfl (fun K hK => ?_) AllReadyIn.nil)) | refine wpAnyIn_ready (rs := [0,3]) (by decide +kernel) (by simp) (AllReadyIn.cons rfl (fun K hK => ?_) (AllReadyIn.cons rfl (fun K hK => ?_) AllReadyIn.nil)) | refine wpAnyIn_ready (rs := [0,4]) (by decide +kernel) (by simp) (AllReadyIn.cons rfl (fun K hK => ?_) (AllReadyIn.cons rfl (fun K hK => ?_) AllReadyIn.nil)) | refine wpAnyIn_ready (rs := [0,5]) (by decide +kernel) (by simp) (AllReadyIn.cons rfl (fun K hK => ?_) (AllReadyIn.cons rfl (fun K hK => ?_) AllReadyIn.nil)) | refine wpAnyIn_ready (rs := [0,6]) (by decide +kernel) (by simp) (AllReadyIn.cons rfl (fun K hK => ?_) (AllReadyIn.cons rfl (fun K hK => ?_) AllReadyIn.nil)) | refine wpAnyIn_ready (rs := [0]) (by decide +kernel) (by simp) (AllReadyIn.cons rfl (fun K hK => ?_) AllReadyIn.nil) | refine wpAnyIn_ready (rs := [1]) (by decide +kernel) (by simp) (AllReadyIn.cons rfl (fun K hK => ?_) AllReadyIn.nil) | refine wpAnyIn_ready (rs := [2]) (by decide +kernel) (by simp) (AllReadyIn.cons rfl (fun K hK => ?_) AllReadyIn.nil) | refine wpAnyIn_ready (rs := [3]) (by decide +kernel) (by simp) (AllReadyIn.cons rfl (fun K hK => ?_) AllReadyIn.nil) | refine wpAnyIn_ready (rs := [4]) (by decide +kernel) (by simp) (AllReadyIn.cons rfl (fun K hK => ?_) AllReadyIn.nil) | refine wpAnyIn_ready (rs := [5]) (by decide +kernel) (by simp) (AllReadyIn.cons rfl (fun K hK => ?_) AllReadyIn.nil) | refine wpAnyIn_ready (rs := [6]) (by decide +kernel) (by simp) (AllReadyIn.cons rfl (fun K hK => ?_) AllReadyIn.nil) | refine wpAnyIn_ready (rs := [7]) (by decide +kernel) (by simp) (AllReadyIn.cons rfl (fun K hK => ?_) AllReadyIn.nil) | refine wpAnyIn_ready (rs := [8]) (by decide +kernel) (by simp) (AllReadyIn.cons rfl (fun K hK => ?_) AllReadyIn.nil))
      all_goals (first | (refine stepIn_append rfl _ _ 55 55 rfl rfl rfl hrun ?_; refine hK _ _ ?_; clear hK K) | (go_simp; refine hK _ _ ?_; clear hK K))
      all_goals (first | refine wpAnyIn_ready (rs := [0,1]) (by decide +kernel) (by simp) (AllReadyIn.cons rfl (fun K hK => ?_) (AllReadyIn.cons rfl (fun K hK => ?_) AllReadyIn.nil)) | refine wpAnyIn_ready (rs := [0,2]) (by decide +kernel) (by simp) (AllReadyIn.cons rfl (fun K hK => ?_) (AllReadyIn.cons rfl (fun K hK => ?_) AllReadyIn.nil)) | refine wpAnyIn_ready (rs := [0,3]) (by decide +kernel) (by simp) (AllReadyIn.cons rfl (fun K hK => ?_) (AllReadyIn.cons rfl (fun K hK => ?_) AllReadyIn.nil)) | refine wpAnyIn_ready (rs := [0,4]) (by decide +kernel) (by simp) (AllReadyIn.cons rfl (fun K hK => ?_) (AllReadyIn.cons rfl (fun K hK => ?_) AllReadyIn.nil)) | refine wpAnyIn_ready (rs := [0,5]) (by decide +kernel) (by simp) (AllReadyIn.cons rfl (fun K hK => ?_) (AllReadyIn.cons rfl (fun K hK => ?_) AllReadyIn.nil)) | refine wpAnyIn_ready (rs := [0,6]) (by decide +kernel) (by simp) (AllReadyIn.cons rfl (fun K hK => ?_) (AllReadyIn.cons rfl (fun K hK => ?_) AllReadyIn.nil)) | refine wpAnyIn_ready (rs := [0]) (by decide +kernel) (by simp) (AllReadyIn.cons rfl (fun K hK => ?_) AllReadyIn.nil) | refine wpAnyIn_ready (rs := [1]) (by decide +kernel) (by simp) (AllReadyIn.cons rfl (fun K hK => ?_) AllReadyIn.nil) | refine wpAnyIn_ready (rs := [2]) (by decide +kernel) (by simp) (AllReadyIn.cons rfl (fun K hK => ?_) AllReadyIn.nil) | refine wpAnyIn_ready (rs := [3]) (by decide +kernel) (by simp) (AllReadyIn.cons rfl (fun K hK => ?_) AllReadyIn.nil) | refine wpAnyIn_ready (rs := [4]) (by decide +kernel) (by simp) (AllReadyIn.cons rfl (fun K hK => ?_) AllReadyIn.nil) | refine wpAnyIn_ready (rs := [5]) (by decide +kernel) (by simp) (AllReadyIn.cons rfl (fun K hK => ?_) AllReadyIn.nil) | refine wpAnyIn_ready (rs := [6]) (by decide +kernel) (by simp) (AllReadyIn.cons rfl (fun K hK => ?_) AllReadyIn.nil) | refine wpAnyIn_ready (rs := [7]) (by decide +kernel) (by simp) (AllReadyIn.cons rfl (fun K hK => ?_) AllReadyIn.nil) | refine wpAnyIn_ready (rs := [8]) (by decide +kernel) (by simp) (AllReadyIn.cons rfl (fun K hK => ?_) AllReadyIn.nil))
      all_goals (first | (refine stepIn_append rfl _ _ 55 55 rfl rfl rfl hrun ?_; refine hK _ _ ?_; clear hK K) | (go_simp; refine hK _ _ ?_; clear hK K))
      all_goals refine wpAnyIn_done (by decide +kernel) ?_ _
      all_goals gi_wp2
      all_goals (
        obtain ⟨g2, g3, g4, g5⟩ := HH.out
        obtain ⟨z1, z2, z3, z4, z5⟩ := app_end g3 g4 (drewB V 1) HG.out HO.out (Nat.lt_succ_self _) g5 (Nat.le_succ _) (by decide) (by simp [itT]) (by simp [itT]) w2.heap.size []
        refine ⟨z1, z2, _, ⟨by omega, H37.out.setOther 0 _ (Nat.ne_of_lt (Nat.lt_succ_self _)), z4⟩, ?_, z3⟩
        have he : entsF F (List.range' (a + 1) (i + 1)) = entsF F (List.range' (a + 1) i) ++ [(y.m, y.s)] := by
          unfold entsF
          rw [List.range'_concat, List.map_append, Nat.one_mul, ← hxe]
          simp [HY.out]
        rw [he]
        exact z5)
  case done =>
    rintro Dd V hD ⟨r, ⟨h1, h2, h3⟩, h4, h5⟩ hVD
    clear hseq
    have hlen : (List.range' (a + 1) xn).length = b - a := by simp at h1 ⊢; omega
    rw [hlen] at h4
    obtain ⟨g0, g1⟩ := facts1 h3
    have HK := Lib.hid hVD
    have HO := Lib.hid h4
    have H5 := Lib.hid h5
    clear h1 h2 h3 h4 h5 hVD
    simp only [Exit.inBlock, Exit.then]
    go_wp2
    have hfin : (V.putObj Dd (.deferred none)).ownsRow w.heap.size 101 2 r _ _ := own_mono (ownsRow_putObj HO.out _ HK.out rfl) (by omega)
    rw [Exit.noGoto_ret]
    exact leave (v := r) rfl HK.out (by simp [results, Tryz.results300, go_sem]) ⟨_, rfl, hfin, below_put H5.out (by omega) _⟩
  case stop =>
    rintro Dd c i V hD h hVD
    cases c with
    | exit id =>
      obtain ⟨r, ⟨rfl, h3⟩, h4, h5⟩ := h
      clear hseq
      obtain ⟨g0, g1⟩ := facts1 h3
      have HK := Lib.hid hVD
      have HO := Lib.hid h4
      have H5 := Lib.hid h5
      clear h3 h4 h5 hVD
      refine wpIn_wide.2 ?_
      go_wp2
      have hfin : (V.putObj Dd (.deferred none)).ownsRow w.heap.size 101 2 r _ _ := own_mono (ownsRow_putObj HO.out _ HK.out rfl) (by omega)
      rw [Exit.noGoto_ret]
      exact leave (v := r) rfl HK.out (by simp [results, Tryz.results300, go_sem]) ⟨_, rfl, hfin, below_put H5.out (by omega) _⟩
    | _ => exact h.elim
end Go.Proofs.YtpfoicpnpgojdaaGreatDoor.Sk
