/- FrameKinds: its last row, in one of three cases. -/
import Derived.Test.YtjcgfbmkgfhnaaaDoorKinds
namespace Go.Proofs.YtjcgfbmkgfhnaaaDoor
open Go.RowKit Go.Shelf
attribute [local go_sem] Oper.semAt_some

set_option maxRecDepth 100000 in
set_option maxHeartbeats 20000000 in
theorem kinds_F {W : World} {aM aW : Addr} {m : Int} (hE : Env W aM aW m) (h3 : 3 ≤ W.heap.size) (s : ByteArray) (hs : s.size ≤ maxLen) (n k : Int) (hk : ¬ k < 0) (hk2 : ¬ 60 < k)
    (sz : Nat) (hsz : (min (s.size : Int) 610).toNat = sz) (hra : fitsS (.simple (s.extract 0 sz)) 0 = false) (h6 : (sz : Int) ≤ 600) :
    Calls Tryd.prog 5 #[.string s, .int .i64 n, .int .i64 k] W fun e W' => e = .returned (.bool true) ∧ Below W.heap.size W W' := by
  have HS := Lib.hid (shown_any hE h3)
  unfold maxLen at hs
  have hrb : fitsS (.failure (s.extract 0 sz)) 0 = false := hra
  have hse : (s.extract 0 sz).size = sz := by simp [ByteArray.size_extract]; omega
  have hsm : sz ≤ 610 := by omega
  have hst : (s.extract 0 sz).size ≤ maxLen := by unfold maxLen; omega
  have HA : ∀ w, Hid (Calls Tryd.prog 20 #[.agg #[.int .i64 1, .int .i64 0, .string (s.extract 0 sz), .slice none 0 0]] w fun e w' => e = .returned (.bool false) ∧ Below w.heap.size w w') := fun w => by
    have h := right_any 1 0 ⟨_, hst⟩ none 0 .nil w (IsFo.nil _ _ _) (by simp [Fo.depth])
    rw [show rightS (.cons 1 0 ⟨_, hst⟩ none 0 .nil .nil) = false by simp only [rightS, Fo.flat_cons, Fo.flat_nil, rightL, List.append_nil, List.all_cons, List.all_nil, Bool.and_true, Fo.len]; rw [head_simple]; exact hra] at h
    exact Lib.hid h
  have HB : ∀ w, Hid (Calls Tryd.prog 20 #[.agg #[.int .i64 2, .int .i64 0, .string (s.extract 0 sz), .slice none 0 0]] w fun e w' => e = .returned (.bool false) ∧ Below w.heap.size w w') := fun w => by
    have h := right_any 2 0 ⟨_, hst⟩ none 0 .nil w (IsFo.nil _ _ _) (by simp [Fo.depth])
    rw [show rightS (.cons 2 0 ⟨_, hst⟩ none 0 .nil .nil) = false by simp only [rightS, Fo.flat_cons, Fo.flat_nil, rightL, List.append_nil, List.all_cons, List.all_nil, Bool.and_true, Fo.len]; rw [head_failure]; exact hrb] at h
    exact Lib.hid h
  have HC : ∀ w, Hid (Calls Tryd.prog 20 #[.agg #[.int .i64 4, .int .i64 0, .string (s.extract 0 sz), .slice none 0 0]] w fun e w' => e = .returned (.bool (decide ((sz : Int) ≤ 600))) ∧ Below w.heap.size w w') := fun w => by
    have h := right_any 4 0 ⟨_, hst⟩ none 0 .nil w (IsFo.nil _ _ _) (by simp [Fo.depth])
    rw [show rightS (.cons 4 0 ⟨_, hst⟩ none 0 .nil .nil) = decide ((sz : Int) ≤ 600) by simp only [rightS, Fo.flat_cons, Fo.flat_nil, rightL, List.append_nil, List.all_cons, List.all_nil, Bool.and_true, Fo.len]; rw [head_bulk]; simp [fitsS, hse]] at h
    exact Lib.hid h
  have HD : ∀ w, Hid (Calls Tryd.prog 20 #[.agg #[.int .i64 3, .int .i64 n, .string ⟨#[]⟩, .slice none 0 0]] w fun e w' => e = .returned (.bool true) ∧ Below w.heap.size w w') := fun w => by
    have h := right_any 3 n noTxt none 0 .nil w (IsFo.nil _ _ _) (by simp [Fo.depth])
    rw [show rightS (.cons 3 n noTxt none 0 .nil .nil) = true by simp only [rightS, Fo.flat_cons, Fo.flat_nil, rightL, List.append_nil, List.all_cons, List.all_nil, Bool.and_true, Fo.len]; rw [head_int]; rfl] at h
    exact Lib.hid h
  have HN : ∀ w, Hid (Calls Tryd.prog 20 #[.agg #[.int .i64 5, .int .i64 0, .string ⟨#[]⟩, .slice none 0 0]] w fun e w' => e = .returned (.bool true) ∧ Below w.heap.size w w') := fun w => by
    have h := right_any 5 0 noTxt none 0 .nil w (IsFo.nil _ _ _) (by simp [Fo.depth])
    rw [show rightS (.cons 5 0 noTxt none 0 .nil .nil) = true by simp only [rightS, Fo.flat_cons, Fo.flat_nil, rightL, List.append_nil, List.all_cons, List.all_nil, Bool.and_true, Fo.len]; rw [head_nil]; rfl] at h
    exact Lib.hid h
  have HF : ∀ w a cap t, t.bare = reps n k.toNat → IsFo anyB w a t → Hid (Calls Tryd.prog 20 #[.agg #[.int .i64 6, .int .i64 0, .string ⟨#[]⟩, .slice a t.len cap]] w fun e w' => e = .returned (.bool true) ∧ Below w.heap.size w w') := fun w a cap t ht hf => by
    have hd : t.depth ≤ 1 := by rw [← Fo.depth_bare, ht]; exact reps_depth _ _
    have hl : t.len = k.toNat := by rw [← Fo.len_bare, ht]; exact reps_len _ _
    have h := right_any 6 0 noTxt a cap t w hf (by omega)
    rw [show rightS (.cons 6 0 noTxt a cap t .nil) = true by
      simp only [rightS, Fo.flat_cons, Fo.flat_nil, rightL, List.append_nil, List.all_cons]
      rw [head_arr, List.all_eq_true.2 fun x hx => by obtain ⟨a, c, rfl⟩ := reps_flat ht x hx; rw [head_int]; rfl]
      simp only [fitsS, Bool.and_true, decide_eq_true_eq]
      omega] at h
    exact Lib.hid h
  obtain ⟨i0, hi0, hz0, hz1, hz2⟩ := info_parts Tryd.info24
  have KI := fun w => Lib.hid (mk_int n w)
  have KS := fun w => Lib.hid (mk_simple (s.extract 0 sz) w)
  have KE := fun w => Lib.hid (mk_err (s.extract 0 sz) w)
  have KB := fun w => Lib.hid (mk_bulk (s.extract 0 sz) w)
  have KN := fun w => Lib.hid (mk_nil w)
  clear hra hrb
  go_enter Tryd.func5, Tryd.ntmps5
  go_wp2_with (go_at_call 8; refine HS.out.mono ?_; rintro e w1 ⟨rfl, hb1⟩)
  go_loopw [8, 9] (fun l i wr => ∃ (j : Nat) (v : Value), i = .int .i64 j ∧ v = l ∧ (j : Int) ≤ k ∧ wr.ownsRow w1.heap.size 24 4 v j (reps n j).cellsL ∧ Below w1.heap.size w1 wr) (fun _ i _ => k.toNat - (intOf i).toNat)
  case atStart => exact ⟨0, _, rfl, rfl, by omega, World.ownsRow_nil _ _ _ _, Below.refl _ _⟩
  case round =>
    obtain ⟨j, v, rfl, rfl, hj, hO, hBw⟩ := hrel
    by_cases hlt : (j : Int) < k
    · have HO := Lib.hid hO
      have hz := hBw.size
      go_wp2_with fail
      refine (KI _).out.mono ?_
      rintro e w2 ⟨rfl, hb2⟩
      have hO2 : w2.ownsRow w1.heap.size 24 4 v j (reps n j).cellsL := by
        refine hO.kept (row := none) ⟨hb2.os, hb2.tape, hb2.output, hb2.size, fun q hq _ => hb2.block q hq⟩ ?_
        rcases hO.2 with ⟨rfl, _⟩ | ⟨_, _, _, rfl, _⟩
        · exact .inl rfl
        · exact .inr (by simp [Value.ownBlock])
      have HO2 := Lib.hid hO2
      have hz2' := hb2.size
      have hB2 := hBw.trans (hb2.mono hz)
      have hlt2 := hO2.lt
      clear hO2 hb2 hO HO
      go_wp2_with (at_builtin; refine wpList_append_lies _ rfl _ _ 22 rfl w1.heap.size 24 i0 _ 4 56 Tryd.underlying22 hi0 hz0 hz1 hz2 rfl (by omega) v j (reps n j).cellsL rfl (HO2.out.alloc _) ⟨w2.heap.size, 0, none⟩ 1 1 [.int .i64 3, .int .i64 n, .string ⟨#[]⟩, .slice none 0 0] rfl rfl (World.news_of_block (cs := #[.int .i64 3, .int .i64 n, .string ⟨#[]⟩, .slice none 0 0]) (t := 24) (fr := (0, 0)) (heap_alloc_new _ _)) (one_cells _ _ _ _ _ _) (by omega) (by unfold maxLen; omega) (by omega) (by simp; omega) (w2.heap.size + 1) (by simp) ?_; intro gg cg w4 hown4 hgrow4 hat4 hlt4)
      go_roundw
      case rel => exact ⟨j + 1, _, by go_num, rfl, by omega, by rw [reps_snoc]; exact hown4, (hB2.alloc hB2.size _).grown hgrow4 (by simp; omega) fun k e => (hlt2 k e).1⟩
      case measure => simp [intOf]; omega
    · have hjk : k.toNat = j := by omega
      rw [hjk] at HF
      have hB := hb1.trans (hBw.mono hb1.size)
      have hBw0 := hBw
      obtain ⟨a, cap, rfl, hf⟩ := fo_of_own (t := reps n j) (ok := anyB) (by rw [reps_len]; exact hO) (by rw [reps_len]; omega) (fun _ _ => trivial) (reps_all n _ (IsFo.nil _ _ _) j)
      rw [reps_len]
      clear hO hBw
      go_wp2_with fail
      refine (KS _).out.mono ?_
      rintro e w2 ⟨rfl, hb2⟩
      have hB2 := below_new (w0 := wr) (Below.refl _ _) hb2 (Obj.cells #[.int .i64 1, .int .i64 0, .string (s.extract 0 sz), .slice none 0 0] 24)
      have xa := box_new w2 1 0 (s.extract 0 sz) (.slice none 0 0)
      clear hb2
      go_wp2_with fail
      generalize w2.alloc _ = v2 at xa hB2 ⊢
      refine (KE _).out.mono ?_
      rintro e w3 ⟨rfl, hb3⟩
      have xb := box_new w3 2 0 (s.extract 0 sz) (.slice none 0 0)
      have hB3 := below_new (Below.refl _ _) hb3 (Obj.cells #[.int .i64 2, .int .i64 0, .string (s.extract 0 sz), .slice none 0 0] 24)
      clear hb3
      go_wp2_with fail
      generalize w3.alloc _ = v3 at xb hB3 ⊢
      replace xa := xa.later hB3
      replace hB3 := hB2.trans (hB3.mono hB2.size)
      refine (KB _).out.mono ?_
      rintro e w4 ⟨rfl, hb4⟩
      have xc := box_new w4 4 0 (s.extract 0 sz) (.slice none 0 0)
      have hB4 := below_new (Below.refl _ _) hb4 (Obj.cells #[.int .i64 4, .int .i64 0, .string (s.extract 0 sz), .slice none 0 0] 24)
      clear hb4
      go_wp2_with fail
      generalize w4.alloc _ = v4 at xc hB4 ⊢
      replace xa := xa.later hB4
      replace xb := xb.later hB4
      replace hB4 := hB3.trans (hB4.mono hB3.size)
      refine (KI _).out.mono ?_
      rintro e w5 ⟨rfl, hb5⟩
      have xd := box_new w5 3 n ⟨#[]⟩ (.slice none 0 0)
      have hB5 := below_new (Below.refl _ _) hb5 (Obj.cells #[.int .i64 3, .int .i64 n, .string ⟨#[]⟩, .slice none 0 0] 24)
      clear hb5
      go_wp2_with fail
      generalize w5.alloc _ = v5 at xd hB5 ⊢
      replace xa := xa.later hB5
      replace xb := xb.later hB5
      replace xc := xc.later hB5
      replace hB5 := hB4.trans (hB5.mono hB4.size)
      refine (KN _).out.mono ?_
      rintro e w6 ⟨rfl, hb6⟩
      have xe := box_new w6 5 0 ⟨#[]⟩ (.slice none 0 0)
      have hB6 := below_new (Below.refl _ _) hb6 (Obj.cells #[.int .i64 5, .int .i64 0, .string ⟨#[]⟩, .slice none 0 0] 24)
      clear hb6
      go_wp2_with fail
      generalize w6.alloc _ = v6 at xe hB6 ⊢
      replace xa := xa.later hB6
      replace xb := xb.later hB6
      replace xc := xc.later hB6
      replace xd := xd.later hB6
      replace hB6 := hB5.trans (hB6.mono hB5.size)
      have hf6 := hf.same (Same24.of_below hB6)
      have AR := array_any a cap (reps n j) v6 hf6 (by have := reps_depth n j; omega)
      rw [reps_len] at AR
      refine AR.mono ?_
      rintro e w7 ⟨a7, cap7, t7, rfl, hbr7, hf7, hb7⟩
      rw [reps_len]
      have hl7 : t7.len = j := by rw [← Fo.len_bare, hbr7, reps_bare, reps_len]
      have xf := box_new w7 6 0 ⟨#[]⟩ (.slice a7 j cap7)
      have hB7 := below_new (Below.refl _ _) hb7 (Obj.cells #[.int .i64 6, .int .i64 0, .string ⟨#[]⟩, .slice a7 j cap7] 24)
      have hf8 := hf7.any.same ((Same24.refl _).alloc (Obj.cells #[.int .i64 6, .int .i64 0, .string ⟨#[]⟩, .slice a7 j cap7] 24))
      clear hb7 AR hf6 hf7
      go_wp2_with fail
      generalize w7.alloc _ = v7 at xf hB7 hf8 ⊢
      replace xa := xa.later hB7
      replace xb := xb.later hB7
      replace xc := xc.later hB7
      replace xd := xd.later hB7
      replace xe := xe.later hB7
      replace hB7 := hB6.trans (hB7.mono hB6.size)
      replace hB7 := hBw0.trans (hB7.mono hBw0.size)
      have HF' : ∀ w, FoAt w a7 t7 → Hid (Calls Tryd.prog 20 #[.agg #[.int .i64 6, .int .i64 0, .string ⟨#[]⟩, .slice a7 j cap7]] w fun e w' => e = .returned (.bool true) ∧ Below w.heap.size w w') := fun w h => by
        have h2 := HF w a7 cap7 t7 (hbr7.trans (reps_bare n j)) h.h
        rw [hl7] at h2
        exact h2
      clear HF hB2 hB3 hB4 hB5 hB6 hbr7 hf hB hBw0 hl7 hsm hst KI KS KE KB KN hz0 hz1 hz2 hi0 hE h3 HS hs hsz
      have hfo : FoAt v7 a7 t7 := ⟨hf8⟩
      clear hf8
      generalize s.extract 0 sz = s' at *
      subst hse
      have hsix : Six w1 w2.heap.size w3.heap.size w4.heap.size w5.heap.size w6.heap.size w7.heap.size s' n a7 j cap7 t7 v7 := ⟨xa, xb, xc, xd, xe, xf, hfo, hB7⟩
      clear xa xb xc xd xe xf hfo hB7
      have qa0 : ∀ x : InSix w1 w2.heap.size w3.heap.size w4.heap.size w5.heap.size w6.heap.size w7.heap.size s' n a7 j cap7 t7, x.w.cell? ⟨w2.heap.size, 0, none⟩ = some (.int .i64 1) := fun x => x.ok.a.c0
      have qa1 : ∀ x : InSix w1 w2.heap.size w3.heap.size w4.heap.size w5.heap.size w6.heap.size w7.heap.size s' n a7 j cap7 t7, x.w.cell? ⟨w2.heap.size, 1, none⟩ = some (.int .i64 0) := fun x => x.ok.a.c1
      have qa2 : ∀ x : InSix w1 w2.heap.size w3.heap.size w4.heap.size w5.heap.size w6.heap.size w7.heap.size s' n a7 j cap7 t7, x.w.cell? ⟨w2.heap.size, 2, none⟩ = some (.string s') := fun x => x.ok.a.c2
      have qa3 : ∀ x : InSix w1 w2.heap.size w3.heap.size w4.heap.size w5.heap.size w6.heap.size w7.heap.size s' n a7 j cap7 t7, x.w.cell? ⟨w2.heap.size, 3, none⟩ = some (.slice none 0 0) := fun x => x.ok.a.c3
      have qb0 : ∀ x : InSix w1 w2.heap.size w3.heap.size w4.heap.size w5.heap.size w6.heap.size w7.heap.size s' n a7 j cap7 t7, x.w.cell? ⟨w3.heap.size, 0, none⟩ = some (.int .i64 2) := fun x => x.ok.b.c0
      have qb1 : ∀ x : InSix w1 w2.heap.size w3.heap.size w4.heap.size w5.heap.size w6.heap.size w7.heap.size s' n a7 j cap7 t7, x.w.cell? ⟨w3.heap.size, 1, none⟩ = some (.int .i64 0) := fun x => x.ok.b.c1
      have qb2 : ∀ x : InSix w1 w2.heap.size w3.heap.size w4.heap.size w5.heap.size w6.heap.size w7.heap.size s' n a7 j cap7 t7, x.w.cell? ⟨w3.heap.size, 2, none⟩ = some (.string s') := fun x => x.ok.b.c2
      have qb3 : ∀ x : InSix w1 w2.heap.size w3.heap.size w4.heap.size w5.heap.size w6.heap.size w7.heap.size s' n a7 j cap7 t7, x.w.cell? ⟨w3.heap.size, 3, none⟩ = some (.slice none 0 0) := fun x => x.ok.b.c3
      have qc0 : ∀ x : InSix w1 w2.heap.size w3.heap.size w4.heap.size w5.heap.size w6.heap.size w7.heap.size s' n a7 j cap7 t7, x.w.cell? ⟨w4.heap.size, 0, none⟩ = some (.int .i64 4) := fun x => x.ok.c.c0
      have qc1 : ∀ x : InSix w1 w2.heap.size w3.heap.size w4.heap.size w5.heap.size w6.heap.size w7.heap.size s' n a7 j cap7 t7, x.w.cell? ⟨w4.heap.size, 1, none⟩ = some (.int .i64 0) := fun x => x.ok.c.c1
      have qc2 : ∀ x : InSix w1 w2.heap.size w3.heap.size w4.heap.size w5.heap.size w6.heap.size w7.heap.size s' n a7 j cap7 t7, x.w.cell? ⟨w4.heap.size, 2, none⟩ = some (.string s') := fun x => x.ok.c.c2
      have qc3 : ∀ x : InSix w1 w2.heap.size w3.heap.size w4.heap.size w5.heap.size w6.heap.size w7.heap.size s' n a7 j cap7 t7, x.w.cell? ⟨w4.heap.size, 3, none⟩ = some (.slice none 0 0) := fun x => x.ok.c.c3
      have qd0 : ∀ x : InSix w1 w2.heap.size w3.heap.size w4.heap.size w5.heap.size w6.heap.size w7.heap.size s' n a7 j cap7 t7, x.w.cell? ⟨w5.heap.size, 0, none⟩ = some (.int .i64 3) := fun x => x.ok.d.c0
      have qd1 : ∀ x : InSix w1 w2.heap.size w3.heap.size w4.heap.size w5.heap.size w6.heap.size w7.heap.size s' n a7 j cap7 t7, x.w.cell? ⟨w5.heap.size, 1, none⟩ = some (.int .i64 n) := fun x => x.ok.d.c1
      have qd2 : ∀ x : InSix w1 w2.heap.size w3.heap.size w4.heap.size w5.heap.size w6.heap.size w7.heap.size s' n a7 j cap7 t7, x.w.cell? ⟨w5.heap.size, 2, none⟩ = some (.string ⟨#[]⟩) := fun x => x.ok.d.c2
      have qd3 : ∀ x : InSix w1 w2.heap.size w3.heap.size w4.heap.size w5.heap.size w6.heap.size w7.heap.size s' n a7 j cap7 t7, x.w.cell? ⟨w5.heap.size, 3, none⟩ = some (.slice none 0 0) := fun x => x.ok.d.c3
      have qe0 : ∀ x : InSix w1 w2.heap.size w3.heap.size w4.heap.size w5.heap.size w6.heap.size w7.heap.size s' n a7 j cap7 t7, x.w.cell? ⟨w6.heap.size, 0, none⟩ = some (.int .i64 5) := fun x => x.ok.e.c0
      have qe1 : ∀ x : InSix w1 w2.heap.size w3.heap.size w4.heap.size w5.heap.size w6.heap.size w7.heap.size s' n a7 j cap7 t7, x.w.cell? ⟨w6.heap.size, 1, none⟩ = some (.int .i64 0) := fun x => x.ok.e.c1
      have qe2 : ∀ x : InSix w1 w2.heap.size w3.heap.size w4.heap.size w5.heap.size w6.heap.size w7.heap.size s' n a7 j cap7 t7, x.w.cell? ⟨w6.heap.size, 2, none⟩ = some (.string ⟨#[]⟩) := fun x => x.ok.e.c2
      have qe3 : ∀ x : InSix w1 w2.heap.size w3.heap.size w4.heap.size w5.heap.size w6.heap.size w7.heap.size s' n a7 j cap7 t7, x.w.cell? ⟨w6.heap.size, 3, none⟩ = some (.slice none 0 0) := fun x => x.ok.e.c3
      have qf0 : ∀ x : InSix w1 w2.heap.size w3.heap.size w4.heap.size w5.heap.size w6.heap.size w7.heap.size s' n a7 j cap7 t7, x.w.cell? ⟨w7.heap.size, 0, none⟩ = some (.int .i64 6) := fun x => x.ok.f.c0
      have qf1 : ∀ x : InSix w1 w2.heap.size w3.heap.size w4.heap.size w5.heap.size w6.heap.size w7.heap.size s' n a7 j cap7 t7, x.w.cell? ⟨w7.heap.size, 1, none⟩ = some (.int .i64 0) := fun x => x.ok.f.c1
      have qf2 : ∀ x : InSix w1 w2.heap.size w3.heap.size w4.heap.size w5.heap.size w6.heap.size w7.heap.size s' n a7 j cap7 t7, x.w.cell? ⟨w7.heap.size, 2, none⟩ = some (.string ⟨#[]⟩) := fun x => x.ok.f.c2
      have qf3 : ∀ x : InSix w1 w2.heap.size w3.heap.size w4.heap.size w5.heap.size w6.heap.size w7.heap.size s' n a7 j cap7 t7, x.w.cell? ⟨w7.heap.size, 3, none⟩ = some (.slice a7 j cap7) := fun x => x.ok.f.c3
      have hjk' : (j : Int) = k := by omega
      have hne : Nonempty (InSix w1 w2.heap.size w3.heap.size w4.heap.size w5.heap.size w6.heap.size w7.heap.size s' n a7 j cap7 t7) := ⟨⟨_, hsix⟩⟩
      clear hjk hj hlt hk hk2
      conv => arg 2; simp only [List.append_eq, List.cons_append, List.nil_append, List.append_toArray]
      refine region_quiet_of (C := fun W => ∃ x : InSix w1 w2.heap.size w3.heap.size w4.heap.size w5.heap.size w6.heap.size w7.heap.size s' n a7 j cap7 t7, W = x.w) (by kernel_rfl) (lexB_of_rows (by kernel_rfl) (by kernel_rfl)) ⟨⟨_, hsix.later (Below.refl _ _).drew⟩, rfl⟩ ?_
      clear hsix
      have h6' : (s'.size : Int) ≤ 600 := by omega
      rw [decide_eq_true h6'] at HC
      repeat (quiet_step (first
          | (go_at_call_of 20 (Value.agg #[Value.int .i64 1, .int .i64 0, .string s', .slice none 0 0]); exact (HA _).out.mono (fun _ _ h => ⟨h.1, InSix.later _ h.2⟩))
          | (go_at_call_of 20 (Value.agg #[Value.int .i64 2, .int .i64 0, .string s', .slice none 0 0]); exact (HB _).out.mono (fun _ _ h => ⟨h.1, InSix.later _ h.2⟩))
          | (go_at_call_of 20 (Value.agg #[Value.int .i64 4, .int .i64 0, .string s', .slice none 0 0]); exact (HC _).out.mono (fun _ _ h => ⟨h.1, InSix.later _ h.2⟩))
          | (go_at_call_of 20 (Value.agg #[Value.int .i64 3, .int .i64 n, .string ⟨#[]⟩, .slice none 0 0]); exact (HD _).out.mono (fun _ _ h => ⟨h.1, InSix.later _ h.2⟩))
          | (go_at_call_of 20 (Value.agg #[Value.int .i64 5, .int .i64 0, .string ⟨#[]⟩, .slice none 0 0]); exact (HN _).out.mono (fun _ _ h => ⟨h.1, InSix.later _ h.2⟩))
          | (go_at_call_of 20 (Value.agg #[Value.int .i64 6, .int .i64 0, .string ⟨#[]⟩, .slice a7 j cap7]); exact (HF' _ (InSix.ok _).fo).out.mono (fun _ _ h => ⟨h.1, InSix.later _ h.2⟩))))
      refine wpQuiet_nil ?_
      rintro _ ⟨x, rfl⟩
      have hBx := x.ok.below
      go_wp2
      go_ret
      exact ⟨rfl, hb1.trans (hBx.mono hb1.size)⟩

end Go.Proofs.YtjcgfbmkgfhnaaaDoor
