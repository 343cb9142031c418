/- For every three bytes the law GlobClasses returns true; no condition. -/
import Derived.Test.YtcaemhlmefhgdaaMath
import Derived.WalkKit
import Derived.Deep.DeepCutAuto
import Derived.ProofKit
import Derived.OpenShut
import Derived.ShutString
namespace Go.Proofs.Ytcaemhlmefhgdaa.globClasses
open Go.ChangeShapes Go.WideShapes Go.ChangeAt Go.RowKit
open Go.ChangeMaps (open_string shut_string)
set_option linter.unusedVariables false      -- a walk need not use every 'w<i>' (that an integer argument fits its kind)

theorem own : ownKnob Try.prog.godebug = none := by kernel_rfl

/-- A text of bytes. -/
def txt (l : List UInt8) : ByteArray := ⟨l.toArray⟩
theorem eight {w w1 w2 w3 w4 : World} (h1 : Hid (Below w.heap.size w w1)) (h2 : Hid (Below w1.heap.size w1 w2)) (h3 : Hid (Below w2.heap.size w2 w3)) (h4 : Hid (Below w3.heap.size w3 w4)) : Hid (Below w.heap.size w w4) :=
  four h1 h2 h3 h4 (Below.refl _ _)
theorem below_two {w w' : World} {o o' : Obj} (h : Below ((w.alloc o).alloc o').heap.size ((w.alloc o).alloc o') w') : Below w.heap.size w w' :=
  (((Below.refl _ _).alloc (Nat.le_refl _) o).alloc (by simp) o').trans (h.mono (by simp; omega))
theorem size_txt (l : List UInt8) (h : l.length ≤ 64) : (txt l).size ≤ 64 := by show l.toArray.size ≤ 64; simpa using h
theorem inSpan_eq (A B C : Int) : inSpan A B C = true ↔ min A B ≤ C ∧ C ≤ max A B := by simp [inSpan]
theorem runesL_asciis : ∀ l : List UInt8, (∀ b ∈ l, b.toNat < 128) → runesL l = l.map fun b => (b.toNat : Int)
  | [], _ => rfl
  | b :: l, h => by rw [runesL_ascii b l (h b (by simp)), runesL_asciis l fun x hx => h x (by simp [hx])]; rfl
theorem runes_txt (l : List UInt8) (h : ∀ b ∈ l, b.toNat < 128) : runesS (txt l) = l.map fun b => (b.toNat : Int) := by
  rw [runesS_L]; show runesL l.toArray.toList = _; rw [List.toList_toArray, runesL_asciis l h]

/-- One class and no more. -/
theorem match_class {cs : List Int} {k : Nat} {p t : ByteArray} {c : Int} (hp : runesS p = cs) (ht : runesS t = [c]) (h0 : cs.getD 0 0 = 91) (hk : classEndS cs = k) (hpos : 0 < k) (hl : cs.length = k + 1) :
    matchS p t = classP ((cs.drop 1).take (k - 1)) c := by
  refine bool_of ?_
  have hf : firstS cs = (some (classP ((cs.drop 1).take (k - 1))), k + 1) := by
    rw [firstS, hk, if_neg (by omega), if_neg (by omega), if_pos ⟨h0, hpos⟩]
  have hd : cs.drop (k + 1) = [] := List.drop_eq_nil_of_le (by omega)
  rw [matchS_iff, hp, ht, partsS_step (by omega), hf]
  show Mt (some (classP ((cs.drop 1).take (k - 1))) :: partsS (cs.drop (k + 1))) [c] ↔ _
  rw [hd, partsS_nil]
  constructor
  · rintro ⟨x, b, e, hx, rfl⟩
    simp only [List.cons.injEq] at e
    rw [e.1]; exact hx
  · intro h
    exact ⟨c, [], rfl, h, rfl⟩

theorem among_three (a b x : Int) : amongP [a, 45, b] x = inSpan a b x := by
  rw [amongP, spans_three a 45 b [] rfl]; simp [spans, spansF]
theorem among_two (a b x : Int) : amongP [a, b] x = (x == a || x == b) := by
  rw [amongP, spans_one a [b] (by simp), spans_one b [] (by simp)]
  rw [Bool.eq_iff_iff]; simp [spans, spansF, inSpan]; omega

theorem class_one {a b : Int} (ha : 97 ≤ a) (hb : 97 ≤ b) : classEndS [91, a, 45, b, 93] = 4 := by
  have hl : leastS [91, a, 45, b, 93] = 2 := by unfold leastS; rw [if_neg (fun h => by have := h.2; simp at this; omega)]
  rw [classEndS, hl, find_first (k := 4) (by simp) (by simp [endP])]
  · rfl
  · intro j hj
    match j, hj with
    | 0, _ => rfl
    | 1, _ => simp [endP]
    | 2, _ => simp [endP]
    | 3, _ => simp [endP]; omega
theorem class_not {a b : Int} (ha : 97 ≤ a) (hb : 97 ≤ b) : classEndS [91, 94, a, 45, b, 93] = 5 := by
  have hl : leastS [91, 94, a, 45, b, 93] = 3 := by unfold leastS; rw [if_pos (by simp)]
  rw [classEndS, hl, find_first (k := 5) (by simp) (by simp [endP])]
  · rfl
  · intro j hj
    match j, hj with
    | 0, _ => rfl
    | 1, _ => simp [endP]
    | 2, _ => simp [endP]
    | 3, _ => simp [endP]
    | 4, _ => simp [endP]; omega
theorem class_two {a b : Int} (ha : 97 ≤ a) (hb : 97 ≤ b) : classEndS [91, a, b, 93] = 3 := by
  have hl : leastS [91, a, b, 93] = 2 := by unfold leastS; rw [if_neg (fun h => by have := h.2; simp at this; omega)]
  rw [classEndS, hl, find_first (k := 3) (by simp) (by simp [endP])]
  · rfl
  · intro j hj
    match j, hj with
    | 0, _ => rfl
    | 1, _ => simp [endP]
    | 2, _ => simp [endP]; omega

/-- A letter. -/
def Letter (b : UInt8) : Prop := 97 ≤ b.toNat ∧ b.toNat ≤ 122
theorem text_one {c : UInt8} (hc : Letter c) : runesS (txt [c]) = [(c.toNat : Int)] := by
  rw [runes_txt _ (by intro b hb; simp at hb; subst hb; have := hc.2; omega)]; rfl
theorem yes {a b c : UInt8} (ha : Letter a) (hb : Letter b) (hc : Letter c) : matchS (txt [91, a, 45, b, 93]) (txt [c]) = inSpan a.toNat b.toNat c.toNat := by
  have ha1 := ha.1; have ha2 := ha.2; have hb1 := hb.1; have hb2 := hb.2
  have hp : runesS (txt [91, a, 45, b, 93]) = [91, (a.toNat : Int), 45, (b.toNat : Int), 93] := by
    rw [runes_txt _ (by intro x hx; simp at hx; rcases hx with rfl | rfl | rfl | rfl | rfl <;> first | decide | omega)]; rfl
  rw [match_class hp (text_one hc) rfl (class_one (by omega) (by omega)) (by omega) rfl]
  show classP [(a.toNat : Int), 45, (b.toNat : Int)] _ = _
  rw [classP, if_neg (by simp; omega), among_three]
theorem no {a b c : UInt8} (ha : Letter a) (hb : Letter b) (hc : Letter c) : matchS (txt [91, 94, a, 45, b, 93]) (txt [c]) = !inSpan a.toNat b.toNat c.toNat := by
  have ha1 := ha.1; have ha2 := ha.2; have hb1 := hb.1; have hb2 := hb.2
  have hp : runesS (txt [91, 94, a, 45, b, 93]) = [91, 94, (a.toNat : Int), 45, (b.toNat : Int), 93] := by
    rw [runes_txt _ (by intro x hx; simp at hx; rcases hx with rfl | rfl | rfl | rfl | rfl | rfl <;> first | decide | omega)]; rfl
  rw [match_class hp (text_one hc) rfl (class_not (by omega) (by omega)) (by omega) rfl]
  show classP [94, (a.toNat : Int), 45, (b.toNat : Int)] _ = _
  rw [classP, if_pos (by simp)]
  show (!amongP [(a.toNat : Int), 45, (b.toNat : Int)] _) = _
  rw [among_three]
theorem two {a b c : UInt8} (ha : Letter a) (hb : Letter b) (hc : Letter c) : matchS (txt [91, a, b, 93]) (txt [c]) = ((c.toNat : Int) == (a.toNat : Int) || (c.toNat : Int) == (b.toNat : Int)) := by
  have ha1 := ha.1; have ha2 := ha.2; have hb1 := hb.1; have hb2 := hb.2
  have hp : runesS (txt [91, a, b, 93]) = [91, (a.toNat : Int), (b.toNat : Int), 93] := by
    rw [runes_txt _ (by intro x hx; simp at hx; rcases hx with rfl | rfl | rfl | rfl <;> first | decide | omega)]; rfl
  rw [match_class hp (text_one hc) rfl (class_two (by omega) (by omega)) (by omega) rfl]
  show classP [(a.toNat : Int), (b.toNat : Int)] _ = _
  rw [classP, if_neg (by simp; omega), among_two]

/-- A new row of bytes, as cells; and the text that is made of it. -/
theorem run_text (l : List UInt8) (W : World) (g : Nat) (hg : W.heap.size = g) : (convert 33 9 (.slice (some ⟨g, 0, none⟩) l.length l.length)).run Try.prog (W.alloc (Obj.cells (byteCells l).toArray 5)) = .ok (.string (txt l)) (W.alloc (Obj.cells (byteCells l).toArray 5)) := by
  subst hg
  refine run_convert_bytes_back _ 33 9 5 ⟨W.heap.size, 0, none⟩ l.length l Try.underlying33 Try.underlying5 Try.underlying9 fun j hj => ?_
  have hadd : (⟨W.heap.size, 0, none⟩ : Addr).add j = ⟨W.heap.size, j, none⟩ := by unfold Addr.add; split <;> simp_all
  rw [hadd, cell_of_row _ W.heap.size j _ 5 (0, 0) (heap_at rfl)]
  simp [byteCells, List.getElem?_eq_getElem hj]

theorem byte_of {a : Int} (w0 : (Lit.int .u8 a).wf = true) : ∃ b : UInt8, a = (b.toNat : Int) := by
  have hx : 0 ≤ a ∧ a ≤ 255 := by simpa [Lit.wf, IntKind.min, IntKind.max, IntKind.signed, IntKind.bits] using w0
  exact ⟨UInt8.ofNat a.toNat, by rw [ofNat_toNat (by omega)]; omega⟩

set_option maxRecDepth 100000 in
set_option maxHeartbeats 1000000 in
theorem walk (a0 a1 a2 : Int) (w0 : (Lit.int .u8 a0).wf = true) (w1 : (Lit.int .u8 a1).wf = true) (w2 : (Lit.int .u8 a2).wf = true) (w : World) :
    Calls Try.prog 7 #[.int .u8 a0, .int .u8 a1, .int .u8 a2] w fun e w' => e = .returned (.bool true) ∧ Below w.heap.size w w' := by
  have HS := Lib.hid (shown_any w)
  by_cases hin : (97 ≤ a0 ∧ 97 ≤ a1 ∧ 97 ≤ a2) ∧ a0 ≤ 122 ∧ a1 ≤ 122 ∧ a2 ≤ 122
  · obtain ⟨⟨l0, l1, l2⟩, u0, u1, u2⟩ := hin
    obtain ⟨a, rfl⟩ := byte_of w0
    obtain ⟨b, rfl⟩ := byte_of w1
    obtain ⟨c, rfl⟩ := byte_of w2
    clear w0 w1 w2
    have LA : Letter a := ⟨by omega, by omega⟩
    have LB : Letter b := ⟨by omega, by omega⟩
    have LC : Letter c := ⟨by omega, by omega⟩
    have t1 : ∀ (W : World) (g : Nat), W.heap.size = g → (convert 33 9 (.slice (some ⟨g, 0, none⟩) 5 5)).run Try.prog (W.alloc (Obj.cells #[.int .u8 91, .int .u8 (a.toNat : Int), .int .u8 45, .int .u8 (b.toNat : Int), .int .u8 93] 5)) = .ok (.string (txt [91, a, 45, b, 93])) (W.alloc (Obj.cells #[.int .u8 91, .int .u8 (a.toNat : Int), .int .u8 45, .int .u8 (b.toNat : Int), .int .u8 93] 5)) := fun W g hg => run_text [91, a, 45, b, 93] W g hg
    have t2 : ∀ (W : World) (g : Nat), W.heap.size = g → (convert 33 9 (.slice (some ⟨g, 0, none⟩) 6 6)).run Try.prog (W.alloc (Obj.cells #[.int .u8 91, .int .u8 94, .int .u8 (a.toNat : Int), .int .u8 45, .int .u8 (b.toNat : Int), .int .u8 93] 5)) = .ok (.string (txt [91, 94, a, 45, b, 93])) (W.alloc (Obj.cells #[.int .u8 91, .int .u8 94, .int .u8 (a.toNat : Int), .int .u8 45, .int .u8 (b.toNat : Int), .int .u8 93] 5)) := fun W g hg => run_text [91, 94, a, 45, b, 93] W g hg
    have t3 : ∀ (W : World) (g : Nat), W.heap.size = g → (convert 33 9 (.slice (some ⟨g, 0, none⟩) 4 4)).run Try.prog (W.alloc (Obj.cells #[.int .u8 91, .int .u8 (a.toNat : Int), .int .u8 (b.toNat : Int), .int .u8 93] 5)) = .ok (.string (txt [91, a, b, 93])) (W.alloc (Obj.cells #[.int .u8 91, .int .u8 (a.toNat : Int), .int .u8 (b.toNat : Int), .int .u8 93] 5)) := fun W g hg => run_text [91, a, b, 93] W g hg
    have t4 : ∀ (W : World) (g : Nat), W.heap.size = g → (convert 33 9 (.slice (some ⟨g, 0, none⟩) 1 1)).run Try.prog (W.alloc (Obj.cells #[.int .u8 (c.toNat : Int)] 5)) = .ok (.string (txt [c])) (W.alloc (Obj.cells #[.int .u8 (c.toNat : Int)] 5)) := fun W g hg => run_text [c] W g hg
    go_enter Try.func7, Try.ntmps7
    go_wp2_with fail
    refine HS.out.mono ?_
    clear HS
    rintro e x1 ⟨rfl, hb1⟩
    have HB1 := Lib.hid hb1
    clear hb1
    have d0 : decide ((a.toNat : Int) < 97) = false := by simp; omega
    have d1 : decide ((b.toNat : Int) < 97) = false := by simp; omega
    have d2 : decide ((c.toNat : Int) < 97) = false := by simp; omega
    have d3 : decide ((122 : Int) < (a.toNat : Int)) = false := by simp; omega
    have d4 : decide ((122 : Int) < (b.toNat : Int)) = false := by simp; omega
    have d5 : decide ((122 : Int) < (c.toNat : Int)) = false := by simp; omega
    have m1 := Lib.hid (yes LA LB LC)
    have m2 := Lib.hid (no LA LB LC)
    have m3 := Lib.hid (two LA LB LC)
    clear LA LB LC
    go_wp2_with fail
    refine (match_ok _ _ _ (by show _ ≤ 64; exact size_txt _ (by simp)) (by show 1 ≤ 512; decide)).mono ?_
    rintro e x2 ⟨rfl, hbx2⟩
    have Hx2 := Lib.hid (below_two hbx2)
    clear hbx2
    rw [m1.out]
    go_wp2_with fail
    refine (match_ok _ _ _ (by show _ ≤ 64; exact size_txt _ (by simp)) (by show 1 ≤ 512; decide)).mono ?_
    rintro e x3 ⟨rfl, hbx3⟩
    have Hx3 := Lib.hid (below_two hbx3)
    clear hbx3
    rw [m2.out]
    go_wp2_with fail
    refine (match_ok _ _ _ (by show _ ≤ 64; exact size_txt _ (by simp)) (by show 1 ≤ 512; decide)).mono ?_
    rintro e x4 ⟨rfl, hbx4⟩
    have Hx4 := Lib.hid (below_two hbx4)
    clear hbx4
    rw [m3.out]
    clear t1 t2 t3 t4 m1 m2 m3 d0 d1 d2 d3 d4 d5
    have HE := eight HB1 Hx2 Hx3 Hx4
    clear HB1 Hx2 Hx3 Hx4
    generalize (a.toNat : Int) = A at *
    generalize (b.toNat : Int) = B at *
    generalize (c.toNat : Int) = C at *
    have HX := Lib.hid (inSpan_eq A B C)
    generalize inSpan A B C = X at *
    cases X
    · go_wp2_with fail
      all_goals have hX : ¬ (min A B ≤ C ∧ C ≤ max A B) := fun h => by have := HX.out.2 h; cases this
      all_goals go_ret
      all_goals refine ⟨ret_bool ?_, HE.out⟩
      all_goals first | (exfalso; omega) | (simp; done) | (simp; omega)
    · go_wp2_with fail
      all_goals have hX : min A B ≤ C ∧ C ≤ max A B := HX.out.1 (by trivial)
      all_goals go_ret
      all_goals refine ⟨ret_bool ?_, HE.out⟩
      all_goals first | (exfalso; omega) | (simp; done) | (simp; omega)
  · go_enter Try.func7, Try.ntmps7
    go_wp2_with fail
    refine HS.out.mono ?_
    clear HS
    rintro e x1 ⟨rfl, hb1⟩
    go_wp2_with fail
    all_goals go_ret
    all_goals exact ⟨rfl, hb1⟩

/-! ### THE ROW's STEP: WRITTEN OUT: LEAVE IT -/
set_option maxRecDepth 100000 in
theorem lifted (os : Os) (started : os.Started) (H : Type) (enc : TypeId × Value → H) :
    ReturnsInHanded {} Try.checked os 7 .any (Rows.globClassesSpec.pre6 enc Try.prog Try.f7 Rows.globClassesRow.domain false) (Rows.globClassesSpec.post enc Try.prog Try.f7 false true false false) := by
  refine returnsInHanded_of_change (C := Try.checked) own started (by kernel_rfl) Try.func7
    (ChangeSpec.witness6 (enc := enc) (C := Try.checked) false ⟨#[], #[.int .u8 0, .int .u8 0, .int .u8 0], []⟩ 8 (by kernel_rfl) (by kernel_rfl) (by kernel_rfl) (by kernel_rfl)) ?_
  intro W base args ds gs before hval0 hW hcnd _
  have hval : ∀ (j : Nat) t v, Try.f7.params[j]? = some t → args[j]? = some v → Value.okWide Try.prog W .any base t v := hval0
  have hW' := hW
  obtain ⟨p, q, hA0, hV, rfl, hfz, hnd⟩ := hW
  have hA : DataW.TrodAll enc Try.prog W 0 (fun _ => true) true Try.f7.params.toList args.toList ds p := hA0
  rw [Try.params7] at hA hval
  obtain ⟨v0, vs0, d0, ds0, p0, q0, hargs, rfl, rfl, h0, r0⟩ := trodAll_cons hA
  obtain ⟨v1, vs1, d1, ds1, p1, q1, rfl, rfl, rfl, h1, r1⟩ := trodAll_cons r0
  obtain ⟨v2, vs2, d2, ds2, p2, q2, rfl, rfl, rfl, h2, r2⟩ := trodAll_cons r1
  obtain ⟨rfl, rfl, rfl⟩ := trodAll_nil r2
  obtain rfl : args = #[v0, v1, v2] := by cases args; simp_all
  obtain ⟨rfl, rfl⟩ := trodVars_none hV
  obtain ⟨a0, rfl, rfl, rfl, w0⟩ := open_int Try.underlying5 (hval 0 5 v0 rfl rfl) h0
  obtain ⟨a1, rfl, rfl, rfl, w1⟩ := open_int Try.underlying5 (hval 1 5 v1 rfl rfl) h1
  obtain ⟨a2, rfl, rfl, rfl, w2⟩ := open_int Try.underlying5 (hval 2 5 v2 rfl rfl) h2
  clear hA0 hval0
  simp only [List.append_nil] at hW'
  refine (walk a0 a1 a2 w0 w1 w2 W).mono fun e W' ⟨he, hg⟩ => ?_
  subst he
  exact ⟨_, rfl, _, _, _, [], [], [], hW', (trodAll_cons_mk (shut_bool Try.underlying4 _) trodAll_mk0), (trodAll_cons_mk (shut_int Try.underlying5 w0) (trodAll_cons_mk (shut_int Try.underlying5 w1) (trodAll_cons_mk (shut_int Try.underlying5 w2) trodAll_mk0))), rfl, hg.frame _, fun h => by cases h⟩

theorem over : Rows.globClassesRow.holds Try.pinned (OpenSpec.ofChange Rows.globClassesSpec) :=
  OpenClaim.holds_of_wide 7 Try.f7 rfl rfl rfl rfl rfl rfl rfl ⟨rfl, rfl, rfl, rfl, rfl⟩ rfl rfl rfl rfl rfl (by kernel_rfl) Try.func7 (by kernel_rfl)
    (of_decide_eq_true (by kernel_rfl)) (by unfold Func.isWrapper; first | (rw [if_pos (by decide +kernel)]; kernel_rfl) | (rw [if_neg (by decide +kernel)]; exact ⟨rfl, rfl⟩))
    (fun os started H enc _ => lifted os started H enc)

/-- ████ THE STATEMENT ████ -/
theorem proved : Rows.GlobClassesSaid :=
  over
#print axioms proved
end Go.Proofs.Ytcaemhlmefhgdaa.globClasses
