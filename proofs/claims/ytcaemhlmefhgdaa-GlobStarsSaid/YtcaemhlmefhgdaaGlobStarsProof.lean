/- For every pattern and every two texts the law GlobStars returns true, and leaves them as they are; no condition. -/
import Derived.Test.YtcaemhlmefhgdaaMath
import Derived.WalkKit
import Derived.Deep.DeepCutAuto
import Derived.ProofKit
import Derived.OpenShut
import Derived.ShutString
namespace Go.Proofs.Ytcaemhlmefhgdaa.globStars
open Go.ChangeShapes Go.WideShapes Go.ChangeAt Go.RowKit
open Go.ChangeMaps (open_string shut_string)
set_option linter.unusedVariables false      -- a walk need not use every 'w<i>' (that an integer argument fits its kind)

theorem own : ownKnob Try.prog.godebug = none := by kernel_rfl

theorem list_cons (p : ByteArray) : (⟨#[42]⟩ ++ p : ByteArray).data.toList = 42 :: p.data.toList := by simp
theorem list_snoc (p : ByteArray) : (p ++ ⟨#[42]⟩ : ByteArray).data.toList = p.data.toList ++ [42] := by simp
theorem runes_front (p : ByteArray) : runesS (⟨#[42]⟩ ++ p) = 42 :: runesS p := by
  rw [runesS_L, list_cons, runesL_ascii 42 _ (by decide), runesS_L]; rfl
theorem runes_back (p : ByteArray) : runesS (p ++ ⟨#[42]⟩) = runesS p ++ [42] := by
  rw [runesS_L, list_snoc, runesL_append _ _ _ (Nat.le_refl _) (fun x l h => by simp at h; rw [← h.1]; decide), runesL_ascii 42 [] (by decide), runesS_L]; rfl
theorem size_front (p : ByteArray) : (⟨#[42]⟩ ++ p : ByteArray).size = p.size + 1 := by
  rw [ByteArray.size_append]; show 1 + p.size = _; omega
theorem size_back (p : ByteArray) : (p ++ ⟨#[42]⟩ : ByteArray).size = p.size + 1 := by
  rw [ByteArray.size_append]; rfl

theorem runes_none : runesS ⟨#[]⟩ = [] := by rw [runesS_L]; rfl
theorem runes_one' : runesS ⟨#[42]⟩ = [42] := by rw [runesS_L]; show runesL [42] = _; rw [runesL_ascii 42 [] (by decide)]; rfl
theorem runes_two' : runesS ⟨#[42, 42]⟩ = [42, 42] := by rw [runesS_L]; show runesL [42, 42] = _; rw [runesL_ascii 42 _ (by decide), runesL_ascii 42 [] (by decide)]; rfl
theorem star_nil : partsS [42] = [none] := by rw [partsS_star, partsS_nil]
theorem all_star (s : ByteArray) : matchS ⟨#[42]⟩ s = true := by
  rw [matchS_iff, runes_one', star_nil]
  exact ⟨runesS s, [], by simp, rfl⟩
theorem all_two (s : ByteArray) : matchS ⟨#[42, 42]⟩ s = true := by
  rw [matchS_iff, runes_two', partsS_star, star_nil]
  exact ⟨[], runesS s, by simp, ⟨runesS s, [], by simp, rfl⟩⟩

theorem plain_parts {p : ByteArray} (h : plainS p = true) (tail : List Int) : partsS (runesS p ++ tail) = (runesS p).map eqP ++ partsS tail := partsS_plain _ _ (plain_no h)
theorem plain_parts0 {p : ByteArray} (h : plainS p = true) : partsS (runesS p) = (runesS p).map eqP := by
  have := plain_parts h []
  rwa [List.append_nil, partsS_nil, List.append_nil] at this

theorem front_iff {p : ByteArray} (h : plainS p = true) (s : ByteArray) : matchS (⟨#[42]⟩ ++ p) s = true ↔ ∃ a, runesS s = a ++ runesS p := by
  rw [matchS_iff, runes_front, partsS_star, plain_parts0 h, Mt_star]
  constructor
  · rintro ⟨a, b, e, hb⟩
    rw [Mt_eq] at hb
    exact ⟨a, by rw [e, hb]⟩
  · rintro ⟨a, e⟩
    exact ⟨a, _, e, (Mt_eq _ _).2 rfl⟩
theorem back_iff {p : ByteArray} (h : plainS p = true) (s : ByteArray) : matchS (p ++ ⟨#[42]⟩) s = true ↔ ∃ b, runesS s = runesS p ++ b := by
  rw [matchS_iff, runes_back, plain_parts h, star_nil, Mt_append]
  constructor
  · rintro ⟨a, b, e, ha, _⟩
    rw [Mt_eq] at ha
    exact ⟨b, by rw [e, ha]⟩
  · rintro ⟨b, e⟩
    exact ⟨_, b, e, (Mt_eq _ _).2 rfl, ⟨b, [], by simp, rfl⟩⟩
theorem both_iff {p : ByteArray} (h : plainS p = true) (s : ByteArray) : matchS (⟨#[42]⟩ ++ p ++ ⟨#[42]⟩) s = true ↔ ∃ a b, runesS s = a ++ (runesS p ++ b) := by
  rw [matchS_iff, runes_back, runes_front, List.cons_append, partsS_star, plain_parts h, star_nil, Mt_star]
  constructor
  · rintro ⟨a, b, e, hb⟩
    obtain ⟨x, y, rfl, hx, _⟩ := (Mt_append _ _ _).1 hb
    rw [Mt_eq] at hx
    exact ⟨a, y, by rw [e, hx]⟩
  · rintro ⟨a, b, e⟩
    exact ⟨a, _, e, (Mt_append _ _ _).2 ⟨_, b, rfl, (Mt_eq _ _).2 rfl, ⟨b, [], by simp, rfl⟩⟩⟩

theorem self_both {p : ByteArray} (h : plainS p = true) : matchS (⟨#[42]⟩ ++ p ++ ⟨#[42]⟩) p = true := (both_iff h p).2 ⟨[], [], by simp⟩
/-- More stars, more matches. -/
theorem more {p : ByteArray} (h : plainS p = true) (s : ByteArray) :
    (matchS p s = true → matchS (⟨#[42]⟩ ++ p) s = true ∧ matchS (p ++ ⟨#[42]⟩) s = true) ∧ (matchS (⟨#[42]⟩ ++ p) s = true ∨ matchS (p ++ ⟨#[42]⟩) s = true → matchS (⟨#[42]⟩ ++ p ++ ⟨#[42]⟩) s = true) := by
  rw [match_plain h, front_iff h, back_iff h, both_iff h]
  refine ⟨fun e => ⟨⟨[], by rw [e]; rfl⟩, ⟨[], by rw [e]; simp⟩⟩, ?_⟩
  rintro (⟨a, e⟩ | ⟨b, e⟩)
  · exact ⟨a, [], by rw [e]; simp⟩
  · exact ⟨[], b, by rw [e]; rfl⟩

theorem eight {w w1 w2 w3 w4 : World} (h1 : Hid (Below w.heap.size w w1)) (h2 : Hid (Below w1.heap.size w1 w2)) (h3 : Hid (Below w2.heap.size w2 w3)) (h4 : Hid (Below w3.heap.size w3 w4)) : Hid (Below w.heap.size w w4) :=
  four h1 h2 h3 h4 (Below.refl _ _)

set_option maxRecDepth 100000 in
set_option maxHeartbeats 1000000 in
theorem walk (a0 : ByteArray) (a1 : ByteArray) (a2 : ByteArray) (w0 : a0.size ≤ maxLen) (w1 : a1.size ≤ maxLen) (w2 : a2.size ≤ maxLen) (w : World) :
    Calls Try.prog 5 #[.string a0, .string a1, .string a2] w fun e w' => e = .returned (.bool true) ∧ Below w.heap.size w w' := by
  unfold maxLen at w0 w1 w2
  have HS := Lib.hid (shown_any w)
  go_enter Try.func5, Try.ntmps5
  go_wp2_with fail
  refine HS.out.mono ?_
  clear HS
  rintro e x1 ⟨rfl, hb1⟩
  have HB1 := Lib.hid hb1
  clear hb1
  go_upto_region 2 with fail
  go_cut [0] (fun s0 wx => ∃ p : ByteArray, s0 = .string p ∧ p.size ≤ 60 ∧ x1 = wx)
  case first =>
    go_wp2_with fail
    · go_meet
      exact ⟨_, rfl, extract_le a0 60, rfl⟩
    · go_meet
      exact ⟨_, rfl, by have : (a0.size : Int) ≤ 60 := by assumption
                        omega, rfl⟩
  case rest =>
    obtain ⟨p, rfl, sp, rfl⟩ := hcut
    go_upto_region 3 with fail
    go_cut [1] (fun s0 wx => ∃ p : ByteArray, s0 = .string p ∧ p.size ≤ 200 ∧ x1 = wx)
    case first =>
      go_wp2_with fail
      · go_meet
        exact ⟨_, rfl, extract_le a1 200, rfl⟩
      · go_meet
        exact ⟨_, rfl, by have : (a1.size : Int) ≤ 200 := by assumption
                          omega, rfl⟩
    case rest =>
      obtain ⟨s, rfl, ss, rfl⟩ := hcut
      go_upto_region 4 with fail
      go_cut [2] (fun s0 wx => ∃ p : ByteArray, s0 = .string p ∧ p.size ≤ 200 ∧ x1 = wx)
      case first =>
        go_wp2_with fail
        · go_meet
          exact ⟨_, rfl, extract_le a2 200, rfl⟩
        · go_meet
          exact ⟨_, rfl, by have : (a2.size : Int) ≤ 200 := by assumption
                            omega, rfl⟩
      case rest =>
        obtain ⟨t, rfl, st, rfl⟩ := hcut
        have h1 := all_star s
        have h2 := all_two s
        go_wp2_with fail
        refine (match_ok _ s x1 (by decide) (by omega)).mono ?_
        rintro e x2 ⟨rfl, hb2⟩
        have HB2 := Lib.hid hb2
        clear hb2
        rw [h1]
        go_wp2_with fail
        refine (match_ok _ s x2 (by decide) (by omega)).mono ?_
        rintro e x3 ⟨rfl, hb3⟩
        have HB3 := Lib.hid hb3
        clear hb3
        rw [h2]
        clear h1 h2
        go_wp2_with fail
        refine (plain_any p x3).mono ?_
        rintro e x4 ⟨rfl, hb4⟩
        have HB4 := Lib.hid hb4
        clear hb4
        have HE := eight HB1 HB2 HB3 HB4
        cases hpl : plainS p
        · clear hpl
          go_wp2
          go_ret
          exact ⟨rfl, HE.out⟩
        · have hself := Lib.hid (self_both hpl)
          have hmore := Lib.hid (more hpl s)
          have hs1 := Lib.hid (size_front p)
          have hs2 := Lib.hid (size_back p)
          have hs3 := Lib.hid (size_back (⟨#[42]⟩ ++ p))
          clear hpl
          go_wp2_with fail
          refine (match_ok p s x4 (by omega) (by omega)).mono ?_
          rintro e x5 ⟨rfl, hb5⟩
          have HB5 := Lib.hid hb5
          clear hb5
          go_wp2_with fail
          refine (match_ok _ s x5 (by have := hs1.out; omega) (by omega)).mono ?_
          rintro e x6 ⟨rfl, hbx6⟩
          have Hx6 := Lib.hid hbx6
          clear hbx6
          go_wp2_with fail
          refine (match_ok _ s x6 (by have := hs2.out; omega) (by omega)).mono ?_
          rintro e x7 ⟨rfl, hbx7⟩
          have Hx7 := Lib.hid hbx7
          clear hbx7
          go_wp2_with fail
          refine (match_ok _ s x7 (by have := hs1.out; have := hs3.out; omega) (by omega)).mono ?_
          rintro e x8 ⟨rfl, hbx8⟩
          have Hx8 := Lib.hid hbx8
          clear hbx8
          go_wp2_with fail
          refine (match_ok _ p x8 (by have := hs1.out; have := hs3.out; omega) (by omega)).mono ?_
          rintro e x9 ⟨rfl, hbx9⟩
          have Hx9 := Lib.hid hbx9
          clear hbx9
          rw [hself.out]
          have HE2 := eight HE HB5 Hx6 Hx7
          have HE3 := eight HE2 Hx8 Hx9 (Lib.hid (Below.refl _ _))
          clear hself hs1 hs2 hs3 HB1 HB2 HB3 HB4 HB5 Hx6 Hx7 Hx8 Hx9 HE HE2
          generalize matchS p s = A at hmore ⊢
          generalize matchS ({ data := #[42] } ++ p) s = B at hmore ⊢
          generalize matchS (p ++ { data := #[42] }) s = C at hmore ⊢
          generalize matchS ({ data := #[42] } ++ p ++ { data := #[42] }) s = D at hmore ⊢
          have hc := hmore.out
          clear hmore
          cases A <;> cases B <;> cases C <;> cases D <;> first | (exfalso; simp at hc; done) | skip
          all_goals clear hc
          all_goals go_wp2
          all_goals go_ret
          all_goals exact ⟨rfl, HE3.out⟩

/-! ### THE ROW's STEP: WRITTEN OUT: LEAVE IT -/
set_option maxRecDepth 100000 in
theorem lifted (os : Os) (started : os.Started) (H : Type) (enc : TypeId × Value → H) :
    ReturnsInHanded {} Try.checked os 5 .any (Rows.globStarsSpec.pre6 enc Try.prog Try.f5 Rows.globStarsRow.domain false) (Rows.globStarsSpec.post enc Try.prog Try.f5 false true false false) := by
  refine returnsInHanded_of_change (C := Try.checked) own started (by kernel_rfl) Try.func5
    (ChangeSpec.witness6 (enc := enc) (C := Try.checked) false ⟨#[], #[.string ByteArray.empty, .string ByteArray.empty, .string ByteArray.empty], []⟩ 8 (by kernel_rfl) (by kernel_rfl) (by kernel_rfl) (by kernel_rfl)) ?_
  intro W base args ds gs before hval0 hW hcnd _
  have hval : ∀ (j : Nat) t v, Try.f5.params[j]? = some t → args[j]? = some v → Value.okWide Try.prog W .any base t v := hval0
  have hW' := hW
  obtain ⟨p, q, hA0, hV, rfl, hfz, hnd⟩ := hW
  have hA : DataW.TrodAll enc Try.prog W 0 (fun _ => true) true Try.f5.params.toList args.toList ds p := hA0
  rw [Try.params5] at hA hval
  obtain ⟨v0, vs0, d0, ds0, p0, q0, hargs, rfl, rfl, h0, r0⟩ := trodAll_cons hA
  obtain ⟨v1, vs1, d1, ds1, p1, q1, rfl, rfl, rfl, h1, r1⟩ := trodAll_cons r0
  obtain ⟨v2, vs2, d2, ds2, p2, q2, rfl, rfl, rfl, h2, r2⟩ := trodAll_cons r1
  obtain ⟨rfl, rfl, rfl⟩ := trodAll_nil r2
  obtain rfl : args = #[v0, v1, v2] := by cases args; simp_all
  obtain ⟨rfl, rfl⟩ := trodVars_none hV
  obtain ⟨a0, rfl, rfl, rfl, w0⟩ := open_string Try.underlying9 (hval 0 9 v0 rfl rfl) h0
  obtain ⟨a1, rfl, rfl, rfl, w1⟩ := open_string Try.underlying9 (hval 1 9 v1 rfl rfl) h1
  obtain ⟨a2, rfl, rfl, rfl, w2⟩ := open_string Try.underlying9 (hval 2 9 v2 rfl rfl) h2
  clear hA0 hval0
  simp only [List.append_nil] at hW'
  refine (walk a0 a1 a2 w0 w1 w2 W).mono fun e W' ⟨he, hg⟩ => ?_
  subst he
  exact ⟨_, rfl, _, _, _, [], [], [], hW', (trodAll_cons_mk (shut_bool Try.underlying4 _) trodAll_mk0), (trodAll_cons_mk (shut_string Try.underlying9 w0) (trodAll_cons_mk (shut_string Try.underlying9 w1) (trodAll_cons_mk (shut_string Try.underlying9 w2) trodAll_mk0))), rfl, hg.frame _, fun h => by cases h⟩

theorem over : Rows.globStarsRow.holds Try.pinned (OpenSpec.ofChange Rows.globStarsSpec) :=
  OpenClaim.holds_of_wide 5 Try.f5 rfl rfl rfl rfl rfl rfl rfl ⟨rfl, rfl, rfl, rfl, rfl⟩ rfl rfl rfl rfl rfl (by kernel_rfl) Try.func5 (by kernel_rfl)
    (of_decide_eq_true (by kernel_rfl)) (by unfold Func.isWrapper; first | (rw [if_pos (by decide +kernel)]; kernel_rfl) | (rw [if_neg (by decide +kernel)]; exact ⟨rfl, rfl⟩))
    (fun os started H enc _ => lifted os started H enc)

/-- ████ THE STATEMENT ████ -/
theorem proved : Rows.GlobStarsSaid :=
  over
#print axioms proved
end Go.Proofs.Ytcaemhlmefhgdaa.globStars
