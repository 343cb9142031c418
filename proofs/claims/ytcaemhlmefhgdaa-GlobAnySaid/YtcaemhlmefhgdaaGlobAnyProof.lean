/- For every number and every text the law GlobAny returns true, and leaves both as they are; no condition. -/
import Derived.Test.YtcaemhlmefhgdaaMath
import Derived.WalkKit
import Derived.Deep.DeepCutAuto
import Derived.ProofKit
import Derived.OpenShut
import Derived.ShutString
namespace Go.Proofs.Ytcaemhlmefhgdaa.globAny
open Go.ChangeShapes Go.WideShapes Go.ChangeAt Go.RowKit
open Go.ChangeMaps (open_string shut_string)
set_option linter.unusedVariables false      -- a walk need not use every 'w<i>' (that an integer argument fits its kind)

theorem own : ownKnob Try.prog.godebug = none := by kernel_rfl

theorem eight {w w1 w2 w3 w4 : World} (h1 : Hid (Below w.heap.size w w1)) (h2 : Hid (Below w1.heap.size w1 w2)) (h3 : Hid (Below w2.heap.size w2 w3)) (h4 : Hid (Below w3.heap.size w3 w4)) : Hid (Below w.heap.size w w4) :=
  four h1 h2 h3 h4 (Below.refl _ _)
/-- So many question marks. -/
def anyB (k : Nat) : ByteArray := ⟨(List.replicate k (63 : UInt8)).toArray⟩
theorem anyB_zero : anyB 0 = ⟨#[]⟩ := rfl
theorem anyB_list (k : Nat) : (anyB k).data.toList = List.replicate k 63 := by simp [anyB]
theorem anyB_size (k : Nat) : (anyB k).size = k := by show (List.replicate k (63 : UInt8)).toArray.size = k; simp
theorem half_le {k : Nat} (h : k ≤ 64) : (anyB (k / 2) ++ ⟨#[42]⟩ : ByteArray).size ≤ 64 := by
  rw [ByteArray.size_append, anyB_size]; show k / 2 + 1 ≤ 64; omega
theorem anyB_succ (k : Nat) : anyB k ++ ⟨#[63]⟩ = anyB (k + 1) := by
  apply ByteArray.ext
  apply Array.ext'
  rw [anyB_list]
  simp [anyB, List.replicate_succ']
theorem anyB_cut (k n : Nat) (h : n ≤ k) : (anyB k).extract 0 n = anyB n := by
  apply ByteArray.ext
  apply Array.ext'
  rw [anyB_list, ByteArray.data_extract, Array.toList_extract, anyB_list]
  simp [List.take_replicate, Nat.min_eq_left h]
theorem runesL_any : ∀ (k : Nat) (l : List UInt8), runesL (List.replicate k 63 ++ l) = List.replicate k 63 ++ runesL l
  | 0, l => by simp
  | k + 1, l => by
    rw [List.replicate_succ, List.replicate_succ, List.cons_append, List.cons_append, runesL_ascii 63 _ (by decide), runesL_any k l]; rfl
theorem partsS_anys : ∀ (k : Nat) (cs : List Int), partsS (List.replicate k 63 ++ cs) = List.replicate k (some (inSpan 0 1114111)) ++ partsS cs
  | 0, cs => by simp
  | k + 1, cs => by
    rw [List.replicate_succ, List.replicate_succ, List.cons_append, List.cons_append, partsS_any, partsS_anys k cs]
theorem match_any (k : Nat) (s : ByteArray) : matchS (anyB k) s = (((runesS s).length : Int) == (k : Int)) := by
  refine bool_of ?_
  have e : runesS (anyB k) = List.replicate k 63 ++ [] := by
    rw [runesS_L, anyB_list]
    have := runesL_any k []
    rwa [List.append_nil, runesL_nil] at this
  rw [matchS_iff, e, partsS_anys, partsS_nil, Mt_any _ _ _ (runesS_valid s), beq_iff_eq]
  constructor
  · rintro ⟨h1, h2⟩
    have h3 : (runesS s).drop k = [] := h2
    have := List.drop_eq_nil_iff.1 h3
    omega
  · intro h
    exact ⟨by omega, List.drop_eq_nil_of_le (by omega)⟩
theorem match_least (k : Nat) (s : ByteArray) : matchS (anyB k ++ ⟨#[42]⟩) s = decide ((k : Int) ≤ ((runesS s).length : Int)) := by
  refine bool_of ?_
  have e : runesS (anyB k ++ ⟨#[42]⟩) = List.replicate k 63 ++ [42] := by
    rw [runesS_L]
    have : (anyB k ++ ⟨#[42]⟩ : ByteArray).data.toList = List.replicate k 63 ++ [42] := by simp [anyB]
    rw [this, runesL_any, runesL_ascii 42 [] (by decide)]; rfl
  rw [matchS_iff, e, partsS_anys, partsS_star, partsS_nil, Mt_any _ _ _ (runesS_valid s)]
  simp only [decide_eq_true_eq]
  constructor
  · rintro ⟨h1, _⟩; omega
  · intro h
    exact ⟨by omega, ⟨(runesS s).drop k, [], by simp, rfl⟩⟩

set_option maxHeartbeats 1000000 in
theorem walk (a0 : Int) (a1 : ByteArray) (w0 : (Lit.int .i64 a0).wf = true) (w1 : a1.size ≤ maxLen) (w : World) :
    Calls Try.prog 6 #[.int .i64 a0, .string a1] w fun e w' => e = .returned (.bool true) ∧ Below w.heap.size w w' := by
  unfold maxLen at w1
  have HS := Lib.hid (shown_any w)
  by_cases hn : 0 ≤ a0 ∧ a0 ≤ 64
  · obtain ⟨hn0, hn1⟩ := hn
    obtain ⟨n, rfl⟩ := Int.eq_ofNat_of_zero_le hn0
    clear hn0 w0
    have hn2 : n ≤ 64 := by omega
    go_enter Try.func6, Try.ntmps6
    go_wp2_with fail
    refine HS.out.mono ?_
    clear HS
    rintro e x1 ⟨rfl, hb1⟩
    have HB1 := Lib.hid hb1
    clear hb1
    have d0 : decide ((n : Int) < 0) = false := by simp
    have d1 : decide ((64 : Int) < (n : Int)) = false := by simp; omega
    go_wp2_with fail
    clear d0 d1
    go_loop [6, 7] (fun p i => ∃ k : Nat, k ≤ n ∧ i = .int .i64 k ∧ p = .string (anyB k)) (fun _ i => n - (intOf i).toNat)
    case atStart => exact ⟨0, Nat.zero_le _, rfl, rfl⟩
    case round =>
      obtain ⟨k, hk, rfl, rfl⟩ := hrel
      by_cases hlt : k < n
      · have hz := anyB_size k
        have hs := anyB_succ k
        go_wp2
        go_round
        case rel => exact ⟨k + 1, by omega, by go_num, rfl⟩
        case measure => simp [intOf]; omega
      · obtain rfl : k = n := by omega
        clear hlt hk
        go_upto_region 9 with fail
        go_cut [1] (fun s0 wx => ∃ p : ByteArray, s0 = .string p ∧ p.size ≤ 500 ∧ x1 = wx)
        case first =>
          go_wp2_with fail
          · go_meet
            exact ⟨_, rfl, extract_le a1 500, rfl⟩
          · go_meet
            exact ⟨_, rfl, by have : (a1.size : Int) ≤ 500 := by assumption
                              omega, rfl⟩
        case rest =>
          obtain ⟨s, rfl, ss, rfl⟩ := hcut
          have hz := Lib.hid (anyB_size k)
          have hz2 := Lib.hid (anyB_size (k / 2))
          have hcut2 := anyB_cut k (k / 2) (by omega)
          have hv0 : (0 : Int) ≤ (k : Int) / 2 ∧ (k : Int) / 2 ≤ ((anyB k).size : Int) := by rw [hz.out]; omega
          have hv1 : ¬ 9223372036854775807 < (anyB (k / 2)).size + 1 := by rw [hz2.out]; omega
          have hm1 := match_any k s
          have hm2 := match_least (k / 2) s
          go_wp2_with fail
          refine (match_ok (anyB k) s x1 (by rw [hz.out]; omega) (by omega)).mono ?_
          rintro e x2 ⟨rfl, hb2⟩
          have HB2 := Lib.hid hb2
          clear hb2
          go_wp2_with fail
          refine (match_ok _ s x2 (by have H := Lib.hid (half_le hn2); clear hv1 hv0; exact H.out) (by clear hv1; omega)).mono ?_
          rintro e x3 ⟨rfl, hb3⟩
          have HB3 := Lib.hid hb3
          clear hb3
          rw [hm2]
          clear hm1 hm2 hcut2 hv0 hv1
          go_wp2_with fail
          refine (count_any s x3 (by omega)).mono ?_
          rintro e x4 ⟨rfl, hb4⟩
          have HB4 := Lib.hid hb4
          clear hb4
          have HL := Lib.hid (runesS_length s)
          have hlb : (runesS s).length ≤ 500 := by have := HL.out; omega
          have HC2 := fun w => Lib.hid (count_any s w (by omega))
          generalize (runesS s).length = len at *
          go_wp2_with fail
          refine (HC2 _).out.mono ?_
          rintro e x5 ⟨rfl, hb5⟩
          have HB5 := Lib.hid hb5
          clear hb5 HC2
          cases q1 : ((len : Int) == (k : Int))
          all_goals have Q1 := Lib.hid q1
          all_goals cases q2 : decide ((k : Int) / 2 ≤ (len : Int))
          all_goals go_wp2
          all_goals go_ret
          all_goals exact ⟨rfl, (eight (eight HB1 HB2 HB3 HB4) HB5 (Lib.hid (Below.refl _ _)) (Lib.hid (Below.refl _ _))).out⟩
  · go_enter Try.func6, Try.ntmps6
    go_wp2_with fail
    refine HS.out.mono ?_
    clear HS
    rintro e x1 ⟨rfl, hb1⟩
    by_cases hneg : a0 < 0
    · go_wp2_with fail
      go_ret
      exact ⟨rfl, hb1⟩
    · have hbig : 64 < a0 := by omega
      go_wp2_with fail
      go_ret
      exact ⟨rfl, hb1⟩

/-! ### THE ROW's STEP: WRITTEN OUT: LEAVE IT -/
set_option maxRecDepth 100000 in
theorem lifted (os : Os) (started : os.Started) (H : Type) (enc : TypeId × Value → H) :
    ReturnsInHanded {} Try.checked os 6 .any (Rows.globAnySpec.pre6 enc Try.prog Try.f6 Rows.globAnyRow.domain false) (Rows.globAnySpec.post enc Try.prog Try.f6 false true false false) := by
  refine returnsInHanded_of_change (C := Try.checked) own started (by kernel_rfl) Try.func6
    (ChangeSpec.witness6 (enc := enc) (C := Try.checked) false ⟨#[], #[.int .i64 0, .string ByteArray.empty], []⟩ 8 (by kernel_rfl) (by kernel_rfl) (by kernel_rfl) (by kernel_rfl)) ?_
  intro W base args ds gs before hval0 hW hcnd _
  have hval : ∀ (j : Nat) t v, Try.f6.params[j]? = some t → args[j]? = some v → Value.okWide Try.prog W .any base t v := hval0
  have hW' := hW
  obtain ⟨p, q, hA0, hV, rfl, hfz, hnd⟩ := hW
  have hA : DataW.TrodAll enc Try.prog W 0 (fun _ => true) true Try.f6.params.toList args.toList ds p := hA0
  rw [Try.params6] at hA hval
  obtain ⟨v0, vs0, d0, ds0, p0, q0, hargs, rfl, rfl, h0, r0⟩ := trodAll_cons hA
  obtain ⟨v1, vs1, d1, ds1, p1, q1, rfl, rfl, rfl, h1, r1⟩ := trodAll_cons r0
  obtain ⟨rfl, rfl, rfl⟩ := trodAll_nil r1
  obtain rfl : args = #[v0, v1] := by cases args; simp_all
  obtain ⟨rfl, rfl⟩ := trodVars_none hV
  obtain ⟨a0, rfl, rfl, rfl, w0⟩ := open_int Try.underlying3 (hval 0 3 v0 rfl rfl) h0
  obtain ⟨a1, rfl, rfl, rfl, w1⟩ := open_string Try.underlying9 (hval 1 9 v1 rfl rfl) h1
  clear hA0 hval0
  simp only [List.append_nil] at hW'
  refine (walk a0 a1 w0 w1 W).mono fun e W' ⟨he, hg⟩ => ?_
  subst he
  exact ⟨_, rfl, _, _, _, [], [], [], hW', (trodAll_cons_mk (shut_bool Try.underlying4 _) trodAll_mk0), (trodAll_cons_mk (shut_int Try.underlying3 w0) (trodAll_cons_mk (shut_string Try.underlying9 w1) trodAll_mk0)), rfl, hg.frame _, fun h => by cases h⟩

theorem over : Rows.globAnyRow.holds Try.pinned (OpenSpec.ofChange Rows.globAnySpec) :=
  OpenClaim.holds_of_wide 6 Try.f6 rfl rfl rfl rfl rfl rfl rfl ⟨rfl, rfl, rfl, rfl, rfl⟩ rfl rfl rfl rfl rfl (by kernel_rfl) Try.func6 (by kernel_rfl)
    (of_decide_eq_true (by kernel_rfl)) (by unfold Func.isWrapper; first | (rw [if_pos (by decide +kernel)]; kernel_rfl) | (rw [if_neg (by decide +kernel)]; exact ⟨rfl, rfl⟩))
    (fun os started H enc _ => lifted os started H enc)

/-- ████ THE STATEMENT ████ -/
theorem proved : Rows.GlobAnySaid :=
  over
#print axioms proved
end Go.Proofs.Ytcaemhlmefhgdaa.globAny
