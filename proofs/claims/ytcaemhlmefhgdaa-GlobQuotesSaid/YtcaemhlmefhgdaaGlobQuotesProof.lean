/- For every two texts the law GlobQuotes returns true, and leaves both as they are; no condition. -/
import Derived.Test.YtcaemhlmefhgdaaMath
import Derived.WalkKit
import Derived.ProofKit
import Derived.OpenShut
import Derived.ShutString
namespace Go.Proofs.Ytcaemhlmefhgdaa.globQuotes
open Go.ChangeShapes Go.WideShapes Go.ChangeAt Go.RowKit
open Go.ChangeMaps (open_string shut_string)
set_option linter.unusedVariables false      -- a walk need not use every 'w<i>' (that an integer argument fits its kind)

theorem own : ownKnob Try.prog.godebug = none := by kernel_rfl

/-- What the law's last line asks. -/
theorem same_text (s t : ByteArray) : (matchS (quoteS s) t == ((runesBytes (runesS s)).toList == (runesBytes (runesS t)).toList)) = true := by
  rw [beq_iff_eq]
  refine bool_of ?_
  rw [match_quote, beq_iff_eq, toList_inj, text_eq]
  exact ⟨Eq.symm, Eq.symm⟩
theorem self (s : ByteArray) : matchS (quoteS s) s = true := (match_quote s s).2 rfl

set_option maxHeartbeats 1000000 in
theorem walk (a0 : ByteArray) (a1 : ByteArray) (w0 : a0.size ≤ maxLen) (w1 : a1.size ≤ maxLen) (w : World) :
    Calls Try.prog 4 #[.string a0, .string a1] w fun e w' => e = .returned (.bool true) ∧ Below w.heap.size w w' := by
  unfold maxLen at w0 w1
  have HS := Lib.hid (shown_any w)
  by_cases l0 : 30 < a0.size
  all_goals by_cases l1 : 30 < a1.size
  all_goals go_enter Try.func4, Try.ntmps4
  all_goals go_wp2_with fail
  all_goals refine HS.out.mono ?_
  all_goals rintro e w1 ⟨rfl, hb1⟩
  all_goals go_wp2_with fail
  all_goals first
    | (obtain ⟨p, hp, sp⟩ : ∃ p : ByteArray, p = a0.extract 0 30 ∧ p.size ≤ 30 := ⟨_, rfl, extract_le a0 30⟩; rw [← hp]; clear hp)
    | (obtain ⟨p, hp, sp⟩ : ∃ p : ByteArray, p = a0 ∧ p.size ≤ 30 := ⟨_, rfl, by omega⟩; rw [← hp]; clear hp)
  all_goals first
    | (obtain ⟨s, hp, ss⟩ : ∃ s : ByteArray, s = a1.extract 0 30 ∧ s.size ≤ 30 := ⟨_, rfl, extract_le a1 30⟩; rw [← hp]; clear hp)
    | (obtain ⟨s, hp, ss⟩ : ∃ s : ByteArray, s = a1 ∧ s.size ≤ 30 := ⟨_, rfl, by omega⟩; rw [← hp]; clear hp)
  all_goals clear HS l0 l1 w0
  all_goals have HB1 := Lib.hid hb1
  all_goals clear hb1
  all_goals have hcv := run_back
  all_goals have hcp := run_runes_all p (by omega)
  all_goals have hcs := run_runes_all s (by omega)
  all_goals have hq := quoteS_size p
  all_goals refine (quote_S p w1 (by omega)).mono ?_
  all_goals rintro e w2 ⟨rfl, hb2⟩
  all_goals have HB2 := Lib.hid hb2
  all_goals clear hb2
  all_goals go_wp2_with fail
  all_goals refine (match_ok (quoteS p) p w2 (by omega) (by omega)).mono ?_
  all_goals rintro e w3 ⟨rfl, hb3⟩
  all_goals have HB3 := Lib.hid hb3
  all_goals clear hb3
  all_goals go_wp2_with fail
  all_goals refine (match_ok (quoteS p) s w3 (by omega) (by omega)).mono ?_
  all_goals rintro e w4 ⟨rfl, hb4⟩
  all_goals have HB4 := Lib.hid hb4
  all_goals clear hb4
  all_goals have hself := self p
  all_goals go_wp2
  all_goals go_ret
  all_goals exact ⟨ret_bool (same_text _ _), four HB1 HB2 HB3 HB4 (two_runes _ _ _ _ _)⟩

/-! ### THE ROW's STEP: WRITTEN OUT: LEAVE IT -/
set_option maxRecDepth 100000 in
theorem lifted (os : Os) (started : os.Started) (H : Type) (enc : TypeId × Value → H) :
    ReturnsInHanded {} Try.checked os 4 .any (Rows.globQuotesSpec.pre6 enc Try.prog Try.f4 Rows.globQuotesRow.domain false) (Rows.globQuotesSpec.post enc Try.prog Try.f4 false true false false) := by
  refine returnsInHanded_of_change (C := Try.checked) own started (by kernel_rfl) Try.func4
    (ChangeSpec.witness6 (enc := enc) (C := Try.checked) false ⟨#[], #[.string ByteArray.empty, .string ByteArray.empty], []⟩ 8 (by kernel_rfl) (by kernel_rfl) (by kernel_rfl) (by kernel_rfl)) ?_
  intro W base args ds gs before hval0 hW hcnd _
  have hval : ∀ (j : Nat) t v, Try.f4.params[j]? = some t → args[j]? = some v → Value.okWide Try.prog W .any base t v := hval0
  have hW' := hW
  obtain ⟨p, q, hA0, hV, rfl, hfz, hnd⟩ := hW
  have hA : DataW.TrodAll enc Try.prog W 0 (fun _ => true) true Try.f4.params.toList args.toList ds p := hA0
  rw [Try.params4] at hA hval
  obtain ⟨v0, vs0, d0, ds0, p0, q0, hargs, rfl, rfl, h0, r0⟩ := trodAll_cons hA
  obtain ⟨v1, vs1, d1, ds1, p1, q1, rfl, rfl, rfl, h1, r1⟩ := trodAll_cons r0
  obtain ⟨rfl, rfl, rfl⟩ := trodAll_nil r1
  obtain rfl : args = #[v0, v1] := by cases args; simp_all
  obtain ⟨rfl, rfl⟩ := trodVars_none hV
  obtain ⟨a0, rfl, rfl, rfl, w0⟩ := open_string Try.underlying9 (hval 0 9 v0 rfl rfl) h0
  obtain ⟨a1, rfl, rfl, rfl, w1⟩ := open_string Try.underlying9 (hval 1 9 v1 rfl rfl) h1
  clear hA0 hval0
  simp only [List.append_nil] at hW'
  refine (walk a0 a1 w0 w1 W).mono fun e W' ⟨he, hg⟩ => ?_
  subst he
  exact ⟨_, rfl, _, _, _, [], [], [], hW', (trodAll_cons_mk (shut_bool Try.underlying4 _) trodAll_mk0), (trodAll_cons_mk (shut_string Try.underlying9 w0) (trodAll_cons_mk (shut_string Try.underlying9 w1) trodAll_mk0)), rfl, hg.frame _, fun h => by cases h⟩

theorem over : Rows.globQuotesRow.holds Try.pinned (OpenSpec.ofChange Rows.globQuotesSpec) :=
  OpenClaim.holds_of_wide 4 Try.f4 rfl rfl rfl rfl rfl rfl rfl ⟨rfl, rfl, rfl, rfl, rfl⟩ rfl rfl rfl rfl rfl (by kernel_rfl) Try.func4 (by kernel_rfl)
    (of_decide_eq_true (by kernel_rfl)) (by unfold Func.isWrapper; first | (rw [if_pos (by decide +kernel)]; kernel_rfl) | (rw [if_neg (by decide +kernel)]; exact ⟨rfl, rfl⟩))
    (fun os started H enc _ => lifted os started H enc)

/-- ████ THE STATEMENT ████ -/
theorem proved : Rows.GlobQuotesSaid :=
  over
#print axioms proved
end Go.Proofs.Ytcaemhlmefhgdaa.globQuotes
