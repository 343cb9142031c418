/- How ends of members are written. -/
import Derived.Test.YtfnofnilcflcmaaShown
import Derived.Laws.RangeAny
import Derived.Laws.Cover4
import Derived.StillTailTactics
namespace Go.Proofs.Ytfnofnilcflcmaa
open Go.RowKit
attribute [local go_sem] Oper.semAt_some

def cutB (s : ByteArray) : ByteArray := s.extract 0 (min s.size 100)
theorem cutB_size (s : ByteArray) : (cutB s).size ≤ 100 := by unfold cutB; simp; omega
theorem cut_any (s : ByteArray) (hs : s.size ≤ 9223372036854775807) (w : World) :
    Calls Try.prog 13 #[.string s] w fun e w' => e = .returned (.string (cutB s)) ∧ w' = w := by
  unfold cutB
  obtain ⟨q, hq⟩ : ∃ q, q = min s.size 100 := ⟨_, rfl⟩
  have hmin : min (s.size : Int) 100 = (q : Int) := by omega
  have hqs : (q : Int) ≤ s.size := by omega
  have hq0 : (0 : Int) ≤ q := by omega
  rw [← hq]
  clear hq
  go_enter Try.func13, Try.ntmps13
  go_wp2
  go_ret
  exact ⟨rfl, rfl⟩

/-- What FormatEdge answers. -/
def fmtE (s : ByteArray) (o : Bool) (i : Int) : Value :=
  if i = 0 then .tuple #[.string ((if o then ⟨#[40]⟩ else ⟨#[91]⟩) ++ s), .int .i64 0]
  else if s = ⟨#[]⟩ ∧ o = false ∧ i = -1 then .tuple #[.string ⟨#[45]⟩, .int .i64 0]
  else if s = ⟨#[]⟩ ∧ o = false ∧ i = 1 then .tuple #[.string ⟨#[43]⟩, .int .i64 0]
  else .tuple #[.string ⟨#[]⟩, .int .i64 80]

theorem empty_of {s : ByteArray} (h : s.toList = []) : s = ⟨#[]⟩ := toList_inj (by rw [h, Lib.toList_data])
theorem cat_m : (⟨#[45]⟩ : ByteArray) ++ (⟨#[]⟩ : ByteArray) = ⟨#[45]⟩ := by decide +kernel
theorem cat_p : (⟨#[43]⟩ : ByteArray) ++ (⟨#[]⟩ : ByteArray) = ⟨#[43]⟩ := by decide +kernel
set_option maxRecDepth 100000 in
set_option maxHeartbeats 2000000 in
theorem signed_any (s : ByteArray) (o : Bool) (i : Int) (hi : i ≠ 0) (w : World) :
    Calls Try.prog 33 #[.agg #[.string s, .bool o, .int .i64 i], .agg #[.string ⟨#[]⟩, .bool false, .int .i64 (-1)], .agg #[.string ⟨#[]⟩, .bool false, .int .i64 1], .string ⟨#[]⟩] w fun e w' => e = .returned (fmtE s o i) ∧ Below w.heap.size w w' := by
  have HF := Lib.hid (show fmtE s o i = _ from if_neg hi)
  go_enter Try.func33, Try.ntmps33
  go_wp2
  all_goals go_ret2
  all_goals refine ⟨?_, below_trans (below_trans (below_new _ _) (below_new _ _)) (below_new _ _)⟩
  all_goals rw [HF.out]
  all_goals first
    | (have hs := empty_of (by assumption); subst hs; simp_all [cat_m, cat_p])
    | (have hs : ¬ s = ⟨#[]⟩ := (fun e => by subst e; exact absurd (show (⟨#[]⟩ : ByteArray).toList = [] by rw [Lib.toList_data]) (by assumption)); simp_all)

set_option maxRecDepth 100000 in
set_option maxHeartbeats 2000000 in
theorem formatEdge_any (s : ByteArray) (hs : s.size ≤ 281474976710656) (o : Bool) (i : Int) (w : World) : Calls Try.prog 19 #[.agg #[.string s, .bool o, .int .i64 i]] w fun e w' => e = .returned (fmtE s o i) ∧ Below w.heap.size w w' := by
  have hB := below_new w (.cells #[.string s, .bool o, .int .i64 i] 33)
  by_cases hi : i = 0
  · subst hi
    cases o
    · go_enter Try.func19, Try.ntmps19
      go_wp2
      go_ret2
      exact ⟨rfl, hB⟩
    · go_enter Try.func19, Try.ntmps19
      go_wp2
      go_ret2
      exact ⟨rfl, hB⟩
  · have HS := fun w => Lib.hid (signed_any s o i hi w)
    have e1 : (i == 0) = false := by simpa using hi
    have e2 : (i != 0) = true := by simpa using hi
    have HV : ∃ p : ByteArray × Int, fmtE s o i = .tuple #[.string p.1, .int .i64 p.2] := by
      unfold fmtE; rw [if_neg hi]; split
      · exact ⟨(_, _), rfl⟩
      · split
        · exact ⟨(_, _), rfl⟩
        · exact ⟨(_, _), rfl⟩
    obtain ⟨⟨p, q⟩, hv⟩ := HV
    rw [hv] at HS ⊢
    clear hv hi
    go_enter Try.func19, Try.ntmps19
    go_wp2_with fail
    refine (HS _).out.mono ?_
    rintro e w1 ⟨rfl, hb1⟩
    go_wp2_with fail
    go_ret2
    exact ⟨rfl, below_trans hB hb1⟩

set_option maxRecDepth 100000 in
set_option maxHeartbeats 2000000 in
theorem refFormatEdge_any (s : ByteArray) (hs : s.size ≤ 281474976710656) (o : Bool) (i : Int) (w : World) : Calls Try.prog 20 #[.agg #[.string s, .bool o, .int .i64 i]] w fun e w' => e = .returned (fmtE s o i) ∧ Below w.heap.size w w' := by
  have hB := below_new w (.cells #[.string s, .bool o, .int .i64 i] 33)
  by_cases hi : i = 0
  · subst hi
    cases o
    · go_enter Try.func20, Try.ntmps20
      go_wp2
      all_goals go_ret2
      all_goals exact ⟨rfl, hB⟩
    · go_enter Try.func20, Try.ntmps20
      go_wp2
      all_goals go_ret2
      all_goals exact ⟨rfl, hB⟩
  · have HF := Lib.hid (show fmtE s o i = _ from if_neg hi)
    have e1 : (i == 0) = false := by simpa using hi
    have e2 : (i != 0) = true := by simpa using hi
    clear hi
    go_enter Try.func20, Try.ntmps20
    go_wp2_with fail
    all_goals go_ret2
    all_goals refine ⟨?_, below_new _ _⟩
    all_goals rw [HF.out]
    all_goals first
      | (have hs := empty_of (by assumption); subst hs; simp_all)
      | (have hs : ¬ s = ⟨#[]⟩ := (fun e => by subst e; exact absurd (show (⟨#[]⟩ : ByteArray).toList = [] by rw [Lib.toList_data]) (by assumption)); simp_all)
/-- The first character of a list of bytes, and how many it takes. -/
def decL (l : List UInt8) : Nat × Nat := Utf8.decode ⟨l.toArray⟩ 0

theorem get_getD (s : ByteArray) (n : Nat) : s.get! n = s.data.toList.getD n 0 := by
  show s.data[n]! = _
  by_cases h : n < s.data.size
  · rw [getElem!_pos s.data n h, List.getD_eq_getElem?_getD, List.getElem?_eq_getElem (by simpa using h)]
    simp
  · rw [getElem!_neg s.data n h, List.getD_eq_getElem?_getD, List.getElem?_eq_none (by simpa using h)]
    rfl

theorem get_list (l : List UInt8) (k : Nat) : ByteArray.get! ⟨l.toArray⟩ (0 + k) = l.getD k 0 := by
  rw [get_getD, Nat.zero_add]
theorem lt_list (l : List UInt8) (k : Nat) : decide (0 + k < ByteArray.size ⟨l.toArray⟩) = decide (k < l.length) := by
  rw [Nat.zero_add, decide_eq_decide]
  show k < l.toArray.size ↔ _
  simp

theorem dec_eq (s : ByteArray) (i : Nat) : Utf8.decode s i = decL (s.data.toList.drop i) := by
  have h1 : ∀ k, s.get! (i + k) = (s.data.toList.drop i).getD k 0 := fun k => by
    rw [get_getD]; simp [List.getD, List.getElem?_drop]
  have h2 : ∀ k, decide (i + k < s.size) = decide (k < (s.data.toList.drop i).length) := fun k => by
    rw [decide_eq_decide, List.length_drop, Array.length_toList]
    show i + k < s.data.size ↔ _
    omega
  simp only [decL, Utf8.decode, get_list, lt_list, h1, h2]

theorem decL_ascii (b : UInt8) (l : List UInt8) (h : b.toNat < 128) : decL (b :: l) = (b.toNat, 1) := by
  simp only [decL, Utf8.decode, get_list, lt_list]
  simp [h]
/-- A byte that is no ASCII one begins a character that is none. -/
theorem decL_high (b : UInt8) (l : List UInt8) (h : 128 ≤ b.toNat) : 128 ≤ (decL (b :: l)).1 := by
  have hn : ¬ b.toNat < 128 := by omega
  simp only [decL, Utf8.decode, get_list, lt_list, List.getD_cons_zero, hn, if_false]
  repeat' split
  all_goals simp_all [Utf8.runeError]
  all_goals omega


theorem dec_first {s : ByteArray} (h : 0 < s.size) : (s[0].toNat < 128 → Utf8.decode s 0 = (s[0].toNat, 1)) ∧ (128 ≤ s[0].toNat → 128 ≤ (Utf8.decode s 0).1) := by
  have hl : s.data.toList = s[0] :: s.data.toList.drop 1 := by
    have := List.drop_eq_getElem_cons (l := s.data.toList) (i := 0) (by simpa using h)
    show _ = s.data[0] :: _
    simpa using this
  have he : Utf8.decode s 0 = decL (s[0] :: s.data.toList.drop 1) := by rw [dec_eq, List.drop_zero, ← hl]
  rw [he]
  exact ⟨fun h => decL_ascii _ _ h, fun h => decL_high _ _ h⟩
theorem mark_first {s : ByteArray} (h : 0 < s.size) : markS s = (if s[0].toNat = 40 ∨ s[0].toNat = 91 then (s[0].toNat : Int) else 0) ∧ (markS s ≠ 0 → restS s = s.extract 1 s.size) := by
  obtain ⟨h1, h2⟩ := dec_first h
  have hm : markS s = (if s[0].toNat = 40 ∨ s[0].toNat = 91 then (s[0].toNat : Int) else 0) := by
    unfold markS
    by_cases hb : s[0].toNat < 128
    · rw [h1 hb]
      simp [h]
    · have := h2 (by omega)
      rw [if_neg (by omega), if_neg (by omega)]
  refine ⟨hm, fun hne => ?_⟩
  unfold restS
  rw [if_neg hne]
  have hb : s[0].toNat < 128 := by
    by_cases hb : s[0].toNat = 40 ∨ s[0].toNat = 91
    · omega
    · rw [hm, if_neg hb] at hne; exact absurd rfl hne
  rw [h1 hb]

set_option maxRecDepth 100000 in
set_option maxHeartbeats 2000000 in
theorem refParseEdge_any (s : ByteArray) (hs : s.size ≤ maxLen) (w : World) : Calls Try.prog 18 #[.string s] w fun e w' => e = .returned (edgeS s) ∧ Below w.heap.size w w' := by
  unfold maxLen at hs
  by_cases h1 : s = ⟨#[45]⟩
  · have e1 := lit_true [45] h1
    have HE := Lib.hid (show edgeS s = _ from if_pos h1)
    clear h1
    go_enter Try.func18, Try.ntmps18
    go_wp2
    exact bodyPost_ret (v := .tuple #[.agg #[.string ⟨#[]⟩, .bool false, .int .i64 (-1)], .int .i64 0]) (by simp [results, Try.results18, go_sem]) rfl ⟨by rw [HE.out], below_new _ _⟩
  · have e1 := lit_false [45] h1
    by_cases h2 : s = ⟨#[43]⟩
    · have e2 := lit_true [43] h2
      have HE := Lib.hid (show edgeS s = _ from (if_neg h1).trans (if_pos h2))
      clear h2 h1
      go_enter Try.func18, Try.ntmps18
      go_wp2
      exact bodyPost_ret (v := .tuple #[.agg #[.string ⟨#[]⟩, .bool false, .int .i64 1], .int .i64 0]) (by simp [results, Try.results18, go_sem]) rfl ⟨by rw [HE.out], below_new _ _⟩
    · have e2 := lit_false [43] h2
      by_cases h0 : 0 < s.size
      · obtain ⟨hm, hr⟩ := mark_first h0
        by_cases h40 : s[0].toNat = 40
        · have e3 : (s[0].toNat : Int) = 40 := by omega
          have h0i : (1 : Int) ≤ s.size := by omega
          have hne : markS s ≠ 0 := by rw [hm, if_pos (by omega)]; omega
          have hmv : (markS s == 40) = true := by rw [hm, if_pos (by omega), e3]; rfl
          have HE := Lib.hid (show edgeS s = .tuple #[.agg #[.string (s.extract 1 s.size), .bool true, .int .i64 0], .int .i64 0] by rw [show edgeS s = _ from (if_neg h1).trans ((if_neg h2).trans (if_neg hne)), hr hne, hmv])
          clear h1 h2 hm hr h40 hne hmv
          have e5 : ((s.size : Int) == 0) = false := beq_eq_false_iff_ne.2 (by omega)
          go_enter Try.func18, Try.ntmps18
          go_wp2
          go_still_tail 6, (by kernel_rfl)
          change wpList _ _ _ _ _ (w.alloc _).drew
          go_wp2
          exact bodyPost_ret (v := .tuple #[.agg #[.string (s.extract 1 s.size), .bool true, .int .i64 0], .int .i64 0]) (by simp [results, Try.results18, go_sem]) rfl ⟨by rw [HE.out], (below_new _ _).drew⟩
        · by_cases h91 : s[0].toNat = 91
          · have e3 : (s[0].toNat : Int) = 91 := by omega
            have h0i : (1 : Int) ≤ s.size := by omega
            have hne : markS s ≠ 0 := by rw [hm, if_pos (by omega)]; omega
            have hmv : (markS s == 40) = false := by rw [hm, if_pos (by omega), e3]; rfl
            have HE := Lib.hid (show edgeS s = .tuple #[.agg #[.string (s.extract 1 s.size), .bool false, .int .i64 0], .int .i64 0] by rw [show edgeS s = _ from (if_neg h1).trans ((if_neg h2).trans (if_neg hne)), hr hne, hmv])
            clear h1 h2 hm hr h40 hne hmv h91
            have e5 : ((s.size : Int) == 0) = false := beq_eq_false_iff_ne.2 (by omega)
            go_enter Try.func18, Try.ntmps18
            go_wp2
            go_still_tail 6, (by kernel_rfl)
            change wpList _ _ _ _ _ (w.alloc _).drew
            go_wp2
            exact bodyPost_ret (v := .tuple #[.agg #[.string (s.extract 1 s.size), .bool false, .int .i64 0], .int .i64 0]) (by simp [results, Try.results18, go_sem]) rfl ⟨by rw [HE.out], (below_new _ _).drew⟩
          · have e3 : ((s[0].toNat : Int) != 91) = true := by simp; omega
            have e4 : ((s[0].toNat : Int) != 40) = true := by simp; omega
            have HE := Lib.hid (show edgeS s = _ from (if_neg h1).trans ((if_neg h2).trans (if_pos (by rw [hm, if_neg (by omega)]))))
            clear h1 h2 hm hr h40 h91
            have e5 : ((s.size : Int) == 0) = false := beq_eq_false_iff_ne.2 (by omega)
            go_enter Try.func18, Try.ntmps18
            go_wp2
            exact bodyPost_ret (v := .tuple #[.agg #[.string ⟨#[]⟩, .bool false, .int .i64 0], .int .i64 80]) (by simp [results, Try.results18, go_sem]) rfl ⟨by rw [HE.out], below_new _ _⟩
      · have e5 : ((s.size : Int) == 0) = true := beq_iff_eq.2 (by omega)
        have HE := Lib.hid (show edgeS s = _ from (if_neg h1).trans ((if_neg h2).trans (if_pos (by unfold markS; rw [if_neg (by omega)]))))
        clear h1 h2
        go_enter Try.func18, Try.ntmps18
        go_wp2
        exact bodyPost_ret (v := .tuple #[.agg #[.string ⟨#[]⟩, .bool false, .int .i64 0], .int .i64 80]) (by simp [results, Try.results18, go_sem]) rfl ⟨by rw [HE.out], below_new _ _⟩

theorem edge_form (s : ByteArray) : ∃ (p : ByteArray × Bool) (q : Int × Int), edgeS s = .tuple #[.agg #[.string p.1, .bool p.2, .int .i64 q.1], .int .i64 q.2] := by
  unfold edgeS
  split
  · exact ⟨(_, _), (_, _), rfl⟩
  · split
    · exact ⟨(_, _), (_, _), rfl⟩
    · split
      · exact ⟨(_, _), (_, _), rfl⟩
      · exact ⟨(_, _), (_, _), rfl⟩
theorem fmt_form (s : ByteArray) (o : Bool) (i : Int) : ∃ p : ByteArray × Int, fmtE s o i = .tuple #[.string p.1, .int .i64 p.2] := by
  unfold fmtE
  split
  · exact ⟨(_, _), rfl⟩
  · split
    · exact ⟨(_, _), rfl⟩
    · split
      · exact ⟨(_, _), rfl⟩
      · exact ⟨(_, _), rfl⟩

set_option maxRecDepth 100000 in
set_option maxHeartbeats 4000000 in
theorem edges_walk (s b : ByteArray) (hs : s.size ≤ 9223372036854775807) (hb : b.size ≤ 281474976710656) (o : Bool) (i : Int) (w : World) :
    Calls Try.prog 4 #[.string s, .agg #[.string b, .bool o, .int .i64 i]] w fun e w' => e = .returned (.bool true) ∧ Below w.heap.size w w' := by
  have HS := fun w => Lib.hid (shown_any w)
  have HC := fun w => Lib.hid (cut_any s hs w)
  have hcs := cutB_size s
  have G1 := fun w => parseEdge_any (cutB s) (by unfold maxLen; omega) w
  have G2 := fun w => refParseEdge_any (cutB s) (by unfold maxLen; omega) w
  have G3 := fun w => formatEdge_any b hb o i w
  have G4 := fun w => refFormatEdge_any b hb o i w
  obtain ⟨⟨x, y⟩, ⟨z, e⟩, he⟩ := edge_form (cutB s)
  obtain ⟨⟨p, q⟩, hf⟩ := fmt_form b o i
  rw [he] at G1 G2
  rw [hf] at G3 G4
  have H1 := fun w => Lib.hid (G1 w)
  have H2 := fun w => Lib.hid (G2 w)
  have H3 := fun w => Lib.hid (G3 w)
  have H4 := fun w => Lib.hid (G4 w)
  clear G1 G2 G3 G4 he hf hb hcs
  generalize cutB s = t at *
  have k0 := Cells3.new w (.string b) (.bool o) (.int .i64 i) 33
  have hB := below_new w (.cells #[.string b, .bool o, .int .i64 i] 33)
  go_enter Try.func4, Try.ntmps4
  go_wp2_with fail
  refine (HS _).out.mono ?_
  rintro e w1 ⟨rfl, hb1⟩
  replace k0 := k0.later hb1
  replace hB := below_trans hB hb1
  clear hb1
  go_wp2_with fail
  refine (HC _).out.mono ?_
  rintro e w2 ⟨rfl, rfl⟩
  go_wp2_with fail
  refine (H1 _).out.mono ?_
  rintro e w2 ⟨rfl, hb2⟩
  replace k0 := k0.later hb2
  replace hB := below_trans hB hb2
  clear hb2
  have k1 := Cells3.new w2 (.string x) (.bool y) (.int .i64 z) 33
  have hx := below_new w2 (.cells #[.string x, .bool y, .int .i64 z] 33)
  replace k0 := k0.later hx
  replace hB := below_trans hB hx
  clear hx
  go_wp2_with fail
  generalize w2.alloc (.cells #[.string x, .bool y, .int .i64 z] 33) = v2 at *
  refine (HC _).out.mono ?_
  rintro e w3 ⟨rfl, rfl⟩
  go_wp2_with fail
  refine (H2 _).out.mono ?_
  rintro e w3 ⟨rfl, hb3⟩
  replace k0 := k0.later hb3
  replace k1 := k1.later hb3
  replace hB := below_trans hB hb3
  clear hb3
  have l0 := k0.lt
  have k2 := Cells3.new w3 (.string x) (.bool y) (.int .i64 z) 33
  have hx := below_new w3 (.cells #[.string x, .bool y, .int .i64 z] 33)
  obtain ⟨a0, a1, a2⟩ := id k0
  replace k0 := k0.later hx
  replace k1 := k1.later hx
  replace hB := below_trans hB hx
  clear hx
  go_wp2_with fail
  clear a0 a1 a2 l0
  generalize w3.alloc (.cells #[.string x, .bool y, .int .i64 z] 33) = v3 at *
  refine (H3 _).out.mono ?_
  rintro e w4 ⟨rfl, hb4⟩
  replace k0 := k0.later hb4
  replace k1 := k1.later hb4
  replace k2 := k2.later hb4
  replace hB := below_trans hB hb4
  clear hb4
  obtain ⟨a0, a1, a2⟩ := k0
  go_wp2_with fail
  refine (H4 _).out.mono ?_
  rintro e w5 ⟨rfl, hb5⟩
  replace k1 := k1.later hb5
  replace k2 := k2.later hb5
  replace hB := below_trans hB hb5
  clear hb5 a0 a1 a2
  obtain ⟨a0, a1, a2⟩ := k1
  obtain ⟨c0, c1, c2⟩ := k2
  go_wp2_with fail
  go_ret
  exact ⟨rfl, hB⟩
end Go.Proofs.Ytfnofnilcflcmaa
