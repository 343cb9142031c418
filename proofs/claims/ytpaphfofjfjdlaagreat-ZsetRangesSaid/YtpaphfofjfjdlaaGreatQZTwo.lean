/- Two sets beside each other; two lists of entries that are the same; levels. -/
import Derived.Test.YtpaphfofjfjdlaaGreatQZG
import Derived.BigQuiet
namespace Go.Proofs.YtpaphfofjfjdlaaGreat
open Go.RowKit Go.Shelf Sk
attribute [local go_sem] Oper.semAt_some

theorem neq_same (m : ByteArray) (s : Int) (W : World) : (binOp .neq 48 (.agg #[.string m, .int .i64 s]) (.agg #[.string m, .int .i64 s])).run Tryz.prog W = .ok (.bool false) W := by simp [go_sem]
set_option maxRecDepth 100000 in
set_option maxHeartbeats 4000000 in
theorem same_rows {n0 n1 : Nat} (v1 v2 : Value) (l : List En) (hl : l.length ≤ 1000000) (w : World) (h1 : Row w n0 v1 l) (h2 : Row w n1 v2 l) : Calls Tryz.prog 15 #[v1, v2] w fun e w' => e = .returned (.bool true) ∧ Below w.heap.size w w' := by
  obtain ⟨a1, c1, rfl⟩ := h1.form
  obtain ⟨a2, c2, rfl⟩ := h2.form
  have H1 := Lib.hid (fun W (hb : Below w.heap.size w W) => h1.later hb)
  have H2 := Lib.hid (fun W (hb : Below w.heap.size w W) => h2.later hb)
  clear h1 h2
  go_enter Tryz.func15, Tryz.ntmps15
  go_wp2
  go_loopw [5] (fun i wr => ∃ (k : Nat), i = .int .i64 k ∧ k ≤ l.length ∧ Below w.heap.size w wr) (fun i _ => l.length - (intOf i).toNat)
  case atStart => exact ⟨0, rfl, by omega, Below.refl _ _⟩
  case round =>
    obtain ⟨k, rfl, hk, hbr⟩ := hrel
    by_cases hlt : k < l.length
    · have hx : l[k]? = some l[k] := List.getElem?_eq_getElem hlt
      generalize l[k] = x at *
      obtain ⟨b1, o1, c1', e1, p1, q1⟩ := row_cells (H1.out wr hbr) hx
      obtain ⟨b2, o2, c2', e2, p2, q2⟩ := row_cells (H2.out wr hbr) hx
      injection e1 with e1 _ f1
      injection e2 with e2 _ f2
      subst e1 f1 e2 f2
      have hk2 : (k : Int) < l.length := by omega
      have hne := neq_same x.1 x.2
      have HBR := Lib.hid hbr
      clear hx hbr H1 H2
      go_wp2_with fail
      go_quiet (fail)
      go_wp2_with fail
      exact ⟨⟨k + 1, by go_num, hlt, HBR.out.trans ((drewB wr _).mono HBR.out.size)⟩, by simp [intOf]; omega⟩
    · obtain rfl : k = l.length := by omega
      go_wp2
      go_returns
      exact ⟨rfl, hbr⟩

/-- Two sets, each apart from the other one. -/
def TwoIs (w0 W : World) (s t : Nat) (c : Nat) (E F : List En) : Prop :=
  ∃ S T isL isM le lm le' lm', SetIs W s S isL le lm c E ∧ SetIs W t T isM le' lm' c F ∧ (∀ j, S j → ¬ T j) ∧ (∀ j, S j → w0.heap.size ≤ j) ∧ (∀ j, T j → w0.heap.size ≤ j) ∧ Below w0.heap.size w0 W
variable {w0 W : World} {s t c : Nat} {E F : List En}
theorem TwoIs.swap (h : TwoIs w0 W s t c E F) : TwoIs w0 W t s c F E := by
  obtain ⟨S, T, isL, isM, le, lm, le', lm', h1, h2, h3, h4, h5, h6⟩ := h
  exact ⟨T, S, isM, isL, le', lm', le, lm, h2, h1, fun j hj hs => h3 j hs hj, h5, h4, h6⟩
theorem TwoIs.below (h : TwoIs w0 W s t c E F) : Below w0.heap.size w0 W := by obtain ⟨_, _, _, _, _, _, _, _, _, _, _, _, _, h6⟩ := h; exact h6
theorem TwoIs.later (h : TwoIs w0 W s t c E F) {W' : World} (hb : Below W.heap.size W W') : TwoIs w0 W' s t c E F := by
  obtain ⟨S, T, isL, isM, le, lm, le', lm', h1, h2, h3, h4, h5, h6⟩ := h
  exact ⟨S, T, isL, isM, le, lm, le', lm', h1.later hb, h2.later hb, h3, h4, h5, h6.trans (hb.mono h6.size)⟩
theorem TwoIs.good (h : TwoIs w0 W s t c E F) : SrtE E ∧ Dist E ∧ E.length ≤ c ∧ c ≤ 10000 := by
  obtain ⟨S, T, isL, isM, le, lm, le', lm', h1, _⟩ := h
  exact ⟨h1.good.srt, h1.good.dist, h1.good.len, h1.good.cap⟩
/-- Boxes of acts stay. -/
def Keep32 (W W' : World) : Prop := ∀ j c, Blk W j 32 c → Blk W' j 32 c
theorem keep_now {S : Nat → Prop} {isL isL' : Bool} {le lm : Int} {c' : Nat} {E' : List En} {W' : World} (h : SetIs W s S isL le lm c E) (hn : SetNow W s S isL' le lm c' E' W') : Keep32 W W' := fun j cc hj => by
  obtain ⟨_, _, _, hf⟩ := hn
  refine hf.blk hj fun hs => ?_
  obtain ⟨sd, ⟨_, b, h, hS⟩ | ⟨_, l, p, q, D, L, m, n, h, hS⟩⟩ := h
  · rcases (hS j).1 hs with rfl | rfl
    · exact absurd (hj.ty h.blk) (by decide)
    · exact absurd (hj.ty h.pk.blk) (by decide)
  · rcases (hS j).1 hs with rfl | ho
    · exact absurd (hj.ty h.blk) (by decide)
    · exact h.li.own_ty ho hj (by decide)
theorem TwoIs.more (h : TwoIs w0 W s t c E F) {c' : Nat} (h1 : c ≤ c') (h2 : c' ≤ 10000) : TwoIs w0 W s t c' E F := by
  obtain ⟨S, T, isL, isM, le, lm, le', lm', g1, g2, g3⟩ := h
  exact ⟨S, T, isL, isM, le, lm, le', lm', g1.more h1 h2, g2.more h1 h2, g3⟩
theorem two_now {S T : Nat → Prop} {isM isL' : Bool} {le lm le' lm' : Int} {c' : Nat} {E' : List En} {W' : World} (h2 : SetIs W t T isM le' lm' c F) (h3 : ∀ j, S j → ¬ T j) (h4 : ∀ j, S j → w0.heap.size ≤ j) (h5 : ∀ j, T j → w0.heap.size ≤ j) (h6 : Below w0.heap.size w0 W)
    (hc : c ≤ c') (hc2 : c' ≤ 10000) (hn : SetNow W s S isL' le lm c' E' W') : TwoIs w0 W' s t c' E' F := by
  obtain ⟨S', g1, g2, g3⟩ := hn
  refine ⟨S', T, isL', isM, le, lm, le', lm', g1, (h2.far g3 fun j hj hs => h3 j hs hj).more hc hc2, fun j hj ht => ?_, fun j hj => ?_, h5, h6.trans (g3.below h4 h6.size)⟩
  · rcases g2 j hj with h | h
    · exact h3 j h ht
    · have := h2.lt ht; omega
  · rcases g2 j hj with h | h
    · exact h4 j h
    · exact Nat.le_trans h6.size h
theorem two_add (h : TwoIs w0 W s t c E F) (h4 : E.length < 400) (hc : c + 1 ≤ 10000) (k : ByteArray) (sc lv : Int) (hs : Pk.scoreOk sc) :
    Calls Tryz.prog 31 #[.pointer (some ⟨s, 0, none⟩), .string k, .int .i64 sc, .int .i64 lv] W fun e W' => e = .returned (.tuple #[.bool (addA E k lv), .int .i64 (addN k lv)]) ∧ TwoIs w0 W' s t (c + 1) (addS E k sc lv) F ∧ Keep32 W W' := by
  obtain ⟨S, T, isL, isM, le, lm, le', lm', h1, h2, h3, g4, h5, h6⟩ := h
  exact (set_add h1 h4 hc k sc lv hs).mono fun _ _ ⟨he, hn⟩ => ⟨he, two_now h2 h3 g4 h5 h6 (by omega) hc hn, keep_now h1 hn⟩
theorem two_remove (h : TwoIs w0 W s t c E F) (k : ByteArray) (hk : k.size ≤ 281474976710656) : Calls Tryz.prog 32 #[.pointer (some ⟨s, 0, none⟩), .string k] W fun e W' => e = .returned (.bool (hasE E k)) ∧ TwoIs w0 W' s t c (rmE E k) F := by
  have hcap := h.good.2.2.2
  obtain ⟨S, T, isL, isM, le, lm, le', lm', h1, h2, h3, g4, h5, h6⟩ := h
  exact (set_remove h1 k hk).mono fun _ _ ⟨he, hn⟩ => ⟨he, two_now h2 h3 g4 h5 h6 (Nat.le_refl _) hcap hn⟩
theorem two_cut (h : TwoIs w0 W s t c E F) (f u : Int) : Calls Tryz.prog 33 #[.pointer (some ⟨s, 0, none⟩), .int .i64 f, .int .i64 u] W fun e W' => e = .returned (.int .i64 (subE E f u).length) ∧ TwoIs w0 W' s t c (cutE E f u) F ∧ Keep32 W W' := by
  have hcap := h.good.2.2.2
  obtain ⟨S, T, isL, isM, le, lm, le', lm', h1, h2, h3, g4, h5, h6⟩ := h
  exact (set_cut h1 f u).mono fun _ _ ⟨he, hn⟩ => ⟨he, two_now h2 h3 g4 h5 h6 (Nat.le_refl _) hcap hn, keep_now h1 hn⟩
theorem two_rank (h : TwoIs w0 W s t c E F) (k : ByteArray) (hk : k.size ≤ 281474976710656) : Calls Tryz.prog 24 #[.pointer (some ⟨s, 0, none⟩), .string k] W fun e W' => e = .returned (.tuple #[.int .i64 ((whE E k).getD 0 : Nat), .bool (whE E k).isSome]) ∧ TwoIs w0 W' s t c E F := by
  have hcap := h.good.2.2.2
  obtain ⟨S, T, isL, isM, le, lm, le', lm', h1, h2, h3, g4, h5, h6⟩ := h
  exact (set_rank h1 k hk).mono fun _ _ ⟨he, hn⟩ => ⟨he, two_now h2 h3 g4 h5 h6 (Nat.le_refl _) hcap hn⟩
theorem two_len (h : TwoIs w0 W s t c E F) : Calls Tryz.prog 14 #[.pointer (some ⟨s, 0, none⟩)] W fun e W' => e = .returned (.int .i64 E.length) ∧ Below W.heap.size W W' := by
  obtain ⟨S, T, isL, isM, le, lm, le', lm', h1, _⟩ := h
  exact set_len h1
theorem two_range (h : TwoIs w0 W s t c E F) : Calls Tryz.prog 16 #[.pointer (some ⟨s, 0, none⟩), .int .i64 0, .int .i64 E.length] W fun e W' => ∃ r, e = .returned r ∧ Row W' W.heap.size r E ∧ Below W.heap.size W W' := by
  obtain ⟨S, T, isL, isM, le, lm, le', lm', h1, _⟩ := h
  have := set_range h1 0 E.length
  rwa [subE_all] at this

/-- A level out of a number. -/
def lvN (n : Int) : Nat := (n % 32).toNat
theorem bits_31 (n : Int) : bits .and .i64 n 31 = (lvN n : Int) := by
  unfold bits
  show IntKind.i64.wrap ((BitVec.ofInt 64 n &&& BitVec.ofInt 64 31).toNat : Int) = _
  have h31 : (BitVec.ofInt 64 31).toNat = 31 := by decide
  have h2 : ∀ x : Nat, x &&& 31 = x % 32 := fun x => Nat.and_two_pow_sub_one_eq_mod x 5
  rw [BitVec.toNat_and, h31, h2, BitVec.toNat_ofInt]
  have h3 : ((n % ((2 ^ 64 : Nat) : Int)).toNat % 32) = (n % 32).toNat := by
    have : ((2 ^ 64 : Nat) : Int) = 18446744073709551616 := by decide
    rw [this]
    omega
  rw [h3]
  unfold lvN
  exact IntWalk.i64_in _ (by omega)
theorem level_any (n : Int) : IntKind.i64.wrap (1 + bits .and .i64 n 31) = ((lvN n + 1 : Nat) : Int) ∧ 1 ≤ ((lvN n + 1 : Nat) : Int) ∧ ((lvN n + 1 : Nat) : Int) ≤ 32 := by
  have h1 : lvN n < 32 := by unfold lvN; omega
  refine ⟨?_, by omega, by omega⟩
  rw [bits_31, IntWalk.i64_in _ (by omega)]
  omega
theorem bad_same (k : ByteArray) (lv lv' : Int) (h : 1 ≤ lv ∧ lv ≤ 32) (h' : 1 ≤ lv' ∧ lv' ≤ 32) : badB k lv = badB k lv' := by
  unfold badB
  rw [decide_eq_decide]
  omega
end Go.Proofs.YtpaphfofjfjdlaaGreat
