/- The program's set and the reference's, side by side. -/
import Derived.Test.YtpaphfofjfjdlaaGreatQZRefOne
namespace Go.Proofs.YtpaphfofjfjdlaaGreat
open Go.RowKit Go.Shelf Sk

theorem set_no {W : World} {s c : Nat} {S : Nat → Prop} {isL : Bool} {le lm : Int} {E : List En} (h : SetIs W s S isL le lm c E) {t : Nat} (ht : t = 32 ∨ t = 37 ∨ t = 48) {j : Nat} {cc : Array Value} (hj : Blk W j t cc) : ¬ S j := fun hs => by
  obtain ⟨sd, ⟨_, b, h, hS⟩ | ⟨_, l, p, q, D, L, m, n, h, hS⟩⟩ := h
  · rcases (hS j).1 hs with rfl | rfl
    · rcases ht with rfl | rfl | rfl <;> exact absurd (h.blk.ty hj) (by decide)
    · rcases ht with rfl | rfl | rfl <;> exact absurd (h.pk.blk.ty hj) (by decide)
  · rcases (hS j).1 hs with rfl | ho
    · rcases ht with rfl | rfl | rfl <;> exact absurd (h.blk.ty hj) (by decide)
    · rcases ht with rfl | rfl | rfl <;> exact h.li.own_ty ho hj (by decide)
/-- The set holds E, the reference F. -/
structure MidR (w0 W : World) (s r c : Nat) (le lm : Int) (isL : Bool) (E : List En) (isM : Bool) (F : List En) : Prop where
  ex : ∃ S, SetIs W s S isL le lm c E ∧ RefC W r F le lm isM ∧ (∀ j, S j → w0.heap.size ≤ j)
  rr : w0.heap.size ≤ r
  lt : r < W.heap.size
  below : Below w0.heap.size w0 W
variable {w0 W W' : World} {s r c c' : Nat} {le lm : Int} {isL isM isL' isM' : Bool} {E F E' F' : List En}
theorem MidR.later (h : MidR w0 W s r c le lm isL E isM F) (hb : Below W.heap.size W W') : MidR w0 W' s r c le lm isL E isM F := by
  obtain ⟨S, h1, h2, h3⟩ := h.ex
  exact ⟨⟨S, h1.later hb, h2.later hb, h3⟩, h.rr, Nat.lt_of_lt_of_le h.lt hb.size, h.below.trans (hb.mono h.below.size)⟩
theorem MidR.set (h : MidR w0 W s r c le lm isL E isM F) {S : Nat → Prop} (h1 : SetIs W s S isL le lm c E) (h3 : ∀ j, S j → w0.heap.size ≤ j) (h2 : RefC W r F le lm isM) (hn : SetNow W s S isL' le lm c' E' W') : MidR w0 W' s r c' le lm isL' E' isM F := by
  obtain ⟨S', g1, g2, g3⟩ := hn
  obtain ⟨a, cc, hk, _⟩ := h2.ex
  exact ⟨⟨S', g1, h2.far g3 (set_no h1 (.inr (.inl rfl)) hk) fun k cur hk => set_no h1 (.inr (.inr rfl)) hk, fun j hj => by
    rcases g2 j hj with g | g
    · exact h3 j g
    · exact Nat.le_trans h.below.size g⟩, h.rr, Nat.lt_of_lt_of_le h.lt g3.size, h.below.trans (g3.below h3 h.below.size)⟩
theorem MidR.ref (h : MidR w0 W s r c le lm isL E isM F) {S : Nat → Prop} (h1 : SetIs W s S isL le lm c E) (h3 : ∀ j, S j → w0.heap.size ≤ j) (h2 : RefC W r F le lm isM) (hn : RefC W' r F' le lm isM') (hf : Far (fun k => k = r) W W') : MidR w0 W' s r c le lm isL E isM' F' := by
  obtain ⟨a, cc, hk, _⟩ := h2.ex
  exact ⟨⟨S, h1.far hf fun j hj e => by subst e; exact set_no h1 (.inr (.inl rfl)) hk hj, hn, h3⟩, h.rr, Nat.lt_of_lt_of_le h.lt hf.size, h.below.trans (hf.below (fun k hk => by rw [hk]; exact h.rr) h.below.size)⟩

theorem mid_add (h : MidR w0 W s r c le lm isL E isM F) (h4 : E.length < 400) (hc : c + 1 ≤ 10000) (k : ByteArray) (sc lv : Int) (hs : Pk.scoreOk sc) :
    Calls Tryz.prog 31 #[.pointer (some ⟨s, 0, none⟩), .string k, .int .i64 sc, .int .i64 lv] W fun e W' => e = .returned (.tuple #[.bool (addA E k lv), .int .i64 (addN k lv)]) ∧ MidR w0 W' s r (c + 1) le lm (addL le lm isL E k lv) (addS E k sc lv) isM F ∧ Keep32 W W' := by
  obtain ⟨S, h1, h2, h3⟩ := h.ex
  exact (set_add h1 h4 hc k sc lv hs).mono fun _ _ ⟨he, hn⟩ => ⟨he, h.set h1 h3 h2 hn, keep_now h1 hn⟩
theorem mid_remove (h : MidR w0 W s r c le lm isL E isM F) (k : ByteArray) (hk : k.size ≤ 281474976710656) :
    Calls Tryz.prog 32 #[.pointer (some ⟨s, 0, none⟩), .string k] W fun e W' => e = .returned (.bool (hasE E k)) ∧ MidR w0 W' s r c le lm isL (rmE E k) isM F ∧ Keep32 W W' := by
  obtain ⟨S, h1, h2, h3⟩ := h.ex
  exact (set_remove h1 k hk).mono fun _ _ ⟨he, hn⟩ => ⟨he, h.set h1 h3 h2 hn, keep_now h1 hn⟩
theorem mid_cut (h : MidR w0 W s r c le lm isL E isM F) (f u : Int) :
    Calls Tryz.prog 33 #[.pointer (some ⟨s, 0, none⟩), .int .i64 f, .int .i64 u] W fun e W' => e = .returned (.int .i64 (subE E f u).length) ∧ MidR w0 W' s r c le lm isL (cutE E f u) isM F ∧ Keep32 W W' := by
  obtain ⟨S, h1, h2, h3⟩ := h.ex
  exact (set_cut h1 f u).mono fun _ _ ⟨he, hn⟩ => ⟨he, h.set h1 h3 h2 hn, keep_now h1 hn⟩
theorem keep_ref (h2 : RefC W r F le lm isM) (hf : Far (fun k => k = r) W W') : Keep32 W W' := fun j cc hj => by
  obtain ⟨a, cc, hk, _⟩ := h2.ex
  exact hf.blk hj fun e => by subst e; exact absurd (hk.ty hj) (by decide)
theorem mid_radd (h : MidR w0 W s r c le lm isL E isM F) (hfit : FitE isM le lm F) (hs : SrtE F) (hd : Dist F) (hz : ∀ x ∈ F, x.1.size ≤ 64) (h4 : F.length < 400) (k : ByteArray) (hk : k.size ≤ 281474976710656) (sc lv : Int) :
    Calls Tryz.prog 36 #[.pointer (some ⟨r, 0, none⟩), .string k, .int .i64 sc, .int .i64 lv] W fun e W' => e = .returned (.tuple #[.bool (addA F k lv), .int .i64 (addN k lv)]) ∧ MidR w0 W' s r c le lm isL E (addL le lm isM F k lv) (addS F k sc lv) ∧ Keep32 W W' := by
  obtain ⟨S, h1, h2, h3⟩ := h.ex
  exact (ref_add h2 hfit hs hd hz h4 k hk sc lv).mono fun _ _ ⟨he, hn, hf⟩ => ⟨he, h.ref h1 h3 h2 hn hf, keep_ref h2 hf⟩
theorem mid_rremove (h : MidR w0 W s r c le lm isL E isM F) (hd : Dist F) (h4 : F.length ≤ 1000) (k : ByteArray) :
    Calls Tryz.prog 37 #[.pointer (some ⟨r, 0, none⟩), .string k] W fun e W' => e = .returned (.bool (hasE F k)) ∧ MidR w0 W' s r c le lm isL E isM (rmE F k) ∧ Keep32 W W' := by
  obtain ⟨S, h1, h2, h3⟩ := h.ex
  exact (ref_remove h2 hd h4 k).mono fun _ _ ⟨he, hn, hf⟩ => ⟨he, h.ref h1 h3 h2 hn hf, keep_ref h2 hf⟩
theorem mid_rcut (h : MidR w0 W s r c le lm isL E isM F) (h4 : F.length ≤ 1000) (f u : Int) :
    Calls Tryz.prog 38 #[.pointer (some ⟨r, 0, none⟩), .int .i64 f, .int .i64 u] W fun e W' => e = .returned (.int .i64 (subE F f u).length) ∧ MidR w0 W' s r c le lm isL E isM (cutE F f u) ∧ Keep32 W W' := by
  obtain ⟨S, h1, h2, h3⟩ := h.ex
  exact (ref_cut h2 h4 f u).mono fun _ _ ⟨he, hn, hf⟩ => ⟨he, h.ref h1 h3 h2 hn hf, keep_ref h2 hf⟩
end Go.Proofs.YtpaphfofjfjdlaaGreat
