/- DictTexts: a dict of texts does with them what one of numbers does with their places. -/
import Derived.Test.YtifbambalfifaaaStrIs
import Derived.Test.YtifbambalfifaaaSeeds
import Derived.Deep.CutRange
namespace Go.Proofs.Ytifbambalfifaaa.Str
open Go.RowKit Go.Shelf
attribute [local go_sem] Oper.semAt_some

abbrev nmR : Array Value := #[.string ⟨#[]⟩, .string ⟨#[97]⟩, .string ⟨#[98]⟩, .string ⟨#[97, 98]⟩]
def nm : Fin 4 → ByteArray
  | 0 => ⟨#[]⟩
  | 1 => ⟨#[97]⟩
  | 2 => ⟨#[98]⟩
  | 3 => ⟨#[97, 98]⟩
def numM (m : ByteArray → Option (Fin 4)) : ByteArray → Option Int := fun k => (m k).map (fun f => (f.val : Int))
def txtM (m : ByteArray → Option (Fin 4)) : ByteArray → Option ByteArray := fun k => (m k).map nm
def putF (m : ByteArray → Option (Fin 4)) (key : ByteArray) (v : Fin 4) : ByteArray → Option (Fin 4) := fun k => if k = key then some v else m k
def remF (m : ByteArray → Option (Fin 4)) (key : ByteArray) : ByteArray → Option (Fin 4) := fun k => if k = key then none else m k
theorem num_put (m : ByteArray → Option (Fin 4)) (key : ByteArray) (v : Fin 4) : putI (numM m) key v.val = numM (putF m key v) := by
  funext k; unfold putI numM putF; split <;> rfl
theorem txt_put (m : ByteArray → Option (Fin 4)) (key : ByteArray) (v : Fin 4) : putT (txtM m) key (nm v) = txtM (putF m key v) := by
  funext k; unfold putT txtM putF; split <;> rfl
theorem num_rem (m : ByteArray → Option (Fin 4)) (key : ByteArray) : remI (numM m) key = numM (remF m key) := by
  funext k; unfold remI numM remF; split <;> rfl
theorem txt_rem (m : ByteArray → Option (Fin 4)) (key : ByteArray) : remT (txtM m) key = txtM (remF m key) := by
  funext k; unfold remT txtM remF; split <;> rfl

/-- A dict of numbers and one of texts that were made since w. -/
structure Both (w : World) (S1 S2 : Nat → Prop) (p q a : Nat) (m : ByteArray → Option (Fin 4)) (n1 n2 : Sh) (W : World) : Prop where
  one : Go.Proofs.Ytifbambalfifaaa.Is W p S1 a (numM m) n1
  two : Is W q S2 a (txtM m) n2
  apart : ∀ k, S1 k → ¬ S2 k
  new1 : ∀ k, S1 k → w.heap.size ≤ k
  new2 : ∀ k, S2 k → w.heap.size ≤ k
  below : Below w.heap.size w W
/-- The same, the maps apart. -/
structure Apart (w : World) (S1 S2 : Nat → Prop) (p q a : Nat) (m1 : ByteArray → Option Int) (m2 : ByteArray → Option ByteArray) (n1 n2 : Sh) (W : World) : Prop where
  one : Go.Proofs.Ytifbambalfifaaa.Is W p S1 a m1 n1
  two : Is W q S2 a m2 n2
  apart : ∀ k, S1 k → ¬ S2 k
  new1 : ∀ k, S1 k → w.heap.size ≤ k
  new2 : ∀ k, S2 k → w.heap.size ≤ k
  below : Below w.heap.size w W

section
variable {w W W' : World} {S1 S2 : Nat → Prop} {p q a : Nat} {m1 m1' : ByteArray → Option Int} {m2 m2' : ByteArray → Option ByteArray} {n1 n2 n' : Sh}
theorem Apart.later (h : Apart w S1 S2 p q a m1 m2 n1 n2 W) (hb : Below W.heap.size W W') : Apart w S1 S2 p q a m1 m2 n1 n2 W' :=
  ⟨h.one.later hb, h.two.later hb, h.apart, h.new1, h.new2, h.below.trans (hb.mono h.below.size)⟩
theorem Apart.first (h : Apart w S1 S2 p q a m1 m2 n1 n2 W) (g : Go.Proofs.Ytifbambalfifaaa.IsNow S1 W p a m1' n' W') : Apart w (grow tyI S1 W W') S2 p q a m1' m2 n' n2 W' :=
  ⟨g.1, h.two.far g.2 (fun k hk h1 => h.apart k h1 hk), fun k hk h2 => by
    rcases hk.1 with h1 | h1
    · exact h.apart k h1 h2
    · have := h.two.lt k h2
      omega, fun k hk => by
    rcases hk.1 with h1 | h1
    · exact h.new1 k h1
    · exact Nat.le_trans h.below.size h1, h.new2, h.below.trans (g.2.below h.new1 h.below.size)⟩
theorem Apart.second (h : Apart w S1 S2 p q a m1 m2 n1 n2 W) (g : IsNow S2 W q a m2' n' W') : Apart w S1 (grow tyS S2 W W') p q a m1 m2' n1 n' W' :=
  ⟨h.one.far g.2 (fun k hk h1 => h.apart k hk h1), g.1, fun k hk h2 => by
    rcases h2.1 with h1 | h1
    · exact h.apart k hk h1
    · have := h.one.lt k hk
      omega, h.new1, fun k hk => by
    rcases hk.1 with h1 | h1
    · exact h.new2 k h1
    · exact Nat.le_trans h.below.size h1, h.below.trans (g.2.below h.new2 h.below.size)⟩
theorem Apart.new {W0 W1 W2 : World} (hb : Below w.heap.size w W0) (h1 : Go.Proofs.Ytifbambalfifaaa.Is W1 p (fresh tyI W0 W1) a m1 n1) (hb1 : Below W0.heap.size W0 W1) (h2 : Is W2 q (fresh tyS W1 W2) a m2 n2) (hb2 : Below W1.heap.size W1 W2) :
    Apart w (fresh tyI W0 W1) (fresh tyS W1 W2) p q a m1 m2 n1 n2 W2 :=
  ⟨h1.later hb2, h2, fun k hk h => by
    have e1 := hk.2.lt
    have e2 := h.1.resolve_left (fun h => h)
    omega, fun k hk => Nat.le_trans hb.size (hk.1.resolve_left (fun h => h)), fun k hk => by
    have e2 := hk.1.resolve_left (fun h => h)
    have e3 := hb.size
    have e4 := hb1.size
    omega, (hb.trans (hb1.mono hb.size)).trans (hb2.mono (Nat.le_trans hb.size hb1.size))⟩
theorem is_blk {k : Nat} {t : TypeId} {c : Array Value} {S : Nat → Prop} {seed : Nat} (g : IsNow S W p seed m2' n' W') (hS : ∀ k, S k → CellB tyS W k) (hk : Blk W k t c) (ht : ¬ (t = tyS.d ∨ t = tyS.t ∨ t = tyS.r)) : Blk W' k t c :=
  g.2.blk hk fun hs => not_cell hk ht (hS k hs)
end

theorem three (v : Int) : ∃ f : Fin 4, bits .and .i64 v 3 = (f.val : Int) := by
  have h : (BitVec.ofInt 64 v &&& BitVec.ofInt 64 3).toNat ≤ 3 := by
    rw [BitVec.toNat_and]
    exact Nat.le_trans Nat.and_le_right (by decide)
  refine ⟨⟨(BitVec.ofInt 64 v &&& BitVec.ofInt 64 3).toNat, by omega⟩, ?_⟩
  show IntKind.i64.wrap ((BitVec.ofInt 64 v &&& BitVec.ofInt 64 3).toNat : Int) = ((BitVec.ofInt 64 v &&& BitVec.ofInt 64 3).toNat : Int)
  rw [IntKind.wrap_i64]
  omega
theorem three_at (f : Fin 4) : bits .and .i64 (f.val : Int) 3 = (f.val : Int) := by revert f; decide
theorem nm_at : ∀ f : Fin 4, nmR[f.val]? = some (.string (nm f))
  | 0 => rfl
  | 1 => rfl
  | 2 => rfl
  | 3 => rfl
theorem four (d : Int) : ∃ t : Int, 0 ≤ t ∧ t < 8 ∧ (IntKind.u64.wrap d).tmod 8 = t := by
  have h : 0 ≤ IntKind.u64.wrap d := by rw [IntKind.wrap_u64]; omega
  rw [Int.tmod_eq_emod_of_nonneg h]
  exact ⟨_, by omega, by omega, rfl⟩

set_option maxRecDepth 100000 in
set_option maxHeartbeats 8000000 in
theorem texts_walk (a : Nat) (ha : a < 4294967296) (ad : Option Addr) (cap : Nat) (l : List (Int × ByteArray × Int)) (hl : l.length ≤ 9223372036854775807) (hz : ∀ x ∈ l, x.2.1.size ≤ 9223372036854775807)
    (w : World) (hE : Acts w ad l) : Calls Try.prog 6 #[.int .u32 a, .slice ad l.length cap] w fun e w' => e = .returned (.bool true) ∧ Below w.heap.size w w' := by
  have HE := Lib.hid hE
  clear hE
  go_enter Try.func6, Try.ntmps6
  go_wp2_with fail
  refine (shown_any _).mono ?_
  rintro e w1 ⟨rfl, hb1⟩
  have HB1 := Lib.hid hb1
  clear hb1
  go_wp2_with fail
  have hnb := Blk.new w1 9 nmR
  have hB0 := HB1.out.alloc HB1.out.size (.cells nmR 9)
  refine (Go.Proofs.Ytifbambalfifaaa.new_is a _).mono ?_
  rintro e w2 ⟨p, rfl, h2, hb2⟩
  have HB2 := Lib.hid hb2
  have H2 := Lib.hid h2
  have HNB := Lib.hid (hnb.later hb2)
  have HB0 := Lib.hid hB0
  clear h2 hb2 hnb hB0
  go_wp2_with fail
  refine (new_is a _).mono ?_
  rintro e w3 ⟨q, rfl, h3, hb3⟩
  have hP := Apart.new HB0.out H2.out HB2.out h3 hb3
  have HP := Lib.hid hP
  have HNC := Lib.hid (HNB.out.later hb3)
  generalize w1.heap.size = nb at *
  clear h3 hb3 hP HNB HB0 H2 HB2
  go_wp2
  go_loopw [9] (fun i wr => ∃ (j : Nat) (m : ByteArray → Option (Fin 4)) (n1 n2 : Sh) (S1 S2 : Nat → Prop), i = .int .i64 j ∧ j ≤ l.length ∧ j ≤ 100 ∧ Apart w S1 S2 p q a (numM m) (txtM m) n1 n2 wr ∧ n1.n ≤ j ∧ n2.n ≤ j ∧ Blk wr nb 9 nmR) (fun i _ => l.length - (intOf i).toNat)
  case atStart => exact ⟨0, fun _ => none, _, _, _, _, rfl, by omega, by omega, HP.out, by simp, by simp, HNC.out⟩
  case round =>
    obtain ⟨j, m, n1, n2, S1, S2, rfl, hj, hj80, hA, hn1, hn2, hNB⟩ := hrel
    by_cases hlt : j < l.length ∧ j < 100
    · obtain ⟨hjl, hj8⟩ := hlt
      obtain ⟨bb, off, rfl, c0, c1, c2⟩ := (HE.out.below hA.below) j hjl
      have hsz := hz _ (List.getElem_mem hjl)
      have hn' : n1.n + 1 ≤ 1000000 := by omega
      have hn2' : n2.n + 1 ≤ 1000000 := by omega
      generalize l[j] = x at *
      obtain ⟨d, kk, vv⟩ := x
      simp only at c0 c1 c2 hsz
      have HKEY := fun w => Lib.hid (key_any kk hsz w)
      have hkz := cutK_size kk
      have hj8' : (j : Int) < 100 := by omega
      obtain ⟨wx, hwx⟩ : ∃ wx, wx = wr.alloc (Obj.cells #[.int .i64 d, .string kk, .int .i64 vv] 31) := ⟨_, rfl⟩
      have hbx : Below wr.heap.size wr wx := by rw [hwx]; exact (Below.refl _ _).alloc (Nat.le_refl _) _
      have hAx := hA.later hbx
      have kx : Blk wx wr.heap.size 31 #[.int .i64 d, .string kk, .int .i64 vv] := by rw [hwx]; exact Blk.new _ _ _
      have HNX := Lib.hid (hNB.later hbx)
      have HAX := Lib.hid hAx
      have KX := Lib.hid kx
      have HWX := Lib.hid hwx
      obtain ⟨t, ht0, ht8, ht⟩ := four d
      obtain ⟨f, hf⟩ := three vv
      have HF := Lib.hid hf
      clear hA hAx kx hbx hwx hf hNB
      go_wp2_with fail
      refine (HKEY _).out.mono ?_
      rintro e w4 ⟨rfl, rfl⟩
      have hP0 := HAX.out
      have hnx0 := HNX.out
      rw [HWX.out] at hP0 hnx0
      have kx0 := KX.out
      rw [HWX.out] at kx0
      generalize wr.alloc (Obj.cells #[.int .i64 d, .string kk, .int .i64 vv] 31) = wy at *
      generalize hyb : wr.heap.size = yb at *
      have y0 := kx0.cell 0
      have y1 := kx0.cell 1
      have y2 := kx0.cell 2
      simp only [List.getElem?_toArray, List.getElem?_cons_succ, List.getElem?_cons_zero] at y0 y1 y2
      have KY := Lib.hid kx0
      have HP0 := Lib.hid hP0
      have HN0 := Lib.hid hnx0
      clear hP0 kx0 hnx0 HWX HAX KX HNX c0 c1 c2 hsz
      go_upto_if 43 with (fail)
      go_cut [10, 11] from 22 to 106 (fun _ k wc => k = .string (cutK kk) ∧ ∃ (m : ByteArray → Option (Fin 4)) (n1 n2 : Sh) (S1 S2 : Nat → Prop), Apart w S1 S2 p q a (numM m) (txtM m) n1 n2 wc ∧ n1.n ≤ j + 1 ∧ n2.n ≤ j + 1 ∧ Blk wc nb 9 nmR)
      case first =>
        obtain ⟨bx, hbx⟩ : ∃ bx, bx = (m (cutK kk)).isSome := ⟨_, rfl⟩
        have hi1 : (numM m (cutK kk)).isSome = bx := by rw [hbx]; exact Option.isSome_map
        have hi2 : (txtM m (cutK kk)).isSome = bx := by rw [hbx]; exact Option.isSome_map
        rcases (by omega : t < 4 ∨ (4 ≤ t ∧ t ≤ 5) ∨ 5 < t) with hq | ⟨hq, hq2⟩ | hq
        · obtain ⟨fv, hfv⟩ : ∃ fv, fv = f.val := ⟨_, rfl⟩
          obtain ⟨sv, hsv⟩ : ∃ sv, sv = nm f := ⟨_, rfl⟩
          have hfl : fv < 4 := by have := f.isLt; omega
          have hfi : (fv : Int) < 4 := by omega
          have hfi0 : (0 : Int) ≤ fv := by omega
          have hnf := nm_at f
          have hS1 := Go.Proofs.Ytifbambalfifaaa.set_is ha (HP0.out.later (W' := wy.drew) ((Below.refl _ _).drew)).one hn' (cutK kk) (by omega) f.val
          have HS2 : ∀ W, Go.Proofs.Ytifbambalfifaaa.IsNow S1 wy.drew p a (putI (numM m) (cutK kk) f.val) (n1.set bx) W → Hid (Calls Try.prog 25 #[.pointer (some ⟨q, 0, none⟩), .string (cutK kk), .string (nm f)] W fun e w' => e = .returned (.bool (!bx)) ∧ IsNow S2 W q a (putT (txtM m) (cutK kk) (nm f)) (n2.set bx) w') :=
            fun W h => Lib.hid (by
              have := set_is ha ((HP0.out.later (W' := wy.drew) ((Below.refl _ _).drew)).first h).two hn2' (cutK kk) (by omega) (nm f)
              rwa [hi2] at this)
          have hf := HF.out
          have z3 := HN0.out.cell fv
          rw [hi1, num_put] at hS1
          simp only [num_put, txt_put] at HS2
          rw [hfv, hnf, ← hsv] at z3
          rw [← hfv] at hS1 hf z3
          rw [← hsv] at hnf HS2
          rw [← hfv] at hnf
          have HNF := Lib.hid hnf
          have HS1 := Lib.hid hS1
          have HFV := Lib.hid hfv
          have HSV := Lib.hid hsv
          clear hS1 hbx hi1 hi2 hnf hfv hsv HF
          go_wp2
          go_region_law (go_simp; first
            | (go_at_call 19; (with_reducible refine HS1.out.mono ?_); rintro e w5 ⟨rfl, h5⟩; have z2 := (Go.Proofs.Ytifbambalfifaaa.is_blk h5 (fun k hk => (HP0.out.one.cells k hk).same rfl) KY.out (by decide)).cell 2; simp only [List.getElem?_toArray, List.getElem?_cons_succ, List.getElem?_cons_zero] at z2; have z4 := (Go.Proofs.Ytifbambalfifaaa.is_blk h5 (fun k hk => (HP0.out.one.cells k hk).same rfl) HN0.out (by decide)).cell fv; rw [HNF.out] at z4)
            | (go_at_call 25; (with_reducible refine (HS2 _ h5).out.mono ?_); rintro e w6 ⟨rfl, h6⟩))
          all_goals (
            have hA5 := (HP0.out.later (W' := wy.drew) ((Below.refl _ _).drew)).first h5
            have HNz := Lib.hid (is_blk h6 (fun k hk => hA5.two.cells k hk) (Go.Proofs.Ytifbambalfifaaa.is_blk h5 (fun k hk => (HP0.out.one.cells k hk).same rfl) HN0.out (by decide)) (by decide))
            have HPz := Lib.hid (hA5.second h6)
            clear h5 h6 HS1 HS2 hA5
            go_wp2_with fail
            go_meet
            exact ⟨rfl, _, _, _, _, _, HPz.out, by rw [shset_n]; cases bx <;> simp <;> omega, by rw [shset_n]; cases bx <;> simp <;> omega, HNz.out⟩)
        · clear hbx hi1 hi2
          go_wp2_with fail
          go_meet
          exact ⟨rfl, _, _, _, _, _, HP0.out, by omega, by omega, HN0.out⟩
        · have hG1 := Go.Proofs.Ytifbambalfifaaa.del_is ha HP0.out.one (by omega) (cutK kk) (by omega)
          rw [hi1, num_rem] at hG1
          have HG1 := Lib.hid hG1
          have HI2 := Lib.hid hi2
          clear hG1 hbx hi1 hi2
          go_wp2_with fail
          (with_reducible refine HG1.out.mono ?_)
          rintro e w5 ⟨rfl, h5, _⟩
          have hP1 := HP0.out.first h5
          have hN1 := Go.Proofs.Ytifbambalfifaaa.is_blk h5 (fun k hk => HP0.out.one.cells k hk) HN0.out (by decide)
          have hG2 := del_is ha hP1.two (by omega) (cutK kk) (by omega)
          rw [HI2.out, txt_rem] at hG2
          have HG2 := Lib.hid hG2
          have HP1 := Lib.hid hP1
          have HN1 := Lib.hid hN1
          clear hG2 hP1 h5 hN1
          go_wp2_with fail
          (with_reducible refine HG2.out.mono ?_)
          rintro e w6 ⟨rfl, h6, _⟩
          have HNz := Lib.hid (is_blk h6 (fun k hk => HP1.out.two.cells k hk) HN1.out (by decide))
          have HPz := Lib.hid (HP1.out.second h6)
          clear h6
          go_wp2_with fail
          go_meet
          exact ⟨rfl, _, _, _, _, _, HPz.out, by rw [shdel_n]; cases bx <;> simp <;> omega, by rw [shdel_n]; cases bx <;> simp <;> omega, HNz.out⟩
      case rest =>
        obtain ⟨rfl, m, n1, n2, S1, S2, hA, hn1, hn2, hNB⟩ := hcut
        have hG1 := Go.Proofs.Ytifbambalfifaaa.get_is ha hA.one (by omega) (cutK kk) (by omega)
        have hcase : ∃ (v : Int) (s : ByteArray) (b : Bool), ((numM m (cutK kk)).getD 0 = v ∧ (txtM m (cutK kk)).getD ⟨#[]⟩ = s ∧ (numM m (cutK kk)).isSome = b ∧ (txtM m (cutK kk)).isSome = b) ∧
            ((v = 0 ∧ s = ⟨#[]⟩ ∧ b = false) ∨ (∃ f : Fin 4, v = f.val ∧ s = nm f ∧ b = true)) := by
          unfold numM txtM
          cases m (cutK kk) with
          | none => exact ⟨_, _, _, ⟨rfl, rfl, rfl, rfl⟩, .inl ⟨rfl, rfl, rfl⟩⟩
          | some f => exact ⟨_, _, _, ⟨rfl, rfl, rfl, rfl⟩, .inr ⟨f, rfl, rfl, rfl⟩⟩
        obtain ⟨gv, gs, gb, ⟨e1, e2, e3, e4⟩, hcase⟩ := hcase
        rw [e1, e3] at hG1
        have HG1 := Lib.hid hG1
        have HA := Lib.hid hA
        have HNB := Lib.hid hNB
        have HE2 := Lib.hid e2
        have HE4 := Lib.hid e4
        clear hG1 hA hNB e1 e2 e3 e4 HF HP0 HN0 KY y0 y1 y2 ht
        go_wp2_with fail
        (with_reducible refine HG1.out.mono ?_)
        rintro e w5 ⟨rfl, h5⟩
        have hP1 := HA.out.first h5
        have hN1 := Go.Proofs.Ytifbambalfifaaa.is_blk h5 (fun k hk => HA.out.one.cells k hk) HNB.out (by decide)
        have hG2 := get_is ha hP1.two (by omega) (cutK kk) (by omega)
        rw [HE2.out, HE4.out] at hG2
        have HG2 := Lib.hid hG2
        have HP1 := Lib.hid hP1
        have HN1 := Lib.hid hN1
        clear hG2 hP1 h5 hN1
        go_wp2_with fail
        (with_reducible refine HG2.out.mono ?_)
        rintro e w6 ⟨rfl, h6⟩
        have hNz := is_blk h6 (fun k hk => HP1.out.two.cells k hk) HN1.out (by decide)
        have HPz := Lib.hid (HP1.out.second h6)
        clear h6
        rcases hcase with ⟨rfl, rfl, rfl⟩ | ⟨f, rfl, rfl, rfl⟩
        · have HNz := Lib.hid hNz
          clear hNz
          go_wp2
          go_roundw
          case rel => exact ⟨j + 1, _, _, _, _, _, by go_num, by omega, by omega, HPz.out, by rw [step1_n]; omega, by rw [step1_n]; omega, HNz.out⟩
          case measure => simp [intOf]; omega
        · obtain ⟨fv, hfv⟩ : ∃ fv, fv = f.val := ⟨_, rfl⟩
          obtain ⟨sv, hsv⟩ : ∃ sv, sv = nm f := ⟨_, rfl⟩
          have hfl : fv < 4 := by have := f.isLt; omega
          have hfi : (fv : Int) < 4 := by omega
          have hfi0 : (0 : Int) ≤ fv := by omega
          have hnf := nm_at f
          have hf := three_at f
          have z3 := hNz.cell fv
          rw [hfv, hnf, ← hsv] at z3
          rw [← hfv] at hf z3
          rw [← hfv, ← hsv]
          have HNz := Lib.hid hNz
          clear hnf hfv hsv hNz
          go_wp2
          go_roundw
          case rel => exact ⟨j + 1, _, _, _, _, _, by go_num, by omega, by omega, HPz.out, by rw [step1_n]; omega, by rw [step1_n]; omega, HNz.out⟩
          case measure => simp [intOf]; omega
    · have hex : (l.length : Int) ≤ j ∨ ((j : Int) < l.length ∧ (j : Int) = 100) := by omega
      have HA3 := Lib.hid hA
      clear hA hlt hNB
      rcases hex with hex | ⟨hex, hex2⟩
      all_goals (
        go_wp2
        go_ret
        exact ⟨rfl, HA3.out.below⟩)
end Go.Proofs.Ytifbambalfifaaa.Str
