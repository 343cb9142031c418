/- DictSeeds: whatever the seed, whatever is moved, the same is told. -/
import Derived.Test.YtifbambalfifaaaOpen
namespace Go.Proofs.Ytifbambalfifaaa
open Go.RowKit Go.Shelf
attribute [local go_sem] Oper.semAt_some

/-- Two dicts that were made since w. -/
structure Pair (w : World) (S1 S2 : Nat → Prop) (p q a b : Nat) (m1 m2 : ByteArray → Option Int) (n1 n2 : Sh) (W : World) : Prop where
  one : Is W p S1 a m1 n1
  two : Is W q S2 b m2 n2
  apart : ∀ k, S1 k → ¬ S2 k
  new1 : ∀ k, S1 k → w.heap.size ≤ k
  new2 : ∀ k, S2 k → w.heap.size ≤ k
  below : Below w.heap.size w W

section
variable {w W W' : World} {S1 S2 : Nat → Prop} {p q a b : Nat} {m1 m2 m' : ByteArray → Option Int} {n1 n2 n' : Sh}
theorem Pair.later (h : Pair w S1 S2 p q a b m1 m2 n1 n2 W) (hb : Below W.heap.size W W') : Pair w S1 S2 p q a b m1 m2 n1 n2 W' :=
  ⟨h.one.later hb, h.two.later hb, h.apart, h.new1, h.new2, h.below.trans (hb.mono h.below.size)⟩
theorem Pair.first (h : Pair w S1 S2 p q a b m1 m2 n1 n2 W) (g : IsNow S1 W p a m' n' W') : Pair w (grow tyI S1 W W') S2 p q a b m' m2 n' n2 W' :=
  ⟨g.1, h.two.far g.2 (fun k hk h1 => h.apart k h1 hk), fun k hk h2 => by
    rcases hk.1 with h1 | h1
    · exact h.apart k h1 h2
    · have := h.two.lt k h2
      omega, fun k hk => by
    rcases hk.1 with h1 | h1
    · exact h.new1 k h1
    · exact Nat.le_trans h.below.size h1, h.new2, h.below.trans (g.2.below h.new1 h.below.size)⟩
theorem Pair.second (h : Pair w S1 S2 p q a b m1 m2 n1 n2 W) (g : IsNow S2 W q b m' n' W') : Pair w S1 (grow tyI S2 W W') p q a b m1 m' n1 n' W' :=
  ⟨h.one.far g.2 (fun k hk h1 => h.apart k hk h1), g.1, fun k hk h2 => by
    rcases h2.1 with h1 | h1
    · exact h.apart k hk h1
    · have := h.one.lt k hk
      omega, h.new1, fun k hk => by
    rcases hk.1 with h1 | h1
    · exact h.new2 k h1
    · exact Nat.le_trans h.below.size h1, h.below.trans (g.2.below h.new2 h.below.size)⟩
theorem Pair.new {W0 W1 W2 : World} (hb : Below w.heap.size w W0) (h1 : Is W1 p (fresh tyI W0 W1) a m1 n1) (hb1 : Below W0.heap.size W0 W1) (h2 : Is W2 q (fresh tyI W1 W2) b m2 n2) (hb2 : Below W1.heap.size W1 W2) :
    Pair w (fresh tyI W0 W1) (fresh tyI W1 W2) p q a b m1 m2 n1 n2 W2 :=
  ⟨h1.later hb2, h2, fun k hk h => by
    have e1 := hk.2.lt
    have e2 := h.1.resolve_left (fun h => h)
    omega, fun k hk => Nat.le_trans hb.size (hk.1.resolve_left (fun h => h)), fun k hk => by
    have e2 := hk.1.resolve_left (fun h => h)
    have e3 := hb.size
    have e4 := hb1.size
    omega, (hb.trans (hb1.mono hb.size)).trans (hb2.mono (Nat.le_trans hb.size hb1.size))⟩
theorem is_blk {k : Nat} {t : TypeId} {c : Array Value} {S : Nat → Prop} {seed : Nat} (g : IsNow S W p seed m' n' W') (hS : ∀ k, S k → CellB tyI W k) (hk : Blk W k t c) (ht : ¬ (t = tyI.d ∨ t = tyI.t ∨ t = tyI.r)) : Blk W' k t c :=
  g.2.blk hk fun hs => not_cell hk ht (hS k hs)
end

theorem eight (d : Int) : (IntKind.u64.wrap d).tmod 8 = 0 ∨ (IntKind.u64.wrap d).tmod 8 = 1 ∨ (IntKind.u64.wrap d).tmod 8 = 2 ∨ (IntKind.u64.wrap d).tmod 8 = 3 ∨ (IntKind.u64.wrap d).tmod 8 = 4 ∨ (IntKind.u64.wrap d).tmod 8 = 5 ∨ (IntKind.u64.wrap d).tmod 8 = 6 ∨ (IntKind.u64.wrap d).tmod 8 = 7 := by
  have h : 0 ≤ IntKind.u64.wrap d := by rw [IntKind.wrap_u64]; omega
  rw [Int.tmod_eq_emod_of_nonneg h]
  omega

set_option maxRecDepth 100000 in
set_option maxHeartbeats 8000000 in
theorem seeds_walk (a b : Nat) (ha : a < 4294967296) (hb : b < 4294967296) (ad : Option Addr) (cap : Nat) (l : List (Int × ByteArray × Int)) (hl : l.length ≤ 9223372036854775807) (hz : ∀ x ∈ l, x.2.1.size ≤ 9223372036854775807)
    (w : World) (hE : Acts w ad l) : Calls Try.prog 5 #[.int .u32 a, .int .u32 b, .slice ad l.length cap] w fun e w' => e = .returned (.bool true) ∧ Below w.heap.size w w' := by
  have HE := Lib.hid hE
  clear hE
  go_enter Try.func5, Try.ntmps5
  go_wp2_with fail
  refine (shown_any _).mono ?_
  rintro e w1 ⟨rfl, hb1⟩
  have HB1 := Lib.hid hb1
  clear hb1
  go_wp2_with fail
  refine (new_is a _).mono ?_
  rintro e w2 ⟨p, rfl, h2, hb2⟩
  have HB2 := Lib.hid hb2
  have H2 := Lib.hid h2
  clear h2 hb2
  go_wp2_with fail
  refine (new_is b _).mono ?_
  rintro e w3 ⟨q, rfl, h3, hb3⟩
  have hP := Pair.new HB1.out H2.out HB2.out h3 hb3
  have HP := Lib.hid hP
  clear h3 hb3 hP
  go_wp2
  go_loopw [10] (fun i wr => ∃ (j : Nat) (m : ByteArray → Option Int) (n1 n2 : Sh) (S1 S2 : Nat → Prop), i = .int .i64 j ∧ j ≤ l.length ∧ j ≤ 150 ∧ Pair w S1 S2 p q a b m m n1 n2 wr ∧ n1.n ≤ j ∧ n1.n = n2.n) (fun i _ => l.length - (intOf i).toNat)
  case atStart => exact ⟨0, _, _, _, _, _, rfl, by omega, by omega, HP.out, by simp, rfl⟩
  case round =>
    obtain ⟨j, m, n1, n2, S1, S2, rfl, hj, hj80, hA, hn, hnn⟩ := hrel
    have HNN := Lib.hid hnn
    clear hnn
    by_cases hlt : j < l.length ∧ j < 150
    · obtain ⟨hjl, hj8⟩ := hlt
      obtain ⟨bb, off, rfl, c0, c1, c2⟩ := (HE.out.below hA.below) j hjl
      have hsz := hz _ (List.getElem_mem hjl)
      have hn' : n1.n + 1 ≤ 1000000 := by omega
      have hn2' : n2.n + 1 ≤ 1000000 := by have := HNN.out; omega
      generalize l[j] = x at *
      obtain ⟨d, kk, vv⟩ := x
      simp only at c0 c1 c2 hsz
      have HKEY := fun w => Lib.hid (key_any kk hsz w)
      have hkz := cutK_size kk
      have hj8' : (j : Int) < 150 := by omega
      -- the act's copy
      obtain ⟨wx, hwx⟩ : ∃ wx, wx = wr.alloc (Obj.cells #[.int .i64 d, .string kk, .int .i64 vv] 31) := ⟨_, rfl⟩
      have hbx : Below wr.heap.size wr wx := by rw [hwx]; exact (Below.refl _ _).alloc (Nat.le_refl _) _
      have hAx := hA.later hbx
      have kx : Blk wx wr.heap.size 31 #[.int .i64 d, .string kk, .int .i64 vv] := by rw [hwx]; exact Blk.new _ _ _
      have HAX := Lib.hid hAx
      have KX := Lib.hid kx
      have HWX := Lib.hid hwx
      clear hA hAx kx hbx hwx
      rcases eight d with ht | ht | ht | ht | ht | ht | ht | ht
      · go_wp2_with fail
        refine (HKEY _).out.mono ?_
        rintro e w4 ⟨rfl, rfl⟩
        go_wp2
        have hP0 := HAX.out
        rw [HWX.out] at hP0
        have kx0 := KX.out
        rw [HWX.out] at kx0
        generalize wr.alloc (Obj.cells #[.int .i64 d, .string kk, .int .i64 vv] 31) = wy at *
        have y0 := kx0.cell 0
        have y1 := kx0.cell 1
        have y2 := kx0.cell 2
        simp only [List.getElem?_toArray, List.getElem?_cons_succ, List.getElem?_cons_zero] at y0 y1 y2
        have hS1 := set_is ha (hP0.later (W' := wy.drew) ((Below.refl _ _).drew)).one hn' (cutK kk) (by omega) vv
        have HS1 := Lib.hid hS1
        have HS2 : ∀ W, IsNow S1 wy.drew p a (putI m (cutK kk) vv) (n1.set (m (cutK kk)).isSome) W → Hid (Calls Try.prog 19 #[.pointer (some ⟨q, 0, none⟩), .string (cutK kk), .int .i64 vv] W fun e w' => e = .returned (.bool (!(m (cutK kk)).isSome)) ∧ IsNow S2 W q b (putI m (cutK kk) vv) (n2.set (m (cutK kk)).isSome) w') :=
          fun W h => Lib.hid (set_is hb ((hP0.later (W' := wy.drew) ((Below.refl _ _).drew)).first h).two hn2' (cutK kk) (by omega) vv)
        have KY := Lib.hid kx0
        have HP0 := Lib.hid hP0
        obtain ⟨bx, hbx⟩ : ∃ bx, bx = (m (cutK kk)).isSome := ⟨_, rfl⟩
        rw [← hbx] at HS1 HS2
        clear hS1 hP0 kx0 HWX HAX KX hbx c0 c1 c2 hsz
        go_region_law (go_simp; first
          | (go_at_call 19; (with_reducible refine HS1.out.mono ?_); rintro e w5 ⟨rfl, h5⟩; have z2 := (is_blk h5 (fun k hk => (HP0.out.one.cells k hk).same rfl) KY.out (by decide)).cell 2; simp only [List.getElem?_toArray, List.getElem?_cons_succ, List.getElem?_cons_zero] at z2)
          | (go_at_call 19; (with_reducible refine (HS2 _ h5).out.mono ?_); rintro e w6 ⟨rfl, h6⟩))
        all_goals (
          have hPz := ((HP0.out.later (W' := wy.drew) ((Below.refl _ _).drew)).first h5).second h6
          have hnz : (n1.set bx).n ≤ j + 1 := by rw [shset_n]; cases bx <;> simp <;> omega
          have hNz : (n1.set bx).n = (n2.set bx).n := by rw [shset_n, shset_n, HNN.out]
          clear h5 h6 HS1 HS2
          have hLa := len_is hPz.one
          have hLb := len_is hPz.two
          rw [← hNz] at hLb
          have HLa := Lib.hid hLa
          have HLb := Lib.hid hLb
          have HPz := Lib.hid hPz
          have HNz := Lib.hid hNz
          clear hLa hLb hPz hNz
          go_wp2_with fail
          (with_reducible refine HLa.out.mono ?_)
          rintro e w8 ⟨rfl, rfl⟩
          go_wp2_with fail
          (with_reducible refine HLb.out.mono ?_)
          rintro e w8 ⟨rfl, rfl⟩
          go_wp2
          refine ⟨⟨j + 1, _, _, _, _, _, by go_num, by omega, by omega, HPz.out, hnz, HNz.out⟩, by simp [intOf]; omega⟩)
      · go_wp2_with fail
        refine (HKEY _).out.mono ?_
        rintro e w4 ⟨rfl, rfl⟩
        go_wp2
        have hP0 := HAX.out
        rw [HWX.out] at hP0
        have kx0 := KX.out
        rw [HWX.out] at kx0
        generalize wr.alloc (Obj.cells #[.int .i64 d, .string kk, .int .i64 vv] 31) = wy at *
        have y0 := kx0.cell 0
        have y1 := kx0.cell 1
        have y2 := kx0.cell 2
        simp only [List.getElem?_toArray, List.getElem?_cons_succ, List.getElem?_cons_zero] at y0 y1 y2
        have hS1 := set_is ha (hP0.later (W' := wy.drew) ((Below.refl _ _).drew)).one hn' (cutK kk) (by omega) vv
        have HS1 := Lib.hid hS1
        have HS2 : ∀ W, IsNow S1 wy.drew p a (putI m (cutK kk) vv) (n1.set (m (cutK kk)).isSome) W → Hid (Calls Try.prog 19 #[.pointer (some ⟨q, 0, none⟩), .string (cutK kk), .int .i64 vv] W fun e w' => e = .returned (.bool (!(m (cutK kk)).isSome)) ∧ IsNow S2 W q b (putI m (cutK kk) vv) (n2.set (m (cutK kk)).isSome) w') :=
          fun W h => Lib.hid (set_is hb ((hP0.later (W' := wy.drew) ((Below.refl _ _).drew)).first h).two hn2' (cutK kk) (by omega) vv)
        have KY := Lib.hid kx0
        have HP0 := Lib.hid hP0
        obtain ⟨bx, hbx⟩ : ∃ bx, bx = (m (cutK kk)).isSome := ⟨_, rfl⟩
        rw [← hbx] at HS1 HS2
        clear hS1 hP0 kx0 HWX HAX KX hbx c0 c1 c2 hsz
        go_region_law (go_simp; first
          | (go_at_call 19; (with_reducible refine HS1.out.mono ?_); rintro e w5 ⟨rfl, h5⟩; have z2 := (is_blk h5 (fun k hk => (HP0.out.one.cells k hk).same rfl) KY.out (by decide)).cell 2; simp only [List.getElem?_toArray, List.getElem?_cons_succ, List.getElem?_cons_zero] at z2)
          | (go_at_call 19; (with_reducible refine (HS2 _ h5).out.mono ?_); rintro e w6 ⟨rfl, h6⟩))
        all_goals (
          have hPz := ((HP0.out.later (W' := wy.drew) ((Below.refl _ _).drew)).first h5).second h6
          have hnz : (n1.set bx).n ≤ j + 1 := by rw [shset_n]; cases bx <;> simp <;> omega
          have hNz : (n1.set bx).n = (n2.set bx).n := by rw [shset_n, shset_n, HNN.out]
          clear h5 h6 HS1 HS2
          have hLa := len_is hPz.one
          have hLb := len_is hPz.two
          rw [← hNz] at hLb
          have HLa := Lib.hid hLa
          have HLb := Lib.hid hLb
          have HPz := Lib.hid hPz
          have HNz := Lib.hid hNz
          clear hLa hLb hPz hNz
          go_wp2_with fail
          (with_reducible refine HLa.out.mono ?_)
          rintro e w8 ⟨rfl, rfl⟩
          go_wp2_with fail
          (with_reducible refine HLb.out.mono ?_)
          rintro e w8 ⟨rfl, rfl⟩
          go_wp2
          refine ⟨⟨j + 1, _, _, _, _, _, by go_num, by omega, by omega, HPz.out, hnz, HNz.out⟩, by simp [intOf]; omega⟩)
      · go_wp2_with fail
        refine (HKEY _).out.mono ?_
        rintro e w4 ⟨rfl, rfl⟩
        go_wp2
        have hP0 := HAX.out
        rw [HWX.out] at hP0
        have kx0 := KX.out
        rw [HWX.out] at kx0
        generalize wr.alloc (Obj.cells #[.int .i64 d, .string kk, .int .i64 vv] 31) = wy at *
        have y0 := kx0.cell 0
        have y1 := kx0.cell 1
        have y2 := kx0.cell 2
        simp only [List.getElem?_toArray, List.getElem?_cons_succ, List.getElem?_cons_zero] at y0 y1 y2
        have hS1 := set_is ha (hP0.later (W' := wy.drew) ((Below.refl _ _).drew)).one hn' (cutK kk) (by omega) vv
        have HS1 := Lib.hid hS1
        have HS2 : ∀ W, IsNow S1 wy.drew p a (putI m (cutK kk) vv) (n1.set (m (cutK kk)).isSome) W → Hid (Calls Try.prog 19 #[.pointer (some ⟨q, 0, none⟩), .string (cutK kk), .int .i64 vv] W fun e w' => e = .returned (.bool (!(m (cutK kk)).isSome)) ∧ IsNow S2 W q b (putI m (cutK kk) vv) (n2.set (m (cutK kk)).isSome) w') :=
          fun W h => Lib.hid (set_is hb ((hP0.later (W' := wy.drew) ((Below.refl _ _).drew)).first h).two hn2' (cutK kk) (by omega) vv)
        have KY := Lib.hid kx0
        have HP0 := Lib.hid hP0
        obtain ⟨bx, hbx⟩ : ∃ bx, bx = (m (cutK kk)).isSome := ⟨_, rfl⟩
        rw [← hbx] at HS1 HS2
        clear hS1 hP0 kx0 HWX HAX KX hbx c0 c1 c2 hsz
        go_region_law (go_simp; first
          | (go_at_call 19; (with_reducible refine HS1.out.mono ?_); rintro e w5 ⟨rfl, h5⟩; have z2 := (is_blk h5 (fun k hk => (HP0.out.one.cells k hk).same rfl) KY.out (by decide)).cell 2; simp only [List.getElem?_toArray, List.getElem?_cons_succ, List.getElem?_cons_zero] at z2)
          | (go_at_call 19; (with_reducible refine (HS2 _ h5).out.mono ?_); rintro e w6 ⟨rfl, h6⟩))
        all_goals (
          have hPz := ((HP0.out.later (W' := wy.drew) ((Below.refl _ _).drew)).first h5).second h6
          have hnz : (n1.set bx).n ≤ j + 1 := by rw [shset_n]; cases bx <;> simp <;> omega
          have hNz : (n1.set bx).n = (n2.set bx).n := by rw [shset_n, shset_n, HNN.out]
          clear h5 h6 HS1 HS2
          have hLa := len_is hPz.one
          have hLb := len_is hPz.two
          rw [← hNz] at hLb
          have HLa := Lib.hid hLa
          have HLb := Lib.hid hLb
          have HPz := Lib.hid hPz
          have HNz := Lib.hid hNz
          clear hLa hLb hPz hNz
          go_wp2_with fail
          (with_reducible refine HLa.out.mono ?_)
          rintro e w8 ⟨rfl, rfl⟩
          go_wp2_with fail
          (with_reducible refine HLb.out.mono ?_)
          rintro e w8 ⟨rfl, rfl⟩
          go_wp2
          refine ⟨⟨j + 1, _, _, _, _, _, by go_num, by omega, by omega, HPz.out, hnz, HNz.out⟩, by simp [intOf]; omega⟩)
      · go_wp2_with fail
        refine (HKEY _).out.mono ?_
        rintro e w4 ⟨rfl, rfl⟩
        go_wp2
        have hP0 := HAX.out
        rw [HWX.out] at hP0
        have kx0 := KX.out
        rw [HWX.out] at kx0
        generalize wr.alloc (Obj.cells #[.int .i64 d, .string kk, .int .i64 vv] 31) = wy at *
        have y0 := kx0.cell 0
        have y1 := kx0.cell 1
        have y2 := kx0.cell 2
        simp only [List.getElem?_toArray, List.getElem?_cons_succ, List.getElem?_cons_zero] at y0 y1 y2
        have hS1 := set_is ha (hP0.later (W' := wy.drew) ((Below.refl _ _).drew)).one hn' (cutK kk) (by omega) vv
        have HS1 := Lib.hid hS1
        have HS2 : ∀ W, IsNow S1 wy.drew p a (putI m (cutK kk) vv) (n1.set (m (cutK kk)).isSome) W → Hid (Calls Try.prog 19 #[.pointer (some ⟨q, 0, none⟩), .string (cutK kk), .int .i64 vv] W fun e w' => e = .returned (.bool (!(m (cutK kk)).isSome)) ∧ IsNow S2 W q b (putI m (cutK kk) vv) (n2.set (m (cutK kk)).isSome) w') :=
          fun W h => Lib.hid (set_is hb ((hP0.later (W' := wy.drew) ((Below.refl _ _).drew)).first h).two hn2' (cutK kk) (by omega) vv)
        have KY := Lib.hid kx0
        have HP0 := Lib.hid hP0
        obtain ⟨bx, hbx⟩ : ∃ bx, bx = (m (cutK kk)).isSome := ⟨_, rfl⟩
        rw [← hbx] at HS1 HS2
        clear hS1 hP0 kx0 HWX HAX KX hbx c0 c1 c2 hsz
        go_region_law (go_simp; first
          | (go_at_call 19; (with_reducible refine HS1.out.mono ?_); rintro e w5 ⟨rfl, h5⟩; have z2 := (is_blk h5 (fun k hk => (HP0.out.one.cells k hk).same rfl) KY.out (by decide)).cell 2; simp only [List.getElem?_toArray, List.getElem?_cons_succ, List.getElem?_cons_zero] at z2)
          | (go_at_call 19; (with_reducible refine (HS2 _ h5).out.mono ?_); rintro e w6 ⟨rfl, h6⟩))
        all_goals (
          have hPz := ((HP0.out.later (W' := wy.drew) ((Below.refl _ _).drew)).first h5).second h6
          have hnz : (n1.set bx).n ≤ j + 1 := by rw [shset_n]; cases bx <;> simp <;> omega
          have hNz : (n1.set bx).n = (n2.set bx).n := by rw [shset_n, shset_n, HNN.out]
          clear h5 h6 HS1 HS2
          have hLa := len_is hPz.one
          have hLb := len_is hPz.two
          rw [← hNz] at hLb
          have HLa := Lib.hid hLa
          have HLb := Lib.hid hLb
          have HPz := Lib.hid hPz
          have HNz := Lib.hid hNz
          clear hLa hLb hPz hNz
          go_wp2_with fail
          (with_reducible refine HLa.out.mono ?_)
          rintro e w8 ⟨rfl, rfl⟩
          go_wp2_with fail
          (with_reducible refine HLb.out.mono ?_)
          rintro e w8 ⟨rfl, rfl⟩
          go_wp2
          refine ⟨⟨j + 1, _, _, _, _, _, by go_num, by omega, by omega, HPz.out, hnz, HNz.out⟩, by simp [intOf]; omega⟩)
      · go_wp2_with fail
        refine (HKEY _).out.mono ?_
        rintro e w4 ⟨rfl, rfl⟩
        have hP0 := HAX.out
        rw [HWX.out] at hP0
        have kx0 := KX.out
        rw [HWX.out] at kx0
        generalize wr.alloc (Obj.cells #[.int .i64 d, .string kk, .int .i64 vv] 31) = wy at *
        have y0 := kx0.cell 0
        have y1 := kx0.cell 1
        have y2 := kx0.cell 2
        simp only [List.getElem?_toArray, List.getElem?_cons_succ, List.getElem?_cons_zero] at y0 y1 y2
        have hG1 := get_is ha hP0.one (by omega) (cutK kk) (by omega)
        have HG1 := Lib.hid hG1
        have HP0 := Lib.hid hP0
        obtain ⟨bx, hbx⟩ : ∃ bx, bx = (m (cutK kk)).isSome := ⟨_, rfl⟩
        rw [← hbx] at HG1
        clear hG1 hP0 kx0 HWX HAX KX c0 c1 c2 hsz
        go_wp2_with fail
        (with_reducible refine HG1.out.mono ?_)
        rintro e w5 ⟨rfl, h5⟩
        have hP1 := HP0.out.first h5
        have hG2 := get_is hb hP1.two (by omega) (cutK kk) (by omega)
        rw [← hbx] at hG2
        have HG2 := Lib.hid hG2
        have HP1 := Lib.hid hP1
        clear hG2 hP1 h5 hbx
        go_wp2_with fail
        (with_reducible refine HG2.out.mono ?_)
        rintro e w6 ⟨rfl, h6⟩
        have hPz := HP1.out.second h6
        have hnz : n1.step1.n ≤ j + 1 := by rw [step1_n]; omega
        have hNz : n1.step1.n = n2.step1.n := by rw [step1_n, step1_n, HNN.out]
        clear h6
        have hLa := len_is hPz.one
        have hLb := len_is hPz.two
        rw [← hNz] at hLb
        have HLa := Lib.hid hLa
        have HLb := Lib.hid hLb
        have HPz := Lib.hid hPz
        have HNz := Lib.hid hNz
        clear hLa hLb hPz hNz
        go_wp2_with fail
        (with_reducible refine HLa.out.mono ?_)
        rintro e w8 ⟨rfl, rfl⟩
        go_wp2_with fail
        (with_reducible refine HLb.out.mono ?_)
        rintro e w8 ⟨rfl, rfl⟩
        go_wp2
        refine ⟨⟨j + 1, _, _, _, _, _, by go_num, by omega, by omega, HPz.out, hnz, HNz.out⟩, by simp [intOf]; omega⟩
      · go_wp2_with fail
        refine (HKEY _).out.mono ?_
        rintro e w4 ⟨rfl, rfl⟩
        have hP0 := HAX.out
        rw [HWX.out] at hP0
        have kx0 := KX.out
        rw [HWX.out] at kx0
        generalize wr.alloc (Obj.cells #[.int .i64 d, .string kk, .int .i64 vv] 31) = wy at *
        have y0 := kx0.cell 0
        have y1 := kx0.cell 1
        have y2 := kx0.cell 2
        simp only [List.getElem?_toArray, List.getElem?_cons_succ, List.getElem?_cons_zero] at y0 y1 y2
        have hG1 := del_is ha hP0.one (by omega) (cutK kk) (by omega)
        have HG1 := Lib.hid hG1
        have HP0 := Lib.hid hP0
        obtain ⟨bx, hbx⟩ : ∃ bx, bx = (m (cutK kk)).isSome := ⟨_, rfl⟩
        rw [← hbx] at HG1
        clear hG1 hP0 kx0 HWX HAX KX c0 c1 c2 hsz
        go_wp2_with fail
        (with_reducible refine HG1.out.mono ?_)
        rintro e w5 ⟨rfl, h5, _⟩
        have hP1 := HP0.out.first h5
        have hG2 := del_is hb hP1.two (by omega) (cutK kk) (by omega)
        rw [← hbx] at hG2
        have HG2 := Lib.hid hG2
        have HP1 := Lib.hid hP1
        clear hG2 hP1 h5 hbx
        go_wp2_with fail
        (with_reducible refine HG2.out.mono ?_)
        rintro e w6 ⟨rfl, h6, _⟩
        have hPz := HP1.out.second h6
        have hnz : (n1.del bx).n ≤ j + 1 := by rw [shdel_n]; cases bx <;> simp <;> omega
        have hNz : (n1.del bx).n = (n2.del bx).n := by rw [shdel_n, shdel_n, HNN.out]
        clear h6
        have hLa := len_is hPz.one
        have hLb := len_is hPz.two
        rw [← hNz] at hLb
        have HLa := Lib.hid hLa
        have HLb := Lib.hid hLb
        have HPz := Lib.hid hPz
        have HNz := Lib.hid hNz
        clear hLa hLb hPz hNz
        go_wp2_with fail
        (with_reducible refine HLa.out.mono ?_)
        rintro e w8 ⟨rfl, rfl⟩
        go_wp2_with fail
        (with_reducible refine HLb.out.mono ?_)
        rintro e w8 ⟨rfl, rfl⟩
        go_wp2
        refine ⟨⟨j + 1, _, _, _, _, _, by go_num, by omega, by omega, HPz.out, hnz, HNz.out⟩, by simp [intOf]; omega⟩
      · go_wp2_with fail
        refine (HKEY _).out.mono ?_
        rintro e w4 ⟨rfl, rfl⟩
        have hP0 := HAX.out
        rw [HWX.out] at hP0
        have kx0 := KX.out
        rw [HWX.out] at kx0
        generalize wr.alloc (Obj.cells #[.int .i64 d, .string kk, .int .i64 vv] 31) = wy at *
        have y0 := kx0.cell 0
        have y1 := kx0.cell 1
        have y2 := kx0.cell 2
        simp only [List.getElem?_toArray, List.getElem?_cons_succ, List.getElem?_cons_zero] at y0 y1 y2
        have hG1 := del_is ha hP0.one (by omega) (cutK kk) (by omega)
        have HG1 := Lib.hid hG1
        have HP0 := Lib.hid hP0
        obtain ⟨bx, hbx⟩ : ∃ bx, bx = (m (cutK kk)).isSome := ⟨_, rfl⟩
        rw [← hbx] at HG1
        clear hG1 hP0 kx0 HWX HAX KX c0 c1 c2 hsz
        go_wp2_with fail
        (with_reducible refine HG1.out.mono ?_)
        rintro e w5 ⟨rfl, h5, _⟩
        have hP1 := HP0.out.first h5
        have hG2 := del_is hb hP1.two (by omega) (cutK kk) (by omega)
        rw [← hbx] at hG2
        have HG2 := Lib.hid hG2
        have HP1 := Lib.hid hP1
        clear hG2 hP1 h5 hbx
        go_wp2_with fail
        (with_reducible refine HG2.out.mono ?_)
        rintro e w6 ⟨rfl, h6, _⟩
        have hPz := HP1.out.second h6
        have hnz : (n1.del bx).n ≤ j + 1 := by rw [shdel_n]; cases bx <;> simp <;> omega
        have hNz : (n1.del bx).n = (n2.del bx).n := by rw [shdel_n, shdel_n, HNN.out]
        clear h6
        have hLa := len_is hPz.one
        have hLb := len_is hPz.two
        rw [← hNz] at hLb
        have HLa := Lib.hid hLa
        have HLb := Lib.hid hLb
        have HPz := Lib.hid hPz
        have HNz := Lib.hid hNz
        clear hLa hLb hPz hNz
        go_wp2_with fail
        (with_reducible refine HLa.out.mono ?_)
        rintro e w8 ⟨rfl, rfl⟩
        go_wp2_with fail
        (with_reducible refine HLb.out.mono ?_)
        rintro e w8 ⟨rfl, rfl⟩
        go_wp2
        refine ⟨⟨j + 1, _, _, _, _, _, by go_num, by omega, by omega, HPz.out, hnz, HNz.out⟩, by simp [intOf]; omega⟩
      · go_wp2_with fail
        refine (HKEY _).out.mono ?_
        rintro e w4 ⟨rfl, rfl⟩
        have hP0 := HAX.out
        rw [HWX.out] at hP0
        have kx0 := KX.out
        rw [HWX.out] at kx0
        generalize wr.alloc (Obj.cells #[.int .i64 d, .string kk, .int .i64 vv] 31) = wy at *
        have y0 := kx0.cell 0
        have y1 := kx0.cell 1
        have y2 := kx0.cell 2
        simp only [List.getElem?_toArray, List.getElem?_cons_succ, List.getElem?_cons_zero] at y0 y1 y2
        obtain ⟨st, hst⟩ : ∃ st : Int, min vv 1000 = st := ⟨_, rfl⟩
        have hG1 := step_is hP0.one (by omega) st
        have HG1 := Lib.hid hG1
        have HP0 := Lib.hid hP0
        clear hG1 hP0 kx0 HWX HAX KX c0 c1 c2 hsz
        go_wp2_with fail
        (with_reducible refine HG1.out.mono ?_)
        rintro e w5 ⟨rfl, h5⟩
        have hPz := HP0.out.first h5
        have hnz : (Sh.steps st.toNat n1).n ≤ j + 1 := by rw [steps_n]; omega
        have hNz : (Sh.steps st.toNat n1).n = n2.n := by rw [steps_n, HNN.out]
        clear h5
        have hLa := len_is hPz.one
        have hLb := len_is hPz.two
        rw [← hNz] at hLb
        have HLa := Lib.hid hLa
        have HLb := Lib.hid hLb
        have HPz := Lib.hid hPz
        have HNz := Lib.hid hNz
        clear hLa hLb hPz hNz
        go_wp2_with fail
        (with_reducible refine HLa.out.mono ?_)
        rintro e w8 ⟨rfl, rfl⟩
        go_wp2_with fail
        (with_reducible refine HLb.out.mono ?_)
        rintro e w8 ⟨rfl, rfl⟩
        go_wp2
        refine ⟨⟨j + 1, _, _, _, _, _, by go_num, by omega, by omega, HPz.out, hnz, HNz.out⟩, by simp [intOf]; omega⟩
    · have hex : (l.length : Int) ≤ j ∨ ((j : Int) < l.length ∧ (j : Int) = 150) := by omega
      have HA3 := Lib.hid hA
      clear hA hlt
      rcases hex with hex | ⟨hex, hex2⟩
      all_goals (
        go_wp2
        go_ret
        exact ⟨rfl, HA3.out.below⟩)
end Go.Proofs.Ytifbambalfifaaa
