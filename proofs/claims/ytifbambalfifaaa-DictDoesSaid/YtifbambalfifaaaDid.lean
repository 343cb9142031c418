/- One act of DictDoes on both dicts: the same is told. -/
import Derived.Test.YtifbambalfifaaaBoth
import Derived.Deep.RegionHeld3
import Derived.Handy
namespace Go.Proofs.Ytifbambalfifaaa.Both
open Go.RowKit Go.Shelf
attribute [local go_sem] Oper.semAt_some

theorem eight (d : Int) : (IntKind.u64.wrap d).tmod 8 = 0 ∨ (IntKind.u64.wrap d).tmod 8 = 1 ∨ (IntKind.u64.wrap d).tmod 8 = 2 ∨ (IntKind.u64.wrap d).tmod 8 = 3 ∨ (IntKind.u64.wrap d).tmod 8 = 4 ∨ (IntKind.u64.wrap d).tmod 8 = 5 ∨ (IntKind.u64.wrap d).tmod 8 = 6 ∨ (IntKind.u64.wrap d).tmod 8 = 7 := by
  have h : 0 ≤ IntKind.u64.wrap d := by rw [IntKind.wrap_u64]; omega
  rw [Int.tmod_eq_emod_of_nonneg h]
  omega
theorem went_blk {S : Nat → Prop} {W W' : World} {p seed : Nat} {D : Dc} {k : Nat} {t : TypeId} {c : Array Value} (g : Went tyI S W p seed D W') (hS : ∀ k, S k → CellB tyI W k) (hk : Blk W k t c) (ht : ¬ (t = tyI.d ∨ t = tyI.t ∨ t = tyI.r)) : Blk W' k t c :=
  g.2.blk hk fun hs => not_cell hk ht (hS k hs)

theorem rwent_blk {S : Nat → Prop} {W W' : World} {p seed : Nat} {R : Rd} {k : Nat} {t : TypeId} {c : Array Value} (g : RWent S W p seed R W') (hS : ∀ k, S k → CellB tyR W k) (hk : Blk W k t c) (ht : ¬ (t = tyR.d ∨ t = tyR.t ∨ t = tyR.r)) : Blk W' k t c :=
  g.2.blk hk fun hs => not_cell hk ht (hS k hs)
theorem intV_form {seed : Nat} {D : Dc} (inv : Inv tyI seed D) (s : Nat) (key : ByteArray) : ∃ n : Int, intV (D.node s key) = .int .i64 n := by
  unfold Dc.node
  cases hh : D.hit s key with
  | none => exact ⟨0, rfl⟩
  | some ji =>
    obtain ⟨r, y, hr, hy, hnode, hmem, _, _⟩ := hit_node (j := ji.1) (i := ji.2) hh
    obtain ⟨hf, _⟩ := mem_row hr hy inv.ok
    unfold Dc.node at hnode
    rw [hh] at hnode
    simp only at hnode ⊢
    rw [hnode]
    exact hf.2
set_option maxRecDepth 100000 in
set_option maxHeartbeats 8000000 in
theorem did_any {w W : World} {p q seed k : Nat} {D : Dc} {R : Rd} (hsd : seed < 4294967296) (h : Pair w p q seed k D R W) (hk : k + 1 ≤ 1000) (d : Int) (kk : ByteArray) (hkk : kk.size ≤ 9223372036854775807) (v : Int) :
    Calls Try.prog 12 #[.pointer (some ⟨p, 0, none⟩), .pointer (some ⟨q, 0, none⟩), .agg #[.int .i64 d, .string kk, .int .i64 v]] W fun e w' => e = .returned (.bool true) ∧ ∃ R', Pair w p q seed (k + 1) (effD seed D d (cutK kk) v) R' w' := by
  have HKEY := fun w => Lib.hid (key_any kk hkk w)
  have hkz := cutK_size kk
  have hdn := h.dn
  have hdk := h.n
  obtain ⟨wy, hwy⟩ : ∃ wy, wy = W.alloc (Obj.cells #[Value.int .i64 d, .string kk, .int .i64 v] 31) := ⟨_, rfl⟩
  have hbx : Below W.heap.size W wy := by rw [hwy]; exact (Below.refl _ _).alloc (Nat.le_refl _) _
  have ky : Blk wy W.heap.size 31 #[Value.int .i64 d, .string kk, .int .i64 v] := by rw [hwy]; exact Blk.new _ _ _
  have hP := (h.later hbx).later (W' := wy.drew) ((Below.refl _ _).drew)
  have hQ := h.later hbx
  have HWY := Lib.hid hwy
  have y0 := ky.cell 0
  have y1 := ky.cell 1
  have y2 := ky.cell 2
  simp only [List.getElem?_toArray, List.getElem?_cons_succ, List.getElem?_cons_zero] at y0 y1 y2
  have KY := Lib.hid ky
  have HP := Lib.hid hP
  have HQ := Lib.hid hQ
  clear hwy hbx hP hQ ky h
  rcases eight d with ht | ht | ht | ht | ht | ht | ht | ht
  · have he := fun K v => effD_set (seed := seed) (D := D) (d := d) K v (by unfold kindN; omega)
    have hS1 := set_any hsd HP.out.a HP.out.inv.ok (by omega) (cutK kk) (by omega) v
    have hS2 : ∀ W1, Went tyI (fresh tyI w wy.drew) wy.drew p seed (D.setS (sumN seed (cutK kk).data.toList) (cutK kk) (.int .i64 v)) W1 → Hid (Calls Try.prog 28 #[.pointer (some ⟨q, 0, none⟩), .string (cutK kk), .int .i64 v] W1 fun e w' => e = .returned (.bool (!((D.step 1).hit (sumN seed (cutK kk).data.toList) (cutK kk)).isSome)) ∧ ∃ R', RWent (fresh tyR w W1) W1 q seed R' w' ∧ Alike (D.setS (sumN seed (cutK kk).data.toList) (cutK kk) (.int .i64 v)) R') :=
      fun W1 g => Lib.hid (refset_like hsd (HP.out.half g).2.1 (HP.out.rok (by omega)) (by have := HP.out.rlen; omega) HP.out.like HP.out.inv (cutK kk) (by omega) v)
    have HS1 := Lib.hid hS1
    have HE := Lib.hid (he (cutK kk) v)
    obtain ⟨bx, hbx⟩ : ∃ bx, bx = ((D.step 1).hit (sumN seed (cutK kk).data.toList) (cutK kk)).isSome := ⟨_, rfl⟩
    rw [← hbx] at HS1 hS2
    clear hS1 hbx he
    generalize D.setS (sumN seed (cutK kk).data.toList) (cutK kk) (.int .i64 v) = D' at *
    go_enter Try.func12, Try.ntmps12
    go_upto_region 6 with fail
    rw [← HWY.out]
    clear HWY
    go_region_held3 (fun w' => w'.cell? ⟨W.heap.size, 1, none⟩ = some (.string kk) ∧ w'.cell? ⟨W.heap.size, 2, none⟩ = some (.int .i64 v))
      (first | exact ⟨y1, y2⟩ | exact ⟨z1, z2⟩ | exact ⟨x1, x2⟩)
      (first
      | (go_at_call 18; (with_reducible refine (HKEY _).out.mono ?_); rintro e w4 ⟨rfl, rfl⟩)
      | (go_at_call 19; (with_reducible refine HS1.out.mono ?_); rintro e w5 ⟨rfl, h5⟩; have kz := went_blk h5 (fun k hk => hk.2) KY.out.drew (by decide); have z1 := kz.cell 1; have z2 := kz.cell 2; simp only [List.getElem?_toArray, List.getElem?_cons_succ, List.getElem?_cons_zero] at z1 z2; have KZ := Lib.hid kz; clear kz)
      | (go_at_call 28; (with_reducible refine (hS2 _ h5).out.mono ?_); rintro e w6 ⟨rfl, R', h6, al6⟩; have kx := rwent_blk h6 (fun k hk => hk.2) KZ.out (by decide); have x1 := kx.cell 1; have x2 := kx.cell 2; simp only [List.getElem?_toArray, List.getElem?_cons_succ, List.getElem?_cons_zero] at x1 x2; clear kx))
    all_goals (
      have hend : Pair w p q seed (k + 1) (effD seed D d (cutK kk) v) R' w6 := HP.out.act (by rw [HE.out]; exact h5) h6 (by rw [HE.out]; exact al6)
      clear h5 h6 al6 HS1 hS2
      go_wp2
      go_returns
      exact ⟨rfl, R', hend⟩)
  · have he := fun K v => effD_set (seed := seed) (D := D) (d := d) K v (by unfold kindN; omega)
    have hS1 := set_any hsd HP.out.a HP.out.inv.ok (by omega) (cutK kk) (by omega) v
    have hS2 : ∀ W1, Went tyI (fresh tyI w wy.drew) wy.drew p seed (D.setS (sumN seed (cutK kk).data.toList) (cutK kk) (.int .i64 v)) W1 → Hid (Calls Try.prog 28 #[.pointer (some ⟨q, 0, none⟩), .string (cutK kk), .int .i64 v] W1 fun e w' => e = .returned (.bool (!((D.step 1).hit (sumN seed (cutK kk).data.toList) (cutK kk)).isSome)) ∧ ∃ R', RWent (fresh tyR w W1) W1 q seed R' w' ∧ Alike (D.setS (sumN seed (cutK kk).data.toList) (cutK kk) (.int .i64 v)) R') :=
      fun W1 g => Lib.hid (refset_like hsd (HP.out.half g).2.1 (HP.out.rok (by omega)) (by have := HP.out.rlen; omega) HP.out.like HP.out.inv (cutK kk) (by omega) v)
    have HS1 := Lib.hid hS1
    have HE := Lib.hid (he (cutK kk) v)
    obtain ⟨bx, hbx⟩ : ∃ bx, bx = ((D.step 1).hit (sumN seed (cutK kk).data.toList) (cutK kk)).isSome := ⟨_, rfl⟩
    rw [← hbx] at HS1 hS2
    clear hS1 hbx he
    generalize D.setS (sumN seed (cutK kk).data.toList) (cutK kk) (.int .i64 v) = D' at *
    go_enter Try.func12, Try.ntmps12
    go_upto_region 6 with fail
    rw [← HWY.out]
    clear HWY
    go_region_held3 (fun w' => w'.cell? ⟨W.heap.size, 1, none⟩ = some (.string kk) ∧ w'.cell? ⟨W.heap.size, 2, none⟩ = some (.int .i64 v))
      (first | exact ⟨y1, y2⟩ | exact ⟨z1, z2⟩ | exact ⟨x1, x2⟩)
      (first
      | (go_at_call 18; (with_reducible refine (HKEY _).out.mono ?_); rintro e w4 ⟨rfl, rfl⟩)
      | (go_at_call 19; (with_reducible refine HS1.out.mono ?_); rintro e w5 ⟨rfl, h5⟩; have kz := went_blk h5 (fun k hk => hk.2) KY.out.drew (by decide); have z1 := kz.cell 1; have z2 := kz.cell 2; simp only [List.getElem?_toArray, List.getElem?_cons_succ, List.getElem?_cons_zero] at z1 z2; have KZ := Lib.hid kz; clear kz)
      | (go_at_call 28; (with_reducible refine (hS2 _ h5).out.mono ?_); rintro e w6 ⟨rfl, R', h6, al6⟩; have kx := rwent_blk h6 (fun k hk => hk.2) KZ.out (by decide); have x1 := kx.cell 1; have x2 := kx.cell 2; simp only [List.getElem?_toArray, List.getElem?_cons_succ, List.getElem?_cons_zero] at x1 x2; clear kx))
    all_goals (
      have hend : Pair w p q seed (k + 1) (effD seed D d (cutK kk) v) R' w6 := HP.out.act (by rw [HE.out]; exact h5) h6 (by rw [HE.out]; exact al6)
      clear h5 h6 al6 HS1 hS2
      go_wp2
      go_returns
      exact ⟨rfl, R', hend⟩)
  · have he := fun K v => effD_set (seed := seed) (D := D) (d := d) K v (by unfold kindN; omega)
    have hS1 := set_any hsd HP.out.a HP.out.inv.ok (by omega) (cutK kk) (by omega) v
    have hS2 : ∀ W1, Went tyI (fresh tyI w wy.drew) wy.drew p seed (D.setS (sumN seed (cutK kk).data.toList) (cutK kk) (.int .i64 v)) W1 → Hid (Calls Try.prog 28 #[.pointer (some ⟨q, 0, none⟩), .string (cutK kk), .int .i64 v] W1 fun e w' => e = .returned (.bool (!((D.step 1).hit (sumN seed (cutK kk).data.toList) (cutK kk)).isSome)) ∧ ∃ R', RWent (fresh tyR w W1) W1 q seed R' w' ∧ Alike (D.setS (sumN seed (cutK kk).data.toList) (cutK kk) (.int .i64 v)) R') :=
      fun W1 g => Lib.hid (refset_like hsd (HP.out.half g).2.1 (HP.out.rok (by omega)) (by have := HP.out.rlen; omega) HP.out.like HP.out.inv (cutK kk) (by omega) v)
    have HS1 := Lib.hid hS1
    have HE := Lib.hid (he (cutK kk) v)
    obtain ⟨bx, hbx⟩ : ∃ bx, bx = ((D.step 1).hit (sumN seed (cutK kk).data.toList) (cutK kk)).isSome := ⟨_, rfl⟩
    rw [← hbx] at HS1 hS2
    clear hS1 hbx he
    generalize D.setS (sumN seed (cutK kk).data.toList) (cutK kk) (.int .i64 v) = D' at *
    go_enter Try.func12, Try.ntmps12
    go_upto_region 6 with fail
    rw [← HWY.out]
    clear HWY
    go_region_held3 (fun w' => w'.cell? ⟨W.heap.size, 1, none⟩ = some (.string kk) ∧ w'.cell? ⟨W.heap.size, 2, none⟩ = some (.int .i64 v))
      (first | exact ⟨y1, y2⟩ | exact ⟨z1, z2⟩ | exact ⟨x1, x2⟩)
      (first
      | (go_at_call 18; (with_reducible refine (HKEY _).out.mono ?_); rintro e w4 ⟨rfl, rfl⟩)
      | (go_at_call 19; (with_reducible refine HS1.out.mono ?_); rintro e w5 ⟨rfl, h5⟩; have kz := went_blk h5 (fun k hk => hk.2) KY.out.drew (by decide); have z1 := kz.cell 1; have z2 := kz.cell 2; simp only [List.getElem?_toArray, List.getElem?_cons_succ, List.getElem?_cons_zero] at z1 z2; have KZ := Lib.hid kz; clear kz)
      | (go_at_call 28; (with_reducible refine (hS2 _ h5).out.mono ?_); rintro e w6 ⟨rfl, R', h6, al6⟩; have kx := rwent_blk h6 (fun k hk => hk.2) KZ.out (by decide); have x1 := kx.cell 1; have x2 := kx.cell 2; simp only [List.getElem?_toArray, List.getElem?_cons_succ, List.getElem?_cons_zero] at x1 x2; clear kx))
    all_goals (
      have hend : Pair w p q seed (k + 1) (effD seed D d (cutK kk) v) R' w6 := HP.out.act (by rw [HE.out]; exact h5) h6 (by rw [HE.out]; exact al6)
      clear h5 h6 al6 HS1 hS2
      go_wp2
      go_returns
      exact ⟨rfl, R', hend⟩)
  · have he := fun K v => effD_set (seed := seed) (D := D) (d := d) K v (by unfold kindN; omega)
    have hS1 := set_any hsd HP.out.a HP.out.inv.ok (by omega) (cutK kk) (by omega) v
    have hS2 : ∀ W1, Went tyI (fresh tyI w wy.drew) wy.drew p seed (D.setS (sumN seed (cutK kk).data.toList) (cutK kk) (.int .i64 v)) W1 → Hid (Calls Try.prog 28 #[.pointer (some ⟨q, 0, none⟩), .string (cutK kk), .int .i64 v] W1 fun e w' => e = .returned (.bool (!((D.step 1).hit (sumN seed (cutK kk).data.toList) (cutK kk)).isSome)) ∧ ∃ R', RWent (fresh tyR w W1) W1 q seed R' w' ∧ Alike (D.setS (sumN seed (cutK kk).data.toList) (cutK kk) (.int .i64 v)) R') :=
      fun W1 g => Lib.hid (refset_like hsd (HP.out.half g).2.1 (HP.out.rok (by omega)) (by have := HP.out.rlen; omega) HP.out.like HP.out.inv (cutK kk) (by omega) v)
    have HS1 := Lib.hid hS1
    have HE := Lib.hid (he (cutK kk) v)
    obtain ⟨bx, hbx⟩ : ∃ bx, bx = ((D.step 1).hit (sumN seed (cutK kk).data.toList) (cutK kk)).isSome := ⟨_, rfl⟩
    rw [← hbx] at HS1 hS2
    clear hS1 hbx he
    generalize D.setS (sumN seed (cutK kk).data.toList) (cutK kk) (.int .i64 v) = D' at *
    go_enter Try.func12, Try.ntmps12
    go_upto_region 6 with fail
    rw [← HWY.out]
    clear HWY
    go_region_held3 (fun w' => w'.cell? ⟨W.heap.size, 1, none⟩ = some (.string kk) ∧ w'.cell? ⟨W.heap.size, 2, none⟩ = some (.int .i64 v))
      (first | exact ⟨y1, y2⟩ | exact ⟨z1, z2⟩ | exact ⟨x1, x2⟩)
      (first
      | (go_at_call 18; (with_reducible refine (HKEY _).out.mono ?_); rintro e w4 ⟨rfl, rfl⟩)
      | (go_at_call 19; (with_reducible refine HS1.out.mono ?_); rintro e w5 ⟨rfl, h5⟩; have kz := went_blk h5 (fun k hk => hk.2) KY.out.drew (by decide); have z1 := kz.cell 1; have z2 := kz.cell 2; simp only [List.getElem?_toArray, List.getElem?_cons_succ, List.getElem?_cons_zero] at z1 z2; have KZ := Lib.hid kz; clear kz)
      | (go_at_call 28; (with_reducible refine (hS2 _ h5).out.mono ?_); rintro e w6 ⟨rfl, R', h6, al6⟩; have kx := rwent_blk h6 (fun k hk => hk.2) KZ.out (by decide); have x1 := kx.cell 1; have x2 := kx.cell 2; simp only [List.getElem?_toArray, List.getElem?_cons_succ, List.getElem?_cons_zero] at x1 x2; clear kx))
    all_goals (
      have hend : Pair w p q seed (k + 1) (effD seed D d (cutK kk) v) R' w6 := HP.out.act (by rw [HE.out]; exact h5) h6 (by rw [HE.out]; exact al6)
      clear h5 h6 al6 HS1 hS2
      go_wp2
      go_returns
      exact ⟨rfl, R', hend⟩)
  · have he := fun K v => effD_get (seed := seed) (D := D) (d := d) K v (by unfold kindN; omega)
    have hS1 := get_any hsd HQ.out.a HQ.out.inv.ok (by omega) (cutK kk) (by omega)
    have hS2 : ∀ W1, Went tyI (fresh tyI w wy) wy p seed (D.step 1) W1 → Hid (Calls Try.prog 29 #[.pointer (some ⟨q, 0, none⟩), .string (cutK kk)] W1 fun e w' => e = .returned (.tuple #[intV ((D.step 1).node (sumN seed (cutK kk).data.toList) (cutK kk)), .bool ((D.step 1).hit (sumN seed (cutK kk).data.toList) (cutK kk)).isSome]) ∧ ∃ R', RWent (fresh tyR w W1) W1 q seed R' w' ∧ Alike (D.step 1) R') :=
      fun W1 g => Lib.hid (refget_like (HQ.out.half g).2.1 (HQ.out.rok (by omega)) HQ.out.like HQ.out.inv (cutK kk))
    have HS1 := Lib.hid hS1
    have HE := Lib.hid (he (cutK kk) v)
    obtain ⟨bx, hbx⟩ : ∃ bx, bx = ((D.step 1).hit (sumN seed (cutK kk).data.toList) (cutK kk)).isSome := ⟨_, rfl⟩
    rw [← hbx] at HS1 hS2
    obtain ⟨n, hn⟩ : ∃ n : Int, intV ((D.step 1).node (sumN seed (cutK kk).data.toList) (cutK kk)) = .int .i64 n := intV_form (HQ.out.inv.step 1).1 _ _
    rw [hn] at HS1 hS2
    clear hS1 hbx he hn
    generalize D.step 1 = D' at *
    go_enter Try.func12, Try.ntmps12
    go_upto_region 8 with fail
    rw [← HWY.out]
    clear HWY
    go_wp2_with fail
    refine (HKEY _).out.mono ?_
    rintro e w4 ⟨rfl, rfl⟩
    go_wp2_with fail
    (with_reducible refine HS1.out.mono ?_)
    rintro e w5 ⟨rfl, h5⟩
    have kz := went_blk h5 (fun k hk => hk.2) KY.out (by decide)
    have z1 := kz.cell 1
    simp only [List.getElem?_toArray, List.getElem?_cons_succ, List.getElem?_cons_zero] at z1
    clear kz
    go_wp2_with fail
    refine (HKEY _).out.mono ?_
    rintro e w4 ⟨rfl, rfl⟩
    go_wp2_with fail
    (with_reducible refine (hS2 _ h5).out.mono ?_)
    rintro e w6 ⟨rfl, R', h6, al6⟩
    have hend : Pair w p q seed (k + 1) (effD seed D d (cutK kk) v) R' w6 := HQ.out.act (by rw [HE.out]; exact h5) h6 (by rw [HE.out]; exact al6)
    clear h5 h6 al6 HS1 hS2
    go_wp2
    go_returns
    exact ⟨rfl, R', hend⟩
  · have he := fun K v => effD_del (seed := seed) (D := D) (d := d) K v (by unfold kindN; omega)
    have hS1 := del_any hsd HP.out.a HP.out.inv.ok (by omega) (cutK kk) (by omega)
    have hS2 : ∀ W1, Went tyI (fresh tyI w wy.drew) wy.drew p seed (D.delS (sumN seed (cutK kk).data.toList) (cutK kk)) W1 → Hid (Calls Try.prog 30 #[.pointer (some ⟨q, 0, none⟩), .string (cutK kk)] W1 fun e w' => e = .returned (.bool ((D.step 1).hit (sumN seed (cutK kk).data.toList) (cutK kk)).isSome) ∧ ∃ R', RWent (fresh tyR w W1) W1 q seed R' w' ∧ Alike (D.delS (sumN seed (cutK kk).data.toList) (cutK kk)) R') :=
      fun W1 g => Lib.hid (refdel_like (HP.out.half g).2.1 (HP.out.rok (by omega)) HP.out.like HP.out.inv (cutK kk))
    have HS1 := Lib.hid hS1
    have HE := Lib.hid (he (cutK kk) v)
    obtain ⟨bx, hbx⟩ : ∃ bx, bx = ((D.step 1).hit (sumN seed (cutK kk).data.toList) (cutK kk)).isSome := ⟨_, rfl⟩
    rw [← hbx] at HS1 hS2
    clear hS1 hbx he
    generalize D.delS (sumN seed (cutK kk).data.toList) (cutK kk) = D' at *
    go_enter Try.func12, Try.ntmps12
    go_upto_region 13 with fail
    rw [← HWY.out]
    clear HWY
    go_region_held3 (fun w' => w'.cell? ⟨W.heap.size, 1, none⟩ = some (.string kk))
      (first | exact y1 | exact z1 | exact x1)
      (first
      | (go_at_call 18; (with_reducible refine (HKEY _).out.mono ?_); rintro e w4 ⟨rfl, rfl⟩)
      | (go_at_call 20; (with_reducible refine HS1.out.mono ?_); rintro e w5 ⟨rfl, h5⟩; have kz := went_blk h5 (fun k hk => hk.2) KY.out.drew (by decide); have z1 := kz.cell 1; simp only [List.getElem?_toArray, List.getElem?_cons_succ, List.getElem?_cons_zero] at z1; have KZ := Lib.hid kz; clear kz)
      | (go_at_call 30; (with_reducible refine (hS2 _ h5).out.mono ?_); rintro e w6 ⟨rfl, R', h6, al6⟩; have kx := rwent_blk h6 (fun k hk => hk.2) KZ.out (by decide); have x1 := kx.cell 1; simp only [List.getElem?_toArray, List.getElem?_cons_succ, List.getElem?_cons_zero] at x1; clear kx))
    all_goals (
      have hend : Pair w p q seed (k + 1) (effD seed D d (cutK kk) v) R' w6 := HP.out.act (by rw [HE.out]; exact h5) h6 (by rw [HE.out]; exact al6)
      clear h5 h6 al6 HS1 hS2
      go_wp2
      go_returns
      exact ⟨rfl, R', hend⟩)
  · have he := fun K v => effD_del (seed := seed) (D := D) (d := d) K v (by unfold kindN; omega)
    have hS1 := del_any hsd HP.out.a HP.out.inv.ok (by omega) (cutK kk) (by omega)
    have hS2 : ∀ W1, Went tyI (fresh tyI w wy.drew) wy.drew p seed (D.delS (sumN seed (cutK kk).data.toList) (cutK kk)) W1 → Hid (Calls Try.prog 30 #[.pointer (some ⟨q, 0, none⟩), .string (cutK kk)] W1 fun e w' => e = .returned (.bool ((D.step 1).hit (sumN seed (cutK kk).data.toList) (cutK kk)).isSome) ∧ ∃ R', RWent (fresh tyR w W1) W1 q seed R' w' ∧ Alike (D.delS (sumN seed (cutK kk).data.toList) (cutK kk)) R') :=
      fun W1 g => Lib.hid (refdel_like (HP.out.half g).2.1 (HP.out.rok (by omega)) HP.out.like HP.out.inv (cutK kk))
    have HS1 := Lib.hid hS1
    have HE := Lib.hid (he (cutK kk) v)
    obtain ⟨bx, hbx⟩ : ∃ bx, bx = ((D.step 1).hit (sumN seed (cutK kk).data.toList) (cutK kk)).isSome := ⟨_, rfl⟩
    rw [← hbx] at HS1 hS2
    clear hS1 hbx he
    generalize D.delS (sumN seed (cutK kk).data.toList) (cutK kk) = D' at *
    go_enter Try.func12, Try.ntmps12
    go_upto_region 13 with fail
    rw [← HWY.out]
    clear HWY
    go_region_held3 (fun w' => w'.cell? ⟨W.heap.size, 1, none⟩ = some (.string kk))
      (first | exact y1 | exact z1 | exact x1)
      (first
      | (go_at_call 18; (with_reducible refine (HKEY _).out.mono ?_); rintro e w4 ⟨rfl, rfl⟩)
      | (go_at_call 20; (with_reducible refine HS1.out.mono ?_); rintro e w5 ⟨rfl, h5⟩; have kz := went_blk h5 (fun k hk => hk.2) KY.out.drew (by decide); have z1 := kz.cell 1; simp only [List.getElem?_toArray, List.getElem?_cons_succ, List.getElem?_cons_zero] at z1; have KZ := Lib.hid kz; clear kz)
      | (go_at_call 30; (with_reducible refine (hS2 _ h5).out.mono ?_); rintro e w6 ⟨rfl, R', h6, al6⟩; have kx := rwent_blk h6 (fun k hk => hk.2) KZ.out (by decide); have x1 := kx.cell 1; simp only [List.getElem?_toArray, List.getElem?_cons_succ, List.getElem?_cons_zero] at x1; clear kx))
    all_goals (
      have hend : Pair w p q seed (k + 1) (effD seed D d (cutK kk) v) R' w6 := HP.out.act (by rw [HE.out]; exact h5) h6 (by rw [HE.out]; exact al6)
      clear h5 h6 al6 HS1 hS2
      go_wp2
      go_returns
      exact ⟨rfl, R', hend⟩)
  · have he := fun K v => effD_step (seed := seed) (D := D) (d := d) K v (by unfold kindN; omega)
    have hS1 := step_any HQ.out.a HQ.out.inv.ok (by omega) (min v 100)
    have hS2 : ∀ W1, Went tyI (fresh tyI w wy) wy p seed (D.step (min v 100).toNat) W1 → Hid (Calls Try.prog 31 #[.pointer (some ⟨q, 0, none⟩), .int .i64 (min v 100)] W1 fun e w' => e = .returned (.int .i64 (min (min v 100).toNat D.left : Nat)) ∧ ∃ R', RWent (fresh tyR w W1) W1 q seed R' w' ∧ Alike (D.step (min v 100).toNat) R') :=
      fun W1 g => Lib.hid (refstep_like (HQ.out.half g).2.1 (HQ.out.rok (by omega)) HQ.out.like HQ.out.inv v)
    have HS1 := Lib.hid hS1
    have HE := Lib.hid (he (cutK kk) v)
    generalize min (min v 100).toNat D.left = n at *
    clear hS1 he
    generalize D.step (min v 100).toNat = D' at *
    go_enter Try.func12, Try.ntmps12
    go_upto_region 14 with fail
    rw [← HWY.out]
    clear HWY
    go_wp2_with fail
    (with_reducible refine HS1.out.mono ?_)
    rintro e w5 ⟨rfl, h5⟩
    go_wp2_with fail
    (with_reducible refine (hS2 _ h5).out.mono ?_)
    rintro e w6 ⟨rfl, R', h6, al6⟩
    have hend : Pair w p q seed (k + 1) (effD seed D d (cutK kk) v) R' w6 := HQ.out.act (by rw [HE.out]; exact h5) h6 (by rw [HE.out]; exact al6)
    clear h5 h6 al6 HS1 hS2
    go_wp2
    go_returns
    exact ⟨rfl, R', hend⟩
end Go.Proofs.Ytifbambalfifaaa.Both
