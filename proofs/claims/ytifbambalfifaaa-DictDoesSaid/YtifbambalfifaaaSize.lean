/- SizeFor, IsSize, Slot. -/
import Derived.Test.YtifbambalfifaaaIter
import Derived.ScopeJumps
namespace Go.Proofs.Ytifbambalfifaaa
open Go.RowKit Go.Shelf
attribute [local go_sem] Oper.semAt_some

/-- The first number of a list that is at least n; else the greatest size. -/
def fit (n : Int) (l : List Nat) : Nat := (l.find? (fun (x : Nat) => decide (n ≤ ((x : Nat) : Int)))).getD 65536
def sizeS (n : Int) : Nat := fit n sizeL
theorem fit_here (n : Int) (i x : Nat) (hx : sizeL[i]? = some x) (h : n ≤ x) : fit n (sizeL.drop i) = x := by
  obtain ⟨hi, he⟩ := List.getElem?_eq_some_iff.1 hx
  unfold fit
  rw [List.drop_eq_getElem_cons hi, he, List.find?_cons_of_pos (by simpa using h)]
  rfl
theorem fit_on (n : Int) (i x : Nat) (hx : sizeL[i]? = some x) (h : ¬ n ≤ x) : fit n (sizeL.drop i) = fit n (sizeL.drop (i + 1)) := by
  obtain ⟨hi, he⟩ := List.getElem?_eq_some_iff.1 hx
  unfold fit
  rw [List.drop_eq_getElem_cons hi, he, List.find?_cons_of_neg (by simpa using h)]

set_option maxRecDepth 100000 in
set_option maxHeartbeats 4000000 in
theorem sizeFor_any (n : Int) (w : World) : Calls Try.prog 74 #[.int .i64 n] w fun e w' => e = .returned (.int .i64 (sizeS n)) ∧ Below w.heap.size w w' := by
  refine (callsIn_wide (n := 6)).1 (callsIn_of_wp_marks Try.func74 rfl trivial ?_ rfl)
  refine wpIn_wide.2 ?_
  simp only [Try.ntmps74, List.size_toArray, List.length_cons, List.length_nil, Nat.reduceAdd, Nat.reduceSub, Array.replicate_succ, Array.replicate_zero, List.push_toArray, List.append_toArray, List.nil_append, List.cons_append]
  go_wp2
  refine wp_scope_straight ?_
  go_wp2
  refine wp_label ?_
  go_wp2
  have k1 := (Blk.new w 3 #[Value.int IntKind.i64 n]).alloc (Obj.cells #[Value.int IntKind.i64 65536] 3)
  have k2 := Blk.new (w.alloc (Obj.cells #[Value.int IntKind.i64 n] 3)) 3 #[Value.int IntKind.i64 65536]
  rw [World.size_alloc] at k2
  have hB := ((Below.refl w.heap.size w).alloc (Nat.le_refl _) (Obj.cells #[Value.int IntKind.i64 n] 3)).alloc (by simp) (Obj.cells #[Value.int IntKind.i64 65536] 3)
  have hsz : ((w.alloc (Obj.cells #[Value.int IntKind.i64 n] 3)).alloc (Obj.cells #[Value.int IntKind.i64 65536] 3)).heap.size = w.heap.size + 2 := by simp
  generalize ((w.alloc (Obj.cells #[Value.int IntKind.i64 n] 3)).alloc (Obj.cells #[Value.int IntKind.i64 65536] 3)) = w1 at *
  refine (wpIn_wide (n := 6)).1 (range_x (gf := 91) (lb := #[]) (encs := encN) (xs := sizeL) (L := [w.heap.size + 1]) rfl (enters_of Try.func91 (by kernel_rfl) rfl) (sizes_any _ _) (fun _ _ => rfl)
    (fun i W => Below w.heap.size w W ∧ Blk W w.heap.size 3 #[.int .i64 n] ∧ Blk W (w.heap.size + 1) 3 #[Value.int IntKind.i64 65536] ∧ sizeS n = fit n (sizeL.drop i))
    (fun c _ W => match c with
      | .exit id => id = 0 ∧ Below w.heap.size w W ∧ Blk W (w.heap.size + 1) 3 #[.int .i64 (sizeS n)]
      | _ => False)
    ?hI ?hIx ?h0 (fun i x a' W => a' = { tmps := #[Value.int IntKind.i64 n, Value.pointer (some { block := w.heap.size, off := 0 }), Value.int IntKind.i64 0,
          Value.pointer (some { block := w.heap.size + 1, off := 0 }), Value.int IntKind.i64 x, Value.int IntKind.i64 x, undef, undef, undef, undef, undef], defers := [] })
    (fun _ _ _ => own_pure _ _) ?assign ?body ?done ?stop)
  case hI => exact (own_below _ w (by omega)).and ((own_blk _ _ _ _).and ((own_blk _ _ _ _).and (own_pure _ _)))
  case hIx =>
    intro c
    cases c with
    | exit id => exact (own_pure _ _).and ((own_below _ w (by omega)).and (own_blk _ _ _ _))
    | _ => exact own_pure _ _
  case h0 => exact ⟨hB, k1, k2, rfl⟩
  case assign =>
    rintro l i x W K hx' ⟨hb, q1, q2, hgd⟩ hK
    unfold encN
    gi_wp2
    exact hK _ _ (KeepsFrom.refl _ _) (KeepC.refl _ _) ⟨hb, q1, q2, hgd⟩ rfl
  case body =>
    rintro l i x a' W hx' ⟨hb, q1, q2, hgd⟩ rfl
    obtain ⟨c1, c2⟩ := facts1 q1
    obtain ⟨d1, d2⟩ := facts1 q2
    have Q2 := Lib.hid q2
    have HG := Lib.hid hgd
    clear hgd q2 k1 k2
    by_cases hik : n ≤ (x : Int)
    · have hs : sizeS n = x := HG.out.trans (fit_here n i x hx' hik)
      have HS := Lib.hid hs
      clear hs
      gi_wp2
      refine ⟨(KeepsOthers.setCell _ _ _).from _, rfl, hb.setCell (p := ⟨w.heap.size + 1, 0, none⟩) (Nat.le_succ _) _, ?_⟩
      rw [HS.out]
      exact Q2.out.set 0 _
    · gi_wp2
      refine ⟨KeepsFrom.refl _ _, KeepC.refl _ _, hb, q1, Q2.out, HG.out.trans (fit_on n i x hx' (by omega))⟩
  case done =>
    rintro D W hD ⟨hb, q1, q2, hgd⟩ hK
    obtain ⟨d1, d2⟩ := facts1 q2
    have hs : sizeS n = 65536 := hgd
    have HS := Lib.hid hs
    have HK := Lib.hid hK
    clear hK q1 q2 hgd hs k1 k2
    simp only [Exit.inBlock, Exit.then]
    go_wp2
    exact leave (v := .int .i64 65536) rfl HK.out (by simp [results, Try.results74, go_sem]) ⟨by rw [HS.out]; rfl, below_put hb (by omega) _⟩
  case stop =>
    rintro D c j W hD hI hK
    cases c with
    | exit id =>
      obtain ⟨rfl, hb, q2⟩ := hI
      obtain ⟨d1, d2⟩ := facts1 q2
      have HK := Lib.hid hK
      clear hK q2 k1 k2
      refine wpIn_wide.2 ?_
      go_wp2
      exact leave rfl HK.out (by simp [results, Try.results74, go_sem]) ⟨rfl, below_put hb (by omega) _⟩
    | _ => exact hI.elim

def isS (n : Int) : Bool := decide ((sizeS n : Int) = n)
theorem isSize_any (n : Int) (w : World) : Calls Try.prog 75 #[.int .i64 n] w fun e w' => e = .returned (.bool (isS n)) ∧ Below w.heap.size w w' := by
  unfold isS
  go_enter Try.func75, Try.ntmps75
  go_wp2_with fail
  refine (sizeFor_any n _).mono ?_
  rintro e w1 ⟨rfl, hb1⟩
  go_wp2
  go_ret
  exact ⟨rfl, hb1⟩

/-- Slot: the place, and whether there is one. -/
def slotS (sum : Nat) (n : Int) : Value := if isS n then .tuple #[.int .i64 ((sum : Int) % n), .int .i64 0] else .tuple #[.int .i64 0, .int .i64 2]
theorem isS_pos {n : Int} (h : isS n = true) : 4 ≤ n ∧ n ≤ 65536 := by
  have h1 : ∀ l : List Nat, (∀ x ∈ l, 4 ≤ x ∧ x ≤ 65536) → 4 ≤ fit n l ∧ fit n l ≤ 65536 := fun l hl => by
    unfold fit
    cases h : l.find? (fun (x : Nat) => decide (n ≤ (x : Int))) with
    | none => simp
    | some x => exact hl x (List.mem_of_find?_eq_some h)
  have h2 := h1 sizeL (by decide)
  unfold isS sizeS at h
  have := of_decide_eq_true h
  omega
set_option maxHeartbeats 1000000 in
theorem slot_any (sum : Nat) (hs : sum < 4294967296) (n : Int) (w : World) : Calls Try.prog 64 #[.int .u32 sum, .int .i64 n] w fun e w' => e = .returned (slotS sum n) ∧ Below w.heap.size w w' := by
  by_cases h : isS n = true
  · have hp := isS_pos h
    unfold slotS
    rw [if_pos h]
    have HI := fun w => isSize_any n w
    rw [h] at HI
    have HP := fun w => Lib.hid (HI w)
    clear HI
    have g1 : (0 : Int) ≤ (sum : Int) := by omega
    have g2 : (sum : Int) ≤ 4294967295 := by omega
    have g3 : (0 : Int) ≤ (sum : Int) % n := Int.emod_nonneg _ (by omega)
    have g4 : (sum : Int) % n < n := Int.emod_lt_of_pos _ (by omega)
    clear h
    go_enter Try.func64, Try.ntmps64
    go_wp2_with fail
    refine wp_scope_straight ?_
    go_wp2_with fail
    refine (HP _).out.mono ?_
    rintro e w1 ⟨rfl, hb1⟩
    go_wp2
    simp only [Exit.noGoto]
    go_ret2
    exact ⟨rfl, hb1⟩
  · have h' : isS n = false := by cases hh : isS n <;> simp_all
    unfold slotS
    rw [if_neg h]
    have HI := fun w => isSize_any n w
    rw [h'] at HI
    have HP := fun w => Lib.hid (HI w)
    clear HI h h'
    go_enter Try.func64, Try.ntmps64
    go_wp2_with fail
    refine wp_scope_jumps 0 (fun a' w' => Below w.heap.size w w' ∧ a' = { tmps := #[Value.int IntKind.u32 sum, Value.int IntKind.i64 n, undef, undef, Value.int IntKind.i64 0,
            Value.int IntKind.i64 0, Value.int IntKind.i64 n, Value.bool false, Value.bool true, undef, undef, undef, undef, undef], defers := [] }) (fun _ _ => 0) rfl ?_ ?_
    · go_wp2_with fail
      refine (HP _).out.mono ?_
      rintro e w1 ⟨rfl, hb1⟩
      go_wp2
      go_step3
      exact ⟨rfl, hb1, rfl⟩
    · rintro a' w' ⟨hb, rfl⟩
      go_wp2
      simp only [Exit.jump]
      go_ret2
      exact ⟨rfl, hb⟩
end Go.Proofs.Ytifbambalfifaaa
