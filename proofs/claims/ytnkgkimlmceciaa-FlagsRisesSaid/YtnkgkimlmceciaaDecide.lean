/- What is decided: the program's and the reference's. -/
import Derived.Test.YtnkgkimlmceciaaSum
namespace Go.Proofs.Ytnkgkimlmceciaa
open Go.RowKit Go.Shelf
attribute [local go_sem] Oper.semAt_some

/-- The flags. -/
structure Fl where
  nx : Bool
  xx : Bool
  gt : Bool
  lt : Bool
  ch : Bool
  inc : Bool
deriving DecidableEq
def Fl.c (f : Fl) : Array Value := #[.bool f.nx, .bool f.xx, .bool f.gt, .bool f.lt, .bool f.ch, .bool f.inc]
def Fl.v (f : Fl) : Value := .agg f.c
def Fl.right (f : Fl) : Bool := !(f.nx && (f.xx || f.gt || f.lt)) && !(f.gt && f.lt)
theorem ret_bool {a b : Bool} (h : a = b) : Ending.returned (.bool a) = .returned (.bool b) := by rw [h]

set_option maxHeartbeats 1000000 in
theorem right_any (f : Fl) (w : World) : Calls Try.prog 12 #[f.v] w fun e w' => e = .returned (.bool f.right) ∧ Below w.heap.size w w' := by
  obtain ⟨nx, xx, gt, lt, ch, inc⟩ := f
  simp only [Fl.v, Fl.c, Fl.right]
  go_enter Try.func12, Try.ntmps12
  go_wp2
  all_goals go_ret
  all_goals refine ⟨ret_bool ?_, (Below.refl _ _).alloc (Nat.le_refl _) _⟩
  all_goals simp_all
set_option maxHeartbeats 1000000 in
theorem refRight_any (f : Fl) (w : World) : Calls Try.prog 13 #[f.v] w fun e w' => e = .returned (.bool f.right) ∧ Below w.heap.size w w' := by
  obtain ⟨nx, xx, gt, lt, ch, inc⟩ := f
  simp only [Fl.v, Fl.c, Fl.right]
  go_enter Try.func13, Try.ntmps13
  go_wp2
  all_goals go_ret
  all_goals refine ⟨ret_bool ?_, (Below.refl _ _).alloc (Nat.le_refl _) _⟩
  all_goals simp_all

/-- A deed: the score, and what is done. -/
def stays (gt lt : Bool) (old n : Int) : Bool := (gt && decide (n ≤ old)) || (lt && decide (old ≤ n))
def deedN (f : Fl) (is : Bool) (old n : Int) : Int := if is && stays f.gt f.lt old n then old else n
def deedD (f : Fl) (is : Bool) (old n : Int) : Int := if !is then 1 else if stays f.gt f.lt old n || n == old then 0 else 2

set_option maxHeartbeats 1000000 in
theorem deed_any (f : Fl) (is : Bool) (old n : Int) (w : World) : Calls Try.prog 21 #[f.v, .bool is, .int .i64 old, .int .i64 n] w fun e w' => e = .returned (.tuple #[.int .i64 (deedN f is old n), .int .i64 (deedD f is old n)]) ∧ Below w.heap.size w w' := by
  obtain ⟨nx, xx, gt, lt, ch, inc⟩ := f
  simp only [Fl.v, Fl.c]
  cases is
  all_goals go_enter Try.func21, Try.ntmps21
  all_goals go_wp2
  all_goals go_ret2
  all_goals refine ⟨ret_pair ?_ ?_, (Below.refl _ _).alloc (Nat.le_refl _) _⟩
  all_goals simp only [deedN, deedD, stays]
  all_goals simp_all
  all_goals omega

/-- What is decided: the number, what is done, the error. -/
def dec (f : Fl) (is : Bool) (old n : Int) : Int × Int × Int :=
  let o := if is then old else 0
  if !f.right then (0, 0, 110)
  else if (is && f.nx) || (!is && f.xx) then (o, 0, 0)
  else if f.inc && !sumOk o n then (0, 0, 11)
  else
    let m := if f.inc then sumN o n else n
    (deedN f is o m, deedD f is o m, 0)
def decT (f : Fl) (is : Bool) (old n : Int) : Value := .tuple #[.int .i64 (dec f is old n).1, .int .i64 (dec f is old n).2.1, .int .i64 (dec f is old n).2.2]

theorem ret_v {a b : Value} (h : a = b) : Ending.returned a = .returned b := by rw [h]
theorem below2 {w w1 : World} {o : Obj} (h : Below (w.alloc o).heap.size (w.alloc o) w1) : Below w.heap.size w w1 := ((Below.refl _ _).alloc (Nat.le_refl _) o).trans (h.mono (by simp))

theorem size_alloc_lt {w w1 : World} {o : Obj} (h : (w.alloc o).heap.size ≤ w1.heap.size) : w.heap.size < w1.heap.size := by simp at h; omega
set_option maxHeartbeats 1000000 in
theorem decide_any (f : Fl) (is : Bool) (old n : Int) (h1 : I64 old) (h2 : I64 n) (w : World) : Calls Try.prog 10 #[f.v, .bool is, .int .i64 old, .int .i64 n] w fun e w' => e = .returned (decT f is old n) ∧ Below w.heap.size w w' := by
  have h0 : I64 0 := ⟨by decide, by decide⟩
  obtain ⟨nx, xx, gt, lt, ch, inc⟩ := f
  have HR := fun w => Lib.hid (right_any ⟨nx, xx, gt, lt, ch, inc⟩ w)
  have HD := fun is old n w => Lib.hid (deed_any ⟨nx, xx, gt, lt, ch, inc⟩ is old n w)
  have HA := fun old n h1 h2 w => Lib.hid (add_any old n h1 h2 w)
  cases hr : Fl.right ⟨nx, xx, gt, lt, ch, inc⟩
  · rw [hr] at HR
    simp only [Fl.v, Fl.c] at HR HD ⊢
    cases is
    all_goals go_enter Try.func10, Try.ntmps10
    all_goals go_wp2_with fail
    all_goals refine (HR _).out.mono ?_
    all_goals rintro e w1 ⟨rfl, hb⟩
    all_goals go_wp2_with fail
    all_goals refine bodyPost_ret (v := .tuple #[.int .i64 0, .int .i64 0, .int .i64 110]) (by simp [results, Try.results10, go_sem]) rfl ⟨ret_v ?_, below2 hb⟩
    all_goals simp [decT, dec, hr]
  · rw [hr] at HR
    simp only [Fl.v, Fl.c] at HR HD ⊢
    cases is
    · have hk0 : sumOk 0 n = true := by obtain ⟨_, _⟩ := h2; unfold sumOk; simp; omega
      have hn0 : sumN 0 n = n := by unfold sumN; rw [if_pos hk0]; omega
      have he0 : sumE 0 n = 0 := by unfold sumE; rw [if_pos hk0]
      have HS := fun w => Lib.hid (add_any 0 n h0 h2 w)
      rw [hn0, he0] at HS
      have HK := Lib.hid hk0
      have HN := Lib.hid hn0
      clear HA hk0 hn0 he0
      cases nx
      all_goals cases xx
      all_goals cases inc
      all_goals go_enter Try.func10, Try.ntmps10
      all_goals go_wp2_with fail
      all_goals refine (HR _).out.mono ?_
      all_goals rintro e w1 ⟨rfl, hb⟩
      all_goals obtain ⟨hc1, hf1⟩ := bcell hb
      all_goals have hbe := hb
      all_goals go_wp2_with (first
        | (go_at_call 20; refine (HS _).out.mono ?_; rintro e w2 ⟨rfl, hb2⟩; obtain ⟨hc2, hf2⟩ := bcell hb2; have hz := size_alloc_lt hbe.size; replace hbe := hbe.trans (hb2.mono hbe.size); clear hb2)
        | (go_at_call 21; refine (HD _ _ _ _).out.mono ?_; rintro e w3 ⟨rfl, hb3⟩; replace hbe := hbe.trans (hb3.mono hbe.size)))
      all_goals refine bodyPost_ret (v := decT _ _ old n) (by simp [results, Try.results10, go_sem, decT, dec, hr, HN.out, HK.out]) rfl ⟨rfl, below2 hbe⟩
    · cases hk : sumOk old n
      · have he : sumE old n = 11 := by unfold sumE; rw [hk]; rfl
        have HS := fun w => Lib.hid (add_any old n h1 h2 w)
        rw [he] at HS
        have HK := Lib.hid hk
        clear HA hk he
        cases nx
        all_goals cases xx
        all_goals cases inc
        all_goals go_enter Try.func10, Try.ntmps10
        all_goals go_wp2_with fail
        all_goals refine (HR _).out.mono ?_
        all_goals rintro e w1 ⟨rfl, hb⟩
        all_goals obtain ⟨hc1, hf1⟩ := bcell hb
        all_goals have hbe := hb
        all_goals go_wp2_with (first
          | (go_at_call 20; refine (HS _).out.mono ?_; rintro e w2 ⟨rfl, hb2⟩; obtain ⟨hc2, hf2⟩ := bcell hb2; have hz := size_alloc_lt hbe.size; replace hbe := hbe.trans (hb2.mono hbe.size); clear hb2)
          | (go_at_call 21; refine (HD _ _ _ _).out.mono ?_; rintro e w3 ⟨rfl, hb3⟩; replace hbe := hbe.trans (hb3.mono hbe.size)))
        all_goals refine bodyPost_ret (v := decT _ _ old n) (by simp [results, Try.results10, go_sem, decT, dec, hr, HK.out]) rfl ⟨rfl, below2 hbe⟩
      · have he : sumE old n = 0 := by unfold sumE; rw [hk]; rfl
        have HS := fun w => Lib.hid (add_any old n h1 h2 w)
        rw [he] at HS
        obtain ⟨m, hm⟩ : ∃ m, m = sumN old n := ⟨_, rfl⟩
        rw [← hm] at HS
        have HN := Lib.hid hm
        have HK := Lib.hid hk
        clear HA hk he hm
        cases nx
        all_goals cases xx
        all_goals cases inc
        all_goals go_enter Try.func10, Try.ntmps10
        all_goals go_wp2_with fail
        all_goals refine (HR _).out.mono ?_
        all_goals rintro e w1 ⟨rfl, hb⟩
        all_goals obtain ⟨hc1, hf1⟩ := bcell hb
        all_goals have hbe := hb
        all_goals go_wp2_with (first
          | (go_at_call 20; refine (HS _).out.mono ?_; rintro e w2 ⟨rfl, hb2⟩; obtain ⟨hc2, hf2⟩ := bcell hb2; have hz := size_alloc_lt hbe.size; replace hbe := hbe.trans (hb2.mono hbe.size); clear hb2)
          | (go_at_call 21; refine (HD _ _ _ _).out.mono ?_; rintro e w3 ⟨rfl, hb3⟩; replace hbe := hbe.trans (hb3.mono hbe.size)))
        all_goals refine bodyPost_ret (v := decT _ _ old n) (by simp [results, Try.results10, go_sem, decT, dec, hr, HK.out, HN.out]) rfl ⟨rfl, below2 hbe⟩

set_option maxHeartbeats 2000000 in
theorem refDecide_any (f : Fl) (is : Bool) (old n : Int) (h1 : I64 old) (h2 : I64 n) (w : World) : Calls Try.prog 11 #[f.v, .bool is, .int .i64 old, .int .i64 n] w fun e w' => e = .returned (decT f is old n) ∧ Below w.heap.size w w' := by
  have h0 : I64 0 := ⟨by decide, by decide⟩
  obtain ⟨nx, xx, gt, lt, ch, inc⟩ := f
  have HR := fun w => Lib.hid (refRight_any ⟨nx, xx, gt, lt, ch, inc⟩ w)
  cases hr : Fl.right ⟨nx, xx, gt, lt, ch, inc⟩
  · rw [hr] at HR
    simp only [Fl.v, Fl.c] at HR ⊢
    cases is
    all_goals go_enter Try.func11, Try.ntmps11
    all_goals go_wp2_with fail
    all_goals refine (HR _).out.mono ?_
    all_goals rintro e w1 ⟨rfl, hb⟩
    all_goals go_wp2_with fail
    all_goals refine bodyPost_ret (v := .tuple #[.int .i64 0, .int .i64 0, .int .i64 110]) (by simp [results, Try.results11, go_sem]) rfl ⟨ret_v ?_, below2 hb⟩
    all_goals simp [decT, dec, hr]
  · rw [hr] at HR
    simp only [Fl.v, Fl.c] at HR ⊢
    cases is
    · have hk0 : sumOk 0 n = true := by obtain ⟨_, _⟩ := h2; unfold sumOk; simp; omega
      have hn0 : sumN 0 n = n := by unfold sumN; rw [if_pos hk0]; omega
      have he0 : sumE 0 n = 0 := by unfold sumE; rw [if_pos hk0]
      have HS := fun w => Lib.hid (refAdd_any 0 n h0 h2 w)
      rw [hn0, he0] at HS
      have HK := Lib.hid hk0
      have HN := Lib.hid hn0
      clear hk0 hn0 he0
      cases nx
      all_goals cases xx
      all_goals cases inc
      all_goals go_enter Try.func11, Try.ntmps11
      all_goals go_wp2_with fail
      all_goals refine (HR _).out.mono ?_
      all_goals rintro e w1 ⟨rfl, hb⟩
      all_goals obtain ⟨hc1, hf1⟩ := bcell hb
      all_goals go_wp2_with (go_at_call 22; refine (HS _).out.mono ?_; rintro e w2 ⟨rfl, rfl⟩)
      all_goals refine bodyPost_ret (v := decT _ _ old n) (by simp [results, Try.results11, go_sem, decT, dec, hr, HN.out, HK.out, deedN, deedD]) rfl ⟨rfl, below2 hb⟩
    · cases hk : sumOk old n
      · have he : sumE old n = 11 := by unfold sumE; rw [hk]; rfl
        have HS := fun w => Lib.hid (refAdd_any old n h1 h2 w)
        rw [he] at HS
        have HK := Lib.hid hk
        clear hk he
        cases nx
        all_goals cases xx
        all_goals cases inc
        all_goals go_enter Try.func11, Try.ntmps11
        all_goals go_wp2_with fail
        all_goals refine (HR _).out.mono ?_
        all_goals rintro e w1 ⟨rfl, hb⟩
        all_goals obtain ⟨hc1, hf1⟩ := bcell hb
        all_goals go_wp2_with (go_at_call 22; refine (HS _).out.mono ?_; rintro e w2 ⟨rfl, rfl⟩)
        all_goals have HKo := HK.out
        all_goals clear HS HR hc1 hf1 HK
        all_goals refine bodyPost_ret (v := decT _ _ old n) (by simp [results, Try.results11, go_sem, decT, dec, hr, HKo, deedN, deedD, stays]; try (simp_all; try omega)) rfl ⟨rfl, below2 hb⟩
      · have he : sumE old n = 0 := by unfold sumE; rw [hk]; rfl
        have HS := fun w => Lib.hid (refAdd_any old n h1 h2 w)
        rw [he] at HS
        obtain ⟨m, hm⟩ : ∃ m, m = sumN old n := ⟨_, rfl⟩
        rw [← hm] at HS
        have HN := Lib.hid hm
        have HK := Lib.hid hk
        clear hk he hm
        cases nx
        all_goals cases xx
        all_goals cases inc
        all_goals go_enter Try.func11, Try.ntmps11
        all_goals go_wp2_with fail
        all_goals refine (HR _).out.mono ?_
        all_goals rintro e w1 ⟨rfl, hb⟩
        all_goals obtain ⟨hc1, hf1⟩ := bcell hb
        all_goals go_wp2_with (go_at_call 22; refine (HS _).out.mono ?_; rintro e w2 ⟨rfl, rfl⟩)
        all_goals have HNo := HN.out
        all_goals have HKo := HK.out
        all_goals clear HS HR hc1 hf1 HK
        all_goals refine bodyPost_ret (v := decT _ _ old n) (by simp [results, Try.results11, go_sem, decT, dec, hr, HKo, ← HNo, deedN, deedD, stays]; try (simp_all; try omega)) rfl ⟨rfl, below2 hb⟩
end Go.Proofs.Ytnkgkimlmceciaa
