/- How a use rises; which uses are known at a minute. -/
import Derived.Test.YtpjggdmfgoajbaaUse
import Derived.ScopeJumps
import Derived.StillTailTactics
namespace Go.Proofs.Ytpjggdmfgoajbaa
open Go.RowKit Go.Shelf
attribute [local go_sem] Oper.semAt_some

/-- By how much a count rises with a draw. -/
def stepN (c d : Int) : Int := if c = 255 then 0 else if d % manyN c = 0 then 1 else 0
theorem many_pos (c : Int) : 1 ≤ manyN c := by unfold manyN; omega
theorem stepN_01 (c d : Int) : 0 ≤ stepN c d ∧ stepN c d ≤ 1 := by unfold stepN; split <;> (try split) <;> omega

set_option maxRecDepth 100000 in
theorem step_any (c d : Int) (h1 : 0 ≤ c) (h2 : c ≤ 255) (h3 : 0 ≤ d) (h4 : d ≤ 4294967295) (w : World) : Calls Try.prog 28 #[.int .i64 c, .int .u32 d] w fun e w' => e = .returned (.int .i64 (stepN c d)) ∧ w = w' := by
  have HO := fun w => Lib.hid (oneOf_any c h1 h2 w)
  have hm := many_pos c
  have hm2 : manyN c ≤ 2501 := by unfold manyN; omega
  have g3 : (0 : Int) ≤ d % manyN c := Int.emod_nonneg _ (by omega)
  have g4 : d % manyN c < manyN c := Int.emod_lt_of_pos _ (by omega)
  by_cases hc : c = 255
  · subst hc
    have hs : Hid (stepN 255 d = 0) := Lib.hid (by unfold stepN; rw [if_pos rfl])
    go_enter Try.func28, Try.ntmps28
    go_wp2_with fail
    refine wp_scope_jumps 0 (fun a' w' => w = w' ∧ a' = { tmps := #[Value.int IntKind.i64 255, Value.int IntKind.u32 d, undef, undef, Value.int IntKind.i64 0, Value.int IntKind.i64 255, Value.bool true, undef, undef, undef, undef, undef], defers := [] }) (fun _ _ => 0) rfl ?_ ?_
    · go_wp2
      go_step3
      exact ⟨rfl, rfl, rfl⟩
    · rintro a' w' ⟨rfl, rfl⟩
      go_wp2
      simp only [Exit.jump]
      go_ret
      exact ⟨ret_int hs.out.symm, rfl⟩
  · have hs : stepN c d = if d % manyN c = 0 then 1 else 0 := by unfold stepN; rw [if_neg hc]
    have hcb : (c == 255) = false := by simpa using hc
    generalize manyN c = m at *
    clear hc
    by_cases hd : d % m = 0
    · have hdb : (d % m == 0) = true := by simpa using hd
      rw [if_pos hd] at hs
      have HS := Lib.hid hs
      clear hs hd
      go_enter Try.func28, Try.ntmps28
      go_wp2_with fail
      refine wp_scope_straight ?_
      go_wp2_with fail
      refine (HO _).out.mono ?_
      rintro e w1 ⟨rfl, rfl⟩
      go_wp2
      simp only [Exit.noGoto]
      go_ret
      exact ⟨ret_int HS.out.symm, rfl⟩
    · have hdb : (d % m == 0) = false := by simpa using hd
      rw [if_neg hd] at hs
      have HS := Lib.hid hs
      clear hs hd
      go_enter Try.func28, Try.ntmps28
      go_wp2_with fail
      refine wp_scope_straight ?_
      go_wp2_with fail
      refine (HO _).out.mono ?_
      rintro e w1 ⟨rfl, rfl⟩
      go_wp2_with fail
      refine wp_label ?_
      go_wp2
      simp only [Exit.noGoto]
      go_ret
      exact ⟨ret_int HS.out.symm, rfl⟩

/-- What a use becomes. -/
def usedU (u : Use) (d : Int) : Use := (u.1 + stepN u.1 d, u.2)
set_option maxRecDepth 100000 in
theorem used_any (c a d : Int) (h1 : 0 ≤ c) (h2 : c ≤ 255) (h3 : 0 ≤ d) (h4 : d ≤ 4294967295) (w : World) : Calls Try.prog 23 #[valU (c, a), .int .u32 d] w fun e w' => e = .returned (valU (c + stepN c d, a)) ∧ Below w.heap.size w w' := by
  have HO := fun w => Lib.hid (step_any c d h1 h2 h3 h4 w)
  obtain ⟨hs1, hs2⟩ := stepN_01 c d
  generalize stepN c d = k at *
  unfold valU
  simp only
  go_enter Try.func23, Try.ntmps23
  have hw : IntKind.i64.wrap (c + k) = c + k := IntWalk.i64_in _ (by omega)
  go_wp2_with fail
  go_region_with ((go_at_call 28; refine (HO _).out.mono ?_; rintro e w' ⟨rfl, rfl⟩))
  all_goals
    go_wp2
    refine bodyPost_ret (v := .agg #[.int .i64 (c + k), .int .i64 a]) (by simp [results, Try.results23, go_sem]) rfl ⟨rfl, ?_⟩
    exact (((Below.refl _ _).alloc (Nat.le_refl _) _).alloc (by simp) _).drew

/-- Whether a use is none, or not begun yet. -/
def wrongB (u : Use) (now : Int) : Bool := !rightB u || decide (now < u.2)
set_option maxRecDepth 100000 in
theorem wrong_any (u : Use) (h : I64U u) (now : Int) (b : Nat) (w : World) (hB : Blk w b 3 #[.int .i64 now]) : Calls Try.prog 27 #[valU u, .pointer (some ⟨b, 0, none⟩)] w fun e w' => e = .returned (.bool (wrongB u now)) ∧ Below w.heap.size w w' := by
  have HR := fun w => Lib.hid (right_any u h w)
  have HW := Lib.hid (show wrongB u now = (!rightB u || decide (now < u.2)) from rfl)
  obtain ⟨c, a⟩ := u
  generalize rightB (c, a) = r at *
  generalize wrongB (c, a) now = v at *
  unfold valU at *
  simp only at HR HW ⊢
  have k0 := hB.alloc (.cells #[.int .i64 c, .int .i64 a] 23)
  have k1 := Blk.new w 23 #[.int .i64 c, .int .i64 a]
  have K0 := Lib.hid k0
  have K1 := Lib.hid k1
  clear hB k0 k1 h
  go_enter Try.func27, Try.ntmps27
  cases r with
  | true =>
    go_wp2_with fail
    refine (HR _).out.mono ?_
    rintro e w1 ⟨rfl, hb⟩
    obtain ⟨a0, _⟩ := facts1 (K0.out.later hb)
    obtain ⟨_, b1, _, _⟩ := facts2 (K1.out.later hb)
    have HB := Lib.hid hb
    clear hb
    go_wp2
    go_ret
    exact ⟨ret_bool (by rw [HW.out]; simp), below2 HB.out⟩
  | false =>
    go_wp2_with fail
    refine (HR _).out.mono ?_
    rintro e w1 ⟨rfl, hb⟩
    have HB := Lib.hid hb
    clear hb
    go_wp2
    go_ret
    exact ⟨ret_bool (by rw [HW.out]; simp), below2 HB.out⟩

/-- Whether one of the uses is wrong. -/
def anyW (l : List Use) (now : Int) : Bool := l.any (fun u => wrongB u now)
theorem anyW_take {l : List Use} {now : Int} {k : Nat} (h : ∀ (j : Nat) (hj : j < l.length), j < k → wrongB l[j] now = false) (hk : l.length ≤ k) : anyW l now = false := by
  unfold anyW
  rw [List.any_eq_false]
  intro u hu
  obtain ⟨j, hj, rfl⟩ := List.mem_iff_getElem.1 hu
  rw [h j hj (by omega)]
  decide

set_option maxRecDepth 100000 in
set_option maxHeartbeats 1000000 in
theorem index_any (a : Option Addr) (cap : Nat) (l : List Use) (hl : ∀ u ∈ l, I64U u) (hz : l.length ≤ 9223372036854775807) (now : Int) (b : Nat) (w : World) (hU : Uses w a l) (hB : Blk w b 3 #[.int .i64 now]) :
    Calls Try.prog 30 #[.slice a l.length cap, .func (.func 27) #[] #[.pointer (some ⟨b, 0, none⟩)]] w fun e w' => ∃ i : Int, e = .returned (.int .i64 i) ∧ decide (i ≥ 0) = anyW l now ∧ Below w.heap.size w w' := by
  have HU := Lib.hid hU
  have HB := Lib.hid hB
  have HL := Lib.hid hl
  clear hU hB hl
  go_enter Try.func30, Try.ntmps30
  go_wp2
  go_loopw [8] (fun i wr => ∃ (k : Nat), i = .int .i64 k ∧ k ≤ l.length ∧ Below w.heap.size w wr ∧ Hid (∀ (j : Nat) (hj : j < l.length), j < k → wrongB l[j] now = false)) (fun i _ => l.length - (intOf i).toNat)
  case atStart => exact ⟨0, rfl, by omega, Below.refl _ _, Lib.hid fun j hj h => by omega⟩
  case round =>
    obtain ⟨k, rfl, hk, hb, hall⟩ := hrel
    by_cases hlt : k < l.length
    · obtain ⟨b2, off, rfl, c0, c1⟩ := (HU.out.below hb) k hlt
      have HW := Lib.hid (wrong_any l[k] (HL.out _ (List.getElem_mem hlt)) now b wr (HB.out.later hb))
      have HK := fun h : wrongB l[k] now = false => Lib.hid (show ∀ (j : Nat) (hj : j < l.length), j < k + 1 → wrongB l[j] now = false from fun j hj h2 => by
        by_cases e : j = k
        · subst e; exact h
        · exact hall.out j hj (by omega))
      have HT := fun h : wrongB l[k] now = true => Lib.hid (show anyW l now = true from List.any_eq_true.2 ⟨_, List.getElem_mem hlt, h⟩)
      have hk2 : (k : Int) < l.length := by omega
      have HBB := Lib.hid hb
      generalize l[k] = u at *
      obtain ⟨c, a⟩ := u
      unfold valU at HW
      simp only at c0 c1 HW
      clear hall hb
      cases hv : wrongB (c, a) now with
      | true =>
        have ht := HT hv
        rw [hv] at HW
        clear HK HT hv
        go_wp2_with fail
        refine HW.out.mono ?_
        rintro e w1 ⟨rfl, hb1⟩
        have HB1 := Lib.hid hb1
        clear hb1
        go_wp2
        go_ret
        exact ⟨_, rfl, by rw [ht.out]; simp, HBB.out.trans (HB1.out.mono HBB.out.size)⟩
      | false =>
        have hf := HK hv
        rw [hv] at HW
        clear HK HT hv
        go_wp2_with fail
        refine HW.out.mono ?_
        rintro e w1 ⟨rfl, hb1⟩
        have HB1 := Lib.hid hb1
        clear hb1
        go_wp2
        go_roundw
        case rel => exact ⟨k + 1, by go_num, by omega, HBB.out.trans (HB1.out.mono HBB.out.size), hf⟩
        case measure => simp [intOf]; omega
    · obtain rfl : k = l.length := by omega
      have hn := anyW_take hall.out (Nat.le_refl _)
      have HN := Lib.hid hn
      have HBB := Lib.hid hb
      clear hn hall hb
      go_wp2
      go_ret
      exact ⟨_, rfl, by rw [HN.out]; decide, HBB.out⟩

set_option maxRecDepth 100000 in
theorem contains_any (a : Option Addr) (cap : Nat) (l : List Use) (hl : ∀ u ∈ l, I64U u) (hz : l.length ≤ 9223372036854775807) (now : Int) (b : Nat) (w : World) (hU : Uses w a l) (hB : Blk w b 3 #[.int .i64 now]) :
    Calls Try.prog 26 #[.slice a l.length cap, .func (.func 27) #[] #[.pointer (some ⟨b, 0, none⟩)]] w fun e w' => e = .returned (.bool (anyW l now)) ∧ Below w.heap.size w w' := by
  have H1 := Lib.hid (index_any a cap l hl hz now b w hU hB)
  clear hl hz hU hB
  go_enter Try.func26, Try.ntmps26
  go_wp2_with fail
  refine H1.out.mono ?_
  rintro e w1 ⟨i, rfl, hi, hb⟩
  have HB := Lib.hid hb
  have HI := Lib.hid hi
  clear hb hi
  go_wp2
  go_ret
  exact ⟨ret_bool (by rw [← HI.out]), HB.out⟩

set_option maxRecDepth 100000 in
theorem known_any (a : Option Addr) (cap : Nat) (l : List Use) (hl : ∀ u ∈ l, I64U u) (hz : l.length ≤ 9223372036854775807) (now : Int) (w : World) (hU : Uses w a l) :
    Calls Try.prog 21 #[.int .i64 now, .slice a l.length cap] w fun e w' => e = .returned (.bool (!anyW l now)) ∧ Below w.heap.size w w' := by
  have H1 := Lib.hid (contains_any a cap l hl hz now w.heap.size (w.alloc (.cells #[.int .i64 now] 3)) (hU.below (alloc_below _ _)) (Blk.new _ _ _))
  clear hl hU
  go_enter Try.func21, Try.ntmps21
  go_wp2_with fail
  refine H1.out.mono ?_
  rintro e w1 ⟨rfl, hb⟩
  have HB := Lib.hid hb
  clear hb
  go_wp2
  go_ret
  exact ⟨rfl, below2 HB.out⟩
end Go.Proofs.Ytpjggdmfgoajbaa
