/- What is told of scores, and the three ways to make sets out of sets. -/
import Derived.Test.YtjilfgkoibbcnaaDoorRest
import Derived.Test.YtjilfgkoibbcnaaDoorErr
import Derived.Test.YtjilfgkoibbcnaaDoorInsE
namespace Go.Proofs.YtjilfgkoibbcnaaDoor
open Go.RowKit Go.Shelf
attribute [local go_sem] Oper.semAt_some

/-- What is told. -/
def toldP : Option (Option (List Ent)) → List Ent × Int
  | none => ([], 120)
  | some none => ([], 11)
  | some (some M) => (sortS M, 0)



set_option maxRecDepth 100000 in
set_option maxHeartbeats 4000000 in
theorem told_any (a0 a1 : Addr) (R : Option (Option (List Ent))) (hR : ∀ M, R = some (some M) → M.length ≤ 1000000) (mv ev : Value) (w : World) (hE : Env a0 a1 w) (hm : MixIs a0 a1 w mv ev R) :
    Calls Tryd.prog 24 #[mv, ev] w fun e w' => ∃ r, e = .returned (.tuple #[r, .int .i64 (toldP R).2]) ∧ Own w' w.heap.size r (toldP R).1 ∧ Below w.heap.size w w' := by
  obtain ⟨g0, g1, ne, ⟨c0, t0, b0⟩, ⟨c1, t1, b1⟩⟩ := hE
  match R, hm with
  | none, hm =>
    obtain rfl : ev = _ := hm
    have H := Lib.hid (is_same a0 w)
    clear hR hm b0 b1
    go_enter Tryd.func24, Tryd.ntmps24
    go_wp2_with fail
    refine H.out.mono ?_
    rintro e w1 ⟨rfl, rfl⟩
    go_wp2_with fail
    go_ret2
    exact ⟨_, rfl, own_nil _ _, Below.refl _ _⟩
  | some none, hm =>
    obtain rfl : ev = _ := hm
    have H := Lib.hid (is_same a1 w)
    have H0 := Lib.hid (is_other a1 a0 c1 c0 t1 t0 w ne b1 b0)
    clear hR hm b0 b1
    go_enter Tryd.func24, Tryd.ntmps24
    go_wp2_with fail
    refine H0.out.mono ?_
    rintro e w1 ⟨rfl, rfl⟩
    go_wp2_with fail
    refine H.out.mono ?_
    rintro e w1 ⟨rfl, rfl⟩
    go_wp2_with fail
    go_ret2
    exact ⟨_, rfl, own_nil _ _, Below.refl _ _⟩
  | some (some M), hm =>
    obtain ⟨rfl, c, rfl, hM⟩ := hm
    have H := Lib.hid (is_nil a1 w)
    have H0 := Lib.hid (is_nil a0 w)
    have HE := Lib.hid (entries_any c M (hR M rfl) w hM)
    clear hR hM b0 b1
    go_enter Tryd.func24, Tryd.ntmps24
    go_wp2_with fail
    refine H0.out.mono ?_
    rintro e w1 ⟨rfl, rfl⟩
    go_wp2_with fail
    refine H.out.mono ?_
    rintro e w1 ⟨rfl, rfl⟩
    go_wp2_with fail
    refine HE.out.mono ?_
    rintro e w1 ⟨r, rfl, hO, hb⟩
    go_wp2_with fail
    go_ret2
    exact ⟨_, rfl, hO, hb⟩

/-- Unions and intersections. -/
def mixP (agg : Int) (ws : List Int) (least : Int) (ls : List (List Ent)) : List Ent × Int := toldP (mixR agg ws least ls)
/-- Differences. -/
def diffP (ls : List (List Ent)) : List Ent × Int := toldP ((restP ls).map some)
theorem mixR_len {agg : Int} {ws : List Int} {least : Int} {ls : List (List Ent)} (hls : OkS ls) (M : List Ent) (h : mixR agg ws least ls = some (some M)) : M.length ≤ 1000000 := by
  unfold mixR at h
  split at h
  · have := (mixF_facts _ _ _ M (by simpa using h)).2
    have h1 := seqOf_len hls
    have h2 : (sharedS least ls).length ≤ (seqOf ls).length := List.length_filter_le _ _
    omega
  · cases h
theorem restP_len {ls : List (List Ent)} (hls : OkS ls) (M : List Ent) (h : (restP ls).map some = some (some M)) : M.length ≤ 1000000 := by
  unfold restP at h
  split at h
  · simp at h
    subst h
    refine Nat.le_trans (delAll_len _ _) ?_
    have := scoresM_take (ls.headD []) (ls.headD []).length
    rw [List.take_of_length_le (Nat.le_refl _)] at this
    cases ls with
    | nil => simp [scoresM]
    | cons l ls =>
      have := (hls.2 l (by simp)).1
      simp at *
      omega
  · cases h

/-- What the three promise. -/
def Tells (p : List Ent × Int) (w : World) (e : Ending) (w' : World) : Prop := ∃ r, e = .returned (.tuple #[r, .int .i64 p.2]) ∧ Own w' w.heap.size r p.1 ∧ Below w.heap.size w w'

set_option maxRecDepth 100000 in
set_option maxHeartbeats 4000000 in
theorem union_any (a0 a1 : Addr) (agg : Int) (ws : List Int) (hw64 : ∀ x ∈ ws, I64 x) (ls : List (List Ent)) (hls : OkS ls) (aw a : Option Addr) (cw cap : Nat) (w : World) (hE : Env a0 a1 w) (hS : Sets w a ls) (hW : Nums w aw ws) :
    Calls Tryd.prog 12 #[.slice a ls.length cap, .slice aw ws.length cw, .int .i64 agg] w (Tells (mixP agg ws 1 ls) w) := by
  have H := Lib.hid (mixed_any a0 a1 agg 1 ws hw64 ls hls aw a cw cap w hE hS hW)
  have HT := fun mv ev W hE hm => Lib.hid (told_any a0 a1 (mixR agg ws 1 ls) (mixR_len hls) mv ev W hE hm)
  have HE := Lib.hid hE
  clear hE hS hW hls hw64
  go_enter Tryd.func12, Tryd.ntmps12
  go_wp2_with fail
  refine H.out.mono ?_
  rintro e w1 ⟨mv, ev, rfl, hb, hm⟩
  have HT1 := HT mv ev w1 (HE.out.later hb) hm
  have HB := Lib.hid hb
  clear hb hm HT
  go_wp2_with fail
  refine HT1.out.mono ?_
  rintro e w2 ⟨r, rfl, hO, hb⟩
  have hb2 := HB.out.trans (hb.mono HB.out.size)
  have hO2 := own_mono hO HB.out.size
  clear hO hb
  go_wp2_with fail
  go_ret2
  exact ⟨_, rfl, hO2, hb2⟩

set_option maxRecDepth 100000 in
set_option maxHeartbeats 4000000 in
theorem inter_any (a0 a1 : Addr) (agg : Int) (ws : List Int) (hw64 : ∀ x ∈ ws, I64 x) (ls : List (List Ent)) (hls : OkS ls) (aw a : Option Addr) (cw cap : Nat) (w : World) (hE : Env a0 a1 w) (hS : Sets w a ls) (hW : Nums w aw ws) :
    Calls Tryd.prog 14 #[.slice a ls.length cap, .slice aw ws.length cw, .int .i64 agg] w (Tells (mixP agg ws ls.length ls) w) := by
  have H := Lib.hid (mixed_any a0 a1 agg ls.length ws hw64 ls hls aw a cw cap w hE hS hW)
  have HT := fun mv ev W hE hm => Lib.hid (told_any a0 a1 (mixR agg ws ls.length ls) (mixR_len hls) mv ev W hE hm)
  have HE := Lib.hid hE
  clear hE hS hW hls hw64
  go_enter Tryd.func14, Tryd.ntmps14
  go_wp2_with fail
  refine H.out.mono ?_
  rintro e w1 ⟨mv, ev, rfl, hb, hm⟩
  have HT1 := HT mv ev w1 (HE.out.later hb) hm
  have HB := Lib.hid hb
  clear hb hm HT
  go_wp2_with fail
  refine HT1.out.mono ?_
  rintro e w2 ⟨r, rfl, hO, hb⟩
  have hb2 := HB.out.trans (hb.mono HB.out.size)
  have hO2 := own_mono hO HB.out.size
  clear hO hb
  go_wp2_with fail
  go_ret2
  exact ⟨_, rfl, hO2, hb2⟩

theorem rest_any (a0 a1 : Addr) (ls : List (List Ent)) (hls : OkS ls) (a : Option Addr) (cap : Nat) (hcap : ls.length ≤ cap) (w : World) (hE : Env a0 a1 w) (hS : Sets w a ls) :
    Calls Tryd.prog 27 #[.slice a ls.length cap] w fun e w' => ∃ mv ev, e = .returned (.tuple #[mv, ev]) ∧ Below w.heap.size w w' ∧ MixIs a0 a1 w' mv ev ((restP ls).map some) := by
  cases hr : rightsP ls with
  | false =>
    refine (rest_bad a0 a1 ls hls hr a cap w hE hS).mono ?_
    rintro e w' ⟨mv, ev, rfl, hb, rfl⟩
    refine ⟨mv, _, rfl, hb, ?_⟩
    rw [show restP ls = none by unfold restP; rw [hr]; rfl]
    exact rfl
  | true =>
    match ls, hls, hcap, hS, hr with
    | [], _, _, _, hr => exact absurd hr (by decide)
    | l :: ls, hls, hcap, hS, hr =>
      refine (rest_good l ls hls hr a cap hcap w hS).mono ?_
      rintro e w' ⟨p, rfl, hb, hM⟩
      refine ⟨_, _, rfl, hb, ?_⟩
      rw [show restP (l :: ls) = some (delAll (scoresM l) (seqOf ls)) by unfold restP; rw [if_pos hr]; rfl]
      exact ⟨rfl, p, rfl, hM⟩

set_option maxRecDepth 100000 in
set_option maxHeartbeats 4000000 in
theorem diff_any (a0 a1 : Addr) (ls : List (List Ent)) (hls : OkS ls) (a : Option Addr) (cap : Nat) (hcap : ls.length ≤ cap) (w : World) (hE : Env a0 a1 w) (hS : Sets w a ls) :
    Calls Tryd.prog 16 #[.slice a ls.length cap] w (Tells (diffP ls) w) := by
  have H := Lib.hid (rest_any a0 a1 ls hls a cap hcap w hE hS)
  have HT := fun mv ev W hE hm => Lib.hid (told_any a0 a1 ((restP ls).map some) (restP_len hls) mv ev W hE hm)
  have HE := Lib.hid hE
  clear hE hS hls
  go_enter Tryd.func16, Tryd.ntmps16
  go_wp2_with fail
  refine H.out.mono ?_
  rintro e w1 ⟨mv, ev, rfl, hb, hm⟩
  have HT1 := HT mv ev w1 (HE.out.later hb) hm
  have HB := Lib.hid hb
  clear hb hm HT
  go_wp2_with fail
  refine HT1.out.mono ?_
  rintro e w2 ⟨r, rfl, hO, hb⟩
  have hb2 := HB.out.trans (hb.mono HB.out.size)
  have hO2 := own_mono hO HB.out.size
  clear hO hb
  go_wp2_with fail
  go_ret2
  exact ⟨_, rfl, hO2, hb2⟩
end Go.Proofs.YtjilfgkoibbcnaaDoor
