/- What is in a range. -/
import Derived.Test.YtpaphfofjfjdlaaGreatQBdSide
namespace Go.Proofs.YtpaphfofjfjdlaaGreat.Bd
open Go.RowKit
attribute [local go_sem] Oper.semAt_some

/-- Above the first end, below the second. -/
def End.upB (m : ByteArray) (s : Int) (x : End) : Bool := if x.isOut then x.side m s == 1 else x.side m s != -1
def End.downB (m : ByteArray) (s : Int) (x : End) : Bool := if x.isOut then x.side m s == -1 else x.side m s != 1

theorem lets_up (x : End) (m : ByteArray) (s : Int) (w : World) : Calls Tryz.prog 66 #[x.v, .agg #[.string m, .int .i64 s], .int .i64 1] w fun e w' => e = .returned (.bool (x.upB m s)) ∧ Below w.heap.size w w' := by
  cases x
  · exact lets_scoreUp _ s m w
  · exact lets_memberUp _ s m w
  · exact lets_farUp _ s m w
  · exact lets_noScoreUp _ s m w
  · exact lets_noMemberUp _ s m w
theorem lets_down (x : End) (m : ByteArray) (s : Int) (w : World) : Calls Tryz.prog 66 #[x.v, .agg #[.string m, .int .i64 s], .int .i64 (-1)] w fun e w' => e = .returned (.bool (x.downB m s)) ∧ Below w.heap.size w w' := by
  cases x
  · exact lets_scoreDown _ s m w
  · exact lets_memberDown _ s m w
  · exact lets_farDown _ s m w
  · exact lets_noScoreDown _ s m w
  · exact lets_noMemberDown _ s m w

theorem bcell {W w1 : World} (hb : Below W.heap.size W w1) : (∀ b o, b < W.heap.size → w1.cell? ⟨b, o, none⟩ = W.cell? ⟨b, o, none⟩) ∧ (∀ b o, b < W.heap.size → w1.frozen? ⟨b, o, none⟩ = W.frozen? ⟨b, o, none⟩) :=
  ⟨fun b o h => hb.cell (p := ⟨b, o, none⟩) h, fun b o h => hb.frozen (p := ⟨b, o, none⟩) h⟩

set_option maxRecDepth 100000 in
theorem within_any (x y : End) (m : ByteArray) (s : Int) (w : World) : Calls Tryz.prog 55 #[.agg #[.string m, .int .i64 s], x.v, y.v] w fun e w' => e = .returned (.bool (x.upB m s && y.downB m s)) ∧ Below w.heap.size w w' := by
  have HU := fun w => Lib.hid (lets_up x m s w)
  have HD := fun w => Lib.hid (lets_down y m s w)
  generalize x.upB m s = a at *
  generalize y.downB m s = b at *
  generalize x.v = xv at *
  generalize y.v = yv at *
  cases a
  · go_enter Tryz.func55, Tryz.ntmps55
    go_wp2_with (first | (refine (HU _).out.mono ?_; rintro e w1 ⟨rfl, hb⟩))
    go_ret
    exact ⟨rfl, ((Below.refl _ _).alloc (Nat.le_refl _) _).trans (hb.mono (by simp))⟩
  · go_enter Tryz.func55, Tryz.ntmps55
    go_wp2_with fail
    refine (HU _).out.mono ?_
    rintro e w1 ⟨rfl, hb⟩
    obtain ⟨hc, hf⟩ := bcell hb
    go_wp2_with fail
    refine (HD _).out.mono ?_
    rintro e w2 ⟨rfl, hb2⟩
    go_wp2_with fail
    go_ret
    exact ⟨rfl, (((Below.refl _ _).alloc (Nat.le_refl _) _).trans (hb.mono (by simp))).trans (hb2.mono (by have := hb.size; simp at this; omega))⟩

/-- The end of a bound. -/
def scoreE (n : Int) (out : Bool) (inf : Int) : End := if inf ≠ 0 then .far inf else if out then .noScore n else .score n
def memberE (s : ByteArray) (out : Bool) (inf : Int) : End := if inf ≠ 0 then .far inf else if out then .noMember s else .member s

theorem endAt_far (v : Value) (out : Bool) (inf : Int) (h : inf ≠ 0) (w : World) : Calls Tryz.prog 67 #[v, .bool out, .int .i64 inf] w fun e w' => e = .returned (.iface 127 (.int .i64 inf)) ∧ w' = w := by
  have h2 : (inf != 0) = true := by simpa using h
  have h3 : (inf == 0) = false := by simpa using h
  go_enter Tryz.func67, Tryz.ntmps67
  go_wp2
  go_ret
  exact ⟨rfl, rfl⟩
theorem endAt_out (T : TypeId) (u : Value) (w : World) : Calls Tryz.prog 67 #[.iface T u, .bool true, .int .i64 0] w fun e w' => e = .returned (.iface 125 (.agg #[.iface T u])) ∧ w' = w := by
  go_enter Tryz.func67, Tryz.ntmps67
  go_wp2
  go_ret
  exact ⟨rfl, rfl⟩
theorem endAt_at (v : Value) (w : World) : Calls Tryz.prog 67 #[v, .bool false, .int .i64 0] w fun e w' => e = .returned v ∧ w' = w := by
  go_enter Tryz.func67, Tryz.ntmps67
  go_wp2
  go_ret
  exact ⟨rfl, rfl⟩
theorem endAt_score (n : Int) (out : Bool) (inf : Int) (w : World) : Calls Tryz.prog 67 #[.iface 113 (.int .i64 n), .bool out, .int .i64 inf] w fun e w' => e = .returned (scoreE n out inf).v ∧ w' = w := by
  unfold scoreE
  by_cases h : inf = 0
  · subst h
    cases out
    · exact endAt_at _ w
    · exact endAt_out _ _ w
  · rw [if_pos h]; exact endAt_far _ _ _ h w
theorem endAt_member (n : ByteArray) (out : Bool) (inf : Int) (w : World) : Calls Tryz.prog 67 #[.iface 114 (.string n), .bool out, .int .i64 inf] w fun e w' => e = .returned (memberE n out inf).v ∧ w' = w := by
  unfold memberE
  by_cases h : inf = 0
  · subst h
    cases out
    · exact endAt_at _ w
    · exact endAt_out _ _ w
  · rw [if_pos h]; exact endAt_far _ _ _ h w

theorem scoreEnd_any (n : Int) (out : Bool) (inf : Int) (w : World) : Calls Tryz.prog 56 #[.agg #[.int .i64 n, .bool out, .int .i64 inf]] w fun e w' => e = .returned (scoreE n out inf).v ∧ Below w.heap.size w w' := by
  have H := fun w => Lib.hid (endAt_score n out inf w)
  go_enter Tryz.func56, Tryz.ntmps56
  go_wp2_with (first | (refine (H _).out.mono ?_; rintro e w1 ⟨rfl, rfl⟩))
  go_ret
  exact ⟨rfl, (Below.refl _ _).alloc (Nat.le_refl _) _⟩
theorem memberEnd_any (n : ByteArray) (out : Bool) (inf : Int) (w : World) : Calls Tryz.prog 58 #[.agg #[.string n, .bool out, .int .i64 inf]] w fun e w' => e = .returned (memberE n out inf).v ∧ Below w.heap.size w w' := by
  have H := fun w => Lib.hid (endAt_member n out inf w)
  go_enter Tryz.func58, Tryz.ntmps58
  go_wp2_with (first | (refine (H _).out.mono ?_; rintro e w1 ⟨rfl, rfl⟩))
  go_ret
  exact ⟨rfl, (Below.refl _ _).alloc (Nat.le_refl _) _⟩

/-- What In and InEdge answer. -/
def inB (n : Int) (x y : End) : Bool := x.upB ⟨#[]⟩ n && y.downB ⟨#[]⟩ n
def inEdgeB (s : ByteArray) (x y : End) : Bool := x.upB s 0 && y.downB s 0

end Go.Proofs.YtpaphfofjfjdlaaGreat.Bd
