/- A request's arguments. -/
import Derived.Test.YtbjjgkicjnoegaaDoorRequest
namespace Go.Proofs.YtbjjgkicjnoegaaDoor
open Go.RowKit Go.Shelf

def argumentsS (T : Nat → Int) (l : List UInt8) : Got (List (List UInt8)) :=
  if Lib.hasPrefix l starL then
    match numberS T l with
    | .ok n r => if 64 < n then .wrong else bulksA T n.toNat [] r
    | .more => .more
    | .wrong => .wrong
  else
    match lineS lf 1024 l with
    | .ok p r => if 64 < (wordsS (ba (trimS p))).length then .wrong else .ok (wordsS (ba (trimS p))) r
    | .more => .more
    | .wrong => .wrong

theorem TellsL.pair {b : Nat} {W : World} {g : Got (List (List UInt8))} {e : Ending} {W' : World} (h : TellsL b W g e W') : ∃ v1 v2, e = .returned (.tuple #[v1, v2]) := by
  cases g with
  | ok a r => obtain ⟨v, h, _⟩ := h; exact ⟨_, _, h⟩
  | more => exact ⟨_, _, h.1⟩
  | wrong => exact ⟨_, _, h.1⟩
theorem TellsL.from {b : Nat} {A B : World} {g : Got (List (List UInt8))} {e : Ending} {W' : World} (hg : A.grownBy B (some b)) (h : TellsL b B g e W') : TellsL b A g e W' := by
  cases g with
  | ok a r => obtain ⟨v, h1, h2, h3, h4⟩ := h; exact ⟨v, h1, hg.trans h2, h3, World.ownsRow.mono h4 hg.size⟩
  | more => exact ⟨h.1, hg.trans h.2⟩
  | wrong => exact ⟨h.1, hg.trans h.2⟩

theorem slice_of_owned {W : World} {base : Nat} {v : Value} {ss : List (List UInt8)} (h : Owned W base v ss) : ∃ a c, v = .slice a ss.length c := by
  rcases h.2 with ⟨rfl, h0⟩ | ⟨g, cap, cur, rfl, _⟩
  · exact ⟨none, 0, by rw [h0]⟩
  · exact ⟨_, _, rfl⟩

set_option maxRecDepth 100000 in
set_option maxHeartbeats 4000000 in
theorem arguments_any {T : Nat → Int} (b : Nat) (hb4 : 4 ≤ b) (t : ByteArray) (ht : t.size ≤ 9223372036854775807) (w : World) (hE : Env T w) (hb : Box w b t) :
    Calls Tryd.prog 23 #[.pointer (some ⟨b, 0, none⟩)] w (TellsL b w (argumentsS T t.data.toList)) := by
  have hnn : ∀ W : World, (binOp .neq 57 .nilIface .nilIface).run Tryd.prog W = .ok (.bool false) W := fun W => by simp [go_sem]
  have hne : ∀ (n : Int) (W : World), (binOp .neq 57 (.iface 60 (.int .i64 n)) .nilIface).run Tryd.prog W = .ok (.bool true) W := fun n W => by simp [go_sem]
  have m1 := fun u W => (size_name Tryd.underlying66 u W).1
  have m2 := fun u W => (size_name Tryd.underlying66 u W).2
  have c1 : ∀ args W, (callFunc 88 args).run Tryd.prog W = .ok (.enter 88 args) W := fun _ _ => by kernel_rfl
  have c2 : ∀ args W, (callFunc 84 args).run Tryd.prog W = .ok (.enter 84 args) W := fun _ _ => by kernel_rfl
  have a1 := fun u W => (isWorded u W).1
  have a2 := fun u W => (isWorded u W).2
  have S1 := fun n w => Lib.hid (size_counted n w)
  have S2 := fun a n c w => Lib.hid (size_worded a n c w)
  unfold argumentsS
  cases hs : Lib.hasPrefix t.data.toList starL with
  | true =>
    have HR := request_counted b hb4 t ht w hE hb hs
    rw [if_pos rfl]
    have hsz := fun n r (h : numberS T t.data.toList = .ok n r) => numberS_i64 h
    cases hn : numberS T t.data.toList with
    | more =>
      rw [hn] at HR
      have H1 := Lib.hid HR
      clear HR hsz hn hs hb
      go_enter Tryd.func23, Tryd.ntmps23
      go_wp2_with (go_at_call 26; refine H1.out.mono ?_; rintro e w1 ⟨rfl, hg⟩; simp only [errV, cntV])
      go_ret2
      exact ⟨rfl, hg⟩
    | wrong =>
      rw [hn] at HR
      have H1 := Lib.hid HR
      clear HR hsz hn hs hb
      go_enter Tryd.func23, Tryd.ntmps23
      go_wp2_with (go_at_call 26; refine H1.out.mono ?_; rintro e w1 ⟨rfl, hg⟩; simp only [errV, cntV])
      go_ret2
      exact ⟨rfl, hg⟩
    | ok n r =>
      rw [hn] at HR
      have H1 := Lib.hid HR
      have hni := (hsz _ _ hn).1
      have hrl := (hsz _ _ hn).2
      rw [size_list] at hrl
      clear HR hsz hn hs hb
      simp only
      by_cases h64 : 64 < n
      · rw [if_pos h64]
        go_enter Tryd.func23, Tryd.ntmps23
        go_wp2_with (first
          | (go_at_call 26; refine H1.out.mono ?_; rintro e w1 ⟨rfl, hg, hbx⟩; simp only [cntV])
          | (go_at_call 88; refine (S1 _ _).out.mono ?_; rintro e w2 ⟨rfl, rfl⟩))
        go_ret2
        exact ⟨rfl, hg⟩
      · rw [if_neg h64]
        have HB := fun w1 (hg : w.grownBy w1 (some b)) (hbx : Box w1 b (ba r)) => Lib.hid (bulks_any b hb4 n (by omega) hni (ba r) (by rw [← size_list, ba_list]; omega) w1 (hE.grown hg hb4) hbx)
        simp only [ba_list] at HB
        go_enter Tryd.func23, Tryd.ntmps23
        go_wp2_with (first
          | (go_at_call 26; refine H1.out.mono ?_; rintro e w1 ⟨rfl, hg, hbx⟩; simp only [cntV]; have HB1 := HB w1 hg hbx)
          | (go_at_call 88; refine (S1 _ _).out.mono ?_; rintro e w2 ⟨rfl, rfl⟩))
        refine HB1.out.mono ?_
        intro e w2 h2
        obtain ⟨v1, v2, rfl⟩ := h2.pair
        have H2 := Lib.hid (h2.from hg)
        clear h2
        go_wp2
        go_ret2
        exact H2.out
  | false =>
    have HR := request_worded b t ht w hb hs
    rw [if_neg (by simp)]
    cases hl : lineS lf 1024 t.data.toList with
    | more =>
      rw [hl] at HR
      have H1 := Lib.hid HR
      clear HR hl hs hb
      go_enter Tryd.func23, Tryd.ntmps23
      go_wp2_with (go_at_call 26; refine H1.out.mono ?_; rintro e w1 ⟨v, rfl, hg⟩; simp only [errV])
      go_ret2
      exact ⟨rfl, hg⟩
    | wrong =>
      rw [hl] at HR
      have H1 := Lib.hid HR
      clear HR hl hs hb
      go_enter Tryd.func23, Tryd.ntmps23
      go_wp2_with (go_at_call 26; refine H1.out.mono ?_; rintro e w1 ⟨v, rfl, hg⟩; simp only [errV])
      go_ret2
      exact ⟨rfl, hg⟩
    | ok p r =>
      rw [hl] at HR
      have hws := wordsAt_size (ba (trimS p) ++ ⟨#[32]⟩) (ba (trimS p)) ((ba (trimS p)).size + 1) 0 0
      rw [show wordsAt _ _ _ _ _ = wordsS (ba (trimS p)) from rfl] at hws
      have htp := trimS_size p
      have hp2 := (lineS_size hl).1
      rw [← size_list, ba_list] at hws
      have H1 := Lib.hid HR
      clear HR hl hs hb
      simp only
      by_cases h64 : 64 < (wordsS (ba (trimS p))).length
      · rw [if_pos h64]
        go_enter Tryd.func23, Tryd.ntmps23
        go_wp2_with (first
          | (go_at_call 26; refine H1.out.mono ?_; rintro e w1 ⟨v, rfl, hg, hbx, how⟩; obtain ⟨a, c, rfl⟩ := slice_of_owned how)
          | (go_at_call 84; refine (S2 _ _ _ _).out.mono ?_; rintro e w2 ⟨rfl, rfl⟩))
        go_ret2
        exact ⟨rfl, hg⟩
      · rw [if_neg h64]
        go_enter Tryd.func23, Tryd.ntmps23
        go_wp2_with (first
          | (go_at_call 26; refine H1.out.mono ?_; rintro e w1 ⟨v, rfl, hg, hbx, how⟩; obtain ⟨a, c, rfl⟩ := slice_of_owned how)
          | (go_at_call 84; refine (S2 _ _ _ _).out.mono ?_; rintro e w2 ⟨rfl, rfl⟩))
        go_ret2
        exact ⟨_, rfl, hg, hbx, how⟩

end Go.Proofs.YtbjjgkicjnoegaaDoor
