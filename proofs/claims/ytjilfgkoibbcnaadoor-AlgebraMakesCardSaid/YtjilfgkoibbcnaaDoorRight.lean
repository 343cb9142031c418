/- Sort and Right. -/
import Derived.Test.YtjilfgkoibbcnaaDoorEntries
namespace Go.Proofs.YtjilfgkoibbcnaaDoor
open Go.RowKit Go.Shelf
attribute [local go_sem] Oper.semAt_some

/-- What Sort answers. -/
def sortP (l : List Ent) : List Ent := sortS (scoresM l)
theorem sortP_len (l : List Ent) : (sortP l).length ≤ l.length := by
  unfold sortP
  rw [(sortS_perm _).length_eq]
  have := scoresM_take l l.length
  rwa [List.take_of_length_le (Nat.le_refl _)] at this
def rightP (l : List Ent) : Bool := decide (l = sortP l)

set_option maxRecDepth 100000 in
theorem sortP_any (a : Option Addr) (cap : Nat) (l : List Ent) (hl : OkL l) (w : World) (hE : Ents w a l) :
    Calls Tryd.prog 19 #[.slice a l.length cap] w fun e w' => ∃ r, e = .returned r ∧ Own w' w.heap.size r (sortP l) ∧ Below w.heap.size w w' := by
  have H1 := fun W hE => Lib.hid (scoresOf_any a cap l hl W hE)
  have H2 := fun b W hM => Lib.hid (entries_any b (scoresM l) (by have := scoresM_take l l.length; rw [List.take_of_length_le (Nat.le_refl _)] at this; have := hl.1; omega) W hM)
  have HE := Lib.hid hE
  clear hE
  go_enter Tryd.func19, Tryd.ntmps19
  go_wp2_with fail
  refine (H1 _ HE.out).out.mono ?_
  rintro e w1 ⟨b, rfl, hb, hM, hbel⟩
  have HB := Lib.hid hbel
  have HM := Lib.hid hM
  clear hM hbel hb
  go_wp2_with fail
  refine (H2 _ _ HM.out).out.mono ?_
  rintro e w2 ⟨r, rfl, hO, hbel⟩
  have HO := Lib.hid (show Own w2 w.heap.size r (sortP l) from own_mono hO HB.out.size)
  have HB2 := Lib.hid (HB.out.trans (hbel.mono HB.out.size))
  clear hO hbel
  go_wp2_with fail
  go_ret
  exact ⟨_, rfl, HO.out, HB2.out⟩

set_option maxRecDepth 100000 in
theorem right_one (a : Option Addr) (cap : Nat) (l : List Ent) (hl : OkL l) (w : World) (hE : Ents w a l) :
    Calls Tryd.prog 20 #[.slice a l.length cap] w fun e w' => e = .returned (.bool (rightP l)) ∧ Below w.heap.size w w' := by
  have H1 := fun W hE => Lib.hid (sortP_any a cap l hl W hE)
  have H2 := fun b c W h1 h2 => Lib.hid (equal_any a b cap c l (sortP l) (by have := hl.1; omega) (by have := hl.1; have := sortP_len l; omega) W h1 h2)
  have HE := Lib.hid hE
  have hr : decide (l = sortP l) = rightP l := rfl
  simp only [hr] at H2
  clear hE hr
  go_enter Tryd.func20, Tryd.ntmps20
  go_wp2_with fail
  refine (H1 _ HE.out).out.mono ?_
  rintro e w1 ⟨r, rfl, hO, hbel⟩
  obtain ⟨ar, cr, rfl, hEr, _, _, _⟩ := Own.slice hO
  have HB := Lib.hid hbel
  have HEr := Lib.hid hEr
  clear hO hbel hEr
  go_wp2_with fail
  refine (H2 _ _ _ (HE.out.below HB.out) HEr.out).out.mono ?_
  rintro e w2 ⟨rfl, hbel⟩
  have HB2 := Lib.hid (HB.out.trans (hbel.mono HB.out.size))
  clear hbel
  go_wp2_with fail
  go_ret
  exact ⟨rfl, HB2.out⟩
end Go.Proofs.YtjilfgkoibbcnaaDoor
