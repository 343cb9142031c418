/- What every law asks first: three texts are split. -/
import Derived.Test.YtbjjgkicjnoegaaDoorTexts
namespace Go.Proofs.YtbjjgkicjnoegaaDoor
open Go.RowKit Go.Shelf

def getL : List UInt8 := [71, 69, 84]
def kL : List UInt8 := [107]
def pingL : List UInt8 := [80, 73, 78, 71]
/-- "*2", "$3", "GET", "$1", "k", each with END, "PING". -/
def tA : List UInt8 := [42, 50, 13, 10, 36, 51, 13, 10, 71, 69, 84, 13, 10, 36, 49, 13, 10, 107, 13, 10, 80, 73, 78, 71]
def tB : List UInt8 := [71, 69, 84, 32, 32, 107, 10]
def tC : List UInt8 := [42, 120, 13, 10]

theorem numberS_of {T : Nat → Int} {l p r : List UInt8} {n : Int} (h : lineS endL 32 l = .ok p r) (hp : parseS T (p.drop 1) = some n) : numberS T l = .ok n r := by
  unfold numberS; rw [h]; simp only [hp]
theorem bulkS_of {T : Nat → Int} {l r s q : List UInt8} {n : Nat} (h0 : l.head? = some 36) (h : numberS T l = .ok n r) (hn : n ≤ 512) (hb : bytesS n r = .ok s q) : bulkS T l = .ok s q := by
  unfold bulkS
  rw [if_neg (by simp [h0]), h]
  simp only
  rw [if_neg (by omega)]
  simpa using hb

theorem args_A (T : Nat → Int) : argumentsS T tA = .ok [getL, kL] pingL := by
  unfold argumentsS
  rw [if_pos (by decide), numberS_of (l := tA) (p := [42, 50]) (r := [36, 51, 13, 10, 71, 69, 84, 13, 10, 36, 49, 13, 10, 107, 13, 10, 80, 73, 78, 71]) (n := 2) (by rfl) (parse_two T)]
  simp only
  rw [if_neg (by omega), show (2 : Int).toNat = 2 from rfl, bulksA, bulkS_of (n := 3) (r := [71, 69, 84, 13, 10, 36, 49, 13, 10, 107, 13, 10, 80, 73, 78, 71]) (s := getL) (q := [36, 49, 13, 10, 107, 13, 10, 80, 73, 78, 71]) (by rfl)
    (numberS_of (p := [36, 51]) (by rfl) (parse_three T)) (by omega) (by rfl)]
  simp only
  rw [bulksA, bulkS_of (n := 1) (r := [107, 13, 10, 80, 73, 78, 71]) (s := kL) (q := pingL) (by rfl) (numberS_of (p := [36, 49]) (by rfl) (parse_one T)) (by omega) (by rfl)]
  rfl

theorem args_B (T : Nat → Int) : argumentsS T tB = .ok [getL, kL] [] := by
  unfold argumentsS
  rw [if_neg (by decide), show lineS lf 1024 tB = .ok [71, 69, 84, 32, 32, 107] [] by rfl]
  simp only
  rw [show wordsS (ba (trimS [71, 69, 84, 32, 32, 107])) = [getL, kL] by decide +kernel]
  rfl

theorem args_C (T : Nat → Int) : argumentsS T tC = .wrong := by
  unfold argumentsS
  rw [if_pos (by decide), show numberS T tC = .wrong by
    unfold numberS
    rw [show lineS endL 32 tC = .ok [42, 120] [] by rfl]
    simp only [List.drop_succ_cons, List.drop_zero, parse_x T]]

theorem two_strs {w : World} : Strs (w.alloc (Obj.cells #[.string ⟨#[71, 69, 84]⟩, .string ⟨#[107]⟩] 9)) (.slice (some ⟨w.heap.size, 0, none⟩) 2 2) [getL, kL] := by
  refine ⟨_, _, rfl, fun i hi => ⟨w.heap.size, 0, rfl, ?_⟩⟩
  have h : (w.alloc (Obj.cells #[.string ⟨#[71, 69, 84]⟩, .string ⟨#[107]⟩] 9)).heap[w.heap.size]? = some (Obj.cells #[.string ⟨#[71, 69, 84]⟩, .string ⟨#[107]⟩] 9 (0, 0)) := heap_at rfl
  rw [cell_in _ h]
  match i, hi with
  | 0, _ => rfl
  | 1, _ => rfl

set_option maxRecDepth 100000 in
set_option maxHeartbeats 4000000 in
theorem shown_any {T : Nat → Int} (w : World) (hE : Env T w) : Calls Tryd.prog 8 #[] w fun e w' => e = .returned (.bool true) ∧ Below w.heap.size w w' := by
  have HA := fun w (hE : Env T w) => Split_any (T := T) (ba tA) (by decide) w hE
  have HB := fun w (hE : Env T w) => Split_any (T := T) (ba tB) (by decide) w hE
  have HC := fun w (hE : Env T w) => Split_any (T := T) (ba tC) (by decide) w hE
  simp only [ba_list, args_A, args_B, args_C] at HA HB HC
  have H1 := fun w (hE : Env T w) => Lib.hid (HA w hE)
  have H2 := fun w (hE : Env T w) => Lib.hid (HB w hE)
  have H3 := fun w (hE : Env T w) => Lib.hid (HC w hE)
  have H10 := H1 w hE
  have HEE := Lib.hid hE
  clear HA HB HC H1 hE
  go_enter Tryd.func8, Tryd.ntmps8
  go_wp2_with fail
  refine H10.out.mono ?_
  rintro e w1 ⟨va, rfl, hb1, hoa⟩
  have H20 := H2 w1 (HEE.out.later hb1)
  clear H10 H2
  go_wp2_with fail
  refine H20.out.mono ?_
  rintro e w2 ⟨vb, rfl, hb2, hob⟩
  have H30 := H3 w2 ((HEE.out.later hb1).later hb2)
  clear H20 H3
  go_wp2_with fail
  refine H30.out.mono ?_
  rintro e w3 ⟨rfl, hb3⟩
  clear H30
  have SA : Strs w3 va [getL, kL] := ((Strs.of_owned hoa).later hb2).later hb3
  have SB : Strs w3 vb [getL, kL] := (Strs.of_owned hob).later hb3
  have hB : Below w.heap.size w w3 := hb1.trans ((hb2.trans (hb3.mono hb2.size)).mono hb1.size)
  clear hb1 hb2 hb3 hoa hob
  have e1 : (ba pingL).toList = [80, 73, 78, 71] := by rw [Lib.toList_data]; rfl
  have e2 : (ba []).toList = [] := by rw [Lib.toList_data]; rfl
  go_wp2_with fail
  have hB4 : Below w3.heap.size w3 (w3.alloc (Obj.cells #[.string ⟨#[71, 69, 84]⟩, .string ⟨#[107]⟩] 9)) := (Below.refl _ _).alloc (Nat.le_refl _) _
  have X1 := Lib.hid (texts_any va _ [getL, kL] [getL, kL] (by decide) (by decide) _ (SA.later hB4) (two_strs (w := w3)))
  have HB4 := Lib.hid (hB.trans (hB4.mono hB.size))
  have SB4 := Lib.hid (SB.later hB4)
  clear SA SB hB hB4
  refine X1.out.mono ?_
  clear X1
  rintro e w5 ⟨rfl, n, rfl⟩
  have hB5 : Below w.heap.size w ((w3.alloc (Obj.cells #[.string ⟨#[71, 69, 84]⟩, .string ⟨#[107]⟩] 9)).drewN n) := below_drewN HB4.out _
  have SB5 : Strs ((w3.alloc (Obj.cells #[.string ⟨#[71, 69, 84]⟩, .string ⟨#[107]⟩] 9)).drewN n) vb [getL, kL] := SB4.out
  generalize (w3.alloc (Obj.cells #[.string ⟨#[71, 69, 84]⟩, .string ⟨#[107]⟩] 9)).drewN n = w6 at *
  simp only [decide_true]
  have hB7 : Below w6.heap.size w6 (w6.alloc (Obj.cells #[.string ⟨#[71, 69, 84]⟩, .string ⟨#[107]⟩] 9)) := (Below.refl _ _).alloc (Nat.le_refl _) _
  have X2 := Lib.hid (texts_any vb _ [getL, kL] [getL, kL] (by decide) (by decide) _ (SB5.later hB7) (two_strs (w := w6)))
  have HB7 := Lib.hid (hB5.trans (hB7.mono hB5.size))
  clear HB4 SB4 hB5 SB5 hB7
  go_wp2_with fail
  refine X2.out.mono ?_
  clear X2
  rintro e w7 ⟨rfl, n2, rfl⟩
  simp only [decide_true]
  go_wp2
  go_ret
  exact ⟨rfl, below_drewN HB7.out _⟩

end Go.Proofs.YtbjjgkicjnoegaaDoor
