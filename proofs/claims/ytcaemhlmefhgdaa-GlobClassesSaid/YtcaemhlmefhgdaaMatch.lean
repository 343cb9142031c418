/- Match: what it answers at every pattern of at most 64 bytes, every text of at most 512; and that a longer pattern is refused. -/
import Derived.Test.YtcaemhlmefhgdaaFills
namespace Go.Proofs.Ytcaemhlmefhgdaa
open Go.RowKit

def matchS (p s : ByteArray) : Bool := fillsS (partsS (runesS p)) (runesS s)

theorem runesFrom_eq (s : ByteArray) : ∀ (b i : Nat) (acc : Array Value), Conv.runesFrom s b i acc = acc ++ ((runesAt s b i).map (Value.int .i32)).toArray
  | 0, i, acc => by simp [Conv.runesFrom, runesAt]
  | b + 1, i, acc => by
    unfold Conv.runesFrom runesAt
    split
    · show Conv.runesFrom s b (i + (Utf8.decode s i).2) (acc.push (.int .i32 (Int.ofNat (Utf8.decode s i).1))) = _
      rw [runesFrom_eq s b]
      apply Array.ext'
      simp
    · simp
theorem runesFrom_all (s : ByteArray) : Conv.runesFrom s s.size 0 #[] = ((runesS s).map (Value.int .i32)).toArray := by
  rw [runesFrom_eq]; simp [runesS]
theorem runesAt_length (s : ByteArray) : ∀ b i, (runesAt s b i).length ≤ b
  | 0, i => by simp [runesAt]
  | b + 1, i => by
    unfold runesAt
    split
    · simp; exact runesAt_length s b _
    · simp
theorem runesS_length (s : ByteArray) : (runesS s).length ≤ s.size := runesAt_length s _ _

/-- The world behind '[]rune(p)'. -/
def runesWorld (w : World) (p : ByteArray) (cap : Nat) : World := w.drew.alloc (Obj.cells (((runesS p).map (Value.int .i32)).toArray ++ Array.replicate (cap - (runesS p).length) (.int .i32 0)) 21)

theorem run_runes (w : World) (p : ByteArray) (hp : p.size ≤ 100000) :
    ∃ cap, (runesS p).length ≤ cap ∧ (convert 9 29 (.string p)).run Try.prog w = .ok (.slice (some ⟨w.heap.size, 0, none⟩) (runesS p).length cap) (runesWorld w p cap) := by
  have hl := runesS_length p
  have h := run_runes_of_string (P := Try.prog) w 9 29 21 p Try.underlying9 Try.underlying29 Try.underlying21 (by rw [runesFrom_all]; simp; omega)
  have hg := grownCap_ge w (runesS p).length 0 21
  rw [runesFrom_all] at h
  simp only [List.size_toArray, List.length_map] at h
  exact ⟨_, hg, h⟩
theorem runesWorld_below (w : World) (p : ByteArray) (cap : Nat) : Below w.heap.size w (runesWorld w p cap) := (Below.refl _ _).drew.alloc (Nat.le_refl _) _
theorem runesWorld_runes (w : World) (p : ByteArray) (cap : Nat) (hp : p.size ≤ 100000) : Runes (runesWorld w p cap) (some ⟨w.heap.size, 0, none⟩) (runesS p) := by
  have hl := runesS_length p
  refine ⟨by omega, fun j hj => ⟨w.heap.size, 0, rfl, ?_, by simp [runesWorld]⟩⟩
  have hb : (runesWorld w p cap).heap[w.heap.size]? = some (Obj.cells (((runesS p).map (Value.int .i32)).toArray ++ Array.replicate (cap - (runesS p).length) (.int .i32 0)) 21 (0, 0)) := heap_at rfl
  rw [Nat.zero_add, cell_of_row _ _ j _ 21 (0, 0) hb, Array.getElem?_append_left (by simpa using hj)]
  simp [List.getD, List.getElem?_eq_getElem hj]
theorem runesWorld_size (w : World) (p : ByteArray) (cap : Nat) : (runesWorld w p cap).heap.size = w.heap.size + 1 := by simp [runesWorld]

set_option maxHeartbeats 1000000 in
theorem match_ok (p s : ByteArray) (w : World) (hp : p.size ≤ 64) (hs : s.size ≤ 512) :
    Calls Try.prog 17 #[.string p, .string s] w fun e w' => e = .returned (.tuple #[.bool (matchS p s), .int .i64 0]) ∧ Below w.heap.size w w' := by
  obtain ⟨cap, hcap, hrun⟩ := run_runes w p (by omega)
  have hR := runesWorld_runes w p cap (by omega)
  have hb := runesWorld_below w p cap
  have hz := runesWorld_size w p cap
  have HP := Lib.hid (parts_any _ cap _ _ hR hcap (fun g off e => by cases e; omega))
  generalize runesWorld w p cap = w1 at *
  clear hz hR
  have HB := Lib.hid hb
  clear hb hcap
  go_enter Try.func17, Try.ntmps17
  go_wp2_with fail
  refine HP.out.mono ?_
  clear HP hrun
  rintro e w2 ⟨a', cap', rfl, hPs, hb2⟩
  have HF := Lib.hid (fills_any s a' _ cap' _ w2 hPs rfl)
  clear hPs
  go_wp2_with fail
  refine HF.out.mono ?_
  rintro e w3 ⟨rfl, hb3⟩
  go_wp2
  go_ret2
  have hz := HB.out.size
  exact ⟨rfl, HB.out.trans ((hb2.mono hz).trans (hb3.mono (Nat.le_trans hz hb2.size)))⟩

set_option maxHeartbeats 1000000 in
theorem match_long (p s : ByteArray) (w : World) (hp : 64 < p.size) (hp2 : p.size ≤ 100000) :
    Calls Try.prog 17 #[.string p, .string s] w fun e w' => e = .returned (.tuple #[.bool false, .int .i64 20]) ∧ w' = w := by
  have h0 : (64 : Int) < (p.size : Int) := by omega
  go_enter Try.func17, Try.ntmps17
  go_wp2
  go_ret2
  exact ⟨rfl, rfl⟩

end Go.Proofs.Ytcaemhlmefhgdaa
