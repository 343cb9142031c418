/- What the laws share: the examples, the first bytes, the first entries. -/
import Derived.Test.YtioidnfmpbdmhaaMake
namespace Go.Proofs.Ytioidnfmpbdmhaa
open Go.RowKit Go.Shelf
attribute [local go_sem] Oper.semAt_some

/-- The first three thousand bytes. -/
def cutB (s : ByteArray) : ByteArray := s.extract 0 (min s.size 3000)
theorem cutB_size (s : ByteArray) : (cutB s).size ≤ 3000 := by unfold cutB; simp; omega

theorem cut_any (s : ByteArray) (hs : s.size ≤ 9223372036854775807) (w : World) :
    Calls Try.prog 15 #[.string s] w fun e w' => e = .returned (.string (cutB s)) ∧ w' = w := by
  unfold cutB
  obtain ⟨q, hq⟩ : ∃ q, q = min s.size 3000 := ⟨_, rfl⟩
  have hmin : min (s.size : Int) 3000 = (q : Int) := by omega
  have hqs : (q : Int) ≤ s.size := by omega
  have hq0 : (0 : Int) ≤ q := by omega
  rw [← hq]
  clear hq
  go_enter Try.func15, Try.ntmps15
  go_wp2
  go_ret
  exact ⟨rfl, rfl⟩

theorem shown_any (w : World) : Calls Try.prog 10 #[] w fun e w' => e = .returned (.bool true) ∧ Below w.heap.size w w' := by
  have HP := Lib.hid (pack_any (some ⟨w.heap.size, 0, none⟩) 1 [(⟨#[97]⟩, 258)] (by simp) (by simp; decide) (w.alloc (.cells #[.string ⟨#[97]⟩, .int .i64 258] 35)) (ents_one w (⟨#[97]⟩, 258)))
  rw [show packR [((⟨#[97]⟩ : ByteArray), (258 : Int))] = (⟨#[0, 1, 1, 97, 0, 0, 0, 0, 0, 0, 1, 2, 10]⟩, 0) by rfl] at HP
  have HE := fun w => Lib.hid (entriesF_any ⟨#[0, 1]⟩ (by decide) w)
  rw [show rightB ⟨#[0, 1]⟩ = false by decide +kernel] at HE
  have HN := fun w => Lib.hid (new_any w)
  rw [show packB [] = ⟨#[0, 0]⟩ from rfl] at HN
  go_enter Try.func10, Try.ntmps10
  go_wp2_with fail
  refine HP.out.mono ?_
  rintro e w1 ⟨rfl, hb1⟩
  have HB1 := Lib.hid (((Below.refl w.heap.size w).alloc (Nat.le_refl _) (Obj.cells #[Value.string ⟨#[97]⟩, Value.int IntKind.i64 258] 35)).trans (hb1.mono (by simp)))
  clear hb1
  go_wp2_with fail
  refine (HE _).out.mono ?_
  rintro e w2 ⟨r, rfl, _, hb2⟩
  have HB2 := Lib.hid (HB1.out.trans (hb2.mono HB1.out.size))
  clear hb2
  go_wp2_with fail
  refine (HN _).out.mono ?_
  rintro e w3 ⟨rfl, rfl⟩
  go_wp2_with fail
  go_ret
  exact ⟨rfl, HB2.out⟩

end Go.Proofs.Ytioidnfmpbdmhaa
