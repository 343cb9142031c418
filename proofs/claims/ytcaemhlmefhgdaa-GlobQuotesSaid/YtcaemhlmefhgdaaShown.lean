/- shown: the examples that each law asks first: true. -/
import Derived.Test.YtcaemhlmefhgdaaMatch
namespace Go.Proofs.Ytcaemhlmefhgdaa
open Go.RowKit

theorem ex1 : matchS ⟨#[97, 42, 99]⟩ ⟨#[97, 98, 98, 99]⟩ = true := by decide +kernel
theorem ex2 : matchS ⟨#[91, 94, 97, 93]⟩ ⟨#[97]⟩ = false := by decide +kernel
theorem ex3 : matchS ⟨#[92, 42]⟩ ⟨#[42]⟩ = true := by decide +kernel

/-- Behind make: 65 bytes 0. -/
def zeroWorld (w : World) : World := w.alloc (Obj.cells (madeCells #[.int .u8 0] 65) 5)
def zeroString : ByteArray := ⟨(List.replicate 65 (0 : UInt8)).toArray⟩
theorem info5 : (Try.prog.info? 5).map (fun i => (i.zero, i.size, i.bytes)) = some (some (.int .u8 0), 1, 1) := by kernel_rfl
theorem run_zero_make (W : World) : (Instr.makeSlice 33 (.int .i64 65) (.int .i64 65)).run Try.prog W = .ok (.slice (some ⟨W.heap.size, 0, none⟩) 65 65) (zeroWorld W) := by
  obtain ⟨i0, hi0, hz0, hz1, hz2⟩ := info_parts info5
  have := run_make (P := Try.prog) W 33 5 i0 _ Try.underlying33 hi0 hz0 .i64 .i64 65 65 (by omega) (by omega) (by rw [hz2]; omega) (by omega)
  rw [this, hz1]
  rfl
theorem run_zero_convert (W : World) : (convert 33 9 (.slice (some ⟨W.heap.size, 0, none⟩) 65 65)).run Try.prog (zeroWorld W) = .ok (.string zeroString) (zeroWorld W) := by
  have h := run_convert_bytes_back (P := Try.prog) (zeroWorld W) 33 9 5 ⟨W.heap.size, 0, none⟩ 65 (List.replicate 65 (0 : UInt8)) Try.underlying33 Try.underlying5 Try.underlying9 (fun j hj => by
    have hadd : (⟨W.heap.size, 0, none⟩ : Addr).add j = ⟨W.heap.size, j, none⟩ := by unfold Addr.add; split <;> simp_all
    have hj' : j < 65 := by simpa using hj
    rw [hadd, cell_of_row (zeroWorld W) W.heap.size j _ 5 (0, 0) (heap_at rfl)]
    rw [List.getElem_replicate]
    simp [madeCells, hj', Nat.mod_one])
  simpa [zeroString] using h
theorem zeroWorld_below (w : World) : Below w.heap.size w (zeroWorld w) := (Below.refl _ _).alloc (Nat.le_refl _) _

theorem shown_any (w : World) : Calls Try.prog 9 #[] w fun e w' => e = .returned (.bool true) ∧ Below w.heap.size w w' := by
  have H1 := fun w => Lib.hid (match_ok ⟨#[97, 42, 99]⟩ ⟨#[97, 98, 98, 99]⟩ w (by decide) (by decide))
  have H2 := fun w => Lib.hid (match_ok ⟨#[91, 94, 97, 93]⟩ ⟨#[97]⟩ w (by decide) (by decide))
  have H3 := fun w => Lib.hid (match_ok ⟨#[92, 42]⟩ ⟨#[42]⟩ w (by decide) (by decide))
  rw [ex1] at H1
  rw [ex2] at H2
  rw [ex3] at H3
  have H4 := fun w => Lib.hid (match_long zeroString ⟨#[]⟩ w (by decide) (by decide))
  have hmk := run_zero_make
  have hcv := run_zero_convert
  go_enter Try.func9, Try.ntmps9
  go_wp2_with fail
  refine (H1 _).out.mono ?_
  rintro e w1 ⟨rfl, hb1⟩
  go_wp2_with fail
  refine (H2 _).out.mono ?_
  rintro e w2 ⟨rfl, hb2⟩
  go_wp2_with fail
  refine (H3 _).out.mono ?_
  rintro e w3 ⟨rfl, hb3⟩
  go_wp2_with fail
  refine (H4 _).out.mono ?_
  rintro e w4 ⟨rfl, rfl⟩
  clear hmk hcv
  go_wp2
  go_ret
  have b1 := hb1.size
  have b2 := hb2.size
  have b3 := hb3.size
  exact ⟨rfl, ((hb1.trans (hb2.mono b1)).trans (hb3.mono (by omega))).trans ((zeroWorld_below w3).mono (by omega))⟩

end Go.Proofs.Ytcaemhlmefhgdaa
