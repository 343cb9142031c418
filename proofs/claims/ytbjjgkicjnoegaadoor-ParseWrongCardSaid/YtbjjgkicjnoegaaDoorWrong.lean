/- The law ParseWrong's walk. -/
import Derived.Test.YtbjjgkicjnoegaaDoorShown
namespace Go.Proofs.YtbjjgkicjnoegaaDoor
open Go.RowKit Go.Shelf

theorem Tryd.info5 : (Tryd.prog.info? 5).map (fun i => (i.zero, i.size, i.bytes)) = some (some (.int .u8 0), 1, 1) := by kernel_rfl

def zerosB (n : Nat) : ByteArray := ba (List.replicate n 0)
theorem zerosB_size (n : Nat) : (zerosB n).size = n := by rw [← size_list, zerosB, ba_list, List.length_replicate]

theorem make_bytes (n : Nat) (hn : n ≤ 100000) (w : World) : (Instr.makeSlice 43 (.int .i64 n) (.int .i64 n)).run Tryd.prog w = .ok (.slice (some ⟨w.heap.size, 0, none⟩) n n) (w.alloc (.cells (madeCells #[.int .u8 0] (n * 1)) 5)) := by
  obtain ⟨i, hi, hz, hs, hb⟩ := info_parts Tryd.info5
  have h := run_make (P := Tryd.prog) w 43 5 i (.int .u8 0) Tryd.underlying43 hi hz .i64 .i64 n n (by omega) (Int.le_refl _) (by rw [hb]; omega) (by omega)
  rw [hs] at h
  simpa [Value.cells] using h
theorem bytes_zeros (n : Nat) (w : World) : (convert 43 9 (.slice (some ⟨w.heap.size, 0, none⟩) n n)).run Tryd.prog (w.alloc (.cells (madeCells #[.int .u8 0] (n * 1)) 5)) = .ok (.string (zerosB n)) (w.alloc (.cells (madeCells #[.int .u8 0] (n * 1)) 5)) := by
  have h := run_convert_bytes_back (P := Tryd.prog) (w.alloc (.cells (madeCells #[.int .u8 0] (n * 1)) 5)) 43 9 5 ⟨w.heap.size, 0, none⟩ n (List.replicate n 0) Tryd.underlying43 Tryd.underlying5 Tryd.underlying9 (fun j hj => by
    have hj' : j < n := by simpa using hj
    have h0 : (w.alloc (.cells (madeCells #[.int .u8 0] (n * 1)) 5)).heap[w.heap.size]? = some (.cells (madeCells #[.int .u8 0] (n * 1)) 5 (0, 0)) := heap_at rfl
    rw [Lib.add_plain, cell_in _ h0, List.getElem_replicate, Nat.zero_add, Nat.mul_one, madeCells, Array.getElem?_map, Array.getElem?_range]
    simp [hj', Nat.mod_one])
  rw [List.length_replicate] at h
  exact h

theorem ret_bool {a b : Bool} (h : a = b) : Ending.returned (.bool a) = .returned (.bool b) := by rw [h]

set_option maxRecDepth 100000 in
set_option maxHeartbeats 4000000 in
theorem wrong_out {T : Nat → Int} (s : ByteArray) (n : Int) (w : World) (hE : Env T w) (hn : n < 0 ∨ 20000 < n) :
    Calls Tryd.prog 5 #[.string s, .int .i64 n] w fun e w' => e = .returned (.bool true) ∧ Below w.heap.size w w' := by
  have H := Lib.hid (shown_any w hE)
  have hd : n < 0 ∨ (¬ n < 0 ∧ 20000 < n) := by omega
  clear hn
  rcases hd with hd | ⟨hd, hd2⟩
  all_goals
    go_enter Tryd.func5, Tryd.ntmps5
    go_wp2_with (go_at_call 8; refine H.out.mono ?_; rintro e w1 ⟨rfl, hb⟩)
    go_ret
    exact ⟨rfl, hb⟩

/-- The first bytes. -/
def cutB (s : ByteArray) (n : Nat) : ByteArray := s.extract 0 (min s.size n)
theorem cutB_size (s : ByteArray) (n : Nat) : (cutB s n).size = min s.size n := by
  rw [cutB, ByteArray.size_extract]; omega

set_option maxRecDepth 100000 in
set_option maxHeartbeats 8000000 in
theorem wrong_in {T : Nat → Int} (s : ByteArray) (hs : s.size ≤ 9223372036854775807) (n : Nat) (hn : n ≤ 20000) (w : World) (hE : Env T w) :
    Calls Tryd.prog 5 #[.string s, .int .i64 n] w fun e w' => e = .returned (.bool true) ∧ Below w.heap.size w w' := by
  have H := Lib.hid (shown_any w hE)
  have HEE := Lib.hid hE
  clear hE
  have d1 : ¬ ((n : Int) < 0) := by omega
  have d2 : ¬ ((20000 : Int) < n) := by omega
  have HN := fun w => Lib.hid (new_any w)
  go_enter Tryd.func5, Tryd.ntmps5
  simp only [List.append_eq, List.cons_append, List.nil_append]
  go_wp2_with (first | (go_at_call 8; refine H.out.mono ?_; rintro e w1 ⟨rfl, hb⟩) | (go_at_call 14; refine (HN _).out.mono ?_; rintro e w2 ⟨rfl, rfl⟩))
  -- p, fed with a wrong request
  have hcl : (s.extract 0 (min (s.size : Int) 1000).toNat).size ≤ 1000 := by rw [ByteArray.size_extract]; omega
  generalize s.extract 0 (min (s.size : Int) 1000).toNat = c at *
  have hP0 : PB (w1.alloc (.cells #[.string ⟨#[]⟩, .bool false] 53)) w1.heap.size ⟨#[]⟩ false := heap_at rfl
  have HF := Lib.hid (feed_ok w1.heap.size ⟨#[]⟩ ⟨#[42, 120, 13, 10]⟩ _ hP0 (by decide))
  have hE1 := (HEE.out.later hb).alloc (.cells #[.string ⟨#[]⟩, .bool false] 53)
  refine HF.out.mono ?_
  rintro e w2 ⟨rfl, rfl⟩
  have hP1 := hP0.set0 (⟨#[]⟩ ++ ⟨#[42, 120, 13, 10]⟩)
  have hg1 := grown_set (w1.alloc (.cells #[.string ⟨#[]⟩, .bool false] 53)) w1.heap.size 0 (.string (⟨#[]⟩ ++ ⟨#[42, 120, 13, 10]⟩))
  have hE2 := hE1.grown hg1 (by have := hE1.size; have := (HEE.out.later hb).size; omega)
  have hB1 : Below w.heap.size w ((w1.alloc (.cells #[.string ⟨#[]⟩, .bool false] 53)).setCell ⟨w1.heap.size, 0, none⟩ (.string (⟨#[]⟩ ++ ⟨#[42, 120, 13, 10]⟩))) := (hb.alloc hb.size _).setCell (p := ⟨w1.heap.size, 0, none⟩) hb.size _
  generalize (w1.alloc (.cells #[.string ⟨#[]⟩, .bool false] 53)).setCell ⟨w1.heap.size, 0, none⟩ (.string (⟨#[]⟩ ++ ⟨#[42, 120, 13, 10]⟩)) = w2 at *
  have hp : w.heap.size ≤ w1.heap.size := hb.size
  have HX := next_any (T := T) w1.heap.size (⟨#[]⟩ ++ ⟨#[42, 120, 13, 10]⟩) (by decide) w2 hE2 hP1
  rw [show (⟨#[]⟩ ++ ⟨#[42, 120, 13, 10]⟩ : ByteArray).data.toList = tC from rfl, args_C] at HX
  have H1 := Lib.hid HX
  generalize w1.heap.size = p at *
  have HB1 := Lib.hid hB1
  have HE2 := Lib.hid hE2
  clear HF HX hP0 hE1 hP1 hg1 hB1 hb hE2
  go_wp2_with fail
  refine H1.out.mono ?_
  rintro e w3 ⟨rfl, hg3, hP3⟩
  clear H1
  have H2 := Lib.hid (feed_told p _ c w3 hP3)
  have H3 := Lib.hid (next_told p _ w3 hP3)
  have HB3 := Lib.hid ((HB1.out).grown hg3 HB1.out.size (fun k e => by cases e; exact hp))
  have HE3 := Lib.hid (HE2.out.grown hg3 (Nat.le_trans HEE.out.size hp))
  clear hg3 hP3 HB1 HE2
  go_wp2_with (first | (go_at_call 15; refine H2.out.mono ?_; rintro e w4 ⟨rfl, rfl⟩) | (go_at_call 18; refine H3.out.mono ?_; rintro e w5 ⟨rfl, rfl⟩) | (go_at_call 14; refine (HN _).out.mono ?_; rintro e w6 ⟨rfl, rfl⟩))
  -- q, fed with noughts
  have hQ0 : PB (w5.alloc (.cells #[.string ⟨#[]⟩, .bool false] 53)) w5.heap.size ⟨#[]⟩ false := heap_at rfl
  have hB6 : Below w.heap.size w (w5.alloc (.cells #[.string ⟨#[]⟩, .bool false] 53)) := HB3.out.alloc HB3.out.size _
  have hq : w.heap.size ≤ w5.heap.size := HB3.out.size
  generalize w5.alloc (.cells #[.string ⟨#[]⟩, .bool false] 53) = w6 at *
  generalize w5.heap.size = q at *
  have hm := make_bytes n (by omega) w6
  have hz := bytes_zeros n w6
  have hQ7 : PB (w6.alloc (.cells (madeCells #[.int .u8 0] (n * 1)) 5)) q ⟨#[]⟩ false := hQ0.later ((Below.refl _ _).alloc (Nat.le_refl _) _)
  have hB7 := hB6.alloc hB6.size (.cells (madeCells #[.int .u8 0] (n * 1)) 5)
  generalize w6.alloc (.cells (madeCells #[.int .u8 0] (n * 1)) 5) = w7 at *
  have hzs := zerosB_size n
  have HFN := fun (t : ByteArray) w => Lib.hid (feed_nil t w)
  have HNN := fun w => Lib.hid (next_nil w)
  have HLN := fun w => Lib.hid (left_nil w)
  by_cases h1 : n ≤ 16384
  · have h1i : ((n : Int) ≤ 16384) := by omega
    have K1 := Lib.hid (feed_ok q ⟨#[]⟩ (zerosB n) w7 hQ7 (by rw [hzs]; show 0 + n ≤ _; omega))
    have hQ8 := hQ7.set0 (⟨#[]⟩ ++ zerosB n)
    have hB8 := hB7.setCell (p := ⟨q, 0, none⟩) hq (.string (⟨#[]⟩ ++ zerosB n))
    have hz8 : (⟨#[]⟩ ++ zerosB n).size = n := by rw [ByteArray.size_append, hzs]; show 0 + n = n; omega
    generalize hw8 : w7.setCell ⟨q, 0, none⟩ (.string (⟨#[]⟩ ++ zerosB n)) = w8 at *
    by_cases h2 : n + c.size ≤ 16384
    · have h2i : ((n : Int) + c.size ≤ 16384) := by omega
      have K2 := Lib.hid (feed_ok q _ c w8 hQ8 (by omega))
      have hB9 := Lib.hid (hB8.setCell (p := ⟨q, 0, none⟩) hq (.string (⟨#[]⟩ ++ zerosB n ++ c)))
      clear hQ0 hQ7 hQ8 hB6 hB7 hB8
      go_simp
      go_wp2_with fail
      refine K1.out.mono ?_
      rintro e w9 ⟨rfl, rfl⟩
      go_wp2_with fail
      refine K2.out.mono ?_
      rintro e w9 ⟨rfl, rfl⟩
      go_wp2_with (first | (go_at_call 18; refine (HNN _).out.mono ?_; rintro e w10 ⟨rfl, rfl⟩) | (go_at_call 15; refine (HFN _ _).out.mono ?_; rintro e w11 ⟨rfl, rfl⟩) | (go_at_call 17; refine (HLN _).out.mono ?_; rintro e w12 ⟨rfl, rfl⟩))
      go_ret
      exact ⟨ret_bool (by simp; try omega), hB9.out⟩
    · have h2i : ¬ ((n : Int) + c.size ≤ 16384) := by omega
      have K2 := Lib.hid (feed_full q _ c (by omega) (by omega) w8 hQ8 (by omega))
      have hB9 := Lib.hid hB8
      clear hQ0 hQ7 hQ8 hB6 hB7 hB8
      go_simp
      go_wp2_with fail
      refine K1.out.mono ?_
      rintro e w9 ⟨rfl, rfl⟩
      go_wp2_with fail
      refine K2.out.mono ?_
      rintro e w9 ⟨rfl, rfl⟩
      go_wp2_with (first | (go_at_call 18; refine (HNN _).out.mono ?_; rintro e w10 ⟨rfl, rfl⟩) | (go_at_call 15; refine (HFN _ _).out.mono ?_; rintro e w11 ⟨rfl, rfl⟩) | (go_at_call 17; refine (HLN _).out.mono ?_; rintro e w12 ⟨rfl, rfl⟩))
      go_ret
      exact ⟨ret_bool (by simp; try omega), hB9.out⟩
  · have h1i : ¬ ((n : Int) ≤ 16384) := by omega
    have K1 := Lib.hid (feed_full q ⟨#[]⟩ (zerosB n) (by omega) (by decide) w7 hQ7 (by rw [hzs]; show _ < 0 + n; omega))
    have hcz : (⟨#[]⟩ ++ c).size = c.size := by rw [ByteArray.size_append]; show 0 + c.size = _; omega
    have K2 := Lib.hid (feed_ok q ⟨#[]⟩ c w7 hQ7 (by show 0 + c.size ≤ _; omega))
    have hQ8 := hQ7.set0 (⟨#[]⟩ ++ c)
    have hB9 := Lib.hid (hB7.setCell (p := ⟨q, 0, none⟩) hq (.string (⟨#[]⟩ ++ c)))
    generalize hw8 : w7.setCell ⟨q, 0, none⟩ (.string (⟨#[]⟩ ++ c)) = w8 at *
    have K3 := left_any q _ false w8 hQ8
    rw [hcz] at K3
    have K4 := Lib.hid K3
    clear hQ0 hQ7 hQ8 hB6 hB7 K3
    go_simp
    go_wp2_with fail
    refine K1.out.mono ?_
    rintro e w9 ⟨rfl, rfl⟩
    go_wp2_with fail
    refine K2.out.mono ?_
    rintro e w9 ⟨rfl, rfl⟩
    go_wp2_with (first | (go_at_call 18; refine (HNN _).out.mono ?_; rintro e w10 ⟨rfl, rfl⟩) | (go_at_call 15; refine (HFN _ _).out.mono ?_; rintro e w11 ⟨rfl, rfl⟩) | (go_at_call 17; refine K4.out.mono ?_; clear K4; rintro e w12 ⟨rfl, rfl⟩) | (go_at_call 17; refine (HLN _).out.mono ?_; rintro e w12 ⟨rfl, rfl⟩))
    go_ret
    exact ⟨ret_bool (by simp; try omega), hB9.out⟩

theorem wrong_any {T : Nat → Int} (s : ByteArray) (hs : s.size ≤ 9223372036854775807) (n : Int) (w : World) (hE : Env T w) :
    Calls Tryd.prog 5 #[.string s, .int .i64 n] w fun e w' => e = .returned (.bool true) ∧ Below w.heap.size w w' := by
  by_cases hn : n < 0 ∨ 20000 < n
  · exact wrong_out s n w hE hn
  · obtain ⟨m, rfl⟩ : ∃ m : Nat, n = m := ⟨n.toNat, by omega⟩
    exact wrong_in s hs m (by omega) w hE

end Go.Proofs.YtbjjgkicjnoegaaDoor
