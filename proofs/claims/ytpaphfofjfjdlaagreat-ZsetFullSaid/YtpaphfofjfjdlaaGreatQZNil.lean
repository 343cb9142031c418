/- A nil set. -/
import Derived.Test.YtpaphfofjfjdlaaGreatQZFour
namespace Go.Proofs.YtpaphfofjfjdlaaGreat
open Go.RowKit Go.Shelf Sk
attribute [local go_sem] Oper.semAt_some

theorem now_nil (w : World) : Calls Tryz.prog 39 #[.pointer none] w fun e w' => ∃ b, e = .returned (.iface 73 (.pointer (some ⟨b, 0, none⟩))) ∧ PackAt w' b [] ∧ w.heap.size ≤ b ∧ Below w.heap.size w w' := by
  have HN := fun W => Lib.hid (Pk.new_any W)
  go_enter Tryz.func39, Tryz.ntmps39
  go_wp2_with fail
  refine (HN _).out.mono ?_
  rintro e w1 ⟨rfl, rfl⟩
  go_wp2_with fail
  go_ret
  exact ⟨_, rfl, ⟨Blk.new _ _ _, empty_pack⟩, Nat.le_refl _, alloc_below _ _⟩
theorem nil_len (w : World) : Calls Tryz.prog 14 #[.pointer none] w fun e w' => e = .returned (.int .i64 0) ∧ Below w.heap.size w w' := by
  have HN := Lib.hid (now_nil w)
  go_enter Tryz.func14, Tryz.ntmps14
  go_wp2_with fail
  refine HN.out.mono ?_
  rintro e w1 ⟨b, rfl, hp, _, hb⟩
  have HB := Lib.hid hb
  have HL := Lib.hid (p_len hp)
  clear hb hp
  go_wp2_with fail
  refine HL.out.mono ?_
  rintro e w2 ⟨rfl, hb⟩
  have HB2 := Lib.hid (HB.out.trans (hb.mono HB.out.size))
  clear hb
  go_wp2_with fail
  go_ret
  exact ⟨rfl, HB2.out⟩
theorem nil_range (f t : Int) (w : World) : Calls Tryz.prog 16 #[.pointer none, .int .i64 f, .int .i64 t] w fun e w' => ∃ a c, e = .returned (.slice a 0 c) ∧ Below w.heap.size w w' := by
  have HN := Lib.hid (now_nil w)
  go_enter Tryz.func16, Tryz.ntmps16
  go_wp2_with fail
  refine HN.out.mono ?_
  rintro e w1 ⟨b, rfl, hp, _, hb⟩
  have HB := Lib.hid hb
  have HL := Lib.hid (p_range hp f t)
  clear hb hp
  go_wp2_with fail
  refine HL.out.mono ?_
  rintro e w2 ⟨r, rfl, hr, hb⟩
  have HB2 := Lib.hid (HB.out.trans (hb.mono HB.out.size))
  obtain ⟨a, c, rfl⟩ := hr.form
  have h0 : (subE [] f t).length = 0 := by rw [subE_len]; unfold t0; simp; omega
  rw [h0]
  clear hb hr h0
  go_wp2_with fail
  go_ret
  exact ⟨a, c, rfl, HB2.out⟩
theorem nil_rank (k : ByteArray) (w : World) : Calls Tryz.prog 24 #[.pointer none, .string k] w fun e w' => e = .returned (.tuple #[.int .i64 0, .bool false]) ∧ Below w.heap.size w w' := by
  have HN := Lib.hid (now_nil w)
  go_enter Tryz.func24, Tryz.ntmps24
  go_wp2_with fail
  refine HN.out.mono ?_
  rintro e w1 ⟨b, rfl, hp, _, hb⟩
  have HB := Lib.hid hb
  have HL := Lib.hid (p_rank hp k)
  rw [show whE [] k = none from rfl] at HL
  clear hb hp
  go_wp2_with fail
  refine HL.out.mono ?_
  rintro e w2 ⟨rfl, hb⟩
  have HB2 := Lib.hid (HB.out.trans (hb.mono HB.out.size))
  clear hb
  go_wp2_with fail
  go_ret2
  exact ⟨rfl, HB2.out⟩
theorem nil_score (k : ByteArray) (w : World) : Calls Tryz.prog 25 #[.pointer none, .string k] w fun e w' => e = .returned (.tuple #[.int .i64 0, .bool false]) ∧ Below w.heap.size w w' := by
  have HN := Lib.hid (now_nil w)
  have hsc := score_p empty_pack k
  rw [show whE [] k = none from rfl] at hsc
  simp only at hsc
  go_enter Tryz.func25, Tryz.ntmps25
  go_wp2_with fail
  refine HN.out.mono ?_
  rintro e w1 ⟨b, rfl, hp, _, hb⟩
  have HB := Lib.hid hb
  have HL := Lib.hid (p_score hp k)
  rw [hsc] at HL
  clear hb hp
  go_wp2_with fail
  refine HL.out.mono ?_
  rintro e w2 ⟨rfl, hb⟩
  have HB2 := Lib.hid (HB.out.trans (hb.mono HB.out.size))
  clear hb
  go_wp2_with fail
  go_ret2
  exact ⟨rfl, HB2.out⟩
theorem nil_cut (f t : Int) (w : World) : Calls Tryz.prog 33 #[.pointer none, .int .i64 f, .int .i64 t] w fun e w' => e = .returned (.int .i64 0) ∧ Below w.heap.size w w' := by
  have HN := Lib.hid (now_nil w)
  have h0 : (subE [] f t).length = 0 := by rw [subE_len]; unfold t0; simp; omega
  have H0 := Lib.hid h0
  clear h0
  go_enter Tryz.func33, Tryz.ntmps33
  go_wp2_with fail
  refine HN.out.mono ?_
  rintro e w1 ⟨b, rfl, hp, hbb, hb⟩
  have HL := Lib.hid (p_cut hp List.Pairwise.nil f t)
  rw [H0.out] at HL
  have HF := Lib.hid (fun w2 (hf : Far (fun k => k = b) w1 w2) => show Below w.heap.size w w2 from hb.trans (hf.below (fun k hk => by rw [hk]; exact hbb) hb.size))
  clear hb hp
  go_wp2_with fail
  refine HL.out.mono ?_
  rintro e w2 ⟨rfl, _, hf⟩
  have HB2 := Lib.hid (HF.out w2 hf)
  clear hf
  go_wp2_with fail
  go_ret
  exact ⟨rfl, HB2.out⟩
theorem nil_remove (k : ByteArray) (w : World) : Calls Tryz.prog 32 #[.pointer none, .string k] w fun e w' => e = .returned (.bool false) ∧ Below w.heap.size w w' := by
  have HN := Lib.hid (nil_rank k w)
  go_enter Tryz.func32, Tryz.ntmps32
  go_wp2_with fail
  refine HN.out.mono ?_
  rintro e w1 ⟨rfl, hb⟩
  have HB := Lib.hid hb
  clear hb
  go_wp2_with fail
  go_ret
  exact ⟨rfl, HB.out⟩
theorem nil_add (k : ByteArray) (sc lv : Int) (w : World) : Calls Tryz.prog 31 #[.pointer none, .string k, .int .i64 sc, .int .i64 lv] w fun e w' => e = .returned (.tuple #[.bool false, .int .i64 1]) ∧ w' = w := by
  go_enter Tryz.func31, Tryz.ntmps31
  go_wp2
  go_ret2
  exact ⟨rfl, rfl⟩
theorem nil_enc (w : World) : Calls Tryz.prog 18 #[.pointer none] w fun e w' => e = .returned (.string ⟨#[]⟩) ∧ w' = w := by
  go_enter Tryz.func18, Tryz.ntmps18
  go_wp2
  go_ret
  exact ⟨rfl, rfl⟩
theorem nil_bytes (w : World) : Calls Tryz.prog 20 #[.pointer none] w fun e w' => e = .returned (.int .i64 0) ∧ w' = w := by
  go_enter Tryz.func20, Tryz.ntmps20
  go_wp2
  go_ret
  exact ⟨rfl, rfl⟩
set_option maxRecDepth 100000 in
theorem nil_between (f1 f3 t1 t3 : Int) (f2 t2 : Bool) (w : World) : Calls Tryz.prog 27 #[.pointer none, .agg #[.int .i64 f1, .bool f2, .int .i64 f3], .agg #[.int .i64 t1, .bool t2, .int .i64 t3]] w fun e w' => e = .returned (.tuple #[.int .i64 0, .int .i64 0]) ∧ Below w.heap.size w w' := by
  have HN := fun W => Lib.hid (now_nil W)
  have HL := fun W b A cb (hp : PackAt W b []) (ha : Ask W A cb [] 0) => Lib.hid (p_lead hp ha)
  have HA := Lib.hid (fun W cb => show Ask W 42 cb [] 0 from ⟨enters_of Tryz.func42 (by kernel_rfl) rfl, Nat.le_refl _, fun W _ i x h => by simp at h⟩)
  have HA2 := Lib.hid (fun W cb => show Ask W 44 cb [] 0 from ⟨enters_of Tryz.func44 (by kernel_rfl) rfl, Nat.le_refl _, fun W _ i x h => by simp at h⟩)
  go_enter Tryz.func27, Tryz.ntmps27
  go_wp2_with fail
  refine (HN _).out.mono ?_
  rintro e w1 ⟨b, rfl, hp, _, hb⟩
  have HB := Lib.hid (show Below w.heap.size w w1 from ((((Below.refl _ _).alloc (Nat.le_refl _) _).alloc (by simp) _).alloc (by simp; omega) _).alloc (by simp; omega) _ |>.trans (hb.mono (by simp; omega)))
  have HL1 := fun cb => HL w1 b 42 cb hp (HA.out _ _)
  clear hb hp HA
  go_wp2_with fail
  refine (HL1 _).out.mono ?_
  rintro e w2 ⟨rfl, hb⟩
  have HB2 := Lib.hid (HB.out.trans (hb.mono HB.out.size))
  clear hb HL1 HB
  go_wp2_with fail
  refine (HN _).out.mono ?_
  rintro e w3 ⟨b3, rfl, hp, _, hb⟩
  have HB3 := Lib.hid (HB2.out.trans (hb.mono HB2.out.size))
  have HL3 := fun cb => HL w3 b3 44 cb hp (HA2.out _ _)
  clear hb hp HA2
  go_wp2_with fail
  refine (HL3 _).out.mono ?_
  rintro e w4 ⟨rfl, hb⟩
  have HB4 := Lib.hid (HB3.out.trans (hb.mono HB3.out.size))
  clear hb HL3
  go_wp2_with fail
  go_ret2
  exact ⟨rfl, HB4.out⟩
end Go.Proofs.YtpaphfofjfjdlaaGreat
