/- A reader's reply: arrays within each other, and a number within them. -/
import Derived.Test.YtjcgfbmkgfhnaaaDoorReplyOk
import Derived.Test.YtjcgfbmkgfhnaaaDoorDecode
namespace Go.Proofs.YtjcgfbmkgfhnaaaDoor
open Go.RowKit Go.Shelf
attribute [local go_sem] Oper.semAt_some

set_option maxRecDepth 100000 in
set_option maxHeartbeats 2000000 in
theorem reply_array_ok {b : Nat} {q : List UInt8} {qq : ByteArray} {h : Int} {n : Int} {W : World} (hb : b < W.heap.size)
    (HH : ∀ W0, Below W.heap.size W W0 → Calls Tryd.prog 29 #[.pointer (some ⟨b, 0, none⟩)] W0 (HeadOk b (.iface 73 (.int .i64 n)) q h W0))
    (HA : ∀ W1, W.grownBy W1 (some b) → Reader W1 b ⟨q.toArray⟩ h → Calls Tryd.prog 31 #[.pointer (some ⟨b, 0, none⟩), .int .i64 n] W1 (RepOk b qq h W1)) :
    Calls Tryd.prog 23 #[.pointer (some ⟨b, 0, none⟩)] W (RepOk b qq h W) := by
  have hB0 : Below W.heap.size W (W.alloc (Obj.cells #[Value.int IntKind.i64 0, Value.int IntKind.i64 0, Value.string { data := #[] }, Value.slice none 0 0] 24)) := (Below.refl _ _).alloc (Nat.le_refl _) _
  have hZ : (W.alloc (Obj.cells #[Value.int IntKind.i64 0, Value.int IntKind.i64 0, Value.string { data := #[] }, Value.slice none 0 0] 24)).heap[W.heap.size]? = some (Obj.cells #[Value.int IntKind.i64 0, Value.int IntKind.i64 0, Value.string { data := #[] }, Value.slice none 0 0] 24 (0, 0)) := heap_at rfl
  have HL := Lib.hid (HH _ hB0)
  have hg0 : W.grownBy (W.alloc (Obj.cells #[Value.int IntKind.i64 0, Value.int IntKind.i64 0, Value.string { data := #[] }, Value.slice none 0 0] 24)) (some b) := grown_of_below hB0
  have HAA := Lib.hid HA
  have he : ∀ W : World, (binOp .neq 60 .nilIface .nilIface).run Tryd.prog W = .ok (.bool false) W := fun W => by simp [go_sem]
  clear HH HA hB0
  go_enter Tryd.func23, Tryd.ntmps23
  go_wp2_with fail
  refine HL.out.mono ?_
  rintro e w1 ⟨rfl, hg, hr⟩
  have hz1 := (hg.block _ (Array.getElem?_eq_some_iff.1 hZ).1 (by simp; omega)).trans hZ
  have HX := Lib.hid hz1
  have hG := hg0.trans hg
  have HC := Lib.hid (HAA.out _ hG hr)
  clear hZ hg0 hg hr HAA HL
  obtain ⟨a1, a2, a3, a4, a5⟩ : (∀ (u : Value) (W : World), (Instr.typeAssert (.iface 73 u) 49 68 true).run Tryd.prog W = .ok (.tuple #[.string ⟨#[]⟩, .bool false]) W) ∧ (∀ (u : Value) (W : World), (Instr.typeAssert (.iface 73 u) 49 69 true).run Tryd.prog W = .ok (.tuple #[.string ⟨#[]⟩, .bool false]) W) ∧
    (∀ (u : Value) (W : World), (Instr.typeAssert (.iface 73 u) 49 70 true).run Tryd.prog W = .ok (.tuple #[.int .i64 0, .bool false]) W) ∧ (∀ (u : Value) (W : World), (Instr.typeAssert (.iface 73 u) 49 53 true).run Tryd.prog W = .ok (.tuple #[.int .i64 0, .bool false]) W) ∧ (∀ (u : Value) (W : World), (Instr.typeAssert (.iface 73 u) 49 73 true).run Tryd.prog W = .ok (.tuple #[u, .bool true]) W) :=
    ⟨fun u W => (as73c u W).1, fun u W => (as73c u W).2.1, fun u W => (as73c u W).2.2.1, fun u W => (as73c u W).2.2.2.1, fun u W => (as73c u W).2.2.2.2⟩
  go_wp2_with fail
  refine HC.out.mono ?_
  rintro e w2 ⟨x, rfl, hg2, hr2⟩
  have hz2 := (hg2.block _ (Array.getElem?_eq_some_iff.1 HX.out).1 (by simp; omega)).trans HX.out
  have e0 : w2.cell? ⟨W.heap.size, 0, none⟩ = some (.int .i64 0) := by rw [cell_in 0 hz2]; rfl
  have e1 : w2.cell? ⟨W.heap.size, 1, none⟩ = some (.int .i64 0) := by rw [cell_in 1 hz2]; rfl
  have e2 : w2.cell? ⟨W.heap.size, 2, none⟩ = some (.string ⟨#[]⟩) := by rw [cell_in 2 hz2]; rfl
  have e3 : w2.cell? ⟨W.heap.size, 3, none⟩ = some (.slice none 0 0) := by rw [cell_in 3 hz2]; rfl
  have f0 := free_in 0 hz2
  have f1 := free_in 1 hz2
  have f2 := free_in 2 hz2
  have f3 := free_in 3 hz2
  have hG2 := hG.trans hg2
  have HX2 := Lib.hid hz2
  have HR := Lib.hid hr2
  clear hg2 hz2 hr2 HC a1 a2 a3 a4 a5
  unfold R4.val
  go_wp2
  obtain ⟨g1, g2, g3⟩ := four_set (.int .i64 x.k) (.int .i64 x.n) (.string x.s) (.slice x.a x.len x.cap) HX2.out
  have hB4 := g3 W.heap.size (Nat.le_refl _)
  have hRr := (g2 b (by omega)).trans HR.out
  generalize ((((w2.setCell { block := W.heap.size, off := 0 } (Value.int IntKind.i64 x.k)).setCell { block := W.heap.size, off := 1 } (Value.int IntKind.i64 x.n)).setCell
          { block := W.heap.size, off := 2 } (Value.string x.s)).setCell { block := W.heap.size, off := 3 } (Value.slice x.a x.len x.cap)) = W4 at *
  have b0 := cell_in 0 g1
  have b1 := cell_in 1 g1
  have b2 := cell_in 2 g1
  have b3 := cell_in 3 g1
  refine ⟨rfl, .tuple #[x.val, .nilIface], ?_, x, rfl, grown_mono hG2 hB4, hRr⟩
  simp [results, Tryd.f23, go_sem, b0, b1, b2, b3, R4.val]


/-- So many arrays around a five. -/
def towL : Nat → List UInt8
  | 0 => [58, 53, 13, 10]
  | k + 1 => 42 :: 49 :: 13 :: 10 :: towL k
def tow (k : Nat) : ByteArray := ⟨(towL k).toArray⟩
theorem towL_length (k : Nat) : (towL k).length = 4 * k + 4 := by
  induction k with
  | zero => rfl
  | succ k ih => simp only [towL, List.length_cons, ih]; omega
theorem tow_size (k : Nat) : (tow k).size = 4 * k + 4 := by
  show (towL k).toArray.size = _
  rw [List.size_toArray, towL_length]
theorem tow_list (k : Nat) : (tow k).data.toList = towL k := rfl
theorem cut_tow (k : Nat) : Lib.cut (towL (k + 1)) [13, 10] = ([42, 49], towL k, true) := by
  simp only [towL]
  rfl
theorem dig1 : dig 1 = ⟨#[49]⟩ := by rw [dig_one 1 (by decide)]; rfl
theorem dig5 : dig 5 = ⟨#[53]⟩ := by rw [dig_one 5 (by decide)]; rfl

theorem reply_tower {aM aW : Addr} {m : Int} (b : Nat) (hb3 : 3 ≤ b) (hM : aM.block ≠ b) (hW : aW.block ≠ b)
    (AO : ∀ (t q : ByteArray) (h : Int), 0 ≤ h → h ≤ 1000 → ∀ w : World, Reader w b t h → (∀ W, w.grownBy W (some b) → Reader W b t (h + 1) → Calls Tryd.prog 23 #[.pointer (some ⟨b, 0, none⟩)] W (RepOk b q (h + 1) W)) → Calls Tryd.prog 31 #[.pointer (some ⟨b, 0, none⟩), .int .i64 1] w (RepOk b q h w)) :
    ∀ (k : Nat), k ≤ 20 → ∀ (h : Int) (W : World), Env W aM aW m → Reader W b (tow k) h → 0 ≤ h → h ≤ 4 →
      (h + k ≤ 4 → Calls Tryd.prog 23 #[.pointer (some ⟨b, 0, none⟩)] W (RepOk b ⟨#[]⟩ h W)) ∧ (4 < h + k → Calls Tryd.prog 23 #[.pointer (some ⟨b, 0, none⟩)] W (RepErr b h (.iface 134 (.pointer (some aW))) W))
  | 0, _, h, W, hE, hR, hh, hh4 => by
    refine ⟨fun _ => ?_, fun hc => by omega⟩
    refine reply_number (q := []) (n := 5) (Array.getElem?_eq_some_iff.1 hR).1 fun W0 hb0 => ?_
    refine head_line (hE.below hb0) b hb3 (tow 0) h (Reader.later hR hb0) 58 53 [53, 13, 10] [] rfl (by decide) (by decide) (by rw [tow_size]; omega) _ (fun w => ?_) (fun w => ?_)
    · have := headIn_number 5 (by decide) w
      rw [dig5] at this
      exact this
    · have := fits_number 5 h w
      rw [show fitsS (.number 5) h = true from rfl] at this
      exact this
  | k + 1, hk, h, W, hE, hR, hh, hh4 => by
    have hlt := (Array.getElem?_eq_some_iff.1 hR).1
    have hHI : ∀ w, Calls Tryd.prog 36 #[.int .u8 ((42 : UInt8).toNat : Int), .string ⟨#[49]⟩] w fun e w' => e = .returned (.iface 73 (.int .i64 1)) ∧ Below w.heap.size w w' := fun w => by
      have := headIn_count 1 (by decide) w
      rw [dig1] at this
      exact this
    by_cases h4 : h = 4
    · subst h4
      refine ⟨fun hc => by omega, fun _ => ?_⟩
      refine reply_head_err hlt fun W0 hb0 => ?_
      refine head_unfit (hE.below hb0) b hb3 (tow (k + 1)) 4 (Reader.later hR hb0) 42 49 (49 :: 13 :: 10 :: towL k) (towL k) rfl (by decide) (cut_tow k) (by rw [tow_size]; omega) _ hHI (fun w => ?_)
      have := fits_count 1 4 w
      rw [show fitsS (.count 1) 4 = false from by decide] at this
      exact this
    · have hHH : ∀ W0, Below W.heap.size W W0 → Calls Tryd.prog 29 #[.pointer (some ⟨b, 0, none⟩)] W0 (HeadOk b (.iface 73 (.int .i64 1)) (towL k) h W0) := fun W0 hb0 => by
        refine head_line (hE.below hb0) b hb3 (tow (k + 1)) h (Reader.later hR hb0) 42 49 (49 :: 13 :: 10 :: towL k) (towL k) rfl (by decide) (cut_tow k) (by rw [tow_size]; omega) _ hHI (fun w => ?_)
        have := fits_count 1 h w
        have hf : fitsS (.count 1) h = true := by
          unfold fitsS
          simp
          omega
        rw [hf] at this
        exact this
      refine ⟨fun hc => ?_, fun hc => ?_⟩
      · refine reply_array_ok (q := towL k) (n := 1) hlt hHH (fun W1 hg1 hR1 => ?_)
        have hE1 := hE.grown hg1 hb3 hM hW
        refine AO (tow k) ⟨#[]⟩ h hh (by omega) W1 hR1 (fun W2 hg2 hR2 => ?_)
        exact (reply_tower b hb3 hM hW AO k (by omega) (h + 1) W2 (hE1.grown hg2 hb3 hM hW) hR2 (by omega) (by omega)).1 (by omega)
      · refine reply_array (q := towL k) (n := 1) hlt hHH (fun W1 hg1 hR1 => ?_)
        have hE1 := hE.grown hg1 hb3 hM hW
        refine array_err b 1 (by decide) (tow k) h hh (by omega) aW W1 hR1 (fun W2 hg2 hR2 => ?_)
        exact (reply_tower b hb3 hM hW AO k (by omega) (h + 1) W2 (hE1.grown hg2 hb3 hM hW) hR2 (by omega) (by omega)).2 (by omega)
end Go.Proofs.YtjcgfbmkgfhnaaaDoor
