/- The words of a line. -/
import Derived.Test.YtbjjgkicjnoegaaDoorBulks
import Derived.WalkSmall
namespace Go.Proofs.YtbjjgkicjnoegaaDoor
open Go.RowKit Go.Shelf

/-- The words from a place on, the last one begun at another. -/
def wordsAt (s line : ByteArray) : Nat → Nat → Nat → List (List UInt8)
  | 0, _, _ => []
  | f + 1, pos, fr => if pos < s.size then
      if ((Utf8.decode s pos).1 : Int) = 32 ∨ ((Utf8.decode s pos).1 : Int) = 9 then
        (if fr < pos then [(line.extract fr pos).data.toList] else []) ++ wordsAt s line f (pos + (Utf8.decode s pos).2) (pos + 1)
      else wordsAt s line f (pos + (Utf8.decode s pos).2) fr
    else []
def wordsS (line : ByteArray) : List (List UInt8) := wordsAt (line ++ ⟨#[32]⟩) line (line.size + 1) 0 0

theorem wordsAt_size (s line : ByteArray) : ∀ (f pos fr : Nat), (wordsAt s line f pos fr).length ≤ f
  | 0, _, _ => Nat.le_refl _
  | f + 1, pos, fr => by
    unfold wordsAt
    split
    · split
      · have := wordsAt_size s line f (pos + (Utf8.decode s pos).2) (pos + 1)
        rw [List.length_append]
        split <;> simp <;> omega
      · have := wordsAt_size s line f (pos + (Utf8.decode s pos).2) fr
        omega
    · simp

theorem IterRel.grown {s : ByteArray} {w wr w2 : World} {g pos : Nat} {row : Option Nat} (h : IterRel s w wr g pos) (hg : wr.grownBy w2 row) (hr : ∀ k, row = some k → w.heap.size + 1 ≤ k) : IterRel s w w2 g pos := by
  have hlt := (Array.getElem?_eq_some_iff.1 h.iter).1
  refine ⟨(hg.block _ hlt (fun e => by have := hr _ e.symm; omega)).trans h.iter, ?_, h.fuel⟩
  exact h.below.grown hg h.below.size (fun k e => by have := hr k e; omega)

set_option maxRecDepth 100000 in
set_option maxHeartbeats 4000000 in
theorem words_any (line : ByteArray) (hl : line.size ≤ 100000) (w : World) :
    Calls Tryd.prog 35 #[.string line] w fun e w' => ∃ v, e = .returned v ∧ Below w.heap.size w w' ∧ Owned w' w.heap.size v (wordsS line) := by
  obtain ⟨i0, hi0, hz0, hz1, hz2⟩ := info_parts Tryd.info9
  have hsz : (line ++ ⟨#[32]⟩).size = line.size + 1 := by rw [ByteArray.size_append]; rfl
  have HW : wordsS line = wordsAt (line ++ ⟨#[32]⟩) line (line.size + 1) 0 0 := rfl
  have HX := Lib.hid HW
  clear HW
  go_enter Tryd.func35, Tryd.ntmps35
  go_wp2
  generalize hs : line ++ ⟨#[32]⟩ = s at *
  have HS := Lib.hid hs
  clear hs
  go_loopg [3, 4] (line.size + 1) (fun g sl i wr => ∃ (v : Value) (pos fr : Nat) (acc : List (List UInt8)), v = sl ∧ i = .int .i64 fr ∧ fr ≤ pos ∧ IterRel s w wr g pos ∧ acc.length + g ≤ line.size + 1 ∧ Owned wr (w.heap.size + 1) v acc ∧ Aside (acc ++ wordsAt s line g pos fr = wordsS line))
  case atStart => exact ⟨_, 0, 0, [], rfl, rfl, Nat.le_refl _, ⟨heap_at rfl, (Below.refl _ _).alloc (Nat.le_refl _) _, by omega⟩, by simp, World.ownsRow_nil _ _ _ _, HX.out.symm⟩
  case round =>
    obtain ⟨v, pos, fr, acc, rfl, rfl, hfp, hR, hag, hown, hk⟩ := hrel
    have hit := hR.iter
    by_cases hp : pos < s.size
    · obtain ⟨f, rfl⟩ : ∃ f, gk = f + 1 := ⟨gk - 1, by have := hR.fuel; omega⟩
      have hnx : ∀ ty, (Instr.next (.pointer (some ⟨w.heap.size, 0, none⟩)) true ty).run Tryd.prog wr = _ := fun ty => Lib.run_next_any_at wr w.heap.size s pos ty hit hp
      have hR2 := hR.next
      have hwd := width_pos s pos
      have hown1 : World.ownsRow (wr.iterAt w.heap.size s (pos + (Utf8.decode s pos).2)) (w.heap.size + 1) 9 1 v acc.length (acc.map strV) := ownsRow_iterAt hown (by omega) _ _
      have HK := Lib.hid (show wordsAt s line (f + 1) pos fr = (if ((Utf8.decode s pos).1 : Int) = 32 ∨ ((Utf8.decode s pos).1 : Int) = 9 then
        (if fr < pos then [(line.extract fr pos).data.toList] else []) ++ wordsAt s line f (pos + (Utf8.decode s pos).2) (pos + 1)
        else wordsAt s line f (pos + (Utf8.decode s pos).2) fr) by rw [wordsAt, if_pos hp])
      generalize wr.iterAt w.heap.size s (pos + (Utf8.decode s pos).2) = wi at *
      generalize hp2 : pos + (Utf8.decode s pos).2 = pos' at *
      generalize ((Utf8.decode s pos).1 : Int) = r at *
      have hpp : pos + 1 ≤ pos' := by omega
      have hpl : pos ≤ line.size := by omega
      clear hit hown hp2 hwd
      have hbi := hR2.below.size
      have hit2 := (Array.getElem?_eq_some_iff.1 hR2.iter).1
      go_wp2_with (at_builtin; refine wpList_append_own _ rfl _ _ 22 rfl (w.heap.size + 1) 9 i0 (.string ⟨#[]⟩) 1 16 Tryd.underlying22 hi0 hz0 hz1 hz2 rfl (by decide) _ _ _ rfl (hown1.alloc _) ⟨wi.heap.size, 0, none⟩ 1 1 [.string (line.extract fr pos)] rfl rfl (cell_one_new _ _ _) (by simp [Value.oneCell']) (by unfold maxLen; omega) (by omega) (by simp; omega) ?_; intro v' w2 hown2 hgrow _)
      · have hbl : r = 32 ∨ r = 9 := by left; assumption
        have hfr : fr < pos := by assumption
        have hgrow' : (wi.alloc (Obj.cells #[.string (line.extract fr pos)] 9)).grownBy w2 v.ownBlock := hgrow
        have hlo : ∀ g, v.ownBlock = some g → w.heap.size + 1 ≤ g := fun g e => (hown1.lt g e).1
        have hga : wi.grownBy w2 v.ownBlock := (World.grownBy_alloc wi _ _).trans hgrow'
        go_roundg f
        case measure => omega
        case rel =>
          refine ⟨_, pos', pos + 1, acc ++ [(line.extract fr pos).data.toList], rfl, by go_num, hpp, hR2.grown hga hlo, by simp; omega, ?_, ?_⟩
          · show World.ownsRow _ _ _ _ _ _ _
            rw [List.map_append, List.length_append]
            exact hown2
          · show _ = _
            rw [← hk.out, HK.out, if_pos hbl, if_pos hfr, List.append_assoc]
      · have hbl : r = 32 ∨ r = 9 := by left; assumption
        have hfr : ¬ fr < pos := by assumption
        go_roundg f
        case measure => omega
        case rel =>
          refine ⟨_, pos', pos + 1, acc, rfl, by go_num, hpp, hR2, by omega, hown1, ?_⟩
          show _ = _
          rw [← hk.out, HK.out, if_pos hbl, if_neg hfr, List.nil_append]
      · have hno : (r != 32) = true ∧ (r != 9) = true := by assumption
        have hbl : ¬ (r = 32 ∨ r = 9) := by simpa using hno
        go_roundg f
        case measure => omega
        case rel =>
          refine ⟨_, pos', fr, acc, rfl, rfl, by omega, hR2, by omega, hown1, ?_⟩
          show _ = _
          rw [← hk.out, HK.out, if_neg hbl]
      · have hno : (r != 32) = false ∨ (r != 9) = false := by assumption
        have hbl : r = 32 ∨ r = 9 := by simpa using hno
        have hfr : fr < pos := by assumption
        have hgrow' : (wi.alloc (Obj.cells #[.string (line.extract fr pos)] 9)).grownBy w2 v.ownBlock := hgrow
        have hlo : ∀ g, v.ownBlock = some g → w.heap.size + 1 ≤ g := fun g e => (hown1.lt g e).1
        have hga : wi.grownBy w2 v.ownBlock := (World.grownBy_alloc wi _ _).trans hgrow'
        go_roundg f
        case measure => omega
        case rel =>
          refine ⟨_, pos', pos + 1, acc ++ [(line.extract fr pos).data.toList], rfl, by go_num, hpp, hR2.grown hga hlo, by simp; omega, ?_, ?_⟩
          · show World.ownsRow _ _ _ _ _ _ _
            rw [List.map_append, List.length_append]
            exact hown2
          · show _ = _
            rw [← hk.out, HK.out, if_pos hbl, if_pos hfr, List.append_assoc]
      · have hno : (r != 32) = false ∨ (r != 9) = false := by assumption
        have hbl : r = 32 ∨ r = 9 := by simpa using hno
        have hfr : ¬ fr < pos := by assumption
        go_roundg f
        case measure => omega
        case rel =>
          refine ⟨_, pos', pos + 1, acc, rfl, by go_num, hpp, hR2, by omega, hown1, ?_⟩
          show _ = _
          rw [← hk.out, HK.out, if_pos hbl, if_neg hfr, List.nil_append]
    · have hnx : ∀ ty, (Instr.next (.pointer (some ⟨w.heap.size, 0, none⟩)) true ty).run Tryd.prog wr = _ := fun ty => Lib.run_next_end_at wr w.heap.size s pos ty hit hp
      have HK := Lib.hid (show wordsAt s line gk pos fr = [] by cases gk <;> simp [wordsAt, hp])
      clear hit
      go_wp2
      go_ret
      refine ⟨_, rfl, hR.below, ?_⟩
      rw [← hk.out, HK.out, List.append_nil]
      exact World.ownsRow.mono hown (by omega)

end Go.Proofs.YtbjjgkicjnoegaaDoor
