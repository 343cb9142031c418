/- What is found in bytes, as plain lists; a box that holds what is left; where an iterator over places begins and ends. -/
import Derived.Test.YtbjjgkicjnoegaaDoorRows
import Derived.Test.YtbjjgkicjnoegaaDoorShelf
import Derived.RangeFuncNested
import Derived.RangeFuncBound
import Derived.RangeFuncCalls
import Derived.RangeFuncLeaves
import Derived.RangeFuncFrom
import Derived.Shelf.Abstract
import Derived.Shelf.RegionOpen
import Derived.WalkKit
import Derived.WalkSpells
import Derived.WalkLawsBesides
import Derived.OwnWalkIn
import Derived.TacticsInMore
import Derived.LoopNIn
import Derived.LoopIn
import Derived.Lib.Hide
namespace Go.Proofs.YtbjjgkicjnoegaaDoor
open Go.RowKit Go.Shelf

theorem heap_at {w : World} {o : Obj} {k : Nat} (h : k = w.heap.size) : (w.alloc o).heap[k]? = some o := by subst h; exact heap_alloc_new w o

/-- What is got out of bytes, and what is left; more is needed; they are wrong. -/
inductive Got (α : Type) where
  | ok (a : α) (rest : List UInt8)
  | more
  | wrong

/-- The bytes ahead of a mark, with so many of them at most. -/
def lineS (mark : List UInt8) : Nat → List UInt8 → Got (List UInt8)
  | _, [] => .more
  | n, b :: l => if Lib.hasPrefix (b :: l) mark then .ok [] ((b :: l).drop mark.length) else
    match n with
    | 0 => .wrong
    | n + 1 => match lineS mark n l with
      | .ok p r => .ok (b :: p) r
      | .more => .more
      | .wrong => .wrong

theorem lineS_found (mark : List UInt8) : ∀ (l : List UInt8) (i n : Nat), i < l.length → i ≤ n → (∀ j < i, Lib.hasPrefix (l.drop j) mark = false) → Lib.hasPrefix (l.drop i) mark = true →
    lineS mark n l = .ok (l.take i) ((l.drop i).drop mark.length)
  | [], i, n, h, _, _, _ => by simp at h
  | b :: l, 0, n, _, _, _, hm => by
    simp only [List.drop_zero] at hm
    rw [lineS.eq_def]; simp [hm]
  | b :: l, i + 1, 0, _, h, _, _ => by omega
  | b :: l, i + 1, n + 1, hl, hn, hf, hm => by
    have h0 := hf 0 (by omega)
    simp only [List.drop_zero] at h0
    have ih := lineS_found mark l i n (by simpa using hl) (by omega) (fun j hj => by simpa using hf (j + 1) (by omega)) (by simpa using hm)
    rw [lineS.eq_def]; simp [h0, ih]

theorem lineS_wrong (mark : List UInt8) : ∀ (l : List UInt8) (n : Nat), n < l.length → (∀ j ≤ n, Lib.hasPrefix (l.drop j) mark = false) → lineS mark n l = .wrong
  | [], n, h, _ => by simp at h
  | b :: l, 0, _, hf => by
    have h0 := hf 0 (by omega)
    simp only [List.drop_zero] at h0
    rw [lineS.eq_def]; simp [h0]
  | b :: l, n + 1, hl, hf => by
    have h0 := hf 0 (by omega)
    simp only [List.drop_zero] at h0
    have ih := lineS_wrong mark l n (by simpa using hl) (fun j hj => by simpa using hf (j + 1) (by omega))
    rw [lineS.eq_def]; simp [h0, ih]

theorem lineS_more (mark : List UInt8) : ∀ (l : List UInt8) (n : Nat), l.length ≤ n → (∀ j < l.length, Lib.hasPrefix (l.drop j) mark = false) → lineS mark n l = .more
  | [], n, _, _ => by rw [lineS.eq_def]
  | b :: l, 0, h, _ => by simp at h
  | b :: l, n + 1, hl, hf => by
    have h0 := hf 0 (by simp)
    simp only [List.drop_zero] at h0
    have ih := lineS_more mark l n (by simpa using hl) (fun j hj => by simpa using hf (j + 1) (by simpa using hj))
    rw [lineS.eq_def]; simp [h0, ih]

/-- A box that holds what is left. -/
def Box (W : World) (b : Nat) (t : ByteArray) : Prop := W.heap[b]? = some (Obj.cells #[.string t] 51 (0, 0))

/-- A cell of a known block. -/
theorem cell_in {W : World} {b : Nat} {c : Array Value} {t : TypeId} (o : Nat) (h : W.heap[b]? = some (Obj.cells c t (0, 0))) : W.cell? ⟨b, o, none⟩ = c[o]? := by
  simp [World.cell?, h]
theorem free_in {W : World} {b : Nat} {c : Array Value} {t : TypeId} (o : Nat) (h : W.heap[b]? = some (Obj.cells c t (0, 0))) : W.frozen? ⟨b, o, none⟩ = false := by
  simp [World.frozen?, h]

theorem Box.cell {W : World} {b : Nat} {t : ByteArray} (h : Box W b t) : W.cell? ⟨b, 0, none⟩ = some (.string t) := by rw [cell_in 0 h]; rfl
theorem Box.free {W : World} {b : Nat} {t : ByteArray} (h : Box W b t) : W.frozen? ⟨b, 0, none⟩ = false := free_in 0 h
theorem Box.lt {W : World} {b : Nat} {t : ByteArray} (h : Box W b t) : b < W.heap.size := (Array.getElem?_eq_some_iff.1 h).1
theorem Box.below {W W' : World} {b : Nat} {t : ByteArray} {n : Nat} (h : Box W b t) (hb : Below n W W') (hn : b < n) : Box W' b t := (hb.block b hn).trans h

def ba (l : List UInt8) : ByteArray := ⟨l.toArray⟩
theorem ba_list (l : List UInt8) : (ba l).data.toList = l := rfl
theorem ba_of (t : ByteArray) : ba t.data.toList = t := rfl
theorem ba_eq {t : ByteArray} {l : List UInt8} (h : t.data.toList = l) : t = ba l := by subst h; rfl
theorem extract_list (t : ByteArray) (i j : Nat) : (t.extract i j).data.toList = (t.data.toList.take j).drop i := by
  rw [ByteArray.data_extract, Array.toList_extract]
  simp [List.take_drop]
  by_cases h : i ≤ j
  · rw [Nat.add_sub_cancel' h]
  · rw [List.drop_eq_nil_of_le (by simp; omega), List.drop_eq_nil_of_le (by simp; omega)]
theorem size_list (t : ByteArray) : t.data.toList.length = t.size := by rw [Array.length_toList]; rfl

end Go.Proofs.YtbjjgkicjnoegaaDoor
