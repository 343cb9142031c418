/- All arguments of a request. -/
import Derived.Test.YtbjjgkicjnoegaaDoorBulk
import Derived.Deep.LoopGhost
import Derived.Deep.Onto
namespace Go.Proofs.YtbjjgkicjnoegaaDoor
open Go.RowKit Go.Shelf

theorem Tryd.info9 : (Tryd.prog.info? 9).map (fun i => (i.zero, i.size, i.bytes)) = some (some (.string ⟨#[]⟩), 1, 16) := by kernel_rfl

/-- A list of texts in memory of its own. -/
def Owned (W : World) (base : Nat) (v : Value) (ss : List (List UInt8)) : Prop := W.ownsRow base 9 1 v ss.length (ss.map strV)

def TellsL (b : Nat) (W : World) (g : Got (List (List UInt8))) (e : Ending) (W' : World) : Prop :=
  match g with
  | .ok ss r => ∃ v, e = .returned (.tuple #[v, .nilIface]) ∧ W.grownBy W' (some b) ∧ Box W' b (ba r) ∧ Owned W' W.heap.size v ss
  | .more => e = .returned (.tuple #[.slice none 0 0, errV 31]) ∧ W.grownBy W' (some b)
  | .wrong => e = .returned (.tuple #[.slice none 0 0, errV 40]) ∧ W.grownBy W' (some b)

def bulksA (T : Nat → Int) : Nat → List (List UInt8) → List UInt8 → Got (List (List UInt8))
  | 0, acc, l => .ok acc l
  | k + 1, acc, l => match bulkS T l with
    | .ok s r => bulksA T k (acc ++ [s]) r
    | .more => .more
    | .wrong => .wrong

theorem bytesS_size {n : Nat} {l s r : List UInt8} (h : bytesS n l = .ok s r) : s.length ≤ n ∧ s.length + 2 + r.length ≤ l.length := by
  unfold bytesS at h
  split at h
  · cases h
  · split at h
    · cases h; simp; omega
    · cases h
theorem bulkS_size {T : Nat → Int} {l s r : List UInt8} (h : bulkS T l = .ok s r) : s.length ≤ 512 ∧ r.length ≤ l.length := by
  unfold bulkS at h
  split at h
  · cases h
  · cases hn : numberS T l with
    | more => rw [hn] at h; cases h
    | wrong => rw [hn] at h; cases h
    | ok n q =>
      rw [hn] at h
      simp only at h
      split at h
      · cases h
      · have h1 := bytesS_size h
        have h2 := (numberS_i64 hn).2
        omega

theorem grown_new {w A B : World} {b : Nat} {row : Option Nat} (h : w.grownBy A (some b)) (hg : A.grownBy B row) (hr : ∀ g, row = some g → w.heap.size ≤ g) : w.grownBy B (some b) :=
  ⟨hg.os.trans h.os, hg.tape.trans h.tape, hg.output.trans h.output, Nat.le_trans h.size hg.size, fun k hk hne => (hg.block k (Nat.lt_of_lt_of_le hk h.size) (fun e => by have := hr _ e.symm; omega)).trans (h.block k hk hne)⟩
theorem box_kept {A B : World} {b : Nat} {t : ByteArray} {row : Option Nat} (h : Box A b t) (hg : A.grownBy B row) (hr : some b ≠ row) : Box B b t := Boxed.kept (t := 51) h hg hr

set_option maxRecDepth 100000 in
set_option maxHeartbeats 4000000 in
theorem bulks_any {T : Nat → Int} (b : Nat) (hb4 : 4 ≤ b) (n : Int) (hn : n ≤ 1000) (hi : i64R n) (t : ByteArray) (ht : t.size ≤ 9223372036854775807) (w : World) (hE : Env T w) (hb : Box w b t) :
    Calls Tryd.prog 27 #[.pointer (some ⟨b, 0, none⟩), .int .i64 n] w (TellsL b w (bulksA T n.toNat [] t.data.toList)) := by
  obtain ⟨i0, hi0, hz0, hz1, hz2⟩ := info_parts Tryd.info9
  have hnn : ∀ W : World, (binOp .neq 57 .nilIface .nilIface).run Tryd.prog W = .ok (.bool false) W := fun W => by simp [go_sem]
  have hne : ∀ (n : Int) (W : World), (binOp .neq 57 (.iface 60 (.int .i64 n)) .nilIface).run Tryd.prog W = .ok (.bool true) W := fun n W => by simp [go_sem]
  have hi' := hi
  unfold i64R at hi'
  have hbl := hb.lt
  have hob : ∀ {W : World} {v : Value} {n : Nat} {xs : List Value}, W.ownsRow w.heap.size 9 1 v n xs → v.ownBlock = none ∨ v.ownBlock ≠ some b := fun h => by
    rename_i W v _ _
    cases hv : v.ownBlock with
    | none => exact .inl rfl
    | some g => exact .inr (fun e => by have := (h.lt g hv).1; cases e; omega)
  go_enter Tryd.func27, Tryd.ntmps27
  go_wp2
  go_loopg [6, 10] n.toNat (fun g sl i wr => ∃ (v : Value) (k : Nat) (acc : List (List UInt8)) (r : List UInt8), v = sl ∧ i = .int .i64 k ∧ g + k = n.toNat ∧ acc.length = k ∧ Box wr b (ba r) ∧ r.length ≤ t.size ∧ w.grownBy wr (some b) ∧ Owned wr w.heap.size v acc ∧ Aside (bulksA T g acc r = bulksA T n.toNat [] t.data.toList))
  case atStart => exact ⟨_, 0, [], t.data.toList, rfl, rfl, rfl, rfl, by rw [ba_of]; exact hb, by rw [size_list]; exact Nat.le_refl _, grown_refl _ _, World.ownsRow_nil _ _ _ _, rfl⟩
  case round =>
    obtain ⟨v, k, acc, r, rfl, rfl, hgk, hacc, hbr, hrl, hg, hown, hk⟩ := hrel
    by_cases hlt : (k : Int) < n
    · obtain ⟨f, rfl⟩ : ∃ f, gk = f + 1 := ⟨gk - 1, by omega⟩
      have HB := bulk_any b hb4 (ba r) (by rw [← size_list, ba_list]; omega) wr (hE.grown hg hb4) hbr
      rw [ba_list] at HB
      have hsz := fun s q (h : bulkS T r = .ok s q) => bulkS_size h
      cases hs : bulkS T r with
      | more =>
        rw [hs] at HB
        have HH := Lib.hid HB
        have HK := Lib.hid (show bulksA T (f + 1) acc r = .more by rw [bulksA, hs])
        clear HB hs hbr hsz
        go_wp2_with (go_at_call 37; refine HH.out.mono ?_; rintro e w1 ⟨rfl, hg1⟩; simp only [errV, emptyV])
        go_ret2
        rw [← hk.out, HK.out]
        exact ⟨rfl, hg.trans hg1⟩
      | wrong =>
        rw [hs] at HB
        have HH := Lib.hid HB
        have HK := Lib.hid (show bulksA T (f + 1) acc r = .wrong by rw [bulksA, hs])
        clear HB hs hbr hsz
        go_wp2_with (go_at_call 37; refine HH.out.mono ?_; rintro e w1 ⟨rfl, hg1⟩; simp only [errV, emptyV])
        go_ret2
        rw [← hk.out, HK.out]
        exact ⟨rfl, hg.trans hg1⟩
      | ok s q =>
        rw [hs] at HB
        have HH := Lib.hid HB
        have hq := (hsz _ _ hs).2
        have HK := Lib.hid (show bulksA T (f + 1) acc r = bulksA T f (acc ++ [s]) q by rw [bulksA, hs])
        clear HB hs hbr hsz
        go_wp2_with (first
          | (go_at_call 37; refine HH.out.mono ?_; rintro e w1 ⟨rfl, hg1, hb1⟩; simp only [strV]; have hown1 : w1.ownsRow w.heap.size 9 1 v acc.length (acc.map strV) := World.ownsRow.kept hown hg1 (hob hown); have hsw1 : w.heap.size ≤ w1.heap.size := Nat.le_trans hg.size hg1.size)
          | (at_builtin; refine wpList_append_own _ rfl _ _ 22 rfl w.heap.size 9 i0 (.string ⟨#[]⟩) 1 16 Tryd.underlying22 hi0 hz0 hz1 hz2 rfl (by decide) _ _ _ rfl (hown1.alloc _) ⟨w1.heap.size, 0, none⟩ 1 1 [.string (ba s)] rfl rfl (cell_one_new _ _ _) (by simp [Value.oneCell']) (by unfold maxLen; omega) (by omega) (by simp; omega) ?_; intro v' w2 hown2 hgrow _))
        have hgrow' : (w1.alloc (Obj.cells #[.string (ba s)] 9)).grownBy w2 v.ownBlock := hgrow
        have hlo : ∀ g, v.ownBlock = some g → w.heap.size ≤ g := fun g e => (hown1.lt g e).1
        have hga : w1.grownBy w2 v.ownBlock := (World.grownBy_alloc w1 _ _).trans hgrow'
        have hg2 : w.grownBy w2 (some b) := grown_new (hg.trans hg1) hga hlo
        have hb2 : Box w2 b (ba q) := box_kept hb1 hga (fun e => by have := hlo b e.symm; omega)
        go_roundg f
        case measure => omega
        case rel => exact ⟨_, k + 1, acc ++ [s], q, rfl, by go_num, by omega, by simp [hacc], hb2, by omega, hg2, by show World.ownsRow _ _ _ _ _ _ _; rw [List.map_append, List.length_append]; exact hown2, by show _ = _; rw [← hk.out, HK.out]⟩
    · obtain rfl : gk = 0 := by omega
      have HK := Lib.hid (show bulksA T 0 acc r = .ok acc r from rfl)
      have HBX := Lib.hid hbr
      clear hbr
      go_wp2
      go_ret2
      rw [← hk.out, HK.out]
      exact ⟨_, rfl, hg, HBX.out, hown⟩

end Go.Proofs.YtbjjgkicjnoegaaDoor
