/- The reference's pack. -/
import Derived.Test.YtioidnfmpbdmhaaRefScore
import Derived.Deep.RegionHeld
import Derived.Deep.DrawnRows
namespace Go.Proofs.Ytioidnfmpbdmhaa
open Go.RowKit Go.Shelf
attribute [local go_sem] Oper.semAt_some
attribute [local go_sem ↓] Go.wp_at_zero Go.wp_at_succ

theorem str_two (W : World) (b c : UInt8) (v u : Int) (h : (b.toNat : Int) = v) (h2 : (c.toNat : Int) = u) : (convert 50 9 (.slice (some ⟨W.heap.size, 0, none⟩) 2 2)).run Try.prog (W.alloc (.cells #[.int .u8 v, .int .u8 u] 5)) = .ok (.string ⟨#[b, c]⟩) (W.alloc (.cells #[.int .u8 v, .int .u8 u] 5)) := by
  refine run_back _ _ [b, c] (.some W.heap.size 0 2 [b, c] fun j x hj => ?_)
  have hB := Blk.new W 5 #[.int .u8 v, .int .u8 u]
  match j, hj with
  | 0, hj => simp at hj; subst hj; rw [h]; exact hB.cell 0
  | 1, hj => simp at hj; subst hj; rw [h2]; exact hB.cell 1
  | j + 2, hj => simp at hj

theorem str_byte (W : World) (g : Nat) (b : UInt8) (v : Int) (h : (b.toNat : Int) = v) (hB : Blk W g 5 #[.int .u8 v]) : (convert 50 9 (.slice (some ⟨g, 0, none⟩) 1 1)).run Try.prog W = .ok (.string ⟨#[b]⟩) W := by
  refine run_back _ _ [b] (.some g 0 1 [b] fun j u hj => ?_)
  match j, hj with
  | 0, hj => simp at hj; subst hj; rw [h]; exact hB.cell 0
  | j + 1, hj => simp at hj

theorem str_cell (W : World) (g : Nat) (b : UInt8) (v : Int) (h : (b.toNat : Int) = v) (hc : W.cell? ⟨g, 0, none⟩ = some (.int .u8 v)) : (convert 50 9 (.slice (some ⟨g, 0, none⟩) 1 1)).run Try.prog W = .ok (.string ⟨#[b]⟩) W := by
  refine run_back _ _ [b] (.some g 0 1 [b] fun j u hj => ?_)
  match j, hj with
  | 0, hj => simp at hj; subst hj; rw [h]; exact hc
  | j + 1, hj => simp at hj

/-- What the loads of a round read, and what stays below. -/
theorem below_cell {W W5 : World} {a : Addr} {v : Value} (h : Below W.heap.size W W5) (hc : W.cell? a = some v) : W5.cell? a = some v :=
  (h.cell (World.block_lt_of_cell? W a hc)).trans hc
theorem cellsA1 {W W5 : World} {c : Value} {t : TypeId} (h : Below (W.alloc (.cells #[c] t)).heap.size (W.alloc (.cells #[c] t)) W5) : W5.cell? ⟨W.heap.size, 0, none⟩ = some c ∧ W.heap.size < W5.heap.size :=
  ⟨below_cell h ((Blk.new W t #[c]).cell 0), by have := h.size; simp at this; omega⟩
theorem cellsA2 {W W5 : World} {c c2 : Value} {t t2 : TypeId} (h : Below ((W.alloc (.cells #[c] t)).alloc (.cells #[c2] t2)).heap.size ((W.alloc (.cells #[c] t)).alloc (.cells #[c2] t2)) W5) : W5.cell? ⟨W.heap.size, 0, none⟩ = some c ∧ W5.cell? ⟨W.heap.size + 1, 0, none⟩ = some c2 ∧ W.heap.size < W5.heap.size ∧ W.heap.size + 1 < W5.heap.size :=
  ⟨below_cell h (((Blk.new W t #[c]).alloc _).cell 0), by have := below_cell h ((Blk.new (W.alloc (.cells #[c] t)) t2 #[c2]).cell 0); simpa using this, by have := h.size; simp at this; omega, by have := h.size; simp at this; omega⟩
theorem keepA {a b : Addr} {v u : Value} {n : Nat} {w W : World} {o : Obj} (h : W.cell? a = some v ∧ W.cell? b = some u ∧ Below n w W ∧ n ≤ W.heap.size) : (W.alloc o).cell? a = some v ∧ (W.alloc o).cell? b = some u ∧ Below n w (W.alloc o) ∧ n ≤ (W.alloc o).heap.size :=
  ⟨(World.cell?_alloc_lt _ _ _ (World.block_lt_of_cell? W a h.1)).trans h.1, (World.cell?_alloc_lt _ _ _ (World.block_lt_of_cell? W b h.2.1)).trans h.2.1, h.2.2.1.alloc h.2.2.2 o, Nat.le_trans h.2.2.2 (by simp)⟩
theorem keepD {a b : Addr} {v u : Value} {n : Nat} {w W : World} (h : W.cell? a = some v ∧ W.cell? b = some u ∧ Below n w W ∧ n ≤ W.heap.size) : W.drew.cell? a = some v ∧ W.drew.cell? b = some u ∧ Below n w W.drew ∧ n ≤ W.drew.heap.size :=
  ⟨h.1, h.2.1, h.2.2.1.drew, h.2.2.2⟩
theorem keepC {a b : Addr} {v u : Value} {n : Nat} {w W W5 : World} (h5 : Below W.heap.size W W5) (h : W.cell? a = some v ∧ W.cell? b = some u ∧ Below n w W ∧ n ≤ W.heap.size) : W5.cell? a = some v ∧ W5.cell? b = some u ∧ Below n w W5 ∧ n ≤ W5.heap.size :=
  ⟨below_cell h5 h.1, below_cell h5 h.2.1, h.2.2.1.trans (h5.mono h.2.2.2), Nat.le_trans h.2.2.2 h5.size⟩

set_option maxRecDepth 100000 in
set_option maxHeartbeats 16000000 in
theorem refPack_ok (a : Option Addr) (cap : Nat) (l : List Ent) (hz : ∀ e ∈ l, e.1.size ≤ 1000) (hl2 : l.length ≤ 300) (w : World) (hE : Ents w a l) :
    Calls Try.prog 13 #[.slice a l.length cap] w fun e w' => e = .returned (.tuple #[.string (packR l).1, .int .i64 (packR l).2]) ∧ Below w.heap.size w w' := by
  have HSC := fun n w => Lib.hid (refScore_any n w)
  have h3 : (l.length : Int) ≤ 300 := by omega
  have h4 : (0 : Int) ≤ l.length := by omega
  by_cases h9 : (200 : Int) < l.length
  · have HPR := Lib.hid (show packR l = (⟨#[]⟩, 51) by unfold packR; rw [if_pos (by omega)])
    clear hE
    go_enter Try.func13, Try.ntmps13
    go_wp2_with fail
    go_ret2
    rw [HPR.out]
    exact ⟨rfl, Below.refl _ _⟩
  · have HPR := Lib.hid (show packR l = if fitS l then (packB l, 0) else (⟨#[]⟩, 2) by unfold packR; rw [if_neg (by omega)])
    have hx : ((UInt8.ofNat (l.length / 256)).toNat : Int) = (l.length : Int) / 256 := by simp; omega
    have hyy : ((UInt8.ofNat l.length).toNat : Int) = (l.length : Int) := by simp; omega
    have hst := str_two w (UInt8.ofNat (l.length / 256)) (UInt8.ofNat l.length) _ _ hx hyy
    have HPK := Lib.hid (show (⟨#[UInt8.ofNat (l.length / 256), UInt8.ofNat l.length]⟩ : ByteArray) = ⟨(UInt8.ofNat (l.length / 256) :: UInt8.ofNat l.length :: (l.take 0).flatMap entB).toArray⟩ by simp)
    clear hx hyy
    go_enter Try.func13, Try.ntmps13
    go_wp2_with fail
    go_loopw [4, 5] (fun v i wr => ∃ (k : Nat), i = .int .i64 k ∧ k ≤ l.length ∧ Below w.heap.size w wr ∧ fitS (l.take k) = true ∧ v = .string ⟨(UInt8.ofNat (l.length / 256) :: UInt8.ofNat l.length :: (l.take k).flatMap entB).toArray⟩)
      (fun _ i _ => l.length - (intOf i).toNat)
    case atStart => exact ⟨0, rfl, by omega, (Below.refl _ _).alloc (Nat.le_refl _) _, rfl, by rw [HPK.out]⟩
    case round =>
      obtain ⟨k, rfl, hk, hb, hf, rfl⟩ := hrel
      by_cases hlt : k < l.length
      · obtain ⟨b, off, rfl, c0, c1⟩ := (hE.below hb) k hlt
        have hbl : b < wr.heap.size := World.block_lt_of_cell? wr ⟨b, off + k * 2, none⟩ c0
        have hm := hz _ (List.getElem_mem hlt)
        have hfl := flat_length (fitS_each hf)
        have hfs : fitS (l.take (k + 1)) = (fitS (l.take k) && decide (l[k].1.size ≤ 64)) := by
          unfold fitS; rw [List.take_succ_eq_append_getElem hlt, List.all_append]; simp
        have hnx : (UInt8.ofNat (l.length / 256) :: UInt8.ofNat l.length :: (l.take (k + 1)).flatMap entB) = (UInt8.ofNat (l.length / 256) :: UInt8.ofNat l.length :: (l.take k).flatMap entB) ++ entB l[k] := by
          rw [List.take_succ_eq_append_getElem hlt, List.flatMap_append]; simp
        have hrest : (¬ l[k].1.size ≤ 64) → fitS l = false := fun h => by
          unfold fitS
          rw [List.all_eq_false]
          exact ⟨l[k], List.getElem_mem hlt, by simpa using h⟩
        have HFS := Lib.hid hfs
        have HNX := Lib.hid hnx
        have HR := Lib.hid hrest
        have HE := Lib.hid hE
        have HB := Lib.hid hb
        have HFK := Lib.hid hf
        have htk : (l.take k).length ≤ 300 := by simp; omega
        generalize l[k] = x at *
        obtain ⟨m, s⟩ := x
        simp only at c0 c1 hm
        have hm9 : (m.size : Int) ≤ 1000 := by omega
        have hm8 : (0 : Int) ≤ m.size := by omega
        clear hfs hnx hrest hE hb hf
        by_cases h64 : m.size ≤ 64
        · have h64i : ¬ (64 : Int) < m.size := by omega
          have hb1 : ((UInt8.ofNat m.size).toNat : Int) = (m.size : Int) := by simp; omega
          have hb2 : ((UInt8.ofNat (m.size + 9)).toNat : Int) = (m.size : Int) + 9 := by simp; omega
          have hs1 := fun W g hc => str_cell W g _ _ hb1 hc
          have hs2 := fun W g hc => str_cell W g _ _ hb2 hc
          have HAPP := Lib.hid (show ∀ acc : List UInt8, (((((⟨acc.toArray⟩ : ByteArray) ++ ⟨#[UInt8.ofNat m.size]⟩) ++ m) ++ ⟨(score8 s).toArray⟩) ++ ⟨#[UInt8.ofNat (m.size + 9)]⟩) = ⟨(acc ++ entB (m, s)).toArray⟩ from fun acc => by apply ba_ext; simp [entB])
          have hal : (UInt8.ofNat (l.length / 256) :: UInt8.ofNat l.length :: (l.take k).flatMap entB).length ≤ 100000 := by simp only [List.length_cons]; omega
          generalize (UInt8.ofNat (l.length / 256) :: UInt8.ofNat l.length :: (l.take k).flatMap entB) = acc at *
          have happ := HAPP.out acc
          obtain ⟨OUT, hOUT⟩ : ∃ O : ByteArray, O = ⟨(acc ++ entB (m, s)).toArray⟩ := ⟨_, rfl⟩
          rw [← hOUT] at happ
          have HOUT := Lib.hid hOUT
          clear hOUT
          have ha0 : (⟨acc.toArray⟩ : ByteArray).size ≤ 100000 := by show acc.toArray.size ≤ 100000; simpa using hal
          have ha1 : (⟨#[UInt8.ofNat m.size]⟩ : ByteArray).size = 1 := rfl
          have ha2 : (⟨(score8 s).toArray⟩ : ByteArray).size = 8 := by show (score8 s).toArray.size = 8; simp [score8_length]
          have ha3 : (⟨#[UInt8.ofNat (m.size + 9)]⟩ : ByteArray).size = 1 := rfl
          have HAP2 := Lib.hid happ
          clear happ hal
          generalize (⟨acc.toArray⟩ : ByteArray) = A at *
          generalize (⟨#[UInt8.ofNat m.size]⟩ : ByteArray) = B1 at *
          have HSC1 := fun w => HSC s w
          generalize (⟨(score8 s).toArray⟩ : ByteArray) = SC at *
          generalize (⟨#[UInt8.ofNat (m.size + 9)]⟩ : ByteArray) = B2 at *
          have z1 : ¬ 9223372036854775807 < A.size + B1.size := by omega
          have z2 : ¬ 9223372036854775807 < A.size + B1.size + m.size := by omega
          have z3 : ¬ 9223372036854775807 < A.size + B1.size + m.size + SC.size := by omega
          have z4 : ¬ 9223372036854775807 < A.size + B1.size + m.size + SC.size + B2.size := by omega
          clear ha0 ha1 ha2 ha3
          have hw1 : IntKind.u8.wrap (m.size : Int) = m.size := IntWalk.u8_in _ (by omega)
          have hw2 : IntKind.i64.wrap ((m.size : Int) + 9) = (m.size : Int) + 9 := IntWalk.i64_in _ (by omega)
          have hw3 : IntKind.u8.wrap ((m.size : Int) + 9) = (m.size : Int) + 9 := IntWalk.u8_in _ (by omega)
          clear hb1 hb2 hfl htk
          go_wp2_with fail
          have hS0 : wr.cell? ⟨b, off + k * 2, none⟩ = some (.string m) ∧ wr.cell? ⟨b, off + k * 2 + 1, none⟩ = some (.int .i64 s) ∧ Below w.heap.size w wr ∧ w.heap.size ≤ wr.heap.size := ⟨c0, c1, HB.out, HB.out.size⟩
          go_region_held (fun w' => w'.cell? ⟨b, off + k * 2, none⟩ = some (.string m) ∧ w'.cell? ⟨b, off + k * 2 + 1, none⟩ = some (.int .i64 s) ∧ Below w.heap.size w w' ∧ w.heap.size ≤ w'.heap.size)
            (first | assumption | exact keepD (by assumption) | exact keepA (by assumption) | exact keepC (by assumption) (by assumption) | (go_split_ands; exact keepA ⟨by assumption, by assumption, by assumption, by assumption⟩) | (go_split_ands; exact keepC (by assumption) ⟨by assumption, by assumption, by assumption, by assumption⟩))
            (first | (go_at_call 31; refine (HSC1 _).out.mono ?_; rintro e w5 ⟨rfl, hb5⟩; have hcc := fun (b o : Nat) (hh : b < _) => hb5.cell (p := ⟨b, o, none⟩) hh; first | (have hz6 : wr.heap.size < w5.heap.size ∧ wr.heap.size + 1 < w5.heap.size ∧ w5.cell? ⟨wr.heap.size, 0, none⟩ = some _ ∧ w5.cell? ⟨wr.heap.size + 1, 0, none⟩ = some _ := ⟨(cellsA2 (below_drew hb5)).2.2.1, (cellsA2 (below_drew hb5)).2.2.2, (cellsA2 (below_drew hb5)).1, (cellsA2 (below_drew hb5)).2.1⟩) | (have hz6 : wr.heap.size < w5.heap.size ∧ w5.cell? ⟨wr.heap.size, 0, none⟩ = some _ := ⟨(cellsA1 (below_drew hb5)).2, (cellsA1 (below_drew hb5)).1⟩) | skip))
          all_goals go_wp2_with fail
          all_goals first
            | exact ⟨⟨k + 1, by go_num, hlt, by assumption, by rw [HFS.out, HFK.out]; simp [h64], by rw [HNX.out, HAP2.out, HOUT.out]⟩, by simp [intOf]; omega⟩
            | (go_split_ands; exact ⟨⟨k + 1, by go_num, hlt, by assumption, by rw [HFS.out, HFK.out]; simp [h64], by rw [HNX.out, HAP2.out, HOUT.out]⟩, by simp [intOf]; omega⟩)
        · have h64i : (64 : Int) < m.size := by omega
          have hff := HR.out h64
          have HFF := Lib.hid hff
          clear hff
          go_wp2_with fail
          go_ret2
          rw [HPR.out, HFF.out]
          exact ⟨rfl, HB.out⟩
      · obtain rfl : k = l.length := by omega
        rw [List.take_length] at hf ⊢
        have HF := Lib.hid hf
        have HB := Lib.hid hb
        have HX := Lib.hid (show packB l = ⟨(UInt8.ofNat (l.length / 256) :: UInt8.ofNat l.length :: l.flatMap entB).toArray⟩ by unfold packB packS; rfl)
        clear hf hb hE
        generalize (⟨(UInt8.ofNat (l.length / 256) :: UInt8.ofNat l.length :: l.flatMap entB).toArray⟩ : ByteArray) = OUT at *
        go_wp2_with fail
        go_ret2
        rw [HPR.out, if_pos HF.out, HX.out]
        exact ⟨rfl, HB.out⟩
end Go.Proofs.Ytioidnfmpbdmhaa
