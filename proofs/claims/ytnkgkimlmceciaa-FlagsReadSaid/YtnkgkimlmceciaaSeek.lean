/- Which flag's word a text is: find. -/
import Derived.Test.YtnkgkimlmceciaaFind
import Derived.Lib.OthersKept
import Derived.Scope
namespace Go.Proofs.Ytnkgkimlmceciaa
open Go.RowKit Go.Shelf
attribute [local go_sem] Oper.semAt_some

/-- The flag's number; none. -/
def kindOf (s : ByteArray) : Option Nat := (List.range 6).find? (matchK s)
def kindV (s : ByteArray) : Value := match kindOf s with
  | some k => .tuple #[.agg (flagC k), .bool true]
  | none => .tuple #[.agg #[.string ⟨#[]⟩, .nilFunc], .bool false]
theorem kind_none {s : ByteArray} (h : ∀ j, j < 6 → matchK s j = false) : kindOf s = none := by
  unfold kindOf
  rw [List.find?_eq_none]
  intro x hx
  rw [h x (List.mem_range.1 hx)]; simp
theorem kind_some {s : ByteArray} {k : Nat} (hk : k < 6) (h : ∀ j, j < k → matchK s j = false) (hm : matchK s k = true) : kindOf s = some k := by
  unfold kindOf
  rw [List.find?_range_eq_some]
  exact ⟨hm, List.mem_range.2 hk, fun j hj => by rw [h j hj]; rfl⟩

structure Seek (s : ByteArray) (w wr : World) (k : Nat) : Prop where
  below : Below w.heap.size w wr
  res : Blk wr w.heap.size 47 #[.string ⟨#[]⟩, .nilFunc]
  none : ∀ j, j < k → matchK s j = false
  lt : k ≤ 6

structure Inner (s : ByteArray) (k : Nat) (W1 wr : World) (f pos : Nat) : Prop where
  iter : wr.heap[W1.heap.size]? = some (.stringIter s pos)
  below : Below W1.heap.size W1 wr
  fuel : pos + f = s.size
  ok : ∀ j, j < pos → okAt s k j = true
theorem Inner.next {s : ByteArray} {k : Nat} {W1 wr : World} {f pos : Nat} (h : Inner s k W1 wr (f + 1) pos) (ho : okAt s k pos = true) (hd : (Utf8.decode s pos).2 = 1) :
    Inner s k W1 (wr.iterAt W1.heap.size s (pos + (Utf8.decode s pos).2)) f (pos + 1) :=
  ⟨by rw [hd]; exact Lib.iterAt_heap _ _ _ _ _ h.iter, Lib.below_iterAt h.below (Nat.le_refl _) _ _, by have := h.fuel; omega, fun j hj => by
    by_cases e : j = pos
    · rw [e]; exact ho
    · exact h.ok j (by omega)⟩

theorem below_drewN {B : Nat} {a w : World} (h : Below B a w) (n : Nat) : Below B a (w.drewN n) := ⟨h.os, h.tape, h.output, h.size, h.block⟩
theorem Inner.drewN {s : ByteArray} {k : Nat} {W1 wr : World} {f pos : Nat} (h : Inner s k W1 wr f pos) (n : Nat) : Inner s k W1 (wr.drewN n) f pos := ⟨h.iter, below_drewN h.below n, h.fuel, h.ok⟩
theorem byte_wrap (b : UInt8) : wrap32 (b.toNat : Int) = (b.toNat : Int) := IntWalk.wrap32_in _ (by have := b.toNat_lt; omega)
theorem Seek.next {s : ByteArray} {w wr W1 W2 : World} {k : Nat} (h : Seek s w wr k) (hk : k < 6) (h1 : Below wr.heap.size wr W1) (h2 : Below W1.heap.size W1 W2) (hm : matchK s k = false) : Seek s w W2 (k + 1) := by
  have h3 := h1.trans (h2.mono h1.size)
  refine ⟨h.below.trans (h3.mono h.below.size), h.res.later h3, fun j hj => ?_, by omega⟩
  by_cases e : j = k
  · rw [e]; exact hm
  · exact h.none j (by omega)

set_option maxRecDepth 100000 in
set_option maxHeartbeats 4000000 in
theorem find_any (s : ByteArray) (w : World) : Calls Try.prog 30 #[.string s] w fun e w' => e = .returned (kindV s) ∧ Below w.heap.size w w' := by
  have HA := fun w => Lib.hid (all_any w)
  go_enter Try.func30, Try.ntmps30
  go_wp2_with fail
  refine wp_scope_straight ?_
  go_wp2_with fail
  refine wp_label ?_
  go_wp2_with fail
  refine (HA _).out.mono ?_
  rintro e w1 ⟨rfl, hb1⟩
  have B1 := Lib.hid (((Below.refl _ _).alloc (Nat.le_refl _) _).trans (hb1.mono (by simp)))
  have K1 := Lib.hid ((Blk.new w 47 #[.string ⟨#[]⟩, .nilFunc]).later hb1)
  clear hb1
  go_wp2_with fail
  go_loopw [9] (fun i wr => ∃ k : Nat, i = .int .i64 k ∧ Seek s w wr k) (fun i _ => 6 - (intOf i).toNat)
  case atStart => exact ⟨0, rfl, B1.out, K1.out, fun j hj => by omega, by omega⟩
  case round =>
    obtain ⟨k, rfl, hR⟩ := hrel
    by_cases hk : k < 6
    · have hix := fun W => index_all k hk W
      have hk2 : (k : Int) < 6 := by omega
      have HR := Lib.hid hR
      clear hR
      simp only [flagC, fn_] at hix
      have hz := kw_size k
      have hk3 : (kw k).size ≤ 4 := by omega
      by_cases hsz : s.size = (kw k).size
      · have hszB : ((s.size : Int) != ((kw k).size : Int)) = false := by rw [hsz]; simp
        have HSZ := Lib.hid hsz
        have HZ := Lib.hid hz
        clear hsz hz
        go_wp2_with fail
        have B2 := Lib.hid (HR.out.below.alloc HR.out.below.size (.cells #[.string (kw k), .func (.func (31 + k)) #[] #[]] 47))
        have R2 := Lib.hid (HR.out.res.alloc (.cells #[.string (kw k), .func (.func (31 + k)) #[] #[]] 47))
        have X2 := Lib.hid (Blk.new wr 47 #[.string (kw k), .func (.func (31 + k)) #[] #[]])
        obtain ⟨b, hb⟩ : ∃ b, b = wr.heap.size := ⟨_, rfl⟩
        rw [← hb] at X2
        rw [← hb]
        obtain ⟨W1, hW1⟩ : ∃ W1, W1 = wr.alloc (.cells #[.string (kw k), .func (.func (31 + k)) #[] #[]] 47) := ⟨_, rfl⟩
        have BW := Lib.hid (show Below wr.heap.size wr W1 by rw [hW1]; exact (Below.refl _ _).alloc (Nat.le_refl _) _)
        have HS1 := Lib.hid (show W1.heap.size = b + 1 by rw [hW1, hb]; simp)
        rw [← hW1] at B2 R2 X2 ⊢
        clear hix hW1 hb
        go_loopg [6, 7] s.size (fun g _ _ wi => ∃ pos : Nat, Inner s k W1 wi g pos)
        case atStart => exact ⟨0, heap_at rfl, (Below.refl _ _).alloc (Nat.le_refl _) _, by omega, fun j hj => by omega⟩
        case round =>
          obtain ⟨pos, hI⟩ := hrel
          have hit := hI.iter
          by_cases hp : pos < s.size
          · have hp2 : pos < (kw k).size := by rw [← HSZ.out]; exact hp
            obtain ⟨f, rfl⟩ : ∃ f, gk = f + 1 := ⟨gk - 1, by have := hI.fuel; omega⟩
            have hnx : ∀ ty, (Instr.next (.pointer (some ⟨b + 1, 0, none⟩)) true ty).run Try.prog wr = _ := fun ty => Lib.run_next_any_at wr (b + 1) s pos ty (by rw [← HS1.out]; exact hit) hp
            have hr1 : (Utf8.decode s pos).1 ≤ 2147483647 := decode_le s pos
            have hI2 := Lib.hid hI
            have hst := at_step (k := k) hp hp2
            obtain ⟨r, hr⟩ : ∃ r, r = (Utf8.decode s pos).1 := ⟨_, rfl⟩
            obtain ⟨wi, hwi⟩ : ∃ wi, wi = wr.iterAt (b + 1) s (pos + (Utf8.decode s pos).2) := ⟨_, rfl⟩
            rw [← hr] at hst hr1
            rw [← hr, ← hwi] at hnx
            have HWI := Lib.hid hwi
            clear hwi hr hI hit
            have HC := fun w => Lib.hid (capital_any (r : Int) w (by omega) (by omega))
            have hbw : Below W1.heap.size W1 wi := by rw [HWI.out]; exact Lib.below_iterAt hI2.out.below (by rw [HS1.out]; exact Nat.le_refl _) _ _
            have hX := X2.out.later hbw
            have x0 := hX.cell 0
            have x1 := hX.cell 1
            simp at x0 x1
            have HX := Lib.hid hX
            have HBW := Lib.hid hbw
            clear hX hbw
            rcases hst with ⟨ho, hd, hc⟩ | ⟨ho, hc⟩
            · rw [hc] at HC
              have HO := Lib.hid ho
              have HD := Lib.hid hd
              clear ho hd hc
              go_wp2_with fail
              go_quiet ((go_at_call 38; exact Calls.quiet_of_same (HC _).out))
              simp only [byte_wrap, bne_self_eq_false]
              go_wp2_with fail
              go_roundg f
              case measure => omega
              case rel => exact ⟨pos + 1, Inner.drewN (by rw [HWI.out, ← HS1.out]; exact (hI2.out.next HO.out HD.out)) nq⟩
            · have hcb : (capI (r : Int) != ((kw k)[pos].toNat : Int)) = true := by simpa using hc
              have HO := Lib.hid ho
              clear ho hc
              go_wp2_with fail
              go_quiet ((go_at_call 38; exact Calls.quiet_of_same (HC _).out))
              simp only [byte_wrap, hcb]
              go_wp2_with fail
              exact ⟨⟨k + 1, by go_num, HR.out.next hk BW.out (below_drewN HBW.out nq) (match_not HO.out)⟩, by simp [intOf]; omega⟩
          · have hnx : ∀ ty, (Instr.next (.pointer (some ⟨b + 1, 0, none⟩)) true ty).run Try.prog wr = _ := fun ty => Lib.run_next_end_at wr (b + 1) s pos ty (by rw [← HS1.out]; exact hit) hp
            have hx := X2.out.later hI.below
            have x0 := hx.cell 0
            have x1 := hx.cell 1
            have hy := R2.out.later hI.below
            have y0 := hy.cell 0
            have y1 := hy.cell 1
            have g0 := hy.free 0
            have g1 := hy.free 1
            simp at x0 x1 y0 y1
            have HI := Lib.hid hI
            clear hI hit hx hy
            go_wp2_with fail
            have hm : matchK s k = true := match_all HSZ.out fun j hj => HI.out.ok j (by have := HI.out.fuel; omega)
            have hkv : kindV s = .tuple #[.agg (flagC k), .bool true] := by unfold kindV; rw [kind_some hk HR.out.none hm]
            have hle := (B2.out.trans (HI.out.below.mono B2.out.size))
            show bodyPost Try.prog Try.f30 (fun e w' => e = .returned (kindV s) ∧ Below w.heap.size w w') .ret _ _
            refine bodyPost_ret (v := .tuple #[.agg (flagC k), .bool true]) (by simp [results, Try.results30, go_sem, flagC, fn_, y0, y1]) rfl ⟨ret_v hkv.symm, ?_⟩
            exact (hle.setCell (p := ⟨w.heap.size, 0, none⟩) (Nat.le_refl _) _).setCell (p := ⟨w.heap.size, 1, none⟩) (Nat.le_refl _) _
      · have hszB : ((s.size : Int) != ((kw k).size : Int)) = true := by rw [bne_iff_ne]; omega
        have HSZ := Lib.hid hsz
        clear hsz hz
        go_wp2_with fail
        exact ⟨⟨k + 1, by go_num, HR.out.next hk ((Below.refl _ _).alloc (Nat.le_refl _) _) (Below.refl _ _) (match_size HSZ.out)⟩, by simp [intOf]; omega⟩
    · obtain rfl : k = 6 := by have := hR.lt; omega
      have y0 := hR.res.cell 0
      have y1 := hR.res.cell 1
      have g0 := hR.res.free 0
      have g1 := hR.res.free 1
      simp at y0 y1
      have HR := Lib.hid hR
      clear hR
      go_wp2_with fail
      have hkv : kindV s = .tuple #[.agg #[.string ⟨#[]⟩, .nilFunc], .bool false] := by unfold kindV; rw [kind_none fun j hj => HR.out.none j hj]
      show bodyPost Try.prog Try.f30 (fun e w' => e = .returned (kindV s) ∧ Below w.heap.size w w') .ret _ _
      refine bodyPost_ret (v := .tuple #[.agg #[.string ⟨#[]⟩, .nilFunc], .bool false]) (by simp [results, Try.results30, go_sem, y0, y1]) rfl ⟨ret_v hkv.symm, ?_⟩
      exact (HR.out.below.setCell (p := ⟨w.heap.size, 0, none⟩) (Nat.le_refl _) _).setCell (p := ⟨w.heap.size, 1, none⟩) (Nat.le_refl _) _
end Go.Proofs.Ytnkgkimlmceciaa
