/- How a number is written, whatever the library's table of powers holds: one function of the table and the number. -/
import Derived.Test.YtjcgfbmkgfhnaaaDoorBase10
import Derived.Test.YtjcgfbmkgfhnaaaDoorShelf
namespace Go.Proofs.YtjcgfbmkgfhnaaaDoor
open Go.RowKit Go.Shelf Go.Sort

/-- The library's table, whatever it holds. -/
def Tab (T : Nat → Int) (W : World) : Prop := ∀ i, i < 20 → W.cell? ⟨3, i, none⟩ = some (.int .u64 (T i))
theorem Tab.below {T : Nat → Int} {A B : World} {n : Nat} (h : Tab T A) (hb : Below n A B) (hn : 3 < n) : Tab T B := fun i hi => (hb.cell (p := ⟨3, i, none⟩) hn).trans (h i hi)

/-- How many places are taken. -/
def ndS (T : Nat → Int) (u : Nat) : Nat := if T (Lib.l10 (Lib.bitLen u)) ≤ (u : Int) then Lib.l10 (Lib.bitLen u) + 1 else Lib.l10 (Lib.bitLen u)

theorem l10_small : ∀ x : Fin 65, Lib.l10 x.1 ≤ 19 ∧ 2 ^ x.1 ≤ 10 ^ (Lib.l10 x.1 + 1) := by decide +kernel
theorem lt_two_bitLen : ∀ (f u : Nat), u < 2 ^ f → u < 2 ^ Lib.bitLenAux f u
  | 0, u, h => by simpa [Lib.bitLenAux] using h
  | f + 1, u, h => by
    unfold Lib.bitLenAux
    split
    · rename_i h0; subst h0; simp
    · have := lt_two_bitLen f (u / 2) (by rw [Nat.pow_succ] at h; omega)
      rw [Nat.add_comm, Nat.pow_succ]; omega
theorem bits_le {u : Nat} (h : u < 18446744073709551616) : Lib.bitLen u ≤ 64 := Lib.bitLen_le u 64 (Nat.le_refl _) h
theorem ndS_le (T : Nat → Int) {u : Nat} (h : u < 18446744073709551616) : ndS T u ≤ 20 := by
  have := (l10_small ⟨Lib.bitLen u, by have := bits_le h; omega⟩).1
  unfold ndS; split <;> simp at this <;> omega
theorem lt_ndS (T : Nat → Int) {u : Nat} (h : u < 18446744073709551616) : u < 10 ^ (ndS T u + 1) := by
  have h1 := (l10_small ⟨Lib.bitLen u, by have := bits_le h; omega⟩).2
  have h2 := lt_two_bitLen 64 u h
  have h3 : u < 10 ^ (Lib.l10 (Lib.bitLen u) + 1) := Nat.lt_of_lt_of_le h2 h1
  unfold ndS; split
  · exact Nat.lt_of_lt_of_le h3 (Nat.pow_le_pow_right (by decide) (by omega))
  · exact h3

set_option maxRecDepth 100000 in
set_option maxHeartbeats 2000000 in
theorem nd_any (T : Nat → Int) (u : Nat) (h2 : u < 18446744073709551616) (w : World) (hT : Tab T w) :
    Calls Tryd.prog 107 #[.int .u64 u] w fun e w' => e = .returned (.int .i64 (ndS T u)) ∧ w' = w := by
  have hL := bits_le h2
  have hq := (l10_small ⟨Lib.bitLen u, by omega⟩).1
  have hto : ((u : Int)).toNat = u := by omega
  have H1 := fun w => Lib.hid (Tryd.bits_Len64 u w (by omega) (by omega))
  have H2 := fun w => Lib.hid (Tryd.internal_strconv_log10Pow2 (Lib.bitLen u) hL w)
  rw [hto] at H1
  have hn : ndS T u = (if T (Lib.l10 (Lib.bitLen u)) ≤ (u : Int) then Lib.l10 (Lib.bitLen u) + 1 else Lib.l10 (Lib.bitLen u)) := rfl
  simp only at hq
  generalize Lib.l10 (Lib.bitLen u) = q at hn hq H2
  have hcell := hT q (by omega)
  have H3 := fun b w => Lib.hid (Tryd.internal_strconv_bool2_int b w)
  clear hT
  generalize T q = t at hn hcell
  have HN := Lib.hid hn
  clear hn
  go_enter Tryd.func107, Tryd.ntmps107
  go_wp2_with (first
    | (go_at_call 111; refine (H1 _).out.mono ?_; rintro e w' ⟨rfl, rfl⟩)
    | (go_at_call 110; refine (H2 _).out.mono ?_; rintro e w' ⟨rfl, rfl⟩)
    | (go_at_call 112; refine (H3 _ _).out.mono ?_; rintro e w' ⟨rfl, rfl⟩))
  · go_ret
    refine ⟨?_, rfl⟩
    rw [HN.out, if_pos (by assumption)]
    rfl
  · go_ret
    refine ⟨?_, rfl⟩
    rw [HN.out, if_neg (by omega)]
    rfl

/-- How a number is written. -/
def fmtS (T : Nat → Int) (n : Int) : List UInt8 :=
  if 0 ≤ n ∧ n < 100 then Lib.decDigits n.toNat else if n < 0 then 45 :: tgtL n.natAbs (ndS T n.natAbs) else tgtL n.toNat (ndS T n.toNat)

theorem fmtS_small (T : Nat → Int) {n : Nat} (h : n < 100) : fmtS T n = Lib.decDigits n := by
  unfold fmtS; rw [if_pos (by omega)]; simp
theorem fmtS_size (T : Nat → Int) {n : Int} (h0 : -9223372036854775808 ≤ n) (h1 : n ≤ 9223372036854775807) : (fmtS T n).length ≤ 21 := by
  unfold fmtS
  split
  · rename_i h
    have : ∀ k : Fin 100, (Lib.decDigits k.1).length ≤ 21 := by decide +kernel
    exact this ⟨n.toNat, by omega⟩
  · split
    · rw [List.length_cons, tgtL_length]; have := ndS_le T (u := n.natAbs) (by omega); omega
    · rw [tgtL_length]; have := ndS_le T (u := n.toNat) (by omega); omega

theorem row_list {m u v : Nat} {dk : Array UInt8} {w : World} {b : Nat} (hH : Holds e8 w b 1 (Array.replicate m (0 : UInt8))) (hF : Fill m u 0 v dk) (j : Nat) (hj : j < (tgtL u m).length) :
    (putRow e8 w b 1 dk).cell? ⟨b, 1 + j, none⟩ = some (.int .u8 (((tgtL u m)[j]).toNat : Int)) := by
  rw [hF.at j hj]
  rw [tgtL_length] at hj
  exact cell?_putRow e8 w b 1 _ dk hH (by rw [hF.size, Array.size_replicate]) j (by rw [hF.size]; exact hj)

theorem Tab.alloc {T : Nat → Int} {w : World} (h : Tab T w) (o : Obj) : Tab T (w.alloc o) := fun i hi => by
  have := h i hi
  rw [← this]
  exact World.cell?_alloc_past _ _ _ (World.block_lt_of_cell? _ _ this)

theorem below_grow (w : World) (k : Nat) (os : Array Obj) : Below w.heap.size w (grow (w.drewN k) os) :=
  ⟨rfl, rfl, rfl, by simp [grow], fun q hq => by
    show ((w.drewN k).heap ++ os)[q]? = w.heap[q]?
    rw [Array.getElem?_append_left (by simpa using hq)]; rfl⟩

set_option maxRecDepth 100000 in
set_option maxHeartbeats 4000000 in
theorem formatInt_pos (T : Nat → Int) (u : Nat) (h1 : u ≤ 9223372036854775807) (h100 : ¬ ((u : Int) < 100)) (w : World) (hT : Tab T w) :
    Calls Tryd.prog 105 #[.int .i64 u, .int .i64 10] w fun e w' => e = .returned (.string (ba (tgtL u (ndS T u)))) ∧ Below w.heap.size w w' := by
  have h64 : u < 18446744073709551616 := by omega
  have hN := nd_any T u h64 (w.alloc (.cells Lib.zeros24 160)) (hT.alloc _)
  have hle := ndS_le T h64
  have hlt := lt_ndS T h64
  generalize ndS T u = m at hN hle hlt
  have hal : Tryd.prog.arrayLen 160 = 24 := by kernel_rfl
  have hs1 : ∀ W, (Instr.sliceAt 160 (.pointer (some ⟨w.heap.size, 0, none⟩)) (some (.int .i64 1)) (some (.int .i64 (1 + (m : Int)))) none).run Tryd.prog W = .ok (.slice (some ⟨w.heap.size, 1, none⟩) m 23) W := fun W => by
    rw [run_sliceAt_array_lh W 160 ⟨w.heap.size, 0, none⟩ (by kernel_rfl) .i64 .i64 1 (1 + (m : Int)) (by omega) (by omega) (by rw [hal]; omega)]
    go_simp
    omega
  have hH := Lib.holds_zero w 160 m (by omega)
  have hF := base10_any w.heap.size 1 23 u (Array.replicate m 0) (w.alloc (.cells Lib.zeros24 160)) hH (by rw [Array.size_replicate]; exact hlt) h64 (by rw [Array.size_replicate]; omega)
  rw [Array.size_replicate] at hF
  have HH := Lib.hid hH
  have HN := Lib.hid hN
  have HF := Lib.hid hF
  clear hH hF hN hT hal hlt
  go_enter Tryd.func105, Tryd.ntmps105
  go_wp2_with (first
    | (go_at_call 107; refine HN.out.mono ?_; rintro e w' ⟨rfl, rfl⟩))
  refine HF.out.mono ?_
  clear HF
  rintro e w' ⟨rfl, k, v', dk, rfl, hF⟩
  have hcv : (convert 44 9 (.slice (some ⟨w.heap.size, 1, none⟩) m 23)).run Tryd.prog ((putRow e8 (w.alloc (.cells Lib.zeros24 160)) w.heap.size 1 dk).drewN k) = .ok (.string (ba (tgtL u m))) ((putRow e8 (w.alloc (.cells Lib.zeros24 160)) w.heap.size 1 dk).drewN k) := by
    have h := run_convert_bytes_back (P := Tryd.prog) ((putRow e8 (w.alloc (.cells Lib.zeros24 160)) w.heap.size 1 dk).drewN k) 44 9 5 ⟨w.heap.size, 1, none⟩ 23 (tgtL u m) Tryd.underlying44 Tryd.underlying5 Tryd.underlying9 (fun j hj => by
      rw [Lib.add_plain, World.cell?_drewN]
      exact row_list HH.out hF j hj)
    rw [tgtL_length] at h
    exact h
  go_wp2
  go_ret
  obtain ⟨os, eo⟩ := Lib.fin_pos w (.cells Lib.zeros24 160) dk k
  refine ⟨rfl, ?_⟩
  rw [eo]
  exact below_grow _ _ _

set_option maxRecDepth 100000 in
set_option maxHeartbeats 4000000 in
theorem formatInt_neg (T : Nat → Int) (u : Nat) (h0 : 1 ≤ u) (h1 : u ≤ 9223372036854775808) (w : World) (hT : Tab T w) :
    Calls Tryd.prog 105 #[.int .i64 (-(u : Int)), .int .i64 10] w fun e w' => e = .returned (.string (ba (45 :: tgtL u (ndS T u)))) ∧ Below w.heap.size w w' := by
  have h64 : u < 18446744073709551616 := by omega
  have hN := nd_any T u h64 (w.alloc (.cells Lib.zeros24 160)) (hT.alloc _)
  have hle := ndS_le T h64
  have hlt := lt_ndS T h64
  generalize ndS T u = m at hN hle hlt
  have hwr : IntKind.u64.wrap (-IntKind.u64.wrap (-(u : Int))) = (u : Int) := by rw [IntKind.wrap_u64, IntKind.wrap_u64]; omega
  have hal : Tryd.prog.arrayLen 160 = 24 := by kernel_rfl
  have hs1 : ∀ W, (Instr.sliceAt 160 (.pointer (some ⟨w.heap.size, 0, none⟩)) (some (.int .i64 1)) (some (.int .i64 (1 + (m : Int)))) none).run Tryd.prog W = .ok (.slice (some ⟨w.heap.size, 1, none⟩) m 23) W := fun W => by
    rw [run_sliceAt_array_lh W 160 ⟨w.heap.size, 0, none⟩ (by kernel_rfl) .i64 .i64 1 (1 + (m : Int)) (by omega) (by omega) (by rw [hal]; omega)]
    go_simp
    omega
  have hs2 : ∀ W, (Instr.sliceAt 160 (.pointer (some ⟨w.heap.size, 0, none⟩)) none (some (.int .i64 (1 + (m : Int)))) none).run Tryd.prog W = .ok (.slice (some ⟨w.heap.size, 0, none⟩) (1 + m) 24) W := fun W => by
    rw [run_sliceAt_array_h W 160 ⟨w.heap.size, 0, none⟩ (by kernel_rfl) .i64 (1 + (m : Int)) (by omega) (by rw [hal]; omega)]
    go_simp
    omega
  have hH := Lib.holds_zero w 160 m (by omega)
  have hF := base10_any w.heap.size 1 23 u (Array.replicate m 0) (w.alloc (.cells Lib.zeros24 160)) hH (by rw [Array.size_replicate]; exact hlt) h64 (by rw [Array.size_replicate]; omega)
  rw [Array.size_replicate] at hF
  have HH := Lib.hid hH
  have HN := Lib.hid hN
  have HF := Lib.hid hF
  clear hH hF hN hT hal hlt
  go_enter Tryd.func105, Tryd.ntmps105
  go_wp2_with (first
    | (go_at_call 107; refine HN.out.mono ?_; rintro e w' ⟨rfl, rfl⟩))
  refine HF.out.mono ?_
  clear HF
  rintro e w' ⟨rfl, k, v', dk, rfl, hF⟩
  have hc0 : ((putRow e8 (w.alloc (.cells Lib.zeros24 160)) w.heap.size 1 dk).drewN k).cell? ⟨w.heap.size, 0, none⟩ = some (.int .u8 0) := by
    rw [World.cell?_drewN, cell?_putRow_other _ _ _ _ _ _ (Or.inr (Or.inl (Nat.zero_lt_one))), World.cell?_alloc_new]
    exact Lib.zeros24_at 0 (by omega)
  have hf0 : ((putRow e8 (w.alloc (.cells Lib.zeros24 160)) w.heap.size 1 dk).drewN k).frozen? ⟨w.heap.size, 0, none⟩ = false := by
    rw [World.frozen?_drewN, frozen?_putRow]
    exact World.frozen?_alloc_new _ _ _ _
  have hcv : (convert 44 9 (.slice (some ⟨w.heap.size, 0, none⟩) (1 + m) 24)).run Tryd.prog (((putRow e8 (w.alloc (.cells Lib.zeros24 160)) w.heap.size 1 dk).drewN k).setCell ⟨w.heap.size, 0, none⟩ (.int .u8 45)) =
      .ok (.string (ba (45 :: tgtL u m))) (((putRow e8 (w.alloc (.cells Lib.zeros24 160)) w.heap.size 1 dk).drewN k).setCell ⟨w.heap.size, 0, none⟩ (.int .u8 45)) := by
    have h := run_convert_bytes_back (P := Tryd.prog) (((putRow e8 (w.alloc (.cells Lib.zeros24 160)) w.heap.size 1 dk).drewN k).setCell ⟨w.heap.size, 0, none⟩ (.int .u8 45)) 44 9 5 ⟨w.heap.size, 0, none⟩ 24 (45 :: tgtL u m) Tryd.underlying44 Tryd.underlying5 Tryd.underlying9 (fun j hj => by
      rw [Lib.add_plain]
      cases j with
      | zero => exact World.cell?_setCell_same _ _ _ hc0
      | succ i =>
        have hi : i < (tgtL u m).length := by simpa using hj
        rw [World.cell?_setCell_other _ _ _ _ (by simp), List.getElem_cons_succ, World.cell?_drewN, show 0 + (i + 1) = 1 + i by omega]
        exact row_list HH.out hF i hi)
    rw [List.length_cons, tgtL_length, Nat.add_comm] at h
    exact h
  go_wp2
  go_ret
  obtain ⟨os, eo⟩ := Lib.fin_neg w (.cells Lib.zeros24 160) dk k (.int .u8 45)
  refine ⟨rfl, ?_⟩
  rw [eo]
  exact below_grow _ _ _

/-- A number is written so, whatever the table holds. -/
theorem formatInt_any (T : Nat → Int) (n : Int) (h0 : -9223372036854775808 ≤ n) (h1 : n ≤ 9223372036854775807) (w : World) (hT : Tab T w) :
    Calls Tryd.prog 105 #[.int .i64 n, .int .i64 10] w fun e w' => e = .returned (.string (ba (fmtS T n))) ∧ Below w.heap.size w w' := by
  unfold fmtS
  split
  · rename_i h
    obtain ⟨k, rfl⟩ := Int.eq_ofNat_of_zero_le h.1
    refine (Tryd.internal_strconv_FormatInt_10_small k (by omega) w).mono ?_
    rintro e w' ⟨rfl, rfl⟩
    exact ⟨rfl, Below.refl _ _⟩
  · split
    · obtain ⟨u, rfl⟩ : ∃ u : Nat, n = -(u : Int) := ⟨n.natAbs, by omega⟩
      have := formatInt_neg T u (by omega) (by omega) w hT
      rwa [show (-(u : Int)).natAbs = u by omega]
    · obtain ⟨u, rfl⟩ : ∃ u : Nat, n = u := ⟨n.toNat, by omega⟩
      have := formatInt_pos T u (by omega) (by omega) w hT
      rwa [show ((u : Int)).toNat = u by omega]

end Go.Proofs.YtjcgfbmkgfhnaaaDoor
