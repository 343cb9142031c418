/- The walk that fills a row with a number's digits. -/
import Derived.Test.YtjcgfbmkgfhnaaaDoorFill
import Derived.Shelf.RegionOpenPlain
import Derived.Lib.Walk
import Derived.Lib.ItoaWalk
import Derived.RegionTactic
import Derived.BigCall
import Derived.BigGuard
import Derived.CellFam
namespace Go.Proofs.YtjcgfbmkgfhnaaaDoor
open Go.RowKit Go.Shelf Go.Sort

theorem smalls_at (z : Int) (i : Nat) (hz : z = (i : Int)) (hi : i < 200) (w : World) : (Instr.index 9 (.string Lib.smalls) (.int .u32 z)).run Tryd.prog w = .ok (.int .u8 ((Lib.sm i).toNat : Int)) w := Lib.idx_smalls 9 Tryd.underlying9 .u32 z i hz hi w

set_option maxHeartbeats 12800000 in
set_option maxRecDepth 100000 in
theorem base10_any (blk off cap : Nat) (u : Nat) (d : Array UInt8) (w : World) (hH : Holds e8 w blk off d) (hu : u < 10 ^ (d.size + 1)) (hu64 : u < 18446744073709551616) (hsz : d.size < 4611686018427387904) :
    Calls Tryd.prog 108 #[.slice (some ⟨blk, off, none⟩) d.size cap, .int .u64 u] w fun e w' =>
      e = .returned (.tuple #[]) ∧ ∃ (n v' : Nat) (dk : Array UInt8), w' = (putRow e8 w blk off dk).drewN n ∧ Fill d.size u 0 v' dk := by
  have mixed : Tryd.prog.follows .mixedOrders = true := by kernel_rfl
  go_enter Tryd.func108, Tryd.ntmps108
  go_name_bytes SM hSM
  have eSM : SM = Lib.smalls := by rw [← hSM]; decide +kernel
  subst eSM
  clear hSM
  go_wp2
  go_loopw [1, 4] (fun vu vn wr => ∃ (nd v n : Nat) (dk : Array UInt8), vu = .int .u64 v ∧ vn = .int .i64 nd ∧ wr = (putRow e8 w blk off dk).drewN n ∧ Hid (Fill d.size u nd v dk)) (fun _ vn _ => (RowKit.intOf vn).toNat)
  case atStart => exact ⟨d.size, u, 0, d, rfl, rfl, (putRow_self _ _ _ _ _ hH).symm, Fill.start d u hu⟩
  case round =>
    obtain ⟨nd, v, n, dk0, rfl, rfl, W0e, F0⟩ := hrel
    rename World => W0
    have HH := Lib.hid hH
    clear hH
    have hv : v < 18446744073709551616 := by
      have h1 := F0.out.rest
      have h2 := Nat.div_le_self u (10 ^ (d.size - nd))
      omega
    have S0 := F0.out.size
    have H0 : Holds e8 W0 blk off dk0 := by rw [W0e]; exact holds_putRow _ w blk off d dk0 HH.out S0
    obtain ⟨G0, G0e⟩ : ∃ G : Nat → Int, ∀ t, G t = (dk0[t]!.toNat : Int) := ⟨_, fun _ => rfl⟩
    have C0 : ∀ t, t < d.size → W0.cell? ⟨blk, off + t, none⟩ = some (.int .u8 (G0 t)) := fun t ht => by rw [G0e]; exact (H0 t (by omega)).1
    have Z0 : ∀ t, t < d.size → W0.frozen? ⟨blk, off + t, none⟩ = false := fun t ht => (H0 t (by omega)).2
    have A0 := Lib.hid W0e
    clear W0e G0e H0
    by_cases h8 : 8 ≤ nd
    · obtain ⟨m, rfl⟩ : ∃ m, nd = m + 8 := ⟨nd - 8, by omega⟩
      go_wp2
      have F1 := Lib.hid (Fill.pair (show Fill d.size u (m + 6 + 2) (v) dk0 from F0.out))
      have L0 := F0.out.le
      go_name_slot 9 x0 X0
      have Y0 : x0 = ((v % 100 * 2 : Nat) : Int) := by omega
      have P0 : ∀ w, (Instr.index 9 (.string Lib.smalls) (.int .u32 (x0 + 1))).run Tryd.prog w = .ok (.int .u8 ((Lib.sm (v % 100 * 2 + 1)).toNat : Int)) w := smalls_at _ _ (by omega) (by omega)
      have Q0 : ∀ w, (Instr.index 9 (.string Lib.smalls) (.int .u32 x0)).run Tryd.prog w = .ok (.int .u8 ((Lib.sm (v % 100 * 2)).toNat : Int)) w := smalls_at _ _ (by omega) (by omega)
      have B0 : 0 ≤ x0 := by omega
      have D0 : x0 ≤ 198 := by omega
      clear X0 Y0
      go_region_o
      go_wp2
      go_name_world W1 N1
      have W1e : W1 = (putRow e8 w blk off ((dk0.setIfInBounds (m + 6 + 1) (Lib.sm (v % 100 * 2 + 1))).setIfInBounds (m + 6) (Lib.sm (v % 100 * 2)))).drewN (n + 0 + 1) := by rw [← N1]; exact (by rw [A0.out]; exact Lib.store2_world w blk off dk0 (n + 0) (m + 6 + 1) (m + 6) _ _ (by omega) (by omega))
      generalize ((dk0.setIfInBounds (m + 6 + 1) (Lib.sm (v % 100 * 2 + 1))).setIfInBounds (m + 6) (Lib.sm (v % 100 * 2))) = dk1 at W1e F1
      clear N1 C0 Z0 A0 F0 P0 Q0 S0
      have S1 := F1.out.size
      have H1 : Holds e8 W1 blk off dk1 := by rw [W1e]; exact holds_putRow _ w blk off d dk1 HH.out S1
      obtain ⟨G1, G1e⟩ : ∃ G : Nat → Int, ∀ t, G t = (dk1[t]!.toNat : Int) := ⟨_, fun _ => rfl⟩
      have C1 : ∀ t, t < d.size → W1.cell? ⟨blk, off + t, none⟩ = some (.int .u8 (G1 t)) := fun t ht => by rw [G1e]; exact (H1 t (by omega)).1
      have Z1 : ∀ t, t < d.size → W1.frozen? ⟨blk, off + t, none⟩ = false := fun t ht => (H1 t (by omega)).2
      have A1 := Lib.hid W1e
      clear W1e G1e H1
      have F2 := Lib.hid (Fill.pair (show Fill d.size u (m + 4 + 2) (v / 100) dk1 from F1.out))
      have L1 := F1.out.le
      go_name_slot 8 x1 X1
      have Y1 : x1 = ((v / 100 % 100 * 2 : Nat) : Int) := by omega
      have P1 : ∀ w, (Instr.index 9 (.string Lib.smalls) (.int .u32 (x1 + 1))).run Tryd.prog w = .ok (.int .u8 ((Lib.sm (v / 100 % 100 * 2 + 1)).toNat : Int)) w := smalls_at _ _ (by omega) (by omega)
      have Q1 : ∀ w, (Instr.index 9 (.string Lib.smalls) (.int .u32 x1)).run Tryd.prog w = .ok (.int .u8 ((Lib.sm (v / 100 % 100 * 2)).toNat : Int)) w := smalls_at _ _ (by omega) (by omega)
      have B1 : 0 ≤ x1 := by omega
      have D1 : x1 ≤ 198 := by omega
      clear X1 Y1
      go_region_o
      go_wp2
      go_name_world W2 N2
      have W2e : W2 = (putRow e8 w blk off ((dk1.setIfInBounds (m + 4 + 1) (Lib.sm (v / 100 % 100 * 2 + 1))).setIfInBounds (m + 4) (Lib.sm (v / 100 % 100 * 2)))).drewN (n + 1 + 1) := by rw [← N2]; exact (by rw [A1.out]; exact Lib.store2_world w blk off dk1 (n + 1) (m + 4 + 1) (m + 4) _ _ (by omega) (by omega))
      generalize ((dk1.setIfInBounds (m + 4 + 1) (Lib.sm (v / 100 % 100 * 2 + 1))).setIfInBounds (m + 4) (Lib.sm (v / 100 % 100 * 2))) = dk2 at W2e F2
      clear N2 C1 Z1 A1 F1 P1 Q1 S1
      have S2 := F2.out.size
      have H2 : Holds e8 W2 blk off dk2 := by rw [W2e]; exact holds_putRow _ w blk off d dk2 HH.out S2
      obtain ⟨G2, G2e⟩ : ∃ G : Nat → Int, ∀ t, G t = (dk2[t]!.toNat : Int) := ⟨_, fun _ => rfl⟩
      have C2 : ∀ t, t < d.size → W2.cell? ⟨blk, off + t, none⟩ = some (.int .u8 (G2 t)) := fun t ht => by rw [G2e]; exact (H2 t (by omega)).1
      have Z2 : ∀ t, t < d.size → W2.frozen? ⟨blk, off + t, none⟩ = false := fun t ht => (H2 t (by omega)).2
      have A2 := Lib.hid W2e
      clear W2e G2e H2
      have F3 := Lib.hid (Fill.pair (show Fill d.size u (m + 2 + 2) (v / 100 / 100) dk2 from F2.out))
      have L2 := F2.out.le
      go_name_slot 11 x2 X2
      have Y2 : x2 = ((v / 100 / 100 % 100 * 2 : Nat) : Int) := by omega
      have P2 : ∀ w, (Instr.index 9 (.string Lib.smalls) (.int .u32 (x2 + 1))).run Tryd.prog w = .ok (.int .u8 ((Lib.sm (v / 100 / 100 % 100 * 2 + 1)).toNat : Int)) w := smalls_at _ _ (by omega) (by omega)
      have Q2 : ∀ w, (Instr.index 9 (.string Lib.smalls) (.int .u32 x2)).run Tryd.prog w = .ok (.int .u8 ((Lib.sm (v / 100 / 100 % 100 * 2)).toNat : Int)) w := smalls_at _ _ (by omega) (by omega)
      have B2 : 0 ≤ x2 := by omega
      have D2 : x2 ≤ 198 := by omega
      clear X2 Y2
      go_region_o
      go_wp2
      go_name_world W3 N3
      have W3e : W3 = (putRow e8 w blk off ((dk2.setIfInBounds (m + 2 + 1) (Lib.sm (v / 100 / 100 % 100 * 2 + 1))).setIfInBounds (m + 2) (Lib.sm (v / 100 / 100 % 100 * 2)))).drewN (n + 2 + 1) := by rw [← N3]; exact (by rw [A2.out]; exact Lib.store2_world w blk off dk2 (n + 2) (m + 2 + 1) (m + 2) _ _ (by omega) (by omega))
      generalize ((dk2.setIfInBounds (m + 2 + 1) (Lib.sm (v / 100 / 100 % 100 * 2 + 1))).setIfInBounds (m + 2) (Lib.sm (v / 100 / 100 % 100 * 2))) = dk3 at W3e F3
      clear N3 C2 Z2 A2 F2 P2 Q2 S2
      have S3 := F3.out.size
      have H3 : Holds e8 W3 blk off dk3 := by rw [W3e]; exact holds_putRow _ w blk off d dk3 HH.out S3
      obtain ⟨G3, G3e⟩ : ∃ G : Nat → Int, ∀ t, G t = (dk3[t]!.toNat : Int) := ⟨_, fun _ => rfl⟩
      have C3 : ∀ t, t < d.size → W3.cell? ⟨blk, off + t, none⟩ = some (.int .u8 (G3 t)) := fun t ht => by rw [G3e]; exact (H3 t (by omega)).1
      have Z3 : ∀ t, t < d.size → W3.frozen? ⟨blk, off + t, none⟩ = false := fun t ht => (H3 t (by omega)).2
      have A3 := Lib.hid W3e
      clear W3e G3e H3
      have F4 := Lib.hid (Fill.pair (show Fill d.size u (m + 2) (v / 100 / 100 / 100) dk3 from F3.out))
      have L3 := F3.out.le
      go_name_slot 10 x3 X3
      have Y3 : x3 = ((v / 100 / 100 / 100 % 100 * 2 : Nat) : Int) := by omega
      have P3 : ∀ w, (Instr.index 9 (.string Lib.smalls) (.int .u32 (x3 + 1))).run Tryd.prog w = .ok (.int .u8 ((Lib.sm (v / 100 / 100 / 100 % 100 * 2 + 1)).toNat : Int)) w := smalls_at _ _ (by omega) (by omega)
      have Q3 : ∀ w, (Instr.index 9 (.string Lib.smalls) (.int .u32 x3)).run Tryd.prog w = .ok (.int .u8 ((Lib.sm (v / 100 / 100 / 100 % 100 * 2)).toNat : Int)) w := smalls_at _ _ (by omega) (by omega)
      have B3 : 0 ≤ x3 := by omega
      have D3 : x3 ≤ 198 := by omega
      clear X3 Y3
      go_region_o
      go_wp2
      go_roundw
      case rel =>
        refine ⟨m, v / 100000000, n + 3 + 1, ((dk3.setIfInBounds (m + 1) (Lib.sm (v / 100 / 100 / 100 % 100 * 2 + 1))).setIfInBounds (m) (Lib.sm (v / 100 / 100 / 100 % 100 * 2))), by first | go_num | (congr 1; omega), by first | go_num | (congr 1; omega), by rw [A3.out]; exact Lib.store2_world w blk off dk3 (n + 3) (m + 1) (m) _ _ (by omega) (by omega), ?_⟩
        have e : v / 100 / 100 / 100 / 100 = v / 100000000 := by omega
        rw [← e]
        exact F4.out
      case measure => simp [RowKit.intOf]; omega
    · have hc : nd = 0 ∨ nd = 1 ∨ nd = 2 ∨ nd = 3 ∨ nd = 4 ∨ nd = 5 ∨ nd = 6 ∨ nd = 7 := by omega
      rcases hc with rfl | rfl | rfl | rfl | rfl | rfl | rfl | rfl
      · have hv8 := F0.out.small8 (by omega)
        have hm := F0.out.le
        go_wp2
        go_end0
        exact ⟨rfl, n, _, dk0, A0.out, F0.out⟩
      · have hv8 := F0.out.small8 (by omega)
        have hm := F0.out.le
        have hv2 := F0.out.small2
        go_wp2
        go_end0
        exact ⟨rfl, n, _, _, by rw [A0.out]; exact Lib.store1_world0 w blk off dk0 n _ v (by omega) (by omega), F0.out.last⟩
      · have hv8 := F0.out.small8 (by omega)
        have hm := F0.out.le
        go_wp2
        have F1 := Lib.hid (Fill.pair (show Fill d.size u (0 + 2) (v) dk0 from F0.out))
        have L0 := F0.out.le
        go_name_slot 16 x0 X0
        have Y0 : x0 = ((v % 100 * 2 : Nat) : Int) := by omega
        have P0 : ∀ w, (Instr.index 9 (.string Lib.smalls) (.int .u32 (x0 + 1))).run Tryd.prog w = .ok (.int .u8 ((Lib.sm (v % 100 * 2 + 1)).toNat : Int)) w := smalls_at _ _ (by omega) (by omega)
        have Q0 : ∀ w, (Instr.index 9 (.string Lib.smalls) (.int .u32 x0)).run Tryd.prog w = .ok (.int .u8 ((Lib.sm (v % 100 * 2)).toNat : Int)) w := smalls_at _ _ (by omega) (by omega)
        have B0 : 0 ≤ x0 := by omega
        have D0 : x0 ≤ 198 := by omega
        clear X0 Y0
        go_region_o
        go_wp2
        go_end0
        exact ⟨rfl, n + 0 + 1, _, _, by rw [A0.out]; exact Lib.store2_world w blk off dk0 (n + 0) (0 + 1) (0) _ _ (by omega) (by omega), F1.out⟩
      · have hv8 := F0.out.small8 (by omega)
        have hm := F0.out.le
        go_wp2
        have F1 := Lib.hid (Fill.pair (show Fill d.size u (1 + 2) (v) dk0 from F0.out))
        have L0 := F0.out.le
        go_name_slot 16 x0 X0
        have Y0 : x0 = ((v % 100 * 2 : Nat) : Int) := by omega
        have P0 : ∀ w, (Instr.index 9 (.string Lib.smalls) (.int .u32 (x0 + 1))).run Tryd.prog w = .ok (.int .u8 ((Lib.sm (v % 100 * 2 + 1)).toNat : Int)) w := smalls_at _ _ (by omega) (by omega)
        have Q0 : ∀ w, (Instr.index 9 (.string Lib.smalls) (.int .u32 x0)).run Tryd.prog w = .ok (.int .u8 ((Lib.sm (v % 100 * 2)).toNat : Int)) w := smalls_at _ _ (by omega) (by omega)
        have B0 : 0 ≤ x0 := by omega
        have D0 : x0 ≤ 198 := by omega
        clear X0 Y0
        go_region_o
        go_wp2
        go_end0
        exact ⟨rfl, n + 0 + 1, _, _, by rw [A0.out]; exact Lib.store21_world w blk off dk0 (n + 0) (1 + 1) (1) _ _ _ (v / 100) (by omega) (by omega) (by omega), F1.out.last⟩
      · have hv8 := F0.out.small8 (by omega)
        have hm := F0.out.le
        go_wp2
        have F1 := Lib.hid (Fill.pair (show Fill d.size u (2 + 2) (v) dk0 from F0.out))
        have L0 := F0.out.le
        go_name_slot 15 x0 X0
        have Y0 : x0 = ((v % 100 * 2 : Nat) : Int) := by omega
        have P0 : ∀ w, (Instr.index 9 (.string Lib.smalls) (.int .u32 (x0 + 1))).run Tryd.prog w = .ok (.int .u8 ((Lib.sm (v % 100 * 2 + 1)).toNat : Int)) w := smalls_at _ _ (by omega) (by omega)
        have Q0 : ∀ w, (Instr.index 9 (.string Lib.smalls) (.int .u32 x0)).run Tryd.prog w = .ok (.int .u8 ((Lib.sm (v % 100 * 2)).toNat : Int)) w := smalls_at _ _ (by omega) (by omega)
        have B0 : 0 ≤ x0 := by omega
        have D0 : x0 ≤ 198 := by omega
        clear X0 Y0
        go_region_o
        go_wp2
        go_name_world W1 N1
        have W1e : W1 = (putRow e8 w blk off ((dk0.setIfInBounds (2 + 1) (Lib.sm (v % 100 * 2 + 1))).setIfInBounds (2) (Lib.sm (v % 100 * 2)))).drewN (n + 0 + 1) := by rw [← N1]; exact (by rw [A0.out]; exact Lib.store2_world w blk off dk0 (n + 0) (2 + 1) (2) _ _ (by omega) (by omega))
        generalize ((dk0.setIfInBounds (2 + 1) (Lib.sm (v % 100 * 2 + 1))).setIfInBounds (2) (Lib.sm (v % 100 * 2))) = dk1 at W1e F1
        clear N1 C0 Z0 A0 F0 P0 Q0 S0
        have S1 := F1.out.size
        have H1 : Holds e8 W1 blk off dk1 := by rw [W1e]; exact holds_putRow _ w blk off d dk1 HH.out S1
        obtain ⟨G1, G1e⟩ : ∃ G : Nat → Int, ∀ t, G t = (dk1[t]!.toNat : Int) := ⟨_, fun _ => rfl⟩
        have C1 : ∀ t, t < d.size → W1.cell? ⟨blk, off + t, none⟩ = some (.int .u8 (G1 t)) := fun t ht => by rw [G1e]; exact (H1 t (by omega)).1
        have Z1 : ∀ t, t < d.size → W1.frozen? ⟨blk, off + t, none⟩ = false := fun t ht => (H1 t (by omega)).2
        have A1 := Lib.hid W1e
        clear W1e G1e H1
        have F2 := Lib.hid (Fill.pair (show Fill d.size u (0 + 2) (v / 100) dk1 from F1.out))
        have L1 := F1.out.le
        go_name_slot 14 x1 X1
        have Y1 : x1 = ((v / 100 % 100 * 2 : Nat) : Int) := by omega
        have P1 : ∀ w, (Instr.index 9 (.string Lib.smalls) (.int .u32 (x1 + 1))).run Tryd.prog w = .ok (.int .u8 ((Lib.sm (v / 100 % 100 * 2 + 1)).toNat : Int)) w := smalls_at _ _ (by omega) (by omega)
        have Q1 : ∀ w, (Instr.index 9 (.string Lib.smalls) (.int .u32 x1)).run Tryd.prog w = .ok (.int .u8 ((Lib.sm (v / 100 % 100 * 2)).toNat : Int)) w := smalls_at _ _ (by omega) (by omega)
        have B1 : 0 ≤ x1 := by omega
        have D1 : x1 ≤ 198 := by omega
        clear X1 Y1
        go_region_o
        go_wp2
        go_end0
        exact ⟨rfl, n + 1 + 1, _, _, by rw [A1.out]; exact Lib.store2_world w blk off dk1 (n + 1) (0 + 1) (0) _ _ (by omega) (by omega), F2.out⟩
      · have hv8 := F0.out.small8 (by omega)
        have hm := F0.out.le
        go_wp2
        have F1 := Lib.hid (Fill.pair (show Fill d.size u (3 + 2) (v) dk0 from F0.out))
        have L0 := F0.out.le
        go_name_slot 15 x0 X0
        have Y0 : x0 = ((v % 100 * 2 : Nat) : Int) := by omega
        have P0 : ∀ w, (Instr.index 9 (.string Lib.smalls) (.int .u32 (x0 + 1))).run Tryd.prog w = .ok (.int .u8 ((Lib.sm (v % 100 * 2 + 1)).toNat : Int)) w := smalls_at _ _ (by omega) (by omega)
        have Q0 : ∀ w, (Instr.index 9 (.string Lib.smalls) (.int .u32 x0)).run Tryd.prog w = .ok (.int .u8 ((Lib.sm (v % 100 * 2)).toNat : Int)) w := smalls_at _ _ (by omega) (by omega)
        have B0 : 0 ≤ x0 := by omega
        have D0 : x0 ≤ 198 := by omega
        clear X0 Y0
        go_region_o
        go_wp2
        go_name_world W1 N1
        have W1e : W1 = (putRow e8 w blk off ((dk0.setIfInBounds (3 + 1) (Lib.sm (v % 100 * 2 + 1))).setIfInBounds (3) (Lib.sm (v % 100 * 2)))).drewN (n + 0 + 1) := by rw [← N1]; exact (by rw [A0.out]; exact Lib.store2_world w blk off dk0 (n + 0) (3 + 1) (3) _ _ (by omega) (by omega))
        generalize ((dk0.setIfInBounds (3 + 1) (Lib.sm (v % 100 * 2 + 1))).setIfInBounds (3) (Lib.sm (v % 100 * 2))) = dk1 at W1e F1
        clear N1 C0 Z0 A0 F0 P0 Q0 S0
        have S1 := F1.out.size
        have H1 : Holds e8 W1 blk off dk1 := by rw [W1e]; exact holds_putRow _ w blk off d dk1 HH.out S1
        obtain ⟨G1, G1e⟩ : ∃ G : Nat → Int, ∀ t, G t = (dk1[t]!.toNat : Int) := ⟨_, fun _ => rfl⟩
        have C1 : ∀ t, t < d.size → W1.cell? ⟨blk, off + t, none⟩ = some (.int .u8 (G1 t)) := fun t ht => by rw [G1e]; exact (H1 t (by omega)).1
        have Z1 : ∀ t, t < d.size → W1.frozen? ⟨blk, off + t, none⟩ = false := fun t ht => (H1 t (by omega)).2
        have A1 := Lib.hid W1e
        clear W1e G1e H1
        have F2 := Lib.hid (Fill.pair (show Fill d.size u (1 + 2) (v / 100) dk1 from F1.out))
        have L1 := F1.out.le
        go_name_slot 14 x1 X1
        have Y1 : x1 = ((v / 100 % 100 * 2 : Nat) : Int) := by omega
        have P1 : ∀ w, (Instr.index 9 (.string Lib.smalls) (.int .u32 (x1 + 1))).run Tryd.prog w = .ok (.int .u8 ((Lib.sm (v / 100 % 100 * 2 + 1)).toNat : Int)) w := smalls_at _ _ (by omega) (by omega)
        have Q1 : ∀ w, (Instr.index 9 (.string Lib.smalls) (.int .u32 x1)).run Tryd.prog w = .ok (.int .u8 ((Lib.sm (v / 100 % 100 * 2)).toNat : Int)) w := smalls_at _ _ (by omega) (by omega)
        have B1 : 0 ≤ x1 := by omega
        have D1 : x1 ≤ 198 := by omega
        clear X1 Y1
        go_region_o
        go_wp2
        go_end0
        exact ⟨rfl, n + 1 + 1, _, _, by rw [A1.out]; exact Lib.store21_world w blk off dk1 (n + 1) (1 + 1) (1) _ _ _ (v / 100 / 100) (by omega) (by omega) (by omega), F2.out.last⟩
      · have hv8 := F0.out.small8 (by omega)
        have hm := F0.out.le
        go_wp2
        have F1 := Lib.hid (Fill.pair (show Fill d.size u (4 + 2) (v) dk0 from F0.out))
        have L0 := F0.out.le
        go_name_slot 15 x0 X0
        have Y0 : x0 = ((v % 100 * 2 : Nat) : Int) := by omega
        have P0 : ∀ w, (Instr.index 9 (.string Lib.smalls) (.int .u32 (x0 + 1))).run Tryd.prog w = .ok (.int .u8 ((Lib.sm (v % 100 * 2 + 1)).toNat : Int)) w := smalls_at _ _ (by omega) (by omega)
        have Q0 : ∀ w, (Instr.index 9 (.string Lib.smalls) (.int .u32 x0)).run Tryd.prog w = .ok (.int .u8 ((Lib.sm (v % 100 * 2)).toNat : Int)) w := smalls_at _ _ (by omega) (by omega)
        have B0 : 0 ≤ x0 := by omega
        have D0 : x0 ≤ 198 := by omega
        clear X0 Y0
        go_region_o
        go_wp2
        go_name_world W1 N1
        have W1e : W1 = (putRow e8 w blk off ((dk0.setIfInBounds (4 + 1) (Lib.sm (v % 100 * 2 + 1))).setIfInBounds (4) (Lib.sm (v % 100 * 2)))).drewN (n + 0 + 1) := by rw [← N1]; exact (by rw [A0.out]; exact Lib.store2_world w blk off dk0 (n + 0) (4 + 1) (4) _ _ (by omega) (by omega))
        generalize ((dk0.setIfInBounds (4 + 1) (Lib.sm (v % 100 * 2 + 1))).setIfInBounds (4) (Lib.sm (v % 100 * 2))) = dk1 at W1e F1
        clear N1 C0 Z0 A0 F0 P0 Q0 S0
        have S1 := F1.out.size
        have H1 : Holds e8 W1 blk off dk1 := by rw [W1e]; exact holds_putRow _ w blk off d dk1 HH.out S1
        obtain ⟨G1, G1e⟩ : ∃ G : Nat → Int, ∀ t, G t = (dk1[t]!.toNat : Int) := ⟨_, fun _ => rfl⟩
        have C1 : ∀ t, t < d.size → W1.cell? ⟨blk, off + t, none⟩ = some (.int .u8 (G1 t)) := fun t ht => by rw [G1e]; exact (H1 t (by omega)).1
        have Z1 : ∀ t, t < d.size → W1.frozen? ⟨blk, off + t, none⟩ = false := fun t ht => (H1 t (by omega)).2
        have A1 := Lib.hid W1e
        clear W1e G1e H1
        have F2 := Lib.hid (Fill.pair (show Fill d.size u (2 + 2) (v / 100) dk1 from F1.out))
        have L1 := F1.out.le
        go_name_slot 14 x1 X1
        have Y1 : x1 = ((v / 100 % 100 * 2 : Nat) : Int) := by omega
        have P1 : ∀ w, (Instr.index 9 (.string Lib.smalls) (.int .u32 (x1 + 1))).run Tryd.prog w = .ok (.int .u8 ((Lib.sm (v / 100 % 100 * 2 + 1)).toNat : Int)) w := smalls_at _ _ (by omega) (by omega)
        have Q1 : ∀ w, (Instr.index 9 (.string Lib.smalls) (.int .u32 x1)).run Tryd.prog w = .ok (.int .u8 ((Lib.sm (v / 100 % 100 * 2)).toNat : Int)) w := smalls_at _ _ (by omega) (by omega)
        have B1 : 0 ≤ x1 := by omega
        have D1 : x1 ≤ 198 := by omega
        clear X1 Y1
        go_region_o
        go_wp2
        go_name_world W2 N2
        have W2e : W2 = (putRow e8 w blk off ((dk1.setIfInBounds (2 + 1) (Lib.sm (v / 100 % 100 * 2 + 1))).setIfInBounds (2) (Lib.sm (v / 100 % 100 * 2)))).drewN (n + 1 + 1) := by rw [← N2]; exact (by rw [A1.out]; exact Lib.store2_world w blk off dk1 (n + 1) (2 + 1) (2) _ _ (by omega) (by omega))
        generalize ((dk1.setIfInBounds (2 + 1) (Lib.sm (v / 100 % 100 * 2 + 1))).setIfInBounds (2) (Lib.sm (v / 100 % 100 * 2))) = dk2 at W2e F2
        clear N2 C1 Z1 A1 F1 P1 Q1 S1
        have S2 := F2.out.size
        have H2 : Holds e8 W2 blk off dk2 := by rw [W2e]; exact holds_putRow _ w blk off d dk2 HH.out S2
        obtain ⟨G2, G2e⟩ : ∃ G : Nat → Int, ∀ t, G t = (dk2[t]!.toNat : Int) := ⟨_, fun _ => rfl⟩
        have C2 : ∀ t, t < d.size → W2.cell? ⟨blk, off + t, none⟩ = some (.int .u8 (G2 t)) := fun t ht => by rw [G2e]; exact (H2 t (by omega)).1
        have Z2 : ∀ t, t < d.size → W2.frozen? ⟨blk, off + t, none⟩ = false := fun t ht => (H2 t (by omega)).2
        have A2 := Lib.hid W2e
        clear W2e G2e H2
        have F3 := Lib.hid (Fill.pair (show Fill d.size u (0 + 2) (v / 100 / 100) dk2 from F2.out))
        have L2 := F2.out.le
        go_name_slot 16 x2 X2
        have Y2 : x2 = ((v / 100 / 100 % 100 * 2 : Nat) : Int) := by omega
        have P2 : ∀ w, (Instr.index 9 (.string Lib.smalls) (.int .u32 (x2 + 1))).run Tryd.prog w = .ok (.int .u8 ((Lib.sm (v / 100 / 100 % 100 * 2 + 1)).toNat : Int)) w := smalls_at _ _ (by omega) (by omega)
        have Q2 : ∀ w, (Instr.index 9 (.string Lib.smalls) (.int .u32 x2)).run Tryd.prog w = .ok (.int .u8 ((Lib.sm (v / 100 / 100 % 100 * 2)).toNat : Int)) w := smalls_at _ _ (by omega) (by omega)
        have B2 : 0 ≤ x2 := by omega
        have D2 : x2 ≤ 198 := by omega
        clear X2 Y2
        go_region_o
        go_wp2
        go_end0
        exact ⟨rfl, n + 2 + 1, _, _, by rw [A2.out]; exact Lib.store2_world w blk off dk2 (n + 2) (0 + 1) (0) _ _ (by omega) (by omega), F3.out⟩
      · have hv8 := F0.out.small8 (by omega)
        have hm := F0.out.le
        go_wp2
        have F1 := Lib.hid (Fill.pair (show Fill d.size u (5 + 2) (v) dk0 from F0.out))
        have L0 := F0.out.le
        go_name_slot 15 x0 X0
        have Y0 : x0 = ((v % 100 * 2 : Nat) : Int) := by omega
        have P0 : ∀ w, (Instr.index 9 (.string Lib.smalls) (.int .u32 (x0 + 1))).run Tryd.prog w = .ok (.int .u8 ((Lib.sm (v % 100 * 2 + 1)).toNat : Int)) w := smalls_at _ _ (by omega) (by omega)
        have Q0 : ∀ w, (Instr.index 9 (.string Lib.smalls) (.int .u32 x0)).run Tryd.prog w = .ok (.int .u8 ((Lib.sm (v % 100 * 2)).toNat : Int)) w := smalls_at _ _ (by omega) (by omega)
        have B0 : 0 ≤ x0 := by omega
        have D0 : x0 ≤ 198 := by omega
        clear X0 Y0
        go_region_o
        go_wp2
        go_name_world W1 N1
        have W1e : W1 = (putRow e8 w blk off ((dk0.setIfInBounds (5 + 1) (Lib.sm (v % 100 * 2 + 1))).setIfInBounds (5) (Lib.sm (v % 100 * 2)))).drewN (n + 0 + 1) := by rw [← N1]; exact (by rw [A0.out]; exact Lib.store2_world w blk off dk0 (n + 0) (5 + 1) (5) _ _ (by omega) (by omega))
        generalize ((dk0.setIfInBounds (5 + 1) (Lib.sm (v % 100 * 2 + 1))).setIfInBounds (5) (Lib.sm (v % 100 * 2))) = dk1 at W1e F1
        clear N1 C0 Z0 A0 F0 P0 Q0 S0
        have S1 := F1.out.size
        have H1 : Holds e8 W1 blk off dk1 := by rw [W1e]; exact holds_putRow _ w blk off d dk1 HH.out S1
        obtain ⟨G1, G1e⟩ : ∃ G : Nat → Int, ∀ t, G t = (dk1[t]!.toNat : Int) := ⟨_, fun _ => rfl⟩
        have C1 : ∀ t, t < d.size → W1.cell? ⟨blk, off + t, none⟩ = some (.int .u8 (G1 t)) := fun t ht => by rw [G1e]; exact (H1 t (by omega)).1
        have Z1 : ∀ t, t < d.size → W1.frozen? ⟨blk, off + t, none⟩ = false := fun t ht => (H1 t (by omega)).2
        have A1 := Lib.hid W1e
        clear W1e G1e H1
        have F2 := Lib.hid (Fill.pair (show Fill d.size u (3 + 2) (v / 100) dk1 from F1.out))
        have L1 := F1.out.le
        go_name_slot 14 x1 X1
        have Y1 : x1 = ((v / 100 % 100 * 2 : Nat) : Int) := by omega
        have P1 : ∀ w, (Instr.index 9 (.string Lib.smalls) (.int .u32 (x1 + 1))).run Tryd.prog w = .ok (.int .u8 ((Lib.sm (v / 100 % 100 * 2 + 1)).toNat : Int)) w := smalls_at _ _ (by omega) (by omega)
        have Q1 : ∀ w, (Instr.index 9 (.string Lib.smalls) (.int .u32 x1)).run Tryd.prog w = .ok (.int .u8 ((Lib.sm (v / 100 % 100 * 2)).toNat : Int)) w := smalls_at _ _ (by omega) (by omega)
        have B1 : 0 ≤ x1 := by omega
        have D1 : x1 ≤ 198 := by omega
        clear X1 Y1
        go_region_o
        go_wp2
        go_name_world W2 N2
        have W2e : W2 = (putRow e8 w blk off ((dk1.setIfInBounds (3 + 1) (Lib.sm (v / 100 % 100 * 2 + 1))).setIfInBounds (3) (Lib.sm (v / 100 % 100 * 2)))).drewN (n + 1 + 1) := by rw [← N2]; exact (by rw [A1.out]; exact Lib.store2_world w blk off dk1 (n + 1) (3 + 1) (3) _ _ (by omega) (by omega))
        generalize ((dk1.setIfInBounds (3 + 1) (Lib.sm (v / 100 % 100 * 2 + 1))).setIfInBounds (3) (Lib.sm (v / 100 % 100 * 2))) = dk2 at W2e F2
        clear N2 C1 Z1 A1 F1 P1 Q1 S1
        have S2 := F2.out.size
        have H2 : Holds e8 W2 blk off dk2 := by rw [W2e]; exact holds_putRow _ w blk off d dk2 HH.out S2
        obtain ⟨G2, G2e⟩ : ∃ G : Nat → Int, ∀ t, G t = (dk2[t]!.toNat : Int) := ⟨_, fun _ => rfl⟩
        have C2 : ∀ t, t < d.size → W2.cell? ⟨blk, off + t, none⟩ = some (.int .u8 (G2 t)) := fun t ht => by rw [G2e]; exact (H2 t (by omega)).1
        have Z2 : ∀ t, t < d.size → W2.frozen? ⟨blk, off + t, none⟩ = false := fun t ht => (H2 t (by omega)).2
        have A2 := Lib.hid W2e
        clear W2e G2e H2
        have F3 := Lib.hid (Fill.pair (show Fill d.size u (1 + 2) (v / 100 / 100) dk2 from F2.out))
        have L2 := F2.out.le
        go_name_slot 16 x2 X2
        have Y2 : x2 = ((v / 100 / 100 % 100 * 2 : Nat) : Int) := by omega
        have P2 : ∀ w, (Instr.index 9 (.string Lib.smalls) (.int .u32 (x2 + 1))).run Tryd.prog w = .ok (.int .u8 ((Lib.sm (v / 100 / 100 % 100 * 2 + 1)).toNat : Int)) w := smalls_at _ _ (by omega) (by omega)
        have Q2 : ∀ w, (Instr.index 9 (.string Lib.smalls) (.int .u32 x2)).run Tryd.prog w = .ok (.int .u8 ((Lib.sm (v / 100 / 100 % 100 * 2)).toNat : Int)) w := smalls_at _ _ (by omega) (by omega)
        have B2 : 0 ≤ x2 := by omega
        have D2 : x2 ≤ 198 := by omega
        clear X2 Y2
        go_region_o
        go_wp2
        go_end0
        exact ⟨rfl, n + 2 + 1, _, _, by rw [A2.out]; exact Lib.store21_world w blk off dk2 (n + 2) (1 + 1) (1) _ _ _ (v / 100 / 100 / 100) (by omega) (by omega) (by omega), F3.out.last⟩

end Go.Proofs.YtjcgfbmkgfhnaaaDoor
