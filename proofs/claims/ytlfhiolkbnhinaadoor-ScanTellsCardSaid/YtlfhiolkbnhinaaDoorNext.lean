/- The next cursor, as the program tells it. -/
import Derived.Test.YtlfhiolkbnhinaaDoorPos
namespace Go.Proofs.YtlfhiolkbnhinaaDoor
open Go.RowKit Go.Shelf
attribute [local go_sem] Oper.semAt_some

/-- The table by which a number's last noughts are counted. -/
def tabN : List Nat := [0, 1, 56, 2, 57, 49, 28, 3, 61, 58, 42, 50, 38, 29, 17, 4, 62, 47, 59, 36, 45, 43, 51, 22, 53, 39, 33, 30, 24, 18, 12, 5, 63, 55, 48, 27, 60, 41, 37, 16, 46, 35, 44, 21, 52, 32, 23, 11, 54, 26, 40, 15, 34, 20, 31, 10, 25, 14, 19, 9, 13, 8, 7, 6]
def tabC : Array Value := (tabN.map fun (n : Nat) => Value.int .u8 (n : Int)).toArray
/-- The laid table lies where it was laid. -/
def Env (W : World) : Prop := Blk W 1 115 tabC
theorem Env.below {W W' : World} (h : Env W) (hb : Below W.heap.size W W') : Env W' := Blk.later h hb
theorem Env.cell {W : World} (h : Env W) (i : Fin 64) : W.cell? ⟨1, i.val, none⟩ = some (.int .u8 (tabN.getD i.val 0 : Nat)) := by
  rw [Blk.cell i.val h]
  have hl : i.val < tabN.length := by have : tabN.length = 64 := rfl; omega
  simp [tabC, hl]

/-- Where in the table a size's place is. -/
def tzAt (k : Nat) : Nat := 2 ^ k * 285870213051353865 % 18446744073709551616 / 288230376151711744
theorem bits_and64 (a b : Nat) (ha : a < 18446744073709551616) (hb : b < 18446744073709551616) : bits .and .u64 (a : Int) (b : Int) = ((a &&& b : Nat) : Int) := by
  have hx : a &&& b < 18446744073709551616 := Nat.lt_of_le_of_lt Nat.and_le_left ha
  unfold bits
  show IntKind.u64.wrap ((BitVec.ofInt 64 (a : Int) &&& BitVec.ofInt 64 (b : Int)).toNat : Int) = _
  rw [BitVec.ofInt_natCast, BitVec.ofInt_natCast, BitVec.toNat_and, BitVec.toNat_ofNat, BitVec.toNat_ofNat, Nat.mod_eq_of_lt ha, Nat.mod_eq_of_lt hb, IntKind.wrap_u64]
  omega
theorem tz_nats : ∀ k : Fin 17, 2 ≤ k.val → tzAt k.val < 64 ∧ tabN.getD (tzAt k.val) 0 = k.val ∧ 2 ^ k.val ≤ 65536 ∧ 4 ≤ 2 ^ k.val ∧
    (2 ^ k.val &&& (18446744073709551616 - 2 ^ k.val)) = 2 ^ k.val := by decide +kernel
theorem tz_facts (k : Fin 17) (h : 2 ≤ k.val) : tzAt k.val < 64 ∧ tabN.getD (tzAt k.val) 0 = k.val ∧ 2 ^ k.val ≤ 65536 ∧ 4 ≤ 2 ^ k.val ∧
    bits .and .u64 ((2 ^ k.val : Nat) : Int) (IntKind.u64.wrap (-((2 ^ k.val : Nat) : Int))) = ((2 ^ k.val : Nat) : Int) := by
  obtain ⟨h1, h2, h3, h4, h5⟩ := tz_nats k h
  refine ⟨h1, h2, h3, h4, ?_⟩
  generalize 2 ^ k.val = x at *
  have e1 : IntKind.u64.wrap (-(x : Int)) = ((18446744073709551616 - x : Nat) : Int) := by rw [IntKind.wrap_u64]; omega
  rw [e1, bits_and64 _ _ (by omega) (by omega), h5]
theorem tz_mul (x : Nat) : IntKind.u64.wrap ((x : Int) * 285870213051353865) = ((x * 285870213051353865 % 18446744073709551616 : Nat) : Int) := by
  rw [IntKind.wrap_u64]
  omega
theorem tz_div (y : Nat) : (y : Int) / 288230376151711744 = ((y / 288230376151711744 : Nat) : Int) := by omega

set_option maxHeartbeats 1000000 in
theorem tz64_core (k j x y : Nat) (hk : k ≤ 16) (w : World) (h1 : j < 64) (h3 : x ≤ 65536) (h4 : 4 ≤ x) (h5 : bits .and .u64 (x : Int) (IntKind.u64.wrap (-(x : Int))) = (x : Int))
    (h7 : IntKind.u64.wrap ((x : Int) * 285870213051353865) = (y : Int)) (h8 : (y : Int) / 288230376151711744 = (j : Int)) (h6 : w.cell? ⟨1, j, none⟩ = some (.int .u8 k)) :
    Calls Tryd.prog 53 #[.int .u64 x] w fun e w' => e = .returned (.int .i64 k) ∧ w' = w := by
  go_enter Tryd.func53, Tryd.ntmps53
  go_wp2
  go_ret
  exact ⟨rfl, rfl⟩
theorem tz64_any (k : Nat) (hk : 2 ≤ k) (hk2 : k ≤ 16) (w : World) (hE : Env w) : Calls Tryd.prog 53 #[.int .u64 (2 ^ k : Nat)] w fun e w' => e = .returned (.int .i64 k) ∧ w' = w := by
  obtain ⟨h1, h2, h3, h4, h5⟩ := tz_facts ⟨k, by omega⟩ hk
  have h6 := hE.cell ⟨tzAt k, h1⟩
  simp only at h2 h6
  rw [h2] at h6
  exact tz64_core k (tzAt k) (2 ^ k) _ hk2 w h1 h3 h4 h5 (tz_mul (2 ^ k)) (by rw [tz_div]; unfold tzAt; rfl) h6
set_option maxHeartbeats 1000000 in
theorem tz_any (k : Nat) (hk : 2 ≤ k) (hk2 : k ≤ 16) (w : World) (hE : Env w) : Calls Tryd.prog 29 #[.int .u64 (2 ^ k : Nat)] w fun e w' => e = .returned (.int .i64 k) ∧ w' = w := by
  have HT := Lib.hid (tz64_any k hk hk2 w hE)
  generalize 2 ^ k = x at *
  go_enter Tryd.func29, Tryd.ntmps29
  go_wp2_with fail
  (with_reducible refine HT.out.mono ?_)
  rintro e w1 ⟨rfl, rfl⟩
  go_wp2
  go_ret
  exact ⟨rfl, rfl⟩

theorem mask_facts : ∀ k : Fin 17, 2 ≤ k.val → (4294967295 * 2 ^ k.val % 4294967296 : Int) = ((4294967296 - 2 ^ k.val : Nat) : Int) := by decide +kernel
set_option maxHeartbeats 2000000 in
theorem next_any (c : Nat) (hc : c < 4294967296) (s : Nat) (hs : isS (s : Int) = true) (w : World) (hE : Env w) :
    Calls Tryd.prog 11 #[.int .u32 c, .int .i64 s] w fun e w' => e = .returned (.tuple #[.int .u32 (nextN c s), .int .i64 0]) ∧ Below w.heap.size w w' := by
  obtain ⟨k, hk, hk2, rfl⟩ := size_pow hs
  have hI := fun w => isSize_any ((2 ^ k : Nat) : Int) w
  rw [hs] at hI
  have HI := fun w => Lib.hid (hI w)
  have hp := isS_pos hs
  have hm := mask_facts ⟨k, by omega⟩ hk
  simp only at hm
  have hv := next_val c k hc (by omega)
  have hml : 4294967296 - 2 ^ k < 4294967296 := by omega
  have hor := bits_or32 c (4294967296 - 2 ^ k) hc hml
  have hol := or_lt32 hc hml
  have HT := fun W hE => Lib.hid (tz_any k hk hk2 W hE)
  have hk3 : (k : Int) < 32 := by omega
  have HV := Lib.hid hv
  clear hI hs hv
  generalize nextN c (2 ^ k) = n at *
  generalize 2 ^ k = s at *
  generalize 4294967296 - s = m at *
  generalize (c ||| m) = y at *
  go_enter Tryd.func11, Tryd.ntmps11
  go_wp2_with fail
  refine wp_scope_straight ?_
  go_wp2_with fail
  refine (HI _).out.mono ?_
  rintro e w1 ⟨rfl, hb1⟩
  have HE1 := Lib.hid (hE.below hb1)
  go_wp2_with fail
  (with_reducible refine (HT _ HE1.out).out.mono ?_)
  rintro e w2 ⟨rfl, rfl⟩
  have HTU := fun z hz W => Lib.hid (turn_any z hz W)
  go_wp2_with fail
  (with_reducible refine (HTU y hol _).out.mono ?_)
  rintro e w3 ⟨rfl, hb3⟩
  have hz := turn_lt y hol
  generalize turnN y = z at *
  have hz1 : (z + 1) % 4294967296 < 4294967296 := Nat.mod_lt _ (by decide)
  have hzi : ((z : Int) + 1) % 4294967296 = (((z + 1) % 4294967296 : Nat) : Int) := by omega
  generalize (z + 1) % 4294967296 = z1 at *
  go_wp2_with fail
  (with_reducible refine (HTU z1 hz1 _).out.mono ?_)
  rintro e w4 ⟨rfl, hb4⟩
  rw [HV.out]
  go_wp2
  simp only [Exit.noGoto]
  go_ret2
  exact ⟨rfl, (hb1.trans (hb3.mono hb1.size)).trans (hb4.mono (hb1.trans (hb3.mono hb1.size)).size)⟩
set_option maxHeartbeats 2000000 in
theorem next_none (c : Nat) (s : Int) (hs : isS s = false) (w : World) :
    Calls Tryd.prog 11 #[.int .u32 c, .int .i64 s] w fun e w' => e = .returned (.tuple #[.int .u32 0, .int .i64 2]) ∧ Below w.heap.size w w' := by
  have hI := fun w => isSize_any s w
  rw [hs] at hI
  have HI := fun w => Lib.hid (hI w)
  clear hI hs
  go_enter Tryd.func11, Tryd.ntmps11
  go_wp2_with fail
  refine wp_scope_jumps 0 (fun a' w' => Below w.heap.size w w' ∧ a' = { tmps := #[Value.int IntKind.u32 c, Value.int IntKind.i64 s, undef, undef, Value.int IntKind.u32 0,
            Value.int IntKind.i64 0, Value.int IntKind.i64 s, Value.bool false, Value.bool true, undef, undef, undef, undef, undef, undef, undef, undef, undef, undef], defers := [] }) (fun _ _ => 0) rfl ?_ ?_
  · go_wp2_with fail
    refine (HI _).out.mono ?_
    rintro e w1 ⟨rfl, hb1⟩
    go_wp2
    go_step3
    exact ⟨rfl, hb1, rfl⟩
  · rintro a' w' ⟨hb, rfl⟩
    go_wp2
    simp only [Exit.jump]
    go_ret2
    exact ⟨rfl, hb⟩
end Go.Proofs.YtlfhiolkbnhinaaDoor
