/- DictTwice: a key that is set twice is there once. -/
import Derived.Test.YtifbambalfifaaaLaw
namespace Go.Proofs.Ytifbambalfifaaa
open Go.RowKit Go.Shelf
attribute [local go_sem] Oper.semAt_some

/-- Acts in memory: what is done, a key, a thing. -/
def Acts (W : World) (a : Option Addr) (l : List (Int × ByteArray × Int)) : Prop := ∀ (i : Nat) (h : i < l.length), ∃ b off, a = some ⟨b, off, none⟩ ∧
  W.cell? ⟨b, off + i * 3, none⟩ = some (.int .i64 l[i].1) ∧ W.cell? ⟨b, off + i * 3 + 1, none⟩ = some (.string l[i].2.1) ∧ W.cell? ⟨b, off + i * 3 + 2, none⟩ = some (.int .i64 l[i].2.2)
theorem Acts.below {w W : World} {a : Option Addr} {l : List (Int × ByteArray × Int)} (h : Acts w a l) (hb : Below w.heap.size w W) : Acts W a l := fun i hi => by
  obtain ⟨b, off, ha, h0, h1, h2⟩ := h i hi
  have hlt : b < w.heap.size := World.block_lt_of_cell? w ⟨b, off + i * 3, none⟩ h0
  exact ⟨b, off, ha, (hb.cell (p := ⟨b, _, none⟩) hlt).trans h0, (hb.cell (p := ⟨b, _, none⟩) hlt).trans h1, (hb.cell (p := ⟨b, _, none⟩) hlt).trans h2⟩

set_option maxRecDepth 100000 in
set_option maxHeartbeats 4000000 in
theorem twice_walk (seed : Nat) (hsd : seed < 4294967296) (a : Option Addr) (cap : Nat) (l : List (Int × ByteArray × Int)) (hl : l.length ≤ 9223372036854775807) (hz : ∀ x ∈ l, x.2.1.size ≤ 9223372036854775807) (k : ByteArray) (hk : k.size ≤ 281474976710656) (v u : Int)
    (w : World) (hE : Acts w a l) : Calls Try.prog 8 #[.int .u32 seed, .slice a l.length cap, .string k, .int .i64 v, .int .i64 u] w fun e w' => e = .returned (.bool true) ∧ Below w.heap.size w w' := by
  have HE := Lib.hid hE
  clear hE
  go_enter Try.func8, Try.ntmps8
  go_wp2_with fail
  refine (shown_any _).mono ?_
  rintro e w1 ⟨rfl, hb1⟩
  have HB1 := Lib.hid hb1
  clear hb1
  go_wp2_with fail
  refine (new_is seed _).mono ?_
  rintro e w2 ⟨p, rfl, h2, hb2⟩
  have hA := Alone.new HB1.out h2 hb2
  have HA := Lib.hid hA
  clear h2 hb2 hA
  go_wp2
  go_loopw [13] (fun i wr => ∃ (j : Nat) (m : ByteArray → Option Int) (n : Sh), i = .int .i64 j ∧ j ≤ l.length ∧ j ≤ 80 ∧ Alone w p seed m n wr ∧ n.n ≤ j) (fun i _ => l.length - (intOf i).toNat)
  case atStart => exact ⟨0, _, _, rfl, by omega, by omega, HA.out, by simp⟩
  case round =>
    obtain ⟨j, m, n, rfl, hj, hj80, hA, hn⟩ := hrel
    by_cases hlt : j < l.length ∧ j < 80
    · obtain ⟨hjl, hj8⟩ := hlt
      obtain ⟨b, off, rfl, c0, c1, c2⟩ := (HE.out.below hA.2) j hjl
      have hsz := hz _ (List.getElem_mem hjl)
      have hn' : n.n + 1 ≤ 1000000 := by omega
      generalize l[j] = x at *
      obtain ⟨d, kk, vv⟩ := x
      simp only at c0 c1 c2 hsz
      have HAA := Lib.hid hA
      have HKEY := fun w => Lib.hid (key_any kk hsz w)
      have hkz := cutK_size kk
      have hj8' : (j : Int) < 80 := by omega
      by_cases hd : (IntKind.u64.wrap d).tmod 8 < 5
      · have hdd : decide ((IntKind.u64.wrap d).tmod 8 < 5) = true := by simpa using hd
        have HS := Lib.hid (set_is hsd (hA.1.later (W' := wr.drew) ((Below.refl _ _).drew)) hn' (cutK kk) (by omega) vv)
        clear hA hd
        go_wp2
        refine wp_region_still_tail 12 (by kernel_rfl) (by kernel_rfl) ?_
        simp only [List.take_succ_cons, List.take_zero, List.drop_succ_cons, List.drop_zero]
        repeat (first | still_step | still_call (HKEY _).out)
        try refine wpStill_nil ?_
        change wpList _ _ _ _ _ wr.drew
        go_wp2_with fail
        refine HS.out.mono ?_
        rintro e w3 ⟨rfl, h3⟩
        have h4 := HAA.out.now (IsNow.since (W1 := wr.drew) ((Below.refl _ _).drew) h3)
        have H4 := Lib.hid h4
        clear h3 h4
        go_wp2
        refine ⟨⟨j + 1, _, _, by go_num, by omega, by omega, H4.out, ?_⟩, by simp [intOf]; omega⟩
        rw [shset_n]
        cases (m (cutK kk)).isSome <;> simp <;> omega
      · have hdd : decide ((IntKind.u64.wrap d).tmod 8 < 5) = false := by simpa using hd
        have HS := Lib.hid (del_is hsd hA.1 (by omega) (cutK kk) (by omega))
        clear hA hd
        go_wp2_with fail
        refine (HKEY _).out.mono ?_
        rintro e w3 ⟨rfl, rfl⟩
        go_wp2_with fail
        refine HS.out.mono ?_
        rintro e w3 ⟨rfl, h3, _⟩
        have h4 := HAA.out.now h3
        have H4 := Lib.hid h4
        clear h3 h4
        go_wp2
        refine ⟨⟨j + 1, _, _, by go_num, by omega, by omega, H4.out, ?_⟩, by simp [intOf]; omega⟩
        rw [shdel_n]
        cases (m (cutK kk)).isSome <;> simp <;> omega
    · have hn2 : n.n ≤ 80 := by omega
      have hD := del_is hsd hA.1 (by omega) k hk
      have HA3 := Lib.hid hA
      have HD := Lib.hid hD
      have hex : (l.length : Int) ≤ j ∨ ((j : Int) < l.length ∧ (j : Int) = 80) := by omega
      clear hA hD hlt
      have hnot : ((remI m k) k).isSome = false := by simp [remI]
      have hput : ∀ x, ((putI (remI m k) k x) k) = some x := fun x => by simp [putI]
      rcases hex with hex | ⟨hex, hex2⟩
      all_goals (
        go_wp2_with fail
        refine HD.out.mono ?_
        rintro e w3 ⟨rfl, h3, _⟩
        have hA4 := HA3.out.now h3
        clear h3
        generalize hN : n.del (m k).isSome = N at hA4
        have hNn : N.n ≤ 80 := by rw [← hN, shdel_n]; cases (m k).isSome <;> simp <;> omega
        clear hN
        have HL := Lib.hid (len_is hA4.1)
        have HS1 := set_is hsd hA4.1 (by omega) k hk v
        rw [hnot] at HS1
        have HS1' := Lib.hid HS1
        have HA4 := Lib.hid hA4
        clear hA4 HS1
        go_wp2_with fail
        refine HL.out.mono ?_
        rintro e w4 ⟨rfl, rfl⟩
        go_wp2_with fail
        refine HS1'.out.mono ?_
        rintro e w5 ⟨rfl, h5⟩
        have hA5 := HA4.out.now h5
        have hN5 : (N.set false).n = N.n + 1 := shset_n N false
        have HS2 := set_is hsd hA5.1 (by omega) k hk u
        rw [hput] at HS2
        have HS2' := Lib.hid HS2
        have HA5 := Lib.hid hA5
        clear h5 hA5 HS2
        go_wp2_with fail
        refine HS2'.out.mono ?_
        rintro e w6 ⟨rfl, h6⟩
        have hA6 := HA5.out.now h6
        have hN6 : ((N.set false).set true).n = N.n + 1 := (shset_n _ true).trans hN5
        have HG := get_is hsd hA6.1 (by simp only [Option.isSome_some]; omega) k hk
        have hpp : (putI (putI (remI m k) k v) k u) k = some u := by simp [putI]
        rw [hpp] at HG
        have HG' := Lib.hid HG
        have HA6 := Lib.hid hA6
        clear h6 hA6 HG
        go_wp2_with fail
        refine HG'.out.mono ?_
        rintro e w7 ⟨rfl, h7⟩
        have hA7 := HA6.out.now h7
        have hN7 : ((N.set false).set (some v).isSome).step1.n = N.n + 1 := (step1_n _).trans hN6
        have HL7 := len_is hA7.1
        rw [hN7] at HL7
        have HD7 := del_is hsd hA7.1 (by rw [hN7]; omega) k hk
        rw [hpp] at HD7
        have HL7' := Lib.hid HL7
        have HD7' := Lib.hid HD7
        have HA7 := Lib.hid hA7
        clear h7 hA7 HL7 HD7
        go_wp2_with fail
        refine HL7'.out.mono ?_
        rintro e w8 ⟨rfl, rfl⟩
        go_wp2_with fail
        refine HD7'.out.mono ?_
        rintro e w9 ⟨rfl, h9, _⟩
        have hA9 := HA7.out.now h9
        have hN9 : ((((N.set false).set (some v).isSome).step1).del (some u).isSome).n = N.n := by
          refine (shdel_n _ true).trans ?_
          rw [hN7]
          exact Nat.add_sub_cancel _ _
        have hrr : (remI (putI (putI (remI m k) k v) k u) k) k = none := by simp [remI]
        have HG9 := get_is hsd hA9.1 (by rw [hN9]; omega) k hk
        rw [hrr] at HG9
        have HG9' := Lib.hid HG9
        have HA9 := Lib.hid hA9
        clear h9 hA9 HG9
        go_wp2_with fail
        refine HG9'.out.mono ?_
        rintro e w10 ⟨rfl, h10⟩
        have hA10 := HA9.out.now h10
        have hN10 : ((((N.set false).set (some v).isSome).step1).del (some u).isSome).step1.n = N.n := (step1_n _).trans hN9
        have HD10 := del_is hsd hA10.1 (by rw [hN10]; omega) k hk
        rw [hrr] at HD10
        have HD10' := Lib.hid HD10
        have HA10 := Lib.hid hA10
        clear h10 hA10 HD10
        have hNi : (N.n : Int) ≤ 80 := by omega
        have hcast : ((N.n + 1 : Nat) : Int) = (N.n : Int) + 1 := by omega
        go_wp2_with fail
        refine HD10'.out.mono ?_
        rintro e w11 ⟨rfl, h11, _⟩
        have hA11 := HA10.out.now h11
        have hN11 : (((((N.set false).set (some v).isSome).step1).del (some u).isSome).step1.del (none : Option Int).isSome).n = N.n := (shdel_n _ false).trans hN10
        have HL11 := len_is hA11.1
        rw [hN11] at HL11
        have HL11' := Lib.hid HL11
        have HA11 := Lib.hid hA11
        clear h11 hA11 HL11
        go_wp2_with fail
        refine HL11'.out.mono ?_
        rintro e w12 ⟨rfl, rfl⟩
        go_wp2
        go_ret
        exact ⟨rfl, HA11.out.2⟩)
end Go.Proofs.Ytifbambalfifaaa
