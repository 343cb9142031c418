/- ScanRounds: from 0 on each slot comes once. -/
import Derived.Test.YtlfhiolkbnhinaaDoorShown
import Derived.Test.YtlfhiolkbnhinaaDoorRefNext
import Derived.Test.YtlfhiolkbnhinaaDoorCurs
namespace Go.Proofs.YtlfhiolkbnhinaaDoor
open Go.RowKit Go.Shelf
attribute [local go_sem] Oper.semAt_some

theorem zeros45 : Tryd.zeroCells45 = Array.replicate 1024 (.bool false) := by kernel_rfl
/-- The cells of what was seen when i cursors were. -/
def Seen (s i : Nat) (cs : Array Value) : Prop := cs.size = 1024 ∧ ∀ k, k < 1024 → cs[k]? = some (.bool (decide (∃ j, j < i ∧ curN s j = k)))
theorem Seen.start (s : Nat) : Seen s 0 Tryd.zeroCells45 := by
  rw [zeros45]
  refine ⟨Array.size_replicate, fun k hk => ?_⟩
  rw [Array.getElem?_replicate, if_pos hk]
  have : ¬ ∃ j, j < 0 ∧ curN s j = k := fun ⟨j, hj, _⟩ => by omega
  rw [decide_eq_false this]
theorem Seen.next {s i : Nat} {cs : Array Value} (h : Seen s i cs) : Seen s (i + 1) (cs.setIfInBounds (curN s i) (.bool true)) := by
  refine ⟨by rw [Array.size_setIfInBounds]; exact h.1, fun k hk => ?_⟩
  rw [Array.getElem?_setIfInBounds]
  by_cases e : curN s i = k
  · rw [if_pos e, if_pos (by rw [h.1, e]; exact hk)]
    congr 2
    symm
    exact decide_eq_true ⟨i, by omega, e⟩
  · rw [if_neg e, h.2 k hk]
    congr 2
    have : (∃ j, j < i ∧ curN s j = k) ↔ ∃ j, j < i + 1 ∧ curN s j = k := by
      constructor
      · rintro ⟨j, hj, hk⟩; exact ⟨j, by omega, hk⟩
      · rintro ⟨j, hj, hk⟩
        refine ⟨j, ?_, hk⟩
        by_cases h1 : j = i
        · subst h1; exact absurd hk e
        · omega
    simp only [this]
theorem Seen.fresh {s i : Nat} {cs : Array Value} (h : Seen s i cs) (hs : isS (s : Int) = true) (hi : i < s) (hl : curN s i < 1024) : cs[curN s i]? = some (.bool false) := by
  rw [h.2 _ hl]
  congr 2
  refine decide_eq_false ?_
  rintro ⟨j, hj, he⟩
  have := cur_inj s j i hs (by omega) hi he
  omega

set_option maxRecDepth 100000 in
set_option maxHeartbeats 2000000 in
theorem scanRounds_walk (s : Int) (_ : -9223372036854775808 ≤ s ∧ s ≤ 9223372036854775807) (w : World) (hE : Env w) : Calls Tryd.prog 5 #[.int .i64 s] w fun e w' => e = .returned (.bool true) ∧ Below w.heap.size w w' := by
  have hI := fun w => refIsSize_any s w
  by_cases hs : isS s = true
  · obtain ⟨n, rfl⟩ : ∃ n : Nat, s = n := ⟨s.toNat, by have := isS_pos hs; omega⟩
    have hp := isS_pos hs
    rw [hs] at hI
    have HI := fun w => Lib.hid (hI w)
    clear hI
    by_cases hlt : (n : Int) ≤ 1024
    · have HN := fun c hc W hE => Lib.hid (next_any c hc n hs W hE)
      have HS := Lib.hid hs
      have HZ := Lib.hid (Seen.start n)
      clear hs
      go_enter Tryd.func5, Tryd.ntmps5
      go_wp2_with fail
      refine (shown_any _ hE).mono ?_
      rintro e w1 ⟨rfl, hb1⟩
      have hE1 := hE.below hb1
      go_wp2_with fail
      refine (HI _).out.mono ?_
      rintro e w2 ⟨rfl, rfl⟩
      go_wp2
      have kB := Blk.new w2 45 Tryd.zeroCells45
      have hb2 := hb1.alloc hb1.size (Obj.cells Tryd.zeroCells45 45)
      have hz2 := hb1.size
      have hzz : w2.heap.size < (w2.alloc (Obj.cells Tryd.zeroCells45 45)).heap.size := by simp
      generalize hB : w2.heap.size = B at *
      generalize (w2.alloc (Obj.cells Tryd.zeroCells45 45)) = w3 at *
      clear hB hE1 hb1
      go_loopw [5, 6] (fun cv iv wr => ∃ (i : Nat) (cs : Array Value), iv = .int .i64 i ∧ i ≤ n ∧ cv = .int .u32 (curN n i) ∧ Blk wr B 45 cs ∧ Seen n i cs ∧ Below w.heap.size w wr) (fun _ iv _ => n - (intOf iv).toNat)
      case atStart => exact ⟨0, _, rfl, by omega, by rw [cur_zero]; rfl, kB, HZ.out, hb2⟩
      case round =>
        clear kB hb2
        obtain ⟨i, cs, rfl, hi, rfl, kB, hS, hb⟩ := hrel
        by_cases hin : i < n
        · have h1 := cur_slot n i HS.out hin
          have h2 := hS.fresh HS.out hin (by omega)
          have c1 : wr.cell? ⟨B, curN n i, none⟩ = some (.bool false) := by rw [kB.cell]; exact h2
          have f1 := kB.free (curN n i)
          have HNX := Lib.hid (cur_next n i HS.out hin)
          have hS3 := Lib.hid hS.next
          have HEND := Lib.hid (cur_end n HS.out)
          have HPOS := fun h0 => Lib.hid (cur_pos n (i + 1) HS.out h0 (by omega))
          have HK := Lib.hid kB
          have HB := Lib.hid hb
          clear h2 hS kB hb
          generalize hc : curN n i = c at *
          have HC := Lib.hid hc
          clear hc
          have hcl : c < 4294967296 := by omega
          have hb3 := HB.out.setCell (p := ⟨B, c, none⟩) hz2 (Value.bool true)
          have hE3 := hE.below hb3
          have kB3 := HK.out.set c (Value.bool true)
          have hN := HN c hcl _ hE3
          rw [HNX.out] at hN
          clear hE3
          have hdl : curN n (i + 1) < 4294967296 := by have := nextN_lt c n; rw [HNX.out] at this; exact this
          have hii : (i : Int) < n := by omega
          have hc1 : (c : Int) < n := by omega
          rcases Nat.lt_or_ge (i + 1) n with hl | hl
          · have hd := (HPOS hl).out
            have hd0 : ¬ (i : Int) = (n : Int) - 1 := by omega
            generalize hdd : curN n (i + 1) = d at *
            have HD := Lib.hid hdd
            have q1 : ((d : Int) == 0) = false := by simpa using hd
            have q2 : ((i : Int) == (n : Int) - 1) = false := by simpa using hd0
            clear hdd hd hd0
            go_wp2_with fail
            refine hN.out.mono ?_
            rintro e w4 ⟨rfl, hb4⟩
            have hb5 := Lib.hid (hb3.trans (hb4.mono hb3.size))
            have kB5 := Lib.hid (kB3.later hb4)
            clear hb3 hb4 kB3
            go_wp2
            exact ⟨⟨i + 1, _, by go_num, by omega, by rw [HD.out], kB5.out, hS3.out, hb5.out⟩, by simp [intOf]; omega⟩
          · obtain rfl : n = i + 1 := by omega
            have hd := HEND.out
            rw [hd] at hN
            have HD := Lib.hid hd
            have q2 : ((i : Int) == ((i + 1 : Nat) : Int) - 1) = true := by simp
            clear hd
            generalize hni : i + 1 = n at *
            have HNI := Lib.hid hni
            clear hni
            go_wp2_with fail
            refine hN.out.mono ?_
            rintro e w4 ⟨rfl, hb4⟩
            have hb5 := Lib.hid (hb3.trans (hb4.mono hb3.size))
            have kB5 := Lib.hid (kB3.later hb4)
            clear hb3 hb4 kB3
            go_wp2
            exact ⟨⟨n, _, by rw [← HNI.out]; go_num, by omega, by rw [HD.out]; rfl, kB5.out, hS3.out, hb5.out⟩, by have := HNI.out; simp [intOf]; omega⟩
        · obtain rfl : i = n := by omega
          go_wp2
          go_ret
          exact ⟨rfl, hb⟩
    · go_enter Tryd.func5, Tryd.ntmps5
      go_wp2_with fail
      refine (shown_any _ hE).mono ?_
      rintro e w1 ⟨rfl, hb1⟩
      go_wp2_with fail
      refine (HI _).out.mono ?_
      rintro e w2 ⟨rfl, rfl⟩
      go_wp2
      go_ret
      exact ⟨rfl, hb1⟩
  · have hs' : isS s = false := by cases h : isS s <;> simp_all
    rw [hs'] at hI
    have HI := fun w => Lib.hid (hI w)
    clear hI hs hs'
    go_enter Tryd.func5, Tryd.ntmps5
    go_wp2_with fail
    refine (shown_any _ hE).mono ?_
    rintro e w1 ⟨rfl, hb1⟩
    go_wp2_with fail
    refine (HI _).out.mono ?_
    rintro e w2 ⟨rfl, rfl⟩
    go_wp2
    go_ret
    exact ⟨rfl, hb1⟩
end Go.Proofs.YtlfhiolkbnhinaaDoor
