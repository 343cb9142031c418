/- A table's slots, from a cursor's one on: the iterator's contract. -/
import Derived.Test.YtlfhiolkbnhinaaDoorCurs
import Derived.Test.YtlfhiolkbnhinaaDoorSlots
import Derived.Test.YtlfhiolkbnhinaaDoorRangeS
namespace Go.Proofs.YtlfhiolkbnhinaaDoor
open Go.RowKit Go.Shelf
attribute [local go_sem] Oper.semAt_some

/-- The rounds: the slots, each with the next cursor, from part q on. -/
def encT (_ : Nat) (x : Nat × Nat) : Array Value := #[.int .i64 x.1, .int .u32 x.2]
def roundsN (s q : Nat) : List (Nat × Nat) := (List.range' q (s - q)).map fun j => (curN s j, curN s (j + 1))
theorem rounds_len (s q : Nat) : (roundsN s q).length = s - q := by simp [roundsN]
theorem rounds_at (s q i : Nat) (h : q + i < s) : (roundsN s q)[i]? = some (curN s (q + i), curN s (q + i + 1)) := by
  unfold roundsN
  rw [List.getElem?_map, List.getElem?_range' (by omega)]
  simp [Nat.mul_comm]

def leftV (s : Nat) (av mv : Value) : Nat := match mv with | .bool true => s - turnN (intOf av).toNat / unitN s | _ => 0
theorem leftV_on (s a : Nat) : leftV s (.int .u32 a) (.bool true) = s - turnN a / unitN s := by simp [leftV, intOf]
theorem leftV_off (s : Nat) (av : Value) : leftV s av (.bool false) = 0 := rfl

set_option maxRecDepth 100000 in
set_option maxHeartbeats 4000000 in
theorem cursors_any (num s : Nat) (hs : isS (s : Int) = true) (c : Nat) (hc : c < 4294967296) (B1 B2 : Nat) (w : World) (hE : Env w) (h1 : Blk w B1 22 #[.int .u32 c]) (h2 : Blk w B2 76 #[.int .i64 num, .int .i64 s]) (L : List Nat) (hL0 : 1 ∉ L) (hL1 : B1 ∉ L) (hL2 : B2 ∉ L) :
    Sc.SeqX Tryd.prog 72 #[.pointer (some ⟨B1, 0, none⟩), .pointer (some ⟨B2, 0, none⟩)] encT (roundsN s (turnN c / unitN s)) L w := by
  intro l J Jx W hW hJ hJx hY hJ0
  have k1 := h1.later hW
  have k2 := h2.later hW
  have kE := Lib.hid (hE.below hW)
  obtain ⟨d1, e1⟩ := facts1 k1
  have hp := isS_pos hs
  have HSL := fun a ha W => slot_any a ha s W
  have HQ : ∀ a, a < 4294967296 → turnN a / unitN s < s := fun a ha => part_lt s a hs ha
  have HSN : ∀ a, a < 4294967296 → slotS a s = .tuple #[.int .i64 (curN s (turnN a / unitN s) : Nat), .int .i64 0] := fun a ha => by rw [slotS_ok a hs, cur_of s a hs ha]
  have HNX := fun a ha W hE => next_any a ha s hs W hE
  have HNV : ∀ a, a < 4294967296 → nextN a s = curN s (turnN a / unitN s + 1) := fun a ha => cur_up s a
  refine callsIn_of_wp Tryd.func72 rfl trivial ?_ rfl
  simp only [Tryd.ntmps72, List.size_toArray, List.length_cons, List.length_nil, Nat.reduceAdd, Nat.reduceSub, Array.replicate_succ, Array.replicate_zero, List.push_toArray, List.append_toArray, List.nil_append, List.cons_append]
  have HY := Lib.hid hY
  have K1 := Lib.hid k1
  have K2 := Lib.hid k2
  have HL := Lib.hid (rounds_len s (turnN c / unitN s))
  have HR := Lib.hid (rounds_at s (turnN c / unitN s))
  have hq0 := HQ c hc
  have HA := Lib.hid (show turnN c / unitN s = turnN c / unitN s + 0 from rfl)
  clear hY k1 k2 h1 h2 hE
  generalize hxs : roundsN s (turnN c / unitN s) = xs at *
  clear hxs
  generalize hq : turnN c / unitN s = q at *
  have HC := Lib.hid hq
  clear hq
  gi_wp2
  gi_loopw [4, 5] (fun av mv wr => (∃ (i a : Nat), av = .int .u32 a ∧ a < 4294967296 ∧ mv = .bool (decide (q + i < s)) ∧ q + i ≤ s ∧ (q + i < s → turnN a / unitN s = q + i) ∧ Blk wr B1 22 #[.int .u32 c] ∧ Blk wr B2 76 #[.int .i64 num, .int .i64 s] ∧ Env wr ∧ J i wr) ∨ (mv = .bool false ∧ ∃ i, Jx i wr)) (fun av mv _ => leftV s av mv)
  case atStart => exact .inl ⟨0, c, rfl, hc, by rw [decide_eq_true (show q + 0 < s by omega)], by omega, fun _ => HC.out, K1.out, K2.out, kE.out, hJ0⟩
  case round =>
    clear d1 e1 K1 K2 kE
    obtain ⟨i, a, rfl, ha, rfl, hi, hq, q1, q2, qE, hJi⟩ | ⟨rfl, hJx3⟩ := hrel
    rotate_left
    · gi_wp2
      go_end0
      exact ⟨⟨_, rfl⟩, .inr hJx3⟩
    by_cases hlt : q + i < s
    · have hq' := hq hlt
      have hsl := HSL a ha
      rw [HSN a ha, hq'] at hsl
      have hnx := fun W hE => HNX a ha W hE
      rw [HNV a ha, hq'] at hnx
      have HSLA := fun W => Lib.hid (hsl W)
      have HNXA := fun W hE => Lib.hid (hnx W hE)
      have hr := HR.out i hlt
      have hm := leftV_on s a
      rw [hq'] at hm
      have hnl := cur_small s (q + i + 1)
      have hsll : curN s (q + i) < s := cur_slot s _ hs hlt
      rw [decide_eq_true hlt] at *
      have e2 : wr.cell? ⟨B2, 1, none⟩ = some (.int .i64 s) := q2.cell 1
      have Q1 := Lib.hid q1
      have Q2 := Lib.hid q2
      have QE := Lib.hid qE
      have HM := Lib.hid hm
      have HRR := Lib.hid hr
      have HLT := Lib.hid hlt
      have HEND : Hid (q + i + 1 = s → curN s (q + i + 1) = 0) := Lib.hid fun h => by rw [h]; exact cur_end s hs
      have HPOS : Hid (q + i + 1 < s → curN s (q + i + 1) ≠ 0) := Lib.hid fun h => cur_pos s _ hs h (by omega)
      have HTN : Hid (q + i + 1 < s → turnN (curN s (q + i + 1)) / unitN s = q + i + 1) := Lib.hid fun h => cur_turn s _ hs h
      clear hsl hnx hr hm q1 q2 qE hq hq' hlt HR HSL HNX HSN HNV HQ hi
      generalize hd : curN s (q + i + 1) = d at *
      generalize hv : curN s (q + i) = v at *
      clear hd hv
      gi_wp2_with fail
      refine ⟨trivial, ?_⟩
      refine callsIn_wide.2 (Calls.mono (HSLA _).out ?_)
      rintro e w2 ⟨rfl, hb2⟩
      have J2 := hJ _ _ _ hJi hb2
      have P1 := Lib.hid (Q1.out.later hb2)
      have P2 := Lib.hid (Q2.out.later hb2)
      have PE := Lib.hid (QE.out.below hb2)
      have e3 : w2.cell? ⟨B2, 1, none⟩ = some (.int .i64 s) := P2.out.cell 1
      clear hb2 hJi e2 Q1 Q2 QE
      gi_wp2_with fail
      refine ⟨trivial, ?_⟩
      refine callsIn_wide.2 (Calls.mono (HNXA _ PE.out).out ?_)
      rintro e w3 ⟨rfl, hb3⟩
      obtain ⟨fn, tmps, assign, body, hy, hRd⟩ := HY.out i _ w3 HRR.out (hJ _ _ _ J2 hb3)
      unfold encT at hy
      have R1 := Lib.hid (P1.out.later hb3)
      have R2 := Lib.hid (P2.out.later hb3)
      have RE := Lib.hid (PE.out.below hb3)
      clear hb3 J2 P1 P2 PE e3
      simp only at hy
      gi_wp2_with fail
      (try refine ⟨fun _ => by decide, ?_⟩)
      refine hRd.mono ?_
      rintro e W3 (⟨rfl, hJ3, hk3⟩ | ⟨rfl, hJx3⟩)
      · have q1 := Lib.hid (Sc.keepS R1.out hk3 hL1)
        have q2 := Lib.hid (Sc.keepS R2.out hk3 hL2)
        have qE := Lib.hid (show Env W3 from Sc.keepS RE.out hk3 hL0)
        clear hRd hy hk3
        by_cases hlast : q + i + 1 = s
        · obtain rfl := HEND.out hlast
          gi_wp2
          refine ⟨.inl ⟨i + 1, 0, rfl, by decide, by rw [decide_eq_false (show ¬ q + (i + 1) < s by omega)], by omega, fun h => by omega, q1.out, q2.out, qE.out, hJ3⟩, ?_⟩
          rw [HM.out, leftV_off]
          have := HLT.out
          omega
        · have hd0 := HPOS.out (by have := HLT.out; omega)
          have hdi : ((d : Int) == 0) = false := by simpa using hd0
          have hdn : ((d : Int) != 0) = true := by simpa using hd0
          have hdl : q + i + 1 < s := by have := HLT.out; omega
          have HD := Lib.hid hdl
          clear hlast hd0 hdl
          gi_wp2
          refine ⟨.inl ⟨i + 1, d, rfl, hnl, by rw [decide_eq_true (show q + (i + 1) < s by have := HD.out; omega)], by have := HD.out; omega, fun _ => HTN.out HD.out, q1.out, q2.out, qE.out, hJ3⟩, ?_⟩
          rw [HM.out, leftV_on, HTN.out HD.out]
          have := HLT.out
          omega
      · gi_wp2
        refine ⟨.inr ⟨rfl, _, hJx3⟩, ?_⟩
        rw [HM.out, leftV_off]
        have := HLT.out
        omega
    · obtain rfl : i = s - q := by omega
      rw [decide_eq_false hlt]
      have HL2 := HL.out
      clear hlt hq hi HL HR HSL HNX HSN HNV HQ
      gi_wp2
      go_end0
      exact ⟨⟨_, rfl⟩, .inl (by rw [HL2]; exact hJi)⟩
end Go.Proofs.YtlfhiolkbnhinaaDoor
