/- All: what all of a scan tells. -/
import Derived.Test.YtlfhiolkbnhinaaDoorScanMoves
import Derived.Test.YtlfhiolkbnhinaaDoorNil
namespace Go.Proofs.YtlfhiolkbnhinaaDoor
open Go.RowKit Go.Shelf Go.Sort
attribute [local go_sem] Oper.semAt_some

/-- What the first j calls of a scan tell. -/
def scansK (D : Dc) : Nat → List (List UInt8)
  | 0 => []
  | j + 1 => scansK D j ++ scanK D (j * unitN D.least)
theorem scans_front {seed : Nat} {m : ByteArray → Option Int} {D : Dc} (hL : Like tyI seed D (fun k => (m k).map (Value.int .i64))) (hs : D.shape.small) : ∀ j, j ≤ D.least → Scanned seed m (j * unitN D.least) (scansK D j)
  | 0, _ => by rw [Nat.zero_mul]; exact Scanned.start _ _
  | j + 1, hj => by
    have h1 := scans_front hL hs j (by omega)
    have h2 := tables_ok hL.1.ok _ (.inl rfl) hs.1 hs.2
    obtain ⟨u1, u2⟩ := unit_facts D.least h2.2.1 h2.2.2.2
    have h3 : j * unitN D.least < 4294967296 := by
      rw [← u1]
      exact Nat.mul_lt_mul_of_pos_right (by omega) (by omega)
    have h4 := h1.next (by omega) (Nat.mul_mod_left _ _) (Tells.of hL hs _ h3)
    rw [Nat.add_mul, Nat.one_mul]
    exact h4
/-- A dict like some map has at most its number of keys told. -/
theorem scans_len {seed : Nat} {D : Dc} {m : ByteArray → Option Int} (hL : Like tyI seed D (fun k => (m k).map (Value.int .i64))) (hs : D.shape.small) (j : Nat) (hj : j ≤ D.least) : (scansK D j).length ≤ D.n ∧ (j = D.least → (scansK D j).length = D.n) := by
  have h1 := scans_front hL hs j hj
  have hK : (D.nodes.map bytesK).length = D.n := by
    rw [List.length_map]
    unfold Dc.nodes
    rw [List.length_append]
    exact hL.1.ok.n.symm
  have mem : ∀ k, k ∈ D.nodes.map bytesK ↔ (m (keyB k)).isSome = true := fun k => by
    constructor
    · intro hk
      obtain ⟨x, hx, hk⟩ := List.mem_map.1 hk
      have := (hL.2 (keyB k) x.v).1 ⟨x, hx, by rw [← hk]; unfold bytesK; rw [keyB_back], rfl⟩
      cases hm : m (keyB k) with
      | none => simp [hm] at this
      | some v => rfl
    · intro hk
      obtain ⟨v, hv⟩ := Option.isSome_iff_exists.1 hk
      obtain ⟨x, hx, hkx, _⟩ := (hL.2 (keyB k) (.int .i64 v)).2 (by simp [hv])
      exact List.mem_map.2 ⟨x, hx, by unfold bytesK; rw [hkx, keyB_list]⟩
  have h2 : (scansK D j).length ≤ (D.nodes.map bytesK).length := nodup_sub h1.nodup fun k hk => (mem k).2 (h1.is k hk).1
  refine ⟨by omega, fun e => ?_⟩
  have hu := hL.1.uniqK
  have ho := tables_ok hL.1.ok _ (.inl rfl) hs.1 hs.2
  obtain ⟨u1, u2⟩ := unit_facts D.least ho.2.1 ho.2.2.2
  have h3 : (D.nodes.map bytesK).length ≤ (scansK D j).length := nodup_sub hu fun k hk => h1.all k ((mem k).1 hk) (by rw [e, u1]; exact posN_lt _ _)
  omega

def leftC (s : Nat) (cv : Value) : Nat := match cv with | .int _ n => if n = 0 then 0 else s - turnN n.toNat / unitN s | _ => 0
theorem leftC_zero (s : Nat) : leftC s (.int .u32 0) = 0 := by simp [leftC]
theorem leftC_on (s c : Nat) (h : c ≠ 0) : leftC s (.int .u32 c) = s - turnN c / unitN s := by
  unfold leftC
  simp only
  rw [if_neg (by omega), Int.toNat_natCast]

section
variable {S : Nat → Prop} {p seed : Nat} {D : Dc} {w : World} {m : ByteArray → Option Int}
theorem scans_call (h : Rep tyI w p S seed D) (hL : Like tyI seed D (fun k => (m k).map (Value.int .i64))) (hn : D.n ≤ 500) (hs : D.shape.small) (j : Nat) (hj : j < D.least) (hE : Env w) :
    Calls Tryd.prog 17 #[.pointer (some ⟨p, 0, none⟩), .int .u32 (frontC (j * unitN D.least))] w fun e w' =>
      ∃ u, e = .returned (.tuple #[u, .int .u32 (frontC ((j + 1) * unitN D.least))]) ∧ Own9 w' w.heap.size u (scanK D (j * unitN D.least)) ∧ Below w.heap.size w w' := by
  have ho := tables_ok hL.1.ok _ (.inl rfl) hs.1 hs.2
  obtain ⟨u1, u2⟩ := unit_facts D.least ho.2.1 ho.2.2.2
  have h3 : j * unitN D.least < 4294967296 := by
    rw [← u1]
    exact Nat.mul_lt_mul_of_pos_right hj (by omega)
  obtain ⟨x1, x2⟩ := frontC_next D.least _ ho.2.1 h3 (Nat.mul_mod_left _ _)
  have := scan_any h hL.1.ok hn hs.1 hs.2 (frontC (j * unitN D.least)) (frontC_lt _) hE
  rw [x1, frontC_pos _ h3] at this
  rw [Nat.add_mul, Nat.one_mul]
  exact this
theorem front_cases (s j : Nat) (hs : isS (s : Int) = true) (hj : j ≤ s) (h0 : 0 < j) : (j = s ∧ frontC (j * unitN s) = 0) ∨ (j < s ∧ frontC (j * unitN s) ≠ 0 ∧ turnN (frontC (j * unitN s)) / unitN s = j) := by
  obtain ⟨u, hu, h1, h2⟩ := cur_facts s hs
  rw [hu]
  rcases Nat.lt_or_ge j s with h | h
  · have h3 : j * u < 4294967296 := by rw [← h1]; exact Nat.mul_lt_mul_of_pos_right h h2
    have h4 : 0 < j * u := Nat.mul_pos h0 h2
    refine .inr ⟨h, fun e => ?_, ?_⟩
    · have := frontC_zero _ e
      omega
    · rw [frontC_pos _ h3]
      exact Nat.mul_div_cancel _ h2
  · obtain rfl : j = s := by omega
    refine .inl ⟨rfl, ?_⟩
    rw [h1]
    exact frontC_end

set_option maxRecDepth 100000 in
set_option maxHeartbeats 4000000 in
theorem all_any (h : Rep tyI w p S seed D) (hL : Like tyI seed D (fun k => (m k).map (Value.int .i64))) (hn : D.n ≤ 500) (hs : D.shape.small) (hE : Env w) :
    Calls Tryd.prog 21 #[.pointer (some ⟨p, 0, none⟩)] w fun e w' => ∃ u, e = .returned u ∧ Own9 w' w.heap.size u (scansK D D.least) ∧ Below w.heap.size w w' := by
  have ho := tables_ok hL.1.ok _ (.inl rfl) hs.1 hs.2
  have hl4 := isS_pos ho.2.1
  have hls : isS (D.least : Int) = true := ho.2.1
  have hp : 0 < D.least := by have : (4 : Int) ≤ (D.least : Int) := hl4.1; omega
  have HSC := fun W (hb : Below w.heap.size w W) j hj => Lib.hid (scans_call (h.later hb) hL hn hs j hj (hE.below hb))
  have HLEN := fun j hj => (scans_len hL hs j hj).1
  have HS0 := HSC w (Below.refl _ _) 0 hp
  rw [Nat.zero_mul] at HS0
  have e0 : scansK D 1 = scanK D 0 := by show [] ++ scanK D (0 * unitN D.least) = _; rw [Nat.zero_mul]; rfl
  have HFC := fun j hj h0 => Lib.hid (front_cases D.least j hls hj h0)
  have HS0' := HS0.out
  have hz : Value.int .u32 (frontC 0 : Nat) = Value.int .u32 0 := front0V.symm
  rw [hz] at HS0'
  clear h hL hE HS0 ho hl4
  have HS0 := Lib.hid HS0'
  clear HS0' hz
  go_enter Tryd.func21, Tryd.ntmps21
  go_wp2_with fail
  (with_reducible refine HS0.out.mono ?_)
  rintro e w1 ⟨u, rfl, hu, hb1⟩
  rw [← e0] at hu
  have HU := Lib.hid hu
  have HB1 := Lib.hid hb1
  clear hu hb1 e0 HS0
  go_upto_region 2 with fail
  go_loopw [3, 4] (fun lv cv wr => ∃ j : Nat, 0 < j ∧ j ≤ D.least ∧ cv = .int .u32 (frontC (j * unitN D.least)) ∧ Own9 wr w.heap.size lv (scansK D j) ∧ Below w.heap.size w wr) (fun _ cv _ => leftC D.least cv)
  case atStart => exact ⟨1, by omega, by omega, by rw [Nat.one_mul], HU.out, HB1.out⟩
  case round =>
    obtain ⟨j, h0, hj, rfl, hO, hb⟩ := hrel
    have HO := Lib.hid hO
    have HB := Lib.hid hb
    clear hO hb HU HB1
    rcases (HFC j hj h0).out with ⟨rfl, hz⟩ | ⟨hlt, hz, hq⟩
    · generalize frontC (D.least * unitN D.least) = c at *
      subst hz
      clear HFC HSC HLEN
      go_wp2
      go_ret
      exact ⟨_, rfl, HO.out, HB.out⟩
    · have hm := leftC_on D.least _ hz
      rw [hq] at hm
      have HM := Lib.hid hm
      have hSC := Lib.hid (HSC wr HB.out j hlt).out
      have hln : ((frontC (j * unitN D.least) : Nat) : Int) ≠ 0 := by omega
      have hne : (((frontC (j * unitN D.least) : Nat) : Int) != 0) = true := by simpa using hln
      have hlen := HLEN (j + 1) (by omega)
      have hsc : scansK D (j + 1) = scansK D j ++ scanK D (j * unitN D.least) := rfl
      rw [hsc, List.length_append] at hlen
      have HNX := Lib.hid (HFC (j + 1) (by omega) (by omega)).out
      generalize frontC (j * unitN D.least) = c at *
      clear hm hq HSC HFC HLEN hln hsc
      go_wp2_with fail
      (with_reducible refine hSC.out.mono ?_)
      rintro e w3 ⟨uu, rfl, hu3, hb3⟩
      have hO3 := HO.out.below hb3
      have hz3 := hb3.size
      have hzr := HB.out.size
      obtain ⟨v5, w5, hrun, hO5, hg5⟩ := hO3.join hu3 (by omega) (by omega)
      have hb5 : Below w.heap.size w w5 := (HB.out.trans (hb3.mono HB.out.size)).grown hg5 (by omega) (fun k e => (World.ownsRow.lt hO3 k e).1)
      have HO5 := Lib.hid hO5
      have HB5 := Lib.hid hb5
      clear hO3 hu3 hb3 hO5 hg5 hb5 hSC HO
      go_wp2_with (at_builtin; refine wpList_append_ran rfl _ _ 38 38 rfl rfl rfl hrun ?_)
      refine ⟨⟨j + 1, by omega, by omega, rfl, HO5.out, HB5.out⟩, ?_⟩
      rw [HM.out]
      rcases HNX.out with ⟨h1, h2⟩ | ⟨h1, h2, h3⟩
      · rw [h2]
        show leftC D.least (.int .u32 0) < _
        rw [leftC_zero]
        omega
      · rw [leftC_on _ _ h2, h3]
        omega
end
end Go.Proofs.YtlfhiolkbnhinaaDoor
