/- Three that are known. -/
import Derived.Test.YtjilfgkoibbcnaaDoorTold
import Derived.Test.YtjilfgkoibbcnaaDoorSame
namespace Go.Proofs.YtjilfgkoibbcnaaDoor
open Go.RowKit Go.Shelf
attribute [local go_sem] Oper.semAt_some

def insS (L : List Ent) : List Ent := L.foldr (fun e M => insE M e) []
theorem sortS_eq (L : List Ent) : sortS L = insS L := by
  induction L with
  | nil => simp [sortS, insS]
  | cons e L ih => rw [← ins_sortS, ih]; rfl

def bA : ByteArray := ⟨#[97]⟩
def bB : ByteArray := ⟨#[98]⟩
def shL1 : List Ent := [(bA, 1), (bB, 2)]
def shL2 : List Ent := [(bB, 3)]
def shL : List (List Ent) := [shL1, shL2]
def toldQ : Option (Option (List Ent)) → List Ent × Int
  | none => ([], 120)
  | some none => ([], 11)
  | some (some M) => (insS M, 0)
theorem toldP_eq (R : Option (Option (List Ent))) : toldP R = toldQ R := by
  match R with
  | none => rfl
  | some none => rfl
  | some (some M) => exact congrArg (fun x => (x, (0 : Int))) (sortS_eq M)
theorem sh1 : mixP 1 [1, 10] 1 shL = ([(bA, 1), (bB, 32)], 0) := by
  unfold mixP mixR rightsP
  simp only [List.all_cons, List.all_nil, shL, rightP, sortP, sortS_eq, toldP_eq]
  kernel_rfl
theorem sh2 : mixP 2 [1, 1] 2 shL = ([(bB, 2)], 0) := by
  unfold mixP mixR rightsP
  simp only [List.all_cons, List.all_nil, shL, rightP, sortP, sortS_eq, toldP_eq]
  kernel_rfl
theorem sh3 : diffP shL = ([(bA, 1)], 0) := by
  unfold diffP restP rightsP
  simp only [List.all_cons, List.all_nil, shL, rightP, sortP, sortS_eq, toldP_eq]
  kernel_rfl
theorem sh4 : diffP [] = ([], 120) := by
  unfold diffP restP rightsP
  rfl
theorem ok_sh : OkS shL := by
  refine ⟨by decide, fun l hl => ?_⟩
  have : l = shL1 ∨ l = shL2 := by simpa [shL] using hl
  rcases this with rfl | rfl
  all_goals (
    refine ⟨by decide, by decide, fun e he => ?_⟩
    simp [shL1, shL2] at he
    rcases he with rfl | rfl)
  all_goals exact ⟨by decide, by unfold I64; decide⟩
/-- A list laid as one literal. -/
theorem own_lit {W : World} {b : Nat} {l : List Ent} {cs : Array Value} (h : Blk W b 38 cs) (hc : cs.toList = cellsE l) (hl : l.length ≤ 1000) : Own W 0 (.slice (some ⟨b, 0, none⟩) l.length l.length) l := by
  refine ⟨cellsE_length l, .inr ⟨b, l.length, cs, rfl, Nat.zero_le _, h, Nat.le_refl _, by unfold maxLen; omega, ?_, ?_⟩⟩
  · have := congrArg List.length hc
    rw [cellsE_length] at this
    simpa using this
  · rw [hc]
    have := cellsE_length l
    exact List.take_of_length_le (by omega)

theorem own_ents {W : World} {n0 : Nat} {a : Option Addr} {n c : Nat} {l : List Ent} (h : Own W n0 (.slice a n c) l) : Ents W a l := by
  obtain ⟨a', c', h1, h2, _⟩ := h.slice
  cases h1
  exact h2
theorem nums_lit {W : World} {b : Nat} {ws : List Int} {cs : Array Value} (h : Blk W b 2 cs) (hc : cs.toList = ws.map fun i => .int .i64 i) : Nums W (some ⟨b, 0, none⟩) ws := fun k hk => by
  refine ⟨b, 0, rfl, ?_⟩
  rw [Nat.zero_add, h.cell k, ← Array.getElem?_toList, hc]
  simp [hk]

set_option maxRecDepth 100000 in
set_option maxHeartbeats 4000000 in
theorem shown_any (a0 a1 : Addr) (w : World) (hE : Env a0 a1 w) : Calls Tryd.prog 10 #[] w fun e w' => e = .returned (.bool true) ∧ Below w.heap.size w w' := by
  have HE := Lib.hid hE
  clear hE
  go_enter Tryd.func10, Tryd.ntmps10
  obtain ⟨n, hn⟩ : ∃ n, w.heap.size = n := ⟨_, rfl⟩
  have hsets : ∃ w1, ((w.alloc (Obj.cells #[Value.string { data := #[97] }, Value.int IntKind.i64 1, Value.string { data := #[98] }, Value.int IntKind.i64 2] 38)).alloc (Obj.cells #[Value.string { data := #[98] }, Value.int IntKind.i64 3] 38)).alloc
      (Obj.cells #[Value.slice (some ⟨n, 0, none⟩) 2 2, Value.slice (some ⟨n + 1, 0, none⟩) 1 1] 26) = w1 ∧ Below w.heap.size w w1 ∧ Sets w1 (some ⟨n + 1 + 1, 0, none⟩) shL ∧ w1.heap.size = n + 3 := by
    subst hn
    refine ⟨_, rfl, (((Below.refl _ _).alloc (Nat.le_refl _) _).alloc (by simp) _).alloc (by simp only [World.size_alloc]; omega) _, ?_, by simp⟩
    have k0 := ((Blk.new w 38 #[Value.string { data := #[97] }, Value.int IntKind.i64 1, Value.string { data := #[98] }, Value.int IntKind.i64 2]).alloc (Obj.cells #[Value.string { data := #[98] }, Value.int IntKind.i64 3] 38)).alloc (Obj.cells #[Value.slice (some ⟨w.heap.size, 0, none⟩) 2 2, Value.slice (some ⟨w.heap.size + 1, 0, none⟩) 1 1] 26)
    have k1 := (Blk.new (w.alloc (Obj.cells #[Value.string { data := #[97] }, Value.int IntKind.i64 1, Value.string { data := #[98] }, Value.int IntKind.i64 2] 38)) 38 #[Value.string { data := #[98] }, Value.int IntKind.i64 3]).alloc (Obj.cells #[Value.slice (some ⟨w.heap.size, 0, none⟩) 2 2, Value.slice (some ⟨w.heap.size + 1, 0, none⟩) 1 1] 26)
    have k2 := Blk.new ((w.alloc (Obj.cells #[Value.string { data := #[97] }, Value.int IntKind.i64 1, Value.string { data := #[98] }, Value.int IntKind.i64 2] 38)).alloc (Obj.cells #[Value.string { data := #[98] }, Value.int IntKind.i64 3] 38)) 26 #[Value.slice (some ⟨w.heap.size, 0, none⟩) 2 2, Value.slice (some ⟨w.heap.size + 1, 0, none⟩) 1 1]
    rw [World.size_alloc] at k1
    rw [World.size_alloc, World.size_alloc] at k2
    have o1 := own_lit (l := shL1) k0 rfl (by decide)
    have o2 := own_lit (l := shL2) k1 rfl (by decide)
    intro k hk
    have : k = 0 ∨ k = 1 := by simp [shL] at hk; omega
    rcases this with rfl | rfl
    · exact ⟨_, 0, _, _, rfl, k2, rfl, o1⟩
    · exact ⟨_, 0, _, _, rfl, k2, rfl, o2⟩
  obtain ⟨w1, hw1, hb1, hS1, hs1⟩ := hsets
  have HB1 := Lib.hid hb1
  have HS1 := Lib.hid hS1
  clear hb1 hS1
  go_wp2_with fail
  have hx1 := alloc_below w1 (Obj.cells #[Value.int IntKind.i64 1, Value.int IntKind.i64 10] 2)
  have hn1 := Blk.new w1 2 #[Value.int IntKind.i64 1, Value.int IntKind.i64 10]
  rw [hs1] at hn1
  have hy1 := HB1.out.trans (hx1.mono HB1.out.size)
  have hc1 := union_any a0 a1 1 [1, 10] (by intro x hx; simp at hx; rcases hx with rfl | rfl <;> (unfold I64; omega)) shL ok_sh (some ⟨n + 3, 0, none⟩) (some ⟨n + 1 + 1, 0, none⟩) 2 2 _ (HE.out.later hy1) (HS1.out.later hx1) (nums_lit hn1 rfl)
  rw [sh1] at hc1
  have HX1 := Lib.hid hx1
  have HY1 := Lib.hid hy1
  clear hx1 hn1 hy1 hw1
  refine hc1.mono ?_
  rintro e w2 ⟨r, rfl, hO, hb⟩
  obtain ⟨ra, rc, rfl, _, _, _, _⟩ := Own.slice hO
  have HO2 := Lib.hid hO
  have hb2 := HY1.out.trans (hb.mono HY1.out.size)
  have HS2 := Lib.hid ((HS1.out.later HX1.out).later hb)
  have HB2 := Lib.hid hb2
  have hs2 := hb2.size
  clear hb hb2 hO hc1
  simp only [List.length_cons, List.length_nil, Nat.reduceAdd] at *
  go_wp2_with fail
  have hx1 := alloc_below w2 (Obj.cells #[Value.int IntKind.i64 1, Value.int IntKind.i64 1] 2)
  have hn1 := Blk.new w2 2 #[Value.int IntKind.i64 1, Value.int IntKind.i64 1]
  have hy1 := HB2.out.trans (hx1.mono HB2.out.size)
  have hc1 := inter_any a0 a1 2 [1, 1] (by intro x hx; simp at hx; subst hx; unfold I64; omega) shL ok_sh (some ⟨w2.heap.size, 0, none⟩) (some ⟨n + 1 + 1, 0, none⟩) 2 2 _ (HE.out.later hy1) (HS2.out.later hx1) (nums_lit hn1 rfl)
  rw [show ((shL.length : Nat) : Int) = 2 from rfl, sh2] at hc1
  have HX2 := Lib.hid hx1
  have HY2 := Lib.hid hy1
  clear hx1 hn1 hy1
  refine hc1.mono ?_
  rintro e w3 ⟨r, rfl, hO, hb⟩
  obtain ⟨sa, sc, rfl, _, _, _, _⟩ := Own.slice hO
  have HO3 := Lib.hid hO
  have hb2 := HY2.out.trans (hb.mono HY2.out.size)
  have HS3 := Lib.hid ((HS2.out.later HX2.out).later hb)
  have HA3 := Lib.hid (own_later (own_later HO2.out HX2.out) hb)
  have HB3 := Lib.hid hb2
  clear hb hb2 hO hc1
  simp only [List.length_cons, List.length_nil, Nat.reduceAdd] at *
  go_wp2_with fail
  have hc1 := diff_any a0 a1 shL ok_sh (some ⟨n + 1 + 1, 0, none⟩) 2 (by decide) _ (HE.out.later HB3.out) HS3.out
  rw [sh3] at hc1
  refine hc1.mono ?_
  rintro e w4 ⟨r, rfl, hO, hb⟩
  obtain ⟨ta, tc, rfl, _, _, _, _⟩ := Own.slice hO
  have HO4 := Lib.hid hO
  have HB4 := Lib.hid (HB3.out.trans (hb.mono HB3.out.size))
  have HA4 := Lib.hid (own_later HA3.out hb)
  have HC4 := Lib.hid (own_later HO3.out hb)
  clear hb hO hc1
  simp only [List.length_cons, List.length_nil, Nat.reduceAdd] at *
  go_wp2_with fail
  have hc1 := diff_any a0 a1 [] (by unfold OkS; simp) none 0 (by decide) _ (HE.out.later HB4.out) (fun k hk => by simp at hk)
  rw [sh4] at hc1
  refine hc1.mono ?_
  rintro e w5 ⟨r, rfl, hO, hb⟩
  have HB5 := Lib.hid (HB4.out.trans (hb.mono HB4.out.size))
  have HA5 := Lib.hid (own_later HA4.out hb)
  have HC5 := Lib.hid (own_later HC4.out hb)
  have HD5 := Lib.hid (own_later HO4.out hb)
  clear hb hO hc1
  go_wp2_with fail
  have hx5 := alloc_below w5 (Obj.cells #[Value.string { data := #[97] }, Value.int IntKind.i64 1, Value.string { data := #[98] }, Value.int IntKind.i64 32] 38)
  have hl5 := own_ents (own_lit (l := [(bA, 1), (bB, 32)]) (Blk.new w5 38 #[Value.string { data := #[97] }, Value.int IntKind.i64 1, Value.string { data := #[98] }, Value.int IntKind.i64 32]) rfl (by decide))
  have hq := same_any ra (some ⟨w5.heap.size, 0, none⟩) rc 2 [(bA, 1), (bB, 32)] [(bA, 1), (bB, 32)] (by decide) (by decide) _ (own_ents (own_later HA5.out hx5)) hl5
  rw [decide_eq_true rfl] at hq
  have HX5 := Lib.hid hx5
  clear hx5 hl5
  refine hq.mono ?_
  rintro e w6 ⟨rfl, hb⟩
  have HB6 := Lib.hid (HB5.out.trans ((HX5.out.trans (hb.mono HX5.out.size)).mono HB5.out.size))
  have HC6 := Lib.hid (own_later (own_later HC5.out HX5.out) hb)
  have HD6 := Lib.hid (own_later (own_later HD5.out HX5.out) hb)
  clear hb hq
  go_wp2_with fail
  have hx6 := alloc_below w6 (Obj.cells #[Value.string { data := #[98] }, Value.int IntKind.i64 2] 38)
  have hl6 := own_ents (own_lit (l := [(bB, 2)]) (Blk.new w6 38 #[Value.string { data := #[98] }, Value.int IntKind.i64 2]) rfl (by decide))
  have hq := same_any sa (some ⟨w6.heap.size, 0, none⟩) sc 1 [(bB, 2)] [(bB, 2)] (by decide) (by decide) _ (own_ents (own_later HC6.out hx6)) hl6
  rw [decide_eq_true rfl] at hq
  have HX6 := Lib.hid hx6
  clear hx6 hl6
  refine hq.mono ?_
  rintro e w7 ⟨rfl, hb⟩
  have HB7 := Lib.hid (HB6.out.trans ((HX6.out.trans (hb.mono HX6.out.size)).mono HB6.out.size))
  have HD7 := Lib.hid (own_later (own_later HD6.out HX6.out) hb)
  clear hb hq
  go_wp2_with fail
  have hx7 := alloc_below w7 (Obj.cells #[Value.string { data := #[97] }, Value.int IntKind.i64 1] 38)
  have hl7 := own_ents (own_lit (l := [(bA, 1)]) (Blk.new w7 38 #[Value.string { data := #[97] }, Value.int IntKind.i64 1]) rfl (by decide))
  have hq := same_any ta (some ⟨w7.heap.size, 0, none⟩) tc 1 [(bA, 1)] [(bA, 1)] (by decide) (by decide) _ (own_ents (own_later HD7.out hx7)) hl7
  rw [decide_eq_true rfl] at hq
  have HX7 := Lib.hid hx7
  clear hx7 hl7
  refine hq.mono ?_
  rintro e w8 ⟨rfl, hb⟩
  have HB8 := Lib.hid (HB7.out.trans ((HX7.out.trans (hb.mono HX7.out.size)).mono HB7.out.size))
  clear hb hq
  go_wp2_with fail
  go_ret
  exact ⟨rfl, HB8.out⟩
end Go.Proofs.YtjilfgkoibbcnaaDoor
