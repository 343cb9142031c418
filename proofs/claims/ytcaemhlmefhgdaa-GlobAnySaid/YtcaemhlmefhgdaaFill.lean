/- pass, step, fills: whether a text's characters are what the parts say. -/
import Derived.Test.YtcaemhlmefhgdaaParts
namespace Go.Proofs.Ytcaemhlmefhgdaa
open Go.RowKit

theorem grown_refl (w : World) (row : Option Nat) : w.grownBy w row := ⟨rfl, rfl, rfl, Nat.le_refl _, fun _ _ _ => rfl⟩
theorem grown_trans {a b c : World} {row : Option Nat} (h : a.grownBy b row) (g : b.grownBy c row) : a.grownBy c row :=
  ⟨g.os.trans h.os, g.tape.trans h.tape, g.output.trans h.output, Nat.le_trans h.size g.size, fun k hk hn => (g.block k (Nat.lt_of_lt_of_le hk h.size) hn).trans (h.block k hk hn)⟩
theorem grown_setCell (w : World) {g : Nat} {a : Addr} (e : a.block = g) (v : Value) : w.grownBy (w.setCell a v) (some g) :=
  ⟨rfl, rfl, rfl, by simp [World.setCell], fun k _ hn => Below.heap_setCell _ _ _ _ (fun h => hn (by rw [h, e]))⟩

/-- A row of bools, known whole. -/
def Bools (w : World) (g : Nat) (bs : List Bool) : Prop := w.heap[g]? = some (Obj.cells (bs.map Value.bool).toArray 4 (0, 0))
theorem Bools.cell {w : World} {g : Nat} {bs : List Bool} (h : Bools w g bs) {j : Nat} (hj : j < bs.length) : w.cell? ⟨g, j, none⟩ = some (.bool (bs.getD j false)) := by
  rw [cell_of_row w g j _ 4 (0, 0) h]
  simp [List.getD, List.getElem?_eq_getElem hj]
theorem Bools.free {w : World} {g : Nat} {bs : List Bool} (h : Bools w g bs) (j : Nat) : w.frozen? ⟨g, j, none⟩ = false := by
  unfold World.frozen?; rw [show w.heap[(⟨g, j, none⟩ : Addr).block]? = _ from h]; simp
theorem Bools.set {w : World} {g : Nat} {bs : List Bool} (h : Bools w g bs) (j : Nat) (b : Bool) : Bools (w.setCell ⟨g, j, none⟩ (.bool b)) g (bs.set j b) := by
  unfold Bools World.setCell at *
  simp only [Array.getElem?_modify, h]
  simp [List.map_set]
theorem Bools.alloc {w : World} {g : Nat} {bs : List Bool} (h : Bools w g bs) (o : Obj) : Bools (w.alloc o) g bs := by
  unfold Bools at *; rw [Below.heap_alloc _ _ _ (Array.getElem?_eq_some_iff.1 h).1]; exact h
theorem Bools.below {w w' : World} {g : Nat} {bs : List Bool} (h : Bools w g bs) (hb : Below w.heap.size w w') : Bools w' g bs := by
  unfold Bools at *; rw [hb.block _ (Array.getElem?_eq_some_iff.1 h).1]; exact h
theorem Bools.lt {w : World} {g : Nat} {bs : List Bool} (h : Bools w g bs) : g < w.heap.size := (Array.getElem?_eq_some_iff.1 h).1
theorem same_grown_bools {w w' : World} {g : Nat} {bs : List Bool} (h : Bools w g bs) (hg : w.grownBy w' (some g)) : Same okParts w w' := Same.grown hg fun k hk => by
  cases hk; exact ⟨_, 4, h, rfl⟩

/-- pass, up to place k. -/
def passTo (ps : List PartS) (bs : List Bool) : Nat → List Bool
  | 0 => bs
  | k + 1 => if (ps.getD k none).isNone && (passTo ps bs k).getD k false then (passTo ps bs k).set (k + 1) true else passTo ps bs k
theorem passTo_length (ps : List PartS) (bs : List Bool) : ∀ k, (passTo ps bs k).length = bs.length
  | 0 => rfl
  | k + 1 => by simp only [passTo]; split <;> simp [passTo_length ps bs k]

def PassPost (w : World) (g : Nat) (bs' : List Bool) (e : Ending) (w' : World) : Prop := e = .returned (.tuple #[]) ∧ Bools w' g bs' ∧ w.grownBy w' (some g)

theorem pass_no {ps : List PartS} {bs : List Bool} {k : Nat} {p : PartS} {b : Bool} (EP : Hid (ps.getD k none = p)) (EB : Hid ((passTo ps bs k).getD k false = b)) (h : (p.isNone && b) = false) : passTo ps bs (k + 1) = passTo ps bs k := by
  rw [passTo, EP.out, EB.out, h]; rfl
theorem pass_yes {ps : List PartS} {bs : List Bool} {k : Nat} (EP : Hid (ps.getD k none = none)) (EB : Hid ((passTo ps bs k).getD k false = true)) : passTo ps bs (k + 1) = (passTo ps bs k).set (k + 1) true := by
  rw [passTo, EP.out, EB.out]; rfl
theorem assert_run (W : World) : (Instr.typeAssert (.iface 48 (.agg #[])) 44 48 true).run Try.prog W = .ok (.tuple #[.agg #[], .bool true]) W := by kernel_rfl
theorem assert_one (u : Value) (W : World) : (Instr.typeAssert (.iface 50 u) 44 48 true).run Try.prog W = .ok (.tuple #[.agg #[], .bool false]) W := by kernel_rfl

set_option maxHeartbeats 1000000 in
theorem pass_any (g n : Nat) (bs : List Bool) (a : Option Addr) (m cap : Nat) (ps : List PartS) (w : World) (hB : Bools w g bs) (hP : Parts w a ps) (hm : ps.length = m) (hn : n = bs.length) (hb : bs.length = m + 1) (cap' : Nat) :
    Calls Try.prog 22 #[.slice (some ⟨g, 0, none⟩) n cap', .slice a m cap] w (PassPost w g (passTo ps bs m)) := by
  have hsm := hP.small
  subst hn
  have hta1 := assert_run
  have hta2 := assert_one
  go_enter Try.func22, Try.ntmps22
  go_wp2
  go_loopw [10] (fun i wr => ∃ k : Nat, k ≤ m ∧ i = .int .i64 k ∧ Bools wr g (passTo ps bs k) ∧ w.grownBy wr (some g)) (fun i _ => m - (intOf i).toNat)
  case atStart => exact ⟨0, Nat.zero_le _, rfl, hB, grown_refl _ _⟩
  case round =>
    obtain ⟨k, hk, rfl, hBr, hg⟩ := hrel
    have hPr := hP.mono (same_grown_bools hB hg)
    have hlen := passTo_length ps bs k
    by_cases hlt : k < m
    · obtain ⟨gl, cur, v, rfl, hgl, hcv, hpv⟩ := hPr.at' k (by omega)
      have hcl : wr.cell? ⟨gl, k, none⟩ = some v := by rw [cell_of_row wr gl k cur 44 (0, 0) hgl]; exact hcv
      have hBa := hBr.alloc (Obj.cells #[] 48)
      have hc := hBa.cell (j := k) (by omega)
      have hc1 := hBa.cell (j := k + 1) (by omega)
      have hf1 := hBa.free (k + 1)
      have hga : w.grownBy (wr.alloc (Obj.cells #[] 48)) (some g) := grown_trans hg (World.grownBy_alloc wr _ _)
      generalize ep : ps.getD k none = p at hpv
      generalize eb : (passTo ps bs k).getD k false = b at hc
      generalize (passTo ps bs k).getD (k + 1) false = b1 at hc1
      have EP := Lib.hid ep
      have EB := Lib.hid eb
      clear ep eb hlen hP hgl hcv
      cases p with
      | none =>
        obtain rfl : v = .iface 48 (.agg #[]) := hpv
        cases b
        · go_wp2
          go_roundw
          case rel => exact ⟨k + 1, by omega, by go_num, by rw [pass_no EP EB (by simp)]; exact hBa, hga⟩
          case measure => simp [intOf]; omega
        · go_wp2
          go_roundw
          case rel => exact ⟨k + 1, by omega, by go_num, by rw [pass_yes EP EB]; exact hBa.set (k + 1) true, grown_trans hga (grown_setCell _ rfl _)⟩
          case measure => simp [intOf]; omega
      | some f =>
        obtain ⟨u, rfl, ht⟩ := hpv
        clear ht
        go_wp2
        go_roundw
        case rel => exact ⟨k + 1, by omega, by go_num, by rw [pass_no EP EB (by simp)]; exact hBa, hga⟩
        case measure => simp [intOf]; omega
    · go_wp2
      go_end0
      obtain rfl : k = m := by omega
      exact ⟨rfl, hBr, hg⟩

def takesB (p : PartS) (r : Int) : Bool := match p with | none => true | some f => f r

/-- step, up to place k, ahead of pass. -/
def stepTo (ps : List PartS) (bs : List Bool) (r : Int) : Nat → List Bool
  | 0 => List.replicate bs.length false
  | k + 1 => if bs.getD k false && takesB (ps.getD k none) r then (stepTo ps bs r k).set (if (ps.getD k none).isNone then k else k + 1) true else stepTo ps bs r k
theorem stepTo_length (ps : List PartS) (bs : List Bool) (r : Int) : ∀ k, (stepTo ps bs r k).length = bs.length
  | 0 => by simp [stepTo]
  | k + 1 => by simp only [stepTo]; split <;> simp [stepTo_length ps bs r k]
def stepS (ps : List PartS) (bs : List Bool) (r : Int) : List Bool := passTo ps (stepTo ps bs r ps.length) ps.length
theorem stepS_length (ps : List PartS) (bs : List Bool) (r : Int) : (stepS ps bs r).length = bs.length := by rw [stepS, passTo_length, stepTo_length]

theorem step_no {ps : List PartS} {bs : List Bool} {r : Int} {k : Nat} {p : PartS} {b : Bool} (EP : Hid (ps.getD k none = p)) (EB : Hid (bs.getD k false = b)) (h : (b && takesB p r) = false) : stepTo ps bs r (k + 1) = stepTo ps bs r k := by
  rw [stepTo, EP.out, EB.out, h]; rfl
theorem step_run {ps : List PartS} {bs : List Bool} {r : Int} {k : Nat} (EP : Hid (ps.getD k none = none)) (EB : Hid (bs.getD k false = true)) : stepTo ps bs r (k + 1) = (stepTo ps bs r k).set k true := by
  rw [stepTo, EP.out, EB.out]; rfl
theorem step_one {ps : List PartS} {bs : List Bool} {r : Int} {k : Nat} {f : Int → Bool} (EP : Hid (ps.getD k none = some f)) (EB : Hid (bs.getD k false = true)) (h : f r = true) : stepTo ps bs r (k + 1) = (stepTo ps bs r k).set (k + 1) true := by
  rw [stepTo, EP.out, EB.out]; simp [takesB, h]

theorem made_bools (n : Nat) : madeCells #[Value.bool false] n = ((List.replicate n false).map Value.bool).toArray := by
  apply Array.ext
  · simp [size_madeCells]
  · intro i h1 h2
    simp [madeCells, Nat.mod_one]

theorem bools_new (w : World) (n : Nat) : Bools (w.alloc (Obj.cells (Array.replicate n (Value.bool false)) 4)) w.heap.size (List.replicate n false) := by
  unfold Bools; rw [heap_at rfl]; simp

/-- The one name that a part's interface lists. -/
theorem takes_name {nm : String} {sig : TypeId} (h : Try.prog.underlying 44 = some (.interface #[(nm, sig)])) (W : World) (u : Value) :
    (method 176 48 (.agg #[]) nm).run Try.prog W = .ok (51, .agg #[]) W ∧ (method 176 50 u nm).run Try.prog W = .ok (52, u) W := by
  have e := Try.underlying44.symm.trans h
  simp at e
  obtain ⟨e1, _⟩ := e
  subst e1
  exact ⟨by kernel_rfl, by kernel_rfl⟩

theorem info4 : (Try.prog.info? 4).map (fun i => (i.zero, i.size, i.bytes)) = some (some (.bool false), 1, 1) := by kernel_rfl

def StepPost (w : World) (n : Nat) (bs' : List Bool) (e : Ending) (w' : World) : Prop := ∃ g', e = .returned (.slice (some ⟨g', 0, none⟩) n n) ∧ w.heap.size ≤ g' ∧ Bools w' g' bs' ∧ Below w.heap.size w w'

set_option maxHeartbeats 1000000 in
theorem step_any (g n cap' : Nat) (bs : List Bool) (r : Int) (a : Option Addr) (m cap : Nat) (ps : List PartS) (w : World) (hB : Bools w g bs) (hP : Parts w a ps) (hm : ps.length = m) (hn : bs.length = n) (hb : n = m + 1) :
    Calls Try.prog 23 #[.slice (some ⟨g, 0, none⟩) n cap', .int .i32 r, .slice a m cap] w (StepPost w n (stepS ps bs r)) := by
  have hsm := hP.small
  have hta1 := assert_run
  have hta2 := assert_one
  have hme1 := fun W => (takes_name Try.underlying44 W .nilFunc).1
  have hme2 := fun W u => (takes_name Try.underlying44 W u).2
  have hcf1 : ∀ args W, (callFunc 51 args).run Try.prog W = .ok (.enter 51 args) W := fun _ _ => by kernel_rfl
  have hcf2 : ∀ args W, (callFunc 52 args).run Try.prog W = .ok (.enter 52 args) W := fun _ _ => by kernel_rfl
  obtain ⟨i0, hi0, hz0, hz1, hz2⟩ := info_parts info4
  have hmk : ∀ W : World, (Instr.makeSlice 40 (.int .i64 n) (.int .i64 n)).run Try.prog W = .ok (.slice (some ⟨W.heap.size, 0, none⟩) n n) (W.alloc (Obj.cells ((List.replicate n false).map Value.bool).toArray 4)) := fun W => by
    have := run_make (P := Try.prog) W 40 4 i0 _ Try.underlying40 hi0 hz0 .i64 .i64 n n (by omega) (by omega) (by rw [hz2]; omega) (by omega)
    rw [this, hz1]
    simp [Value.cells, made_bools]
  have HN := Lib.hid hb
  have hmn : m < n := by omega
  have hmn2 : n ≤ 100001 := by omega
  clear hb
  go_enter Try.func23, Try.ntmps23
  go_wp2
  go_loopw [17] (fun i wr => ∃ k : Nat, k ≤ m ∧ i = .int .i64 k ∧ Bools wr w.heap.size (stepTo ps bs r k) ∧ Below w.heap.size w wr) (fun i _ => m - (intOf i).toNat)
  case atStart => exact ⟨0, Nat.zero_le _, rfl, by rw [stepTo, hn]; exact bools_new _ _, (Below.refl _ _).alloc (Nat.le_refl _) _⟩
  case round =>
    obtain ⟨k, hk, rfl, hBr, hb⟩ := hrel
    have hPr := hP.mono (Same.of_below hb)
    by_cases hlt : k < m
    · obtain ⟨gl, cur, v, rfl, hgl, hcv, hpv⟩ := hPr.at' k (by omega)
      have hcl : wr.cell? ⟨gl, k, none⟩ = some v := by rw [cell_of_row wr gl k cur 44 (0, 0) hgl]; exact hcv
      have hc := (hb.cell (p := ⟨g, k, none⟩) hB.lt).trans (hB.cell (j := k) (by omega))
      generalize ep : ps.getD k none = p at hpv
      generalize eb : bs.getD k false = b at hc
      have EP := Lib.hid ep
      have EB := Lib.hid eb
      have HLn := Lib.hid hn
      clear ep eb hP hgl hcv hn
      cases b
      · go_wp2
        go_roundw
        case rel => exact ⟨k + 1, by omega, by go_num, by rw [step_no EP EB rfl]; exact hBr, hb⟩
        case measure => simp [intOf]; omega
      · cases p with
        | none =>
          obtain rfl : v = .iface 48 (.agg #[]) := hpv
          go_wp2_with fail
          refine (takesRun_any r wr).mono ?_
          rintro e w1 ⟨rfl, hb1⟩
          have hB1 := hBr.below hb1
          have hBa := hB1.alloc (Obj.cells #[] 48)
          have hc2 := hBa.cell (j := k) (by rw [stepTo_length, HLn.out]; have := HN.out; omega)
          have hf2 := hBa.free k
          generalize (stepTo ps bs r k).getD k false = b1 at hc2
          go_wp2
          go_roundw
          case rel => exact ⟨k + 1, by omega, by go_num, by rw [step_run EP EB]; exact hBa.set k true, ((hb.trans (hb1.mono hb.size)).alloc (by have := hb.size; have := hb1.size; omega) _).setCell (Nat.le_refl _) _⟩
          case measure => simp [intOf]; omega
        | some f =>
          obtain ⟨u, rfl, ht⟩ := hpv
          have HT := Lib.hid (takesOne_any u f r wr ht)
          clear ht
          cases hf : f r
          all_goals have HF := Lib.hid hf
          all_goals clear hf
          · go_wp2_with fail
            refine HT.out.mono ?_
            rintro e w1 ⟨rfl, hb1⟩
            rw [HF.out]
            have hB1 := hBr.below hb1
            go_wp2
            go_roundw
            case rel => exact ⟨k + 1, by omega, by go_num, by rw [step_no EP EB (by rw [takesB, HF.out]; rfl)]; exact hB1, hb.trans (hb1.mono hb.size)⟩
            case measure => simp [intOf]; omega
          · go_wp2_with fail
            refine HT.out.mono ?_
            rintro e w1 ⟨rfl, hb1⟩
            rw [HF.out]
            have hB1 := hBr.below hb1
            have hBa := hB1.alloc (Obj.cells #[] 48)
            have hc2 := hBa.cell (j := k + 1) (by rw [stepTo_length, HLn.out]; have := HN.out; omega)
            have hf2 := hBa.free (k + 1)
            generalize (stepTo ps bs r k).getD (k + 1) false = b1 at hc2
            go_wp2
            go_roundw
            case rel => exact ⟨k + 1, by omega, by go_num, by rw [step_one EP EB HF.out]; exact hBa.set (k + 1) true, ((hb.trans (hb1.mono hb.size)).alloc (by have := hb.size; have := hb1.size; omega) _).setCell (Nat.le_refl _) _⟩
            case measure => simp [intOf]; omega
    · obtain rfl : k = m := by omega
      have HP := Lib.hid (pass_any w.heap.size n (stepTo ps bs r k) a k cap ps wr hBr hPr hm (by rw [stepTo_length, hn]) (by rw [stepTo_length, hn]; exact HN.out) n)
      have HM := Lib.hid hm
      clear hm hn
      go_wp2_with fail
      refine HP.out.mono ?_
      rintro e w1 ⟨rfl, hB1, hg1⟩
      go_wp2
      go_ret
      exact ⟨w.heap.size, rfl, Nat.le_refl _, by rw [stepS, HM.out]; exact hB1, hb.grown hg1 hb.size fun k hk => by cases hk; exact Nat.le_refl _⟩

end Go.Proofs.Ytcaemhlmefhgdaa
