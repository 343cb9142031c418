/- Bytes put in place of others. -/
import Derived.Test.YtioidnfmpbdmhaaWrite
import Derived.Test.YtioidnfmpbdmhaaMath
import Derived.ArgAppend
import Derived.Lib.BufferRead
namespace Go.Proofs.Ytioidnfmpbdmhaa
open Go.RowKit Go.Shelf
attribute [local go_sem] Oper.semAt_some

/-- Bytes from a place on. -/
def BytesAt (W : World) (g off : Nat) (l : List UInt8) : Prop := ∀ (j : Nat) (u : UInt8), l[j]? = some u → W.cell? ⟨g, off + j, none⟩ = some (.int .u8 (u.toNat : Int))
theorem BytesAt.below {w W : World} {g off : Nat} {l : List UInt8} (h : BytesAt w g off l) (hb : Below w.heap.size w W) : BytesAt W g off l := fun j u hj =>
  (hb.cell (p := ⟨g, off + j, none⟩) (World.block_lt_of_cell? w ⟨g, off + j, none⟩ (h j u hj))).trans (h j u hj)
theorem BytesAt.cells {W : World} {g off : Nat} {l : List UInt8} (h : BytesAt W g off l) : ∀ j u, (Lib.byteCells l)[j]? = some u → W.cell? ((⟨g, off, none⟩ : Addr).add j) = some u := fun j u hj => by
  unfold Lib.byteCells at hj
  rw [List.getElem?_map] at hj
  obtain ⟨x, hx, rfl⟩ := Option.map_eq_some_iff.1 hj
  rw [Addr.add_lit]
  exact h j x hx
theorem one_byteCells (l : List UInt8) : ∀ u ∈ Lib.byteCells l, u.oneCell' = true := fun u hu => by
  unfold Lib.byteCells at hu
  obtain ⟨b, _, rfl⟩ := List.mem_map.1 hu
  rfl
/-- A slice of bytes: what it holds. -/
inductive BytesV (W : World) : Value → List UInt8 → Prop where
  | none (cap : Nat) : BytesV W (.slice none 0 cap) []
  | some (g off cap : Nat) (l : List UInt8) (h : BytesAt W g off l) : BytesV W (.slice (some ⟨g, off, none⟩) l.length cap) l
theorem BytesV.below {w W : World} {v : Value} {l : List UInt8} (h : BytesV w v l) (hb : Below w.heap.size w W) : BytesV W v l := by
  cases h with
  | none cap => exact .none cap
  | some g off cap l h => exact .some g off cap l (h.below hb)
theorem own5_bytes {W : World} {n0 : Nat} {v : Value} {l : List UInt8} (h : Own5 W n0 v l) : BytesV W v l := by
  have hc := fun g (hg : v.ownBlock = some g) => World.ownsRow.cells h hg
  rcases h.2 with ⟨rfl, h0⟩ | ⟨g, cap, cur, rfl, _⟩
  · rw [List.length_eq_zero_iff.1 h0]; exact .none 0
  · refine .some g 0 cap l fun j u hj => ?_
    have := hc g rfl j (.int .u8 (u.toNat : Int)) (by unfold Lib.byteCells; rw [List.getElem?_map, hj]; rfl)
    rwa [Addr.add_lit] at this

theorem run_firstCells_zero {W : World} {v : Value} {l : List UInt8} (h : BytesV W v l) (h0 : l = []) : (Builtin.firstCells 1 0 v).run Try.prog W = .ok #[] W := by
  cases h with
  | none cap => exact run_firstCells_none (P := Try.prog) W 1 0 0 cap
  | some g off cap l h =>
    subst h0
    exact run_firstCells_some (P := Try.prog) W 1 0 ⟨g, off, none⟩ 0 cap [] (by simp) (fun j v hj => by simp at hj)

theorem app_nothing {i0 : TypeInfo} (hi0 : Try.prog.info? 5 = some i0) (hz1 : i0.size = 1) {W : World} {y : Value} (hy : BytesV W y []) (g n c : Nat) (hnc : n ≤ c) :
    (Builtin.append_ #[50, 50] 50 #[.slice (some ⟨g, 0, none⟩) n c, y]).run Try.prog W = .ok (.slice (some ⟨g, 0, none⟩) n c) W := by
  have hf := run_firstCells_zero hy rfl
  cases hy with
  | none cap => simp [Builtin.append_, run_underlying Try.underlying50, sizeOf, typeInfo, hi0, hz1, Builtin.lenOf, hnc, hf, Addr.add_lit, storeCells]
  | some g' off cap l h =>
    simp only [List.length_nil] at hf ⊢
    simp [Builtin.append_, run_underlying Try.underlying50, sizeOf, typeInfo, hi0, hz1, Builtin.lenOf, hnc, hf, Addr.add_lit, storeCells]

/-- Where more is put behind: a slice without room, or one of the call's own. -/
inductive Dest (W : World) (n0 : Nat) : Value → List UInt8 → Prop where
  | full (g : Nat) (l : List UInt8) (h : BytesAt W g 0 l) : Dest W n0 (.slice (some ⟨g, 0, none⟩) l.length l.length) l
  | own (v : Value) (l : List UInt8) (h : Own5 W n0 v l) : Dest W n0 v l

theorem app_dest {i0 : TypeInfo} (hi0 : Try.prog.info? 5 = some i0) (hz0 : i0.zero = some (.int .u8 0)) (hz1 : i0.size = 1) (hz2 : i0.bytes = 1) {W : World} {n0 : Nat} {v y : Value} {l m : List UInt8} (hd : Dest W n0 v l) (hy : BytesV W y m) (hl : l.length ≤ 100000000) (hm : m.length ≤ 100000000) (hn : n0 ≤ W.heap.size) (hl0 : l ≠ []) :
    ∃ v' W', (Builtin.append_ #[50, 50] 50 #[v, y]).run Try.prog W = .ok v' W' ∧ Dest W' n0 v' (l ++ m) ∧ Below n0 W W' := by
  have room (g c : Nat) (hlc : l.length ≤ c) (hy : BytesV W y m) (hm0 : m = []) := app_nothing hi0 hz1 (show BytesV W y [] by rw [← hm0]; exact hy) g l.length c hlc
  by_cases hm0 : m = []
  · subst hm0
    rw [List.append_nil]
    cases hd with
    | full g l h => exact ⟨_, _, room g _ (Nat.le_refl _) hy rfl, .full g l h, Below.refl _ _⟩
    | own v l h =>
      rcases h.2 with ⟨rfl, h0⟩ | ⟨g, cap, cur, rfl, _, _, hc, _⟩
      · exact absurd (List.length_eq_zero_iff.1 h0) hl0
      · exact ⟨_, _, room g _ hc hy rfl, .own _ l h, Below.refl _ _⟩
  · cases hy with
    | none cap => exact absurd rfl hm0
    | some ga off cap m ha =>
      have hml : 0 < m.length := List.length_pos_iff.2 hm0
      cases hd with
      | full g l h =>
        obtain ⟨v', W', hrun, r1, r2⟩ := run_append_arg_grows (P := Try.prog) W 50 50 5 i0 _ 1 1 Try.underlying50 hi0 hz0 hz1 hz2 rfl (by decide) ⟨g, 0, none⟩ l.length l.length (Lib.byteCells l) (by rw [Lib.byteCells_length]; omega) (fun j u hj => by have := h.cells j u hj; exact this) ⟨ga, off, none⟩ m.length cap (Lib.byteCells m) (by rw [Lib.byteCells_length]; omega) (fun j u hj => ha.cells j u hj) (by omega) (by unfold maxLen; omega) (by omega)
        have hb : Below W.heap.size W W' := ⟨r2.os, r2.tape, r2.output, r2.size, fun k hk => r2.block k hk (by simp)⟩
        refine ⟨v', W', hrun, .own _ _ ?_, hb.mono hn⟩
        unfold Own5
        rw [Lib.byteCells_append, List.length_append]
        exact ownsRow_mono r1 hn
      | own v l h =>
        obtain ⟨v', W', hrun, r1, r2, _⟩ := run_append_own (P := Try.prog) W n0 50 50 5 i0 _ 1 1 Try.underlying50 hi0 hz0 hz1 hz2 rfl (by decide) v _ _ h ⟨ga, off, none⟩ m.length cap (Lib.byteCells m) (by rw [Lib.byteCells_length]; omega) (fun j u hj => ha.cells j u hj) (one_byteCells m) (by unfold maxLen; omega) (by omega) hn
        refine ⟨v', W', hrun, .own _ _ ?_, ⟨r2.os, r2.tape, r2.output, r2.size, fun k hk => r2.block k (by omega) (fun e => ?_)⟩⟩
        · unfold Own5
          rw [Lib.byteCells_append, List.length_append]
          exact r1
        · have := (World.ownsRow.lt h k e.symm).1; omega
theorem app_full {i0 : TypeInfo} (hi0 : Try.prog.info? 5 = some i0) (hz0 : i0.zero = some (.int .u8 0)) (hz1 : i0.size = 1) (hz2 : i0.bytes = 1) {W : World} {g : Nat} {y : Value} {l m : List UInt8} (hd : BytesAt W g 0 l) (hy : BytesV W y m) (hl : l.length ≤ 100000000) (hm : m.length ≤ 100000000) (hl0 : l ≠ []) :
    ∃ v' W', (Builtin.append_ #[50, 50] 50 #[.slice (some ⟨g, 0, none⟩) l.length l.length, y]).run Try.prog W = .ok v' W' ∧ Dest W' W.heap.size v' (l ++ m) ∧ Below W.heap.size W W' :=
  app_dest hi0 hz0 hz1 hz2 (.full g l hd) hy hl hm (Nat.le_refl _) hl0

theorem Dest.bytes {W : World} {n0 : Nat} {v : Value} {l : List UInt8} (h : Dest W n0 v l) : BytesV W v l := by
  cases h with
  | full g l h => exact .some g 0 _ l h
  | own v l h => exact own5_bytes h

theorem run_back (W : World) (v : Value) (l : List UInt8) (h : BytesV W v l) : (convert 50 9 v).run Try.prog W = .ok (.string ⟨l.toArray⟩) W := by
  cases h with
  | none cap => exact Lib.run_convert_nil_bytes (P := Try.prog) W 50 9 5 cap Try.underlying50 Try.underlying5 Try.underlying9
  | some g off cap l h =>
    refine run_convert_bytes_back (P := Try.prog) W 50 9 5 ⟨g, off, none⟩ cap l Try.underlying50 Try.underlying5 Try.underlying9 fun j hj => ?_
    rw [Addr.add_lit]
    exact h j _ (List.getElem?_eq_getElem hj)


theorem row_bytes (w : World) (p : ByteArray) (C : Nat) (hC : p.size ≤ C) :
    BytesAt (w.drew.alloc (.cells (bytesRow p C) 5 ((bytesRow p C).size, (bytesRow p C).size + 1))) w.heap.size 0 p.data.toList ∧
    ∀ j, j < p.size → (w.drew.alloc (.cells (bytesRow p C) 5 ((bytesRow p C).size, (bytesRow p C).size + 1))).frozen? ⟨w.heap.size, j, none⟩ = false := by
  refine ⟨fun j u hj => ?_, fun j hj => ?_⟩
  · obtain ⟨hl, rfl⟩ := List.getElem?_eq_some_iff.1 hj
    have := World.cell?_alloc_mark w.drew (bytesRow p C) 5 ((bytesRow p C).size, (bytesRow p C).size + 1) j
    rw [show w.drew.heap.size = w.heap.size from rfl] at this
    rw [Nat.zero_add, this, bytesRow_at p C j (by simpa using hl)]
    simp
  · have := World.frozen?_alloc_mark w.drew (bytesRow p C) 5 (bytesRow p C).size ((bytesRow p C).size + 1) j
    rw [show w.drew.heap.size = w.heap.size from rfl] at this
    rw [this]
    have hs : (bytesRow p C).size = C := by
      unfold bytesRow
      have : p.data.size = p.size := rfl
      simp
      omega
    rw [hs]
    simp
    omega

theorem put_head (w1 : World) (g : Nat) (q : List UInt8) (hq : 2 ≤ q.length) (hR : BytesAt w1 g 0 q) (hf : ∀ j, j < q.length → w1.frozen? ⟨g, j, none⟩ = false) (x y : UInt8) (vx vy : Int) (hx : (x.toNat : Int) = vx) (hy : (y.toNat : Int) = vy) (C : Nat) :
    ∃ W2, (Builtin.copy_ #[50, 50] 3 #[.slice (some ⟨g, 0, none⟩) q.length C, .slice (some ⟨w1.heap.size, 0, none⟩) 2 2]).run Try.prog (w1.alloc (.cells #[.int .u8 vx, .int .u8 vy] 5)) = .ok (goInt 2) W2 ∧
      BytesAt W2 g 0 (x :: y :: q.drop 2) ∧ ∀ n, n ≤ g → n ≤ w1.heap.size → Below n w1 W2 := by
  obtain ⟨i0, hi0, hz0, hz1, hz2⟩ := info_parts info5
  have hB := Blk.new w1 5 #[.int .u8 vx, .int .u8 vy]
  have hb := (Below.refl w1.heap.size w1).alloc (Nat.le_refl _) (Obj.cells #[.int .u8 vx, .int .u8 vy] 5)
  have hg : g < w1.heap.size := World.block_lt_of_cell? w1 ⟨g, 0 + 0, none⟩ (hR 0 q[0] (List.getElem?_eq_getElem _))
  have hrun := run_copy_cells (P := Try.prog) (w1.alloc (.cells #[.int .u8 vx, .int .u8 vy] 5)) 50 50 3 5 g 0 q.length C ⟨w1.heap.size, 0, none⟩ 2 2 [.int .u8 vx, .int .u8 vy] Try.underlying50 (by rw [hi0]; simp [hz1]) (by simp [Nat.min_def]; omega)
    (fun j v hj => by
      match j, hj with
      | 0, hj => simp at hj; subst hj; exact hB.cell 0
      | 1, hj => simp at hj; subst hj; rw [Addr.add_lit]; exact hB.cell 1
      | j + 2, hj => simp at hj)
    (fun j hj => by
      have hj2 : j < q.length := by simp at hj; omega
      rw [(hR.below hb) j q[j] (List.getElem?_eq_getElem hj2)]; rfl)
    (fun j hj => by
      have hj2 : j < q.length := by simp at hj; omega
      rw [Nat.zero_add]
      exact (hb.frozen (p := ⟨g, j, none⟩) hg).trans (hf j hj2))
    (by simp [Value.oneCell'])
  refine ⟨_, hrun, fun j u hj => ?_, fun n hn hn1 => ?_⟩
  · match j, hj with
    | 0, hj =>
      simp at hj; subst hj
      have := World.cell?_setCells_in g [.int .u8 vx, .int .u8 vy] 0 (w1.alloc (.cells #[.int .u8 vx, .int .u8 vy] 5)) (fun i hi => by
        have hj2 : i < q.length := by simp at hi; omega
        rw [(hR.below hb) i q[i] (List.getElem?_eq_getElem hj2)]; rfl) 0 (by simp)
      rw [this, hx]; rfl
    | 1, hj =>
      simp at hj; subst hj
      have := World.cell?_setCells_in g [.int .u8 vx, .int .u8 vy] 0 (w1.alloc (.cells #[.int .u8 vx, .int .u8 vy] 5)) (fun i hi => by
        have hj2 : i < q.length := by simp at hi; omega
        rw [(hR.below hb) i q[i] (List.getElem?_eq_getElem hj2)]; rfl) 1 (by simp)
      rw [this, hy]; rfl
    | j + 2, hj =>
      rw [World.cell?_setCells_out g _ 0 _ ⟨g, 0 + (j + 2), none⟩ (fun _ _ => .inr (by simp))]
      refine (hR.below hb) (j + 2) u ?_
      simp only [List.getElem?_cons_succ, List.getElem?_drop] at hj
      rwa [Nat.add_comm] at hj
  · have h1 := ((Below.refl n w1).alloc hn1 (Obj.cells #[.int .u8 vx, .int .u8 vy] 5))
    exact (h1.setCell (p := ⟨g, 0, none⟩) hn _).setCell (p := ⟨g, 0 + 1, none⟩) hn _


/-- A pack with bytes in place of some, and with another count. -/
def putS (p : ByteArray) (N fr to : Nat) (bs : List UInt8) : List UInt8 := (UInt8.ofNat (N / 256) :: UInt8.ofNat N :: p.data.toList.drop 2).take fr ++ bs ++ p.data.toList.drop to

theorem wpList_append_ran {P : Program} {w : World} {ops : Array Oper} {rest : List Oper} {o : Oper} {a : Act} {Q : Exit → Act → World → Prop} {v xv v' : Value} {w' : World} (hgd : o.guard = none) (s x : Operand) (t u : TypeId)
    (ho : o.op = Op.call { callee := Callee.builtin Builtin.append, args := #[s, x], argTypes := #[t, u] }) (hs : a.eval s = v) (hx : a.eval x = xv) (hrun : (Builtin.append_ #[t, u] o.type #[v, xv]).run P w = .ok v' w')
    (h : wpList P ops Q rest (a.put o.dst v') w') : wpList P ops Q (o :: rest) a w := by
  refine wpList_plain hgd fun K hK => ?_
  unfold Oper.wp
  simp [execOp, ho, resolve, invoke, builtin, hs, hx, hrun, Result.andThen]
  exact hK _ _ h

set_option maxRecDepth 100000 in
set_option maxHeartbeats 4000000 in
theorem replaced_any (p : ByteArray) (h2 : 2 ≤ p.size) (hp : p.size ≤ 1000000) (more : Int) (N : Nat) (hN : countS p + more = N) (hN2 : N ≤ 60000) (fr to : Nat) (hf : 2 ≤ fr) (hft : fr ≤ to) (hto : to ≤ p.size) (y : Value) (bs : List UInt8) (hbs : bs.length ≤ 1000000) (w : World) (hy : BytesV w y bs) :
    Calls Try.prog 29 #[.string p, .int .i64 more, .int .i64 fr, .int .i64 to, y] w fun e w' => e = .returned (.string ⟨(putS p N fr to bs).toArray⟩) ∧ Below w.heap.size w w' := by
  obtain ⟨i0, hi0, hz0, hz1, hz2⟩ := info_parts info5
  have hcv := run_bytes_of_string (P := Try.prog) w 9 50 5 p Try.underlying9 Try.underlying50 Try.underlying5
  have hge := grownCap_ge w p.size 0 5
  have hgm := grownCap_le_maxLen w p.size 0 5 (by unfold maxLen; omega)
  obtain ⟨r1, r2⟩ := row_bytes w p (grownCap w p.size 0 5) hge
  generalize grownCap w p.size 0 5 = C at *
  have HC := fun w => Lib.hid (count_any p (by omega) w)
  have hb0 : Below w.heap.size w (w.drew.alloc (.cells (bytesRow p C) 5 ((bytesRow p C).size, (bytesRow p C).size + 1))) := (Below.refl w.heap.size w).drew.alloc (Nat.le_refl _) _
  have hsz0 : (w.drew.alloc (.cells (bytesRow p C) 5 ((bytesRow p C).size, (bytesRow p C).size + 1))).heap.size = w.heap.size + 1 := by simp
  generalize w.drew.alloc (.cells (bytesRow p C) 5 ((bytesRow p C).size, (bytesRow p C).size + 1)) = w0 at *
  have hfrz : ∀ (W : World), Below w0.heap.size w0 W → ∀ j, j < p.size → W.frozen? ⟨w.heap.size, j, none⟩ = false := fun W hW j hj => (hW.frozen (p := ⟨w.heap.size, j, none⟩) (by simp; omega)).trans (r2 j hj)
  have HF := Lib.hid hfrz
  have HY := Lib.hid hy
  have HR := Lib.hid r1
  have HP := Lib.hid (show putS p N fr to bs = _ from rfl)
  generalize hps : putS p N fr to bs = out at *
  have hlen : p.data.toList.length = p.size := size_list p
  clear r1 r2 hfrz hy
  unfold maxLen at hgm
  go_enter Try.func29, Try.ntmps29
  go_wp2_with fail
  refine (HC _).out.mono ?_
  rintro e w1 ⟨rfl, hb1⟩
  have hx : ((UInt8.ofNat (N / 256)).toNat : Int) = (N : Int) / 256 := by simp; omega
  have hyy : ((UInt8.ofNat N).toNat : Int) = (N : Int) % 256 := by simp
  obtain ⟨W2, hcopy, hW2, hbW2⟩ := put_head w1 w.heap.size p.data.toList (by omega) (HR.out.below hb1) (fun j hj => HF.out w1 hb1 j (by omega)) _ _ _ _ hx hyy C
  rw [hlen] at hcopy
  have hb1s := hb1.size
  have hbW : Below w.heap.size w W2 := (hb0.trans (hb1.mono (by omega))).trans (hbW2 _ (Nat.le_refl _) (by omega))
  have hyW : BytesV W2 y bs := HY.out.below hbW
  have HBW := Lib.hid hbW
  have HYW := Lib.hid hyW
  have HW2 := Lib.hid hW2
  have hN9 : (N : Int) ≤ 60000 := by omega
  have hN8 : (0 : Int) ≤ N := by omega
  clear hb1 hbW2 hbW hyW hW2 hx hyy
  have f1 : (fr : Int) ≤ C := by omega
  have f2 : (to : Int) ≤ p.size := by omega
  have f3 : (p.size : Int) ≤ C := by omega
  have f4 : (0 : Int) ≤ fr := by omega
  have f5 : (0 : Int) ≤ to := by omega
  have f6 : (to : Int) ≤ C := by omega
  go_wp2
  go_quiet (fail)
  have hhead : ∀ j, to ≤ j → (UInt8.ofNat (N / 256) :: UInt8.ofNat N :: List.drop 2 p.data.toList)[j]? = p.data.toList[j]? := fun j hj => by
    obtain ⟨i, rfl⟩ : ∃ i, j = i + 2 := ⟨j - 2, by omega⟩
    simp only [List.getElem?_cons_succ, List.getElem?_drop]
    rw [Nat.add_comm]
  have hheadl : (UInt8.ofNat (N / 256) :: UInt8.ofNat N :: List.drop 2 p.data.toList).length = p.size := by
    simp only [List.length_cons, List.length_drop, hlen]; omega
  have hW3 : BytesAt (W2.drewN nq) w.heap.size 0 (UInt8.ofNat (N / 256) :: UInt8.ofNat N :: List.drop 2 p.data.toList) := HW2.out
  have hY3 : BytesV (W2.drewN nq) y bs := HYW.out.below ⟨rfl, rfl, rfl, Nat.le_refl _, fun _ _ => rfl⟩
  have hB3 : Below w.heap.size w (W2.drewN nq) := HBW.out.trans ⟨rfl, rfl, rfl, Nat.le_refl _, fun _ _ => rfl⟩
  generalize W2.drewN nq = W3 at *
  have hbeh : BytesV W3 (.slice (if C = to then some { block := w.heap.size, off := 0 } else some { block := w.heap.size, off := to }) (p.size - to) (C - to)) (p.data.toList.drop to) := by
    have hl : (p.data.toList.drop to).length = p.size - to := by rw [List.length_drop, hlen]
    rw [← hl]
    split
    · refine .some _ 0 _ _ fun j u hj => ?_
      have := (List.getElem?_eq_some_iff.1 hj).1
      omega
    · refine .some _ to _ _ fun j u hj => ?_
      rw [List.getElem?_drop] at hj
      have := hW3 (to + j) u (by rw [hhead _ (by omega)]; exact hj)
      rwa [Nat.zero_add] at this
  generalize (if C = to then some ({ block := w.heap.size, off := 0 } : Addr) else some { block := w.heap.size, off := to }) = ba at *
  have hfl : ((UInt8.ofNat (N / 256) :: UInt8.ofNat N :: List.drop 2 p.data.toList).take fr).length = fr := by rw [List.length_take, hheadl]; omega
  have hfull : BytesAt W3 w.heap.size 0 ((UInt8.ofNat (N / 256) :: UInt8.ofNat N :: List.drop 2 p.data.toList).take fr) := fun j u hj => by
    have hjl := (List.getElem?_eq_some_iff.1 hj).1
    rw [List.getElem?_take, if_pos (by omega)] at hj
    exact hW3 j u hj
  have houtd : out = (UInt8.ofNat (N / 256) :: UInt8.ofNat N :: List.drop 2 p.data.toList).take fr ++ bs ++ p.data.toList.drop to := by rw [← hps]; rfl
  generalize (UInt8.ofNat (N / 256) :: UInt8.ofNat N :: List.drop 2 p.data.toList).take fr = hd at *
  obtain ⟨v4, W4, hrun4, hd4, hb4⟩ := app_full hi0 hz0 hz1 hz2 hfull hY3 (by omega) (by omega) (fun e => by rw [e] at hfl; simp at hfl; omega)
  obtain ⟨v5, W5, hrun5, hd5, hb5⟩ := app_dest hi0 hz0 hz1 hz2 hd4 (hbeh.below hb4) (by rw [List.length_append]; omega) (by rw [List.length_drop, hlen]; omega) hb4.size (fun e => by
    have := congrArg List.length e
    rw [List.length_append] at this
    simp at this
    have h1 := this.1
    rw [h1] at hfl
    simp at hfl
    omega)
  rw [hfl] at hrun4
  have hback := run_back W5 v5 _ hd5.bytes
  rw [← houtd] at hback
  have HO := Lib.hid (hB3.trans ((hb4.mono hB3.size).trans (hb5.mono hB3.size)))
  clear hfull hbeh hW3 hY3 hB3 hhead hd4 hd5 hb4 hb5 hps houtd hfl hheadl
  go_wp2_with (first | (at_builtin; refine wpList_append_ran rfl _ _ 50 50 rfl rfl rfl hrun4 ?_; clear hrun4) | (at_builtin; refine wpList_append_ran rfl _ _ 50 50 rfl rfl rfl hrun5 ?_))
  go_ret
  exact ⟨rfl, HO.out⟩
end Go.Proofs.Ytioidnfmpbdmhaa
