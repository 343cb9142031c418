/- The functions that write: which entries fit, their bytes. -/
import Derived.Test.YtioidnfmpbdmhaaEntries
import Derived.Lib.AppendStr
import Derived.Laws.IdiomStrings
namespace Go.Proofs.Ytioidnfmpbdmhaa
open Go.RowKit Go.Shelf
attribute [local go_sem] Oper.semAt_some

/-- A list of entries in memory. -/
def Ents (W : World) (a : Option Addr) (l : List Ent) : Prop := ∀ (i : Nat) (h : i < l.length), ∃ b off, a = some ⟨b, off, none⟩ ∧ W.cell? ⟨b, off + i * 2, none⟩ = some (.string l[i].1) ∧ W.cell? ⟨b, off + i * 2 + 1, none⟩ = some (.int .i64 l[i].2)
theorem Ents.below {w W : World} {a : Option Addr} {l : List Ent} (h : Ents w a l) (hb : Below w.heap.size w W) : Ents W a l := fun i hi => by
  obtain ⟨b, off, ha, h0, h1⟩ := h i hi
  have hlt : b < w.heap.size := World.block_lt_of_cell? w ⟨b, off + i * 2, none⟩ h0
  exact ⟨b, off, ha, (hb.cell (p := ⟨b, _, none⟩) hlt).trans h0, (hb.cell (p := ⟨b, _, none⟩) hlt).trans h1⟩

def fitS (l : List Ent) : Bool := l.all fun e => decide (e.1.size ≤ 64)

set_option maxHeartbeats 2000000 in
theorem fit_any (a : Option Addr) (cap : Nat) (l : List Ent) (hl : l.length ≤ 9223372036854775807) (hz : ∀ e ∈ l, e.1.size ≤ 9223372036854775807) (w : World) (hE : Ents w a l) :
    Calls Try.prog 28 #[.slice a l.length cap] w fun e w' => e = .returned (.bool (fitS l)) ∧ Below w.heap.size w w' := by
  go_enter Try.func28, Try.ntmps28
  go_wp2
  go_loopw [7] (fun i wr => ∃ (k : Nat), i = .int .i64 k ∧ k ≤ l.length ∧ Below w.heap.size w wr ∧ fitS (l.take k) = true)
    (fun i _ => l.length - (intOf i).toNat)
  case atStart => exact ⟨0, rfl, by omega, Below.refl _ _, rfl⟩
  case round =>
    obtain ⟨k, rfl, hk, hb, hf⟩ := hrel
    by_cases hlt : k < l.length
    · obtain ⟨b, off, rfl, c0, c1⟩ := (hE.below hb) k hlt
      have hm := hz _ (List.getElem_mem hlt)
      have hfs : fitS (l.take (k + 1)) = (fitS (l.take k) && decide (l[k].1.size ≤ 64)) := by
        unfold fitS; rw [List.take_succ_eq_append_getElem hlt, List.all_append]; simp
      have HF := Lib.hid hfs
      have HFk := Lib.hid hf
      have HE := Lib.hid hE
      have hrest : (¬ l[k].1.size ≤ 64) → fitS l = false := fun h => by
        unfold fitS
        rw [List.all_eq_false]
        exact ⟨l[k], List.getElem_mem hlt, by simpa using h⟩
      have HR := Lib.hid hrest
      generalize l[k].1 = m at *
      generalize l[k].2 = s at *
      clear hfs hf hE hrest
      go_wp2
      · go_ret
        rw [HR.out (by omega)]
        exact ⟨rfl, hb.alloc hb.size _⟩
      · refine ⟨⟨k + 1, by go_num, hlt, hb.alloc hb.size _, ?_⟩, by simp [intOf]; omega⟩
        rw [HF.out, HFk.out]
        simp
        omega
    · obtain rfl : k = l.length := by omega
      rw [List.take_length] at hf
      go_wp2
      go_ret
      rw [hf]
      exact ⟨rfl, hb⟩

/-- A byte of a score; its bytes, the greatest first; an entry's bytes. -/
def scoreB (s : Int) (k : Nat) : UInt8 := UInt8.ofNat ((s / 2 ^ (8 * k)) % 256).toNat
def score8 (s : Int) : List UInt8 := (List.range 8).map fun i => scoreB s (7 - i)
def entB (e : Ent) : List UInt8 := UInt8.ofNat e.1.size :: (e.1.data.toList ++ score8 e.2 ++ [UInt8.ofNat (e.1.size + 9)])
theorem entB_length (e : Ent) : (entB e).length = e.1.size + 10 := by
  simp [entB, score8, Array.length_toList]
theorem scoreB_val (s : Int) (k : Nat) : ((scoreB s k).toNat : Int) = s / 2 ^ (8 * k) % 256 := by
  unfold scoreB
  have h1 := Int.emod_nonneg (s / 2 ^ (8 * k)) (show (256 : Int) ≠ 0 by decide)
  have h2 := Int.emod_lt_of_pos (s / 2 ^ (8 * k)) (show (0 : Int) < 256 by decide)
  rw [UInt8.toNat_ofNat']
  omega
theorem score8_length (s : Int) : (score8 s).length = 8 := by simp [score8]
theorem score8_take (s : Int) (j : Nat) (h : j < 8) : (score8 s).take (j + 1) = (score8 s).take j ++ [scoreB s (7 - j)] := by
  rw [List.take_succ_eq_append_getElem (by rw [score8_length]; exact h)]
  simp [score8]
def Own5 (W : World) (n0 : Nat) (v : Value) (bs : List UInt8) : Prop := W.ownsRow n0 5 1 v bs.length (Lib.byteCells bs)
theorem info5 : (Try.prog.info? 5).map (fun i => (i.zero, i.size, i.bytes)) = some (some (.int .u8 0), 1, 1) := by kernel_rfl

theorem own5_form {W : World} {n0 : Nat} {v : Value} {bs : List UInt8} (h : Own5 W n0 v bs) : ∃ a cap, v = .slice a bs.length cap := by
  rcases h.2 with ⟨rfl, h0⟩ | ⟨g, cap, cur, rfl, _⟩
  · exact ⟨none, 0, by rw [h0]⟩
  · exact ⟨_, _, rfl⟩
theorem Own5.later {W W6 : World} {n0 : Nat} {r : Value} {l : List UInt8} (h : Own5 W n0 r l) (hb : Below W.heap.size W W6) : Own5 W6 n0 r l := World.ownsRow.kept h (below_grown hb) (by
  rcases h.2 with ⟨rfl, _⟩ | ⟨g, cap, cur, rfl, _⟩
  · exact .inl rfl
  · exact .inr (by simp [Value.ownBlock]))
theorem Blk.row5 {W W7 : World} {b n0 : Nat} {t : TypeId} {c : Array Value} {r : Value} {l : List UInt8} (h : Blk W b t c) (hg : W.grownBy W7 r.ownBlock) (ho : Own5 W n0 r l) (ht : t ≠ 5 := by decide) : Blk W7 b t c :=
  (hg.block b h.lt (fun e => by
    rcases ho.2 with ⟨rfl, _⟩ | ⟨g, cap, cur, rfl, _, hgb, _⟩
    · simp [Value.ownBlock] at e
    · simp [Value.ownBlock] at e
      subst e
      have := (show W.heap[b]? = _ from h).symm.trans hgb
      simp at this
      exact ht this.2)).trans h
theorem Below.row5 {w W W7 : World} {n0 : Nat} {r : Value} {l : List UInt8} (h : Below w.heap.size w W) (hg : W.grownBy W7 r.ownBlock) (ho : Own5 W n0 r l) (hn : w.heap.size ≤ n0) : Below w.heap.size w W7 :=
  h.grown hg h.size (fun k e => Nat.le_trans hn (World.ownsRow.lt ho k e).1)

theorem own5_snoc {W : World} {n0 : Nat} {v : Value} {bs : List UInt8} {n : Int} (b : UInt8) (hb : (b.toNat : Int) = n) (h : W.ownsRow n0 5 1 v (bs.length + 1) (Lib.byteCells bs ++ [Value.int .u8 n])) : Own5 W n0 v (bs ++ [b]) := by
  unfold Own5
  rw [Lib.byteCells_append, List.length_append]
  subst hb
  exact h
theorem own5_str {W : World} {n0 : Nat} {v : Value} {bs : List UInt8} {s : ByteArray} (h : W.ownsRow n0 5 1 v (bs.length + s.size) (Lib.byteCells bs ++ Lib.strCells s)) : Own5 W n0 v (bs ++ s.data.toList) := by
  unfold Own5
  rw [Lib.byteCells_append, List.length_append, Array.length_toList]
  exact h

/-- One byte more, some bytes more. -/
theorem app_byte {i0 : TypeInfo} (hi0 : Try.prog.info? 5 = some i0) (hz0 : i0.zero = some (.int .u8 0)) (hz1 : i0.size = 1) (hz2 : i0.bytes = 1) {W : World} {n0 : Nat} {v : Value} {bs : List UInt8} (ho : Own5 W n0 v bs) (b : UInt8) (hl : bs.length ≤ 100000000000000) (hn : n0 ≤ W.heap.size) :
    ∃ a cap W1, (Builtin.append_ #[50, 50] 50 #[v, .slice (some ⟨W.heap.size, 0, none⟩) 1 1]).run Try.prog (W.alloc (.cells #[.int .u8 b.toNat] 5)) = .ok (.slice a (bs.length + 1) cap) W1 ∧
      Own5 W1 n0 (.slice a (bs.length + 1) cap) (bs ++ [b]) ∧ (W.alloc (.cells #[.int .u8 b.toNat] 5)).grownBy W1 v.ownBlock := by
  obtain ⟨v', w', hrun, r1, r2, r3⟩ := run_append_own (P := Try.prog) (W.alloc (.cells #[.int .u8 b.toNat] 5)) n0 50 50 5 i0 _ 1 1 Try.underlying50 hi0 hz0 hz1 hz2 rfl (by decide) v _ _ (World.ownsRow.alloc ho _) ⟨W.heap.size, 0, none⟩ 1 1 [.int .u8 b.toNat] rfl
    (cell_one_new _ _ _) (by simp [Value.oneCell']) (by unfold maxLen; omega) (by omega) (by simp; omega)
  have r1' : Own5 w' n0 v' (bs ++ [b]) := by
    unfold Own5
    rw [Lib.byteCells_append, List.length_append]
    exact r1
  obtain ⟨a, cap, rfl⟩ := own5_form r1'
  rw [List.length_append] at hrun r1'
  exact ⟨a, cap, w', hrun, r1', r2⟩

set_option maxRecDepth 100000 in
set_option maxHeartbeats 4000000 in
theorem written_any (a : Option Addr) (cap : Nat) (l : List Ent) (hl : l.length ≤ 1000000) (hz : ∀ e ∈ l, e.1.size ≤ 64) (w : World) (hE : Ents w a l) :
    Calls Try.prog 30 #[.slice a l.length cap] w fun e w' => ∃ v, e = .returned v ∧ Own5 w' w.heap.size v (l.flatMap entB) ∧ Below w.heap.size w w' := by
  obtain ⟨i0, hi0, hz0, hz1, hz2⟩ := info_parts info5
  have hlen : ∀ k, k ≤ l.length → ((l.take k).flatMap entB).length ≤ 74 * k := fun k hk => by
    induction k with
    | zero => simp
    | succ k ih =>
      have := ih (by omega)
      rw [List.take_succ_eq_append_getElem (by omega), List.flatMap_append, List.length_append]
      have h1 := hz _ (List.getElem_mem (show k < l.length by omega))
      have h2 := entB_length (l[k]'(by omega))
      simp only [List.flatMap_cons, List.flatMap_nil, List.append_nil]
      omega
  go_enter Try.func30, Try.ntmps30
  go_wp2
  go_loopw [3, 10] (fun v i wr => ∃ (k : Nat) (ac : Option Addr) (cp : Nat), i = .int .i64 k ∧ k ≤ l.length ∧ Below w.heap.size w wr ∧ v = .slice ac ((l.take k).flatMap entB).length cp ∧ Own5 wr w.heap.size (.slice ac ((l.take k).flatMap entB).length cp) ((l.take k).flatMap entB))
    (fun _ i _ => l.length - (intOf i).toNat)
  case atStart => exact ⟨0, none, 0, rfl, by omega, Below.refl _ _, rfl, World.ownsRow_nil _ _ _ _⟩
  case round =>
    obtain ⟨k, ac, cp, rfl, hk, hb, rfl, hown⟩ := hrel
    by_cases hlt : k < l.length
    · obtain ⟨b, off, rfl, c0, c1⟩ := (hE.below hb) k hlt
      have hm := hz _ (List.getElem_mem hlt)
      have hbl := hlen k hk
      have hnx : (l.take (k + 1)).flatMap entB = (l.take k).flatMap entB ++ entB l[k] := by
        rw [List.take_succ_eq_append_getElem hlt, List.flatMap_append]; simp
      have HN := Lib.hid hnx
      have HE := Lib.hid hE
      have HL := Lib.hid hlen
      generalize hent : l[k] = e at *
      obtain ⟨m, s⟩ := e
      simp only at c0 c1 hm
      generalize (l.take k).flatMap entB = bs at *
      clear hnx hE hlen hent
      have hmb : ((UInt8.ofNat m.size).toNat : Int) = m.size := by simp; omega
      have hbk := hb.size
      have hm9 : (m.size : Int) ≤ 64 := by omega
      have hm8 : (0 : Int) ≤ m.size := by omega
      go_wp2_with (first
        | (at_builtin; refine wpList_append_own _ rfl _ _ 50 rfl w.heap.size 5 i0 _ 1 1 Try.underlying50 hi0 hz0 hz1 hz2 rfl (by decide) _ _ _ rfl ((World.ownsRow.alloc hown _).alloc _) ⟨wr.heap.size + 1, 0, none⟩ 1 1 [.int .u8 m.size] rfl rfl (by have := cell_one_new (wr.alloc (Obj.cells #[Value.string m, Value.int IntKind.i64 s] 35)) (.int .u8 (m.size : Int)) 5; rw [World.size_alloc] at this; exact this) (by simp [Value.oneCell']) (by unfold maxLen; omega) (by omega) (by simp; omega) ?_; intro v1 w2 hown2 hgrow2 _; have hg2 : ((wr.alloc (Obj.cells #[Value.string m, Value.int IntKind.i64 s] 35)).alloc (Obj.cells #[Value.int IntKind.u8 m.size] 5)).grownBy w2 (Value.slice ac bs.length cp).ownBlock := hgrow2; clear hgrow2; have ho1 : Own5 ((wr.alloc (Obj.cells #[Value.string m, Value.int IntKind.i64 s] 35)).alloc (Obj.cells #[Value.int IntKind.u8 m.size] 5)) w.heap.size (Value.slice ac bs.length cp) bs := (World.ownsRow.alloc hown _).alloc _; have k2 := ((Blk.new wr 35 #[Value.string m, Value.int IntKind.i64 s]).alloc (Obj.cells #[Value.int IntKind.u8 m.size] 5)).row5 hg2 ho1; have hb2 : Below w.heap.size w w2 := Below.row5 ((hb.alloc hb.size _).alloc (by simp; omega) _) hg2 ho1 (Nat.le_refl _); have o2 := own5_snoc _ hmb hown2; have hb2s := hb2.size; obtain ⟨e20, e21, _⟩ := facts2 k2; clear hown ho1 hown2)
        | (at_builtin; refine Lib.wpList_append_own_string _ rfl _ _ 50 9 rfl w.heap.size 5 i0 Try.underlying50 Try.underlying9 hi0 hz0 hz1 hz2 _ _ _ rfl o2 m rfl (by unfold maxLen; simp; omega) (by simp; omega) (by omega) ?_; intro v2 w3 hown3 hgrow3 _; have hg3 : w2.grownBy w3 v1.ownBlock := hgrow3; clear hgrow3; have k3 := k2.row5 hg3 o2; have hb3 : Below w.heap.size w w3 := Below.row5 hb2 hg3 o2 (Nat.le_refl _); have o3 := own5_str hown3; obtain ⟨e30, e31, _⟩ := facts2 k3; clear hown3))
      have hb1l : (bs ++ [UInt8.ofNat m.size] ++ m.data.toList).length = bs.length + 1 + m.size := by simp [Array.length_toList]; show _ + (m.data.size + 1) = _; rw [show m.data.size = m.size from rfl]; omega
      have hfin : bs ++ entB (m, s) = (bs ++ [UInt8.ofNat m.size] ++ m.data.toList) ++ score8 s ++ [UInt8.ofNat (m.size + 9)] := by simp [entB]
      rw [hfin] at HN
      clear hfin
      generalize bs ++ [UInt8.ofNat m.size] ++ m.data.toList = bs1 at *
      have HB3 := Lib.hid hb3
      clear hg2 hg3 k2 e20 e21 e30 e31 o2 hb2 hb hb3
      generalize wr.heap.size = P at *
      go_loopw [3, 27] (fun v i wr2 => ∃ (j : Nat), i = .int .i64 j ∧ j ≤ 8 ∧ Below w.heap.size w wr2 ∧ Blk wr2 P 35 #[.string m, .int .i64 s] ∧ Own5 wr2 w.heap.size v (bs1 ++ (score8 s).take j))
        (fun _ i _ => 8 - (intOf i).toNat)
      case atStart => exact ⟨0, rfl, by omega, HB3.out, k3, by simpa using o3⟩
      case round =>
        clear k3 o3
        obtain ⟨j, rfl, hj, hb4, k4, o4⟩ := hrel
        obtain ⟨e40, e41, _⟩ := facts2 k4
        by_cases hj8 : j < 8
        · have hj9 : (j : Int) < 8 := by omega
          have hj0 : (0 : Int) ≤ j := by omega
          have hsx := scoreB_val s (7 - j)
          have HX := Lib.hid hsx
          have HT := Lib.hid (score8_take s j hj8)
          have hlj : (bs1 ++ (score8 s).take j).length ≤ 100000000 := by
            have := List.length_take_le j (score8 s)
            rw [List.length_append]
            omega
          generalize hbs2 : bs1 ++ (score8 s).take j = bs2 at *
          have HBS := Lib.hid hbs2
          clear hbs2
          have HB4 := Lib.hid hb4
          have hb4s := hb4.size
          clear hsx hb4
          go_wp2_with (at_builtin; refine wpList_append_own _ rfl _ _ 50 rfl w.heap.size 5 i0 _ 1 1 Try.underlying50 hi0 hz0 hz1 hz2 rfl (by decide) _ _ _ rfl (World.ownsRow.alloc o4 _) ⟨wr.heap.size, 0, none⟩ 1 1 [.int .u8 (s / 2 ^ (8 * (7 - j)) % 256)] rfl rfl (cell_one_new _ _ _) (by simp [Value.oneCell']) (by unfold maxLen; omega) (by omega) (by simp; omega) ?_; intro v1 w2 hown2 hgrow2 _)
          have ho4 := World.ownsRow.alloc o4 (Obj.cells #[Value.int IntKind.u8 (s / 2 ^ (8 * (7 - j)) % 256)] 5)
          refine ⟨⟨j + 1, by go_num, by omega, Below.row5 (HB4.out.alloc HB4.out.size _) hgrow2 ho4 (Nat.le_refl _), Blk.row5 (k4.alloc _) hgrow2 ho4, ?_⟩, by simp [intOf]; omega⟩
          rw [HT.out, ← List.append_assoc, HBS.out]
          exact own5_snoc _ HX.out hown2
        · obtain rfl : j = 8 := by omega
          rw [List.take_of_length_le (by rw [score8_length]; exact Nat.le_refl _)] at o4
          have hl2 : (bs1 ++ score8 s).length = bs.length + m.size + 9 := by rw [List.length_append, score8_length]; omega
          rw [show bs1 ++ score8 s ++ [UInt8.ofNat (m.size + 9)] = (bs1 ++ score8 s) ++ [UInt8.ofNat (m.size + 9)] from rfl] at HN
          generalize bs1 ++ score8 s = bs2 at *
          obtain ⟨ac4, cp4, rfl⟩ := own5_form o4
          have hsub : (bs.length : Int) + m.size + 9 - bs.length = (m.size : Int) + 9 := by omega
          have hbs9 : bs2.length ≤ 1000000000 := by omega
          have HB4 := Lib.hid hb4
          have hb4s := hb4.size
          have hnine : ((UInt8.ofNat (m.size + 9)).toNat : Int) = (m.size : Int) + 9 := by simp; omega
          clear hb4
          go_wp2_with (at_builtin; refine wpList_append_own _ rfl _ _ 50 rfl w.heap.size 5 i0 _ 1 1 Try.underlying50 hi0 hz0 hz1 hz2 rfl (by decide) _ _ _ rfl (World.ownsRow.alloc o4 _) ⟨wr.heap.size, 0, none⟩ 1 1 [.int .u8 ((m.size : Int) + 9)] rfl rfl (cell_one_new _ _ _) (by simp [Value.oneCell']) (by unfold maxLen; omega) (by omega) (by simp; omega) ?_; intro v1 w2 hown2 hgrow2 _)
          have ho4 := World.ownsRow.alloc o4 (Obj.cells #[Value.int IntKind.u8 ((m.size : Int) + 9)] 5)
          have o5 := own5_snoc _ hnine hown2
          rw [← HN.out] at o5
          obtain ⟨a5, c5, rfl⟩ := own5_form o5
          exact ⟨⟨k + 1, a5, c5, by go_num, hlt, Below.row5 (HB4.out.alloc HB4.out.size _) hgrow2 ho4 (Nat.le_refl _), rfl, o5⟩, by simp [intOf]; omega⟩
    · obtain rfl : k = l.length := by omega
      rw [List.take_length] at hown
      go_wp2
      go_ret
      rw [List.take_length]
      exact ⟨_, rfl, hown, hb⟩
end Go.Proofs.Ytioidnfmpbdmhaa
