/- Texts of one kind in one: None, Open, Done. -/
import Derived.Test.YtidiaomeahoapaaQ07
import Derived.Test.YtidiaomeahoapaaRows
import Derived.WalkKit
import Derived.ProofKit
import Derived.OpenShut
import Derived.ShutString
import Derived.Carry
import Derived.Lib.SmallJoins
import Derived.Deep.Slices
import Derived.Deep.Fields
import Derived.ChangeArms
import Derived.ChangeSame
import Derived.SizedLaws
/- A nil list has nothing. -/
namespace Go.Proofs.Ytidiaomeahoapaa
open Go.RowKit Go.Shelf
attribute [local go_sem] Oper.semAt_some

theorem range_nil (f t : Int) (w : World) : Calls Try.prog 18 #[.pointer none, .int .i64 f, .int .i64 t] w fun e w' => e = .returned (.slice none 0 0) ∧ Below w.heap.size w w' := by
  have HP := fun w => Lib.hid (part_nil f t w)
  have h : (max f 0) ≥ (min t 0) := by omega
  generalize max f 0 = a at *
  generalize min t 0 = b at *
  go_enter Try.func18, Try.ntmps18
  go_wp2_with fail
  refine wp_scope_straight ?_
  go_wp2_with fail
  refine (HP _).out.mono ?_
  rintro e w1 ⟨rfl, rfl⟩
  go_wp2
  rw [Exit.noGoto_ret]
  go_returns
  exact ⟨rfl, (Below.refl _ _).alloc (Nat.le_refl _) _⟩
theorem back_nil (f t : Int) (w : World) : Calls Try.prog 26 #[.pointer none, .int .i64 f, .int .i64 t] w fun e w' => e = .returned (.slice none 0 0) ∧ Below w.heap.size w w' := by
  have HP := fun w => Lib.hid (part_nil f t w)
  have h : (max f 0) ≥ (min t 0) := by omega
  generalize max f 0 = a at *
  generalize min t 0 = b at *
  go_enter Try.func26, Try.ntmps26
  go_wp2_with fail
  refine wp_scope_straight ?_
  go_wp2_with fail
  refine (HP _).out.mono ?_
  rintro e w1 ⟨rfl, rfl⟩
  go_wp2
  rw [Exit.noGoto_ret]
  go_returns
  exact ⟨rfl, (Below.refl _ _).alloc (Nat.le_refl _) _⟩
theorem levels_nil (w : World) : Calls Try.prog 15 #[.pointer none] w fun e w' => e = .returned (.int .i64 0) ∧ w' = w := by
  go_enter Try.func15, Try.ntmps15
  go_wp2
  go_returns
  exact ⟨rfl, rfl⟩

theorem facts6 {W : World} {b : Nat} {t : TypeId} {c0 c1 c2 c3 c4 c5 : Value} (h : Blk W b t #[c0, c1, c2, c3, c4, c5]) : W.cell? ⟨b, 0, none⟩ = some c0 ∧ W.cell? ⟨b, 1, none⟩ = some c1 ∧ W.cell? ⟨b, 2, none⟩ = some c2 ∧ W.cell? ⟨b, 3, none⟩ = some c3 ∧ W.cell? ⟨b, 4, none⟩ = some c4 ∧ W.cell? ⟨b, 5, none⟩ = some c5 :=
  ⟨h.cell 0, h.cell 1, h.cell 2, h.cell 3, h.cell 4, h.cell 5⟩
set_option maxRecDepth 100000 in
set_option maxHeartbeats 16000000 in
theorem none_walk (d : Int) (m : ByteArray) (s l f t : Int) (w : World) : Calls Try.prog 8 #[.agg #[.int .i64 d, .string m, .int .i64 s, .int .i64 l, .int .i64 f, .int .i64 t]] w fun e w' => e = .returned (.bool true) ∧ Below w.heap.size w w' := by
  have H10 := fun w => Lib.hid (shown_any w)
  have H25 := fun w => Lib.hid (seek_nil m s w)
  have H13 := fun w => Lib.hid (at_out none f w 0 (fun w' _ => len_nil w') (by omega))
  have H27 := fun w => Lib.hid (insert_nil m s l w)
  have H28 := fun w => Lib.hid (delete_nil m s w)
  have H14 := fun w => Lib.hid (len_nil w)
  have H18 := fun w => Lib.hid (range_nil f t w)
  have H26 := fun w => Lib.hid (back_nil f t w)
  have H29 := fun w => Lib.hid (cut_nil f t w)
  have H15 := fun w => Lib.hid (levels_nil w)
  have H21 := fun w => Lib.hid (spans_nil l w)
  have kA := Blk.new w 34 #[.int .i64 d, .string m, .int .i64 s, .int .i64 l, .int .i64 f, .int .i64 t]
  have hbA : Below w.heap.size w (w.alloc (.cells #[.int .i64 d, .string m, .int .i64 s, .int .i64 l, .int .i64 f, .int .i64 t] 34)) := (Below.refl _ _).alloc (Nat.le_refl _) _
  have HA := Lib.hid kA
  have HB := Lib.hid hbA
  clear kA hbA
  go_enter Try.func8, Try.ntmps8
  go_wp2_with fail
  refine (H10 _).out.mono ?_
  rintro e w1 ⟨rfl, hb⟩
  have HA1 := Lib.hid (HA.out.later hb)
  have HB1 := Lib.hid (HB.out.trans (hb.mono HB.out.size))
  obtain ⟨e0, e1, e2, e3, e4, e5⟩ := facts6 (HA.out.later hb)
  clear hb HA HB
  go_wp2_with fail
  refine (H25 _).out.mono ?_
  rintro e w2 ⟨rfl, hb⟩
  have HA2 := Lib.hid (HA1.out.later hb)
  have HB2 := Lib.hid (HB1.out.trans (hb.mono HB1.out.size))
  clear e0 e1 e2 e3 e4 e5
  obtain ⟨e0, e1, e2, e3, e4, e5⟩ := facts6 (HA1.out.later hb)
  clear hb HA1 HB1
  go_wp2_with fail
  refine (H13 _).out.mono ?_
  rintro e w3 ⟨rfl, hb⟩
  have hbx : Below w2.heap.size w2 (w3.alloc (.cells #[.string ⟨#[]⟩, .int .i64 0] 32)) := hb.trans (((Below.refl w3.heap.size w3).alloc (Nat.le_refl _) _).mono hb.size)
  have HA3 := Lib.hid (HA2.out.later hbx)
  have HB3 := Lib.hid (HB2.out.trans (hbx.mono HB2.out.size))
  have hz : w.heap.size < w3.heap.size := (HA2.out.later hb).lt
  clear e0 e1 e2 e3 e4 e5
  obtain ⟨e0, e1, e2, e3, e4, e5⟩ := facts6 (HA2.out.later hb)
  clear hb HA2 HB2
  go_wp2_with fail
  refine (H27 _).out.mono ?_
  rintro e w4 ⟨rfl, hb⟩
  have HA4 := Lib.hid (HA3.out.later hb)
  have HB4 := Lib.hid (HB3.out.trans (hb.mono HB3.out.size))
  clear e0 e1 e2 e3 e4 e5
  obtain ⟨e0, e1, e2, e3, e4, e5⟩ := facts6 (HA3.out.later hb)
  clear hb HA3 HB3 H27
  go_wp2_with fail
  refine (H28 _).out.mono ?_
  rintro e w5 ⟨rfl, hb⟩
  have HA5 := Lib.hid (HA4.out.later hb)
  have HB5 := Lib.hid (HB4.out.trans (hb.mono HB4.out.size))
  clear e0 e1 e2 e3 e4 e5
  obtain ⟨e0, e1, e2, e3, e4, e5⟩ := facts6 (HA4.out.later hb)
  clear hb HA4 HB4 H28
  go_wp2_with fail
  refine (H14 _).out.mono ?_
  rintro e w99 ⟨rfl, he⟩
  rw [he]
  clear he H14
  go_wp2_with fail
  refine (H18 _).out.mono ?_
  rintro e w6 ⟨rfl, hb⟩
  have HA6 := Lib.hid (HA5.out.later hb)
  have HB6 := Lib.hid (HB5.out.trans (hb.mono HB5.out.size))
  clear e0 e1 e2 e3 e4 e5
  obtain ⟨e0, e1, e2, e3, e4, e5⟩ := facts6 (HA5.out.later hb)
  clear hb HA5 HB5 H18
  go_wp2_with fail
  refine (H26 _).out.mono ?_
  rintro e w7 ⟨rfl, hb⟩
  have HA7 := Lib.hid (HA6.out.later hb)
  have HB7 := Lib.hid (HB6.out.trans (hb.mono HB6.out.size))
  clear e0 e1 e2 e3 e4 e5
  obtain ⟨e0, e1, e2, e3, e4, e5⟩ := facts6 (HA6.out.later hb)
  clear hb HA6 HB6 H26
  go_wp2_with fail
  refine (H29 _).out.mono ?_
  rintro e w99 ⟨rfl, he⟩
  rw [he]
  clear he H29
  go_wp2_with fail
  refine (H15 _).out.mono ?_
  rintro e w99 ⟨rfl, he⟩
  rw [he]
  clear he H15
  go_wp2_with fail
  refine (H21 _).out.mono ?_
  rintro e w99 ⟨rfl, he⟩
  rw [he]
  clear he H21
  go_wp2_with fail
  go_returns
  exact ⟨rfl, HB7.out⟩
end Go.Proofs.Ytidiaomeahoapaa
/- Acts that came in. -/
namespace Go.Proofs.Ytidiaomeahoapaa
open Go.ChangeShapes Go.WideShapes Go.ChangeAt Go.RowKit
open Go.ChangeMaps (open_string shut_string)

theorem laidOut0 : laidOutB Try.prog = true := by kernel_rfl
theorem own0 : ownKnob Try.prog.godebug = none := by kernel_rfl
theorem cells34 : Try.prog.cellsOf 34 = 6 := by kernel_rfl

/-- An act. -/
structure Ac where
  d : Int
  m : ByteArray
  s : Int
  l : Int
  f : Int
  t : Int
instance : Inhabited Ac := ⟨⟨0, ⟨#[]⟩, 0, 0, 0, 0⟩⟩
def Ac.cells (x : Ac) : List Value := [.int .i64 x.d, .string x.m, .int .i64 x.s, .int .i64 x.l, .int .i64 x.f, .int .i64 x.t]
def Ac.val (x : Ac) : Value := .agg #[.int .i64 x.d, .string x.m, .int .i64 x.s, .int .i64 x.l, .int .i64 x.f, .int .i64 x.t]
/-- Whole numbers that fit. -/
def i64 (n : Int) : Prop := -9223372036854775808 ≤ n ∧ n ≤ 9223372036854775807
structure Ac.Fit (x : Ac) : Prop where
  d : i64 x.d
  l : i64 x.l
  f : i64 x.f
  t : i64 x.t
  m : x.m.size ≤ 9223372036854775807
theorem i64_of_wf {n : Int} (h : (Lit.int .i64 n).wf = true) : i64 n := by
  have h1 : IntKind.i64.min = -9223372036854775808 := by decide
  simp [Lit.wf] at h
  unfold i64
  omega

def fieldD : Field := { name := "Do", type := 3, offset := 0, embedded := false, tag := "", pkgPath := "", byteOffset := 0 }
def fieldE : Field := { name := "E", type := 32, offset := 1, embedded := false, tag := "", pkgPath := "", byteOffset := 8 }
def fieldL : Field := { name := "Level", type := 3, offset := 3, embedded := false, tag := "", pkgPath := "", byteOffset := 32 }
def fieldF : Field := { name := "From", type := 3, offset := 4, embedded := false, tag := "", pkgPath := "", byteOffset := 40 }
def fieldT : Field := { name := "To", type := 3, offset := 5, embedded := false, tag := "", pkgPath := "", byteOffset := 48 }
def fieldM : Field := { name := "Member", type := 9, offset := 0, embedded := false, tag := "", pkgPath := "", byteOffset := 0 }
def fieldC : Field := { name := "Score", type := 2, offset := 1, embedded := false, tag := "", pkgPath := "", byteOffset := 16 }
theorem act34 : Try.prog.underlying 34 = some (.struct #[fieldD, fieldE, fieldL, fieldF, fieldT]) := Try.underlying34
theorem ent32 : Try.prog.underlying 32 = some (.struct #[fieldM, fieldC]) := Try.underlying32
theorem six {α : Type} {l : List α} (h : l.length = 6) : ∃ a b c d e f, l = [a, b, c, d, e, f] := by
  rcases l with _ | ⟨a, _ | ⟨b, _ | ⟨c, _ | ⟨d, _ | ⟨e, _ | ⟨f, _ | ⟨g, l⟩⟩⟩⟩⟩⟩⟩ <;> simp at h
  exact ⟨a, b, c, d, e, f, rfl⟩
theorem act_cells {H : Type} {enc : TypeId × Value → H} {W : World} {fuel : Nat} {cs : List Value} {x : DataW H × List MemPlace} (h : DataW.trod enc Try.prog W 0 (fun _ => true) true fuel 34 cs = some x) : ∃ y : Ac, cs = y.cells ∧ y.Fit := by
  obtain ⟨xs, n, _, _, hlen0, hxl, hfs⟩ := DataW.trod_struct act34 h
  rw [cells34] at hlen0
  have f0 := hfs 0 fieldD rfl
  have f1 := hfs 1 fieldE rfl
  have f2 := hfs 2 fieldL rfl
  have f3 := hfs 3 fieldF rfl
  have f4 := hfs 4 fieldT rfl
  obtain ⟨v0, v1, v2, v3, v4, v5, rfl⟩ := six hlen0
  have o3 : Try.prog.cellsOf 3 = 1 := by kernel_rfl
  have o9 : Try.prog.cellsOf 9 = 1 := by kernel_rfl
  have o2 : Try.prog.cellsOf 2 = 1 := by kernel_rfl
  have o32 : Try.prog.cellsOf 32 = 2 := by kernel_rfl
  simp only [fieldD, fieldE, fieldL, fieldF, fieldT, o3, o32, List.drop_zero, List.take_succ_cons, List.take_zero, List.drop_succ_cons] at f0 f1 f2 f3 f4
  replace hxl : xs.length = 5 := hxl
  rw [List.getElem?_eq_getElem (show 0 < xs.length by omega)] at f0
  rw [List.getElem?_eq_getElem (show 1 < xs.length by omega)] at f1
  rw [List.getElem?_eq_getElem (show 2 < xs.length by omega)] at f2
  rw [List.getElem?_eq_getElem (show 3 < xs.length by omega)] at f3
  rw [List.getElem?_eq_getElem (show 4 < xs.length by omega)] at f4
  obtain ⟨k0, hk0, _, w0⟩ := DataW.trod_int Try.underlying3 f0
  obtain ⟨k2, hk2, _, w2⟩ := DataW.trod_int Try.underlying3 f2
  obtain ⟨k3, hk3, _, w3⟩ := DataW.trod_int Try.underlying3 f3
  obtain ⟨k4, hk4, _, w4⟩ := DataW.trod_int Try.underlying3 f4
  obtain ⟨ys, n', _, _, _, hyl, hgs⟩ := DataW.trod_struct ent32 f1
  have g0 := hgs 0 fieldM rfl
  have g1 := hgs 1 fieldC rfl
  simp only [fieldM, fieldC, o9, o2, List.drop_zero, List.take_succ_cons, List.take_zero, List.drop_succ_cons] at g0 g1
  replace hyl : ys.length = 2 := hyl
  rw [List.getElem?_eq_getElem (show 0 < ys.length by omega)] at g0
  rw [List.getElem?_eq_getElem (show 1 < ys.length by omega)] at g1
  obtain ⟨s0, hs0, _, hz⟩ := DataW.trod_string Try.underlying9 g0
  obtain ⟨k1, hk1, _, _⟩ := DataW.trod_int Try.underlying2 g1
  simp only [List.cons.injEq, and_true] at hk0 hs0 hk1 hk2 hk3 hk4
  subst hk0 hs0 hk1 hk2 hk3 hk4
  exact ⟨⟨k0, s0, k1, k2, k3, k4⟩, rfl, i64_of_wf w0, i64_of_wf w2, i64_of_wf w3, i64_of_wf w4, by unfold maxLen at hz; show s0.size ≤ _; omega⟩
theorem open_act {H : Type} {enc : TypeId × Value → H} {W : World} {b0 : Nat} {v : Value} {d : DataW H} {ps : List MemPlace} (hv : Value.okWide Try.prog W .any b0 34 v) (h : DataW.Trod enc Try.prog W 0 (fun _ => true) true 34 v d ps) : ∃ y : Ac, v = y.val ∧ y.Fit := by
  obtain ⟨cs, rfl, hsz⟩ := okWide_struct act34 hv
  obtain ⟨fuel, hf⟩ := h
  obtain ⟨y, hy, hfit⟩ := act_cells hf
  refine ⟨y, ?_, hfit⟩
  have : cs = y.cells.toArray := by
    have h2 : cs.toList = y.cells := hy
    rw [← h2]
  rw [this]; rfl

/-- A list of acts behind an address or none. -/
def Acts (w : World) (a : Option Addr) (l : List Ac) : Prop := ∀ i (h : i < l.length), ∃ b off, a = some ⟨b, off, none⟩ ∧ ∀ j u, (l[i]).cells[j]? = some u → w.cell? ⟨b, off + i * 6 + j, none⟩ = some u
theorem Acts.far {w w' : World} {a : Option Addr} {l : List Ac} (h : Acts w a l) (hb : ∀ (b : Nat) (o : Obj), w.heap[b]? = some o → w'.heap[b]? = some o) : Acts w' a l := fun i hi => by
  obtain ⟨b, off, rfl, hc⟩ := h i hi
  refine ⟨b, off, rfl, fun j u hu => ?_⟩
  have := hc j u hu
  have hlt := World.block_lt_of_cell? w _ this
  have hb' := hb b _ (Array.getElem?_eq_getElem hlt)
  rw [← this]
  unfold World.cell?
  simp only [hb', Array.getElem?_eq_getElem hlt]
theorem acts_open {H : Type} {enc : TypeId × Value → H} {W : World} {a : Option Addr} {len cap : Nat} {d : DataW H} {ps : List MemPlace} (h : DataW.Trod enc Try.prog W 0 (fun _ => true) true 22 (.slice a len cap) d ps) :
    ∃ l : List Ac, l.length = len ∧ Acts W a l ∧ l.length ≤ 9223372036854775807 ∧ ∀ x ∈ l, x.Fit := by
  obtain ⟨fuel, hf⟩ := h
  rcases Go.Deep.open_slice Try.underlying22 hf with ⟨hcs, _⟩ | ⟨a', len', cap', m, n, D, Pl, hcs, _, hl, hm, hmm, _, hx⟩
  · simp [Value.cells] at hcs
    obtain ⟨rfl, rfl, rfl⟩ := hcs
    exact ⟨[], rfl, fun i hi => by simp at hi, by simp, fun e he => by simp at he⟩
  · simp [Value.cells] at hcs
    obtain ⟨rfl, rfl, rfl⟩ := hcs
    simp only [if_true] at hmm
    rw [cells34] at hx
    have each : ∀ i, i < len → ∃ x : Ac, (∀ j u, x.cells[j]? = some u → W.cell? (a'.add (i * 6 + j)) = some u) ∧ x.Fit := fun i hi => by
      obtain ⟨cs, h1, h2⟩ := hx i (by omega)
      obtain ⟨x, hxc, hfit⟩ := act_cells h2
      obtain ⟨_, hlen, hat⟩ := World.cells?_some h1
      refine ⟨x, fun j u hu => ?_, hfit⟩
      have hj : j < cs.length := by
        rw [hxc]; exact (List.getElem?_eq_some_iff.1 hu).1
      have a0 := hat j (by omega)
      have hadd : ∀ q, (a'.add (i * 6)).add q = a'.add (i * 6 + q) := fun q => by
        unfold Addr.add
        by_cases h1 : i * 6 = 0 <;> by_cases h2 : q = 0 <;> simp [h1, h2, Nat.add_assoc]
      rw [hadd] at a0
      rw [← hxc] at hu
      rw [a0]
      exact hu
    obtain ⟨E, hE⟩ := Go.Deep.choose_lt each
    unfold maxLen at hm
    refine ⟨(List.range len).map E, by simp, fun i hi => ?_, by simp; omega, fun e he => ?_⟩
    · have hi' : i < len := by simpa using hi
      obtain ⟨b, off, spot⟩ := a'
      have hspot : spot = none := by
        have := (hE 0 (by omega)).1 0 (.int .i64 (E 0).d) rfl
        simpa [Addr.add] using World.cell?_spot this
      subst hspot
      refine ⟨b, off, rfl, fun j u hu => ?_⟩
      have c0 := (hE i hi').1 j u (by simpa using hu)
      rw [Addr.add_lit] at c0
      simpa [Nat.add_assoc] using c0
    · obtain ⟨i, hi, rfl⟩ := List.mem_map.1 he
      exact (hE i (List.mem_range.1 hi)).2
end Go.Proofs.Ytidiaomeahoapaa
/- One act. -/
namespace Go.Proofs.Ytidiaomeahoapaa
open Go.RowKit Go.Shelf
attribute [local go_sem] Oper.semAt_some

/-- The first twelve bytes. -/
def cut12 (s : ByteArray) : ByteArray := s.extract 0 (min s.size 12)
theorem cut12_size (s : ByteArray) : (cut12 s).size ≤ 281474976710656 := by unfold cut12; simp; omega

theorem loadVar32 {W : World} {b : Nat} {v0 v1 : Value} (h : Blk W b 32 #[v0, v1]) : (loadVar 32 ⟨b, 0, none⟩).run Try.prog W = .ok (.agg #[v0, v1]) W :=
  run_loadVar_row _ _ 32 32 #[v0, v1] (0, 0) _ h Try.underlying32 rfl (by kernel_rfl)
set_option maxRecDepth 100000 in
set_option maxHeartbeats 2000000 in
theorem few_any (m : ByteArray) (hs : m.size ≤ 9223372036854775807) (s : Int) (w : World) : Calls Try.prog 30 #[.agg #[.string m, .int .i64 s]] w fun e w' => e = .returned (.agg #[.string (cut12 m), .int .i64 s]) ∧ Below w.heap.size w w' := by
  unfold cut12
  obtain ⟨q, hq⟩ : ∃ q, q = min m.size 12 := ⟨_, rfl⟩
  have hmin : min (m.size : Int) 12 = (q : Int) := by omega
  have hsl := fun W : World => run_slice_string (P := Try.prog) W 9 m .i64 .i64 0 (q : Int) Try.underlying9 (by omega) (by omega) (by omega)
  have kE := (Blk.new w 32 #[.string m, .int .i64 s]).alloc (Obj.cells #[.string ⟨#[]⟩, .int .i64 0] 32)
  have kR := Blk.new (w.alloc (.cells #[.string m, .int .i64 s] 32)) 32 #[.string ⟨#[]⟩, .int .i64 0]
  simp only [World.size_alloc] at kR
  have hb1 : Below w.heap.size w ((w.alloc (.cells #[.string m, .int .i64 s] 32)).alloc (.cells #[.string ⟨#[]⟩, .int .i64 0] 32)) := ((Below.refl _ _).alloc (Nat.le_refl _) _).alloc (by simp) _
  have KR := Lib.hid kR
  have HB := Lib.hid hb1
  rw [← hq]
  clear hq kE kR hb1
  go_enter Try.func30, Try.ntmps30
  go_wp2_with fail
  go_region
  all_goals go_wp2_with fail
  have kR := (Blk.new (w.alloc (.cells #[.string m, .int .i64 s] 32)) 32 #[.string (m.extract 0 q), .int .i64 s]).drew
  simp only [World.size_alloc] at kR
  refine bodyPost_ret (results_cell Try.results30 (b := ⟨w.heap.size + 1, 0, none⟩) rfl (loadVar32 kR)) rfl ?_
  exact ⟨rfl, (((Below.refl _ _).alloc (Nat.le_refl _) _).alloc (by simp) _).drew⟩

/-- What a list holds, told by entries and levels. -/
abbrev En := ByteArray × Int × Nat
def er (x : Nd) : En := (x.m, x.s, x.l)
def posM (M : List En) (m : ByteArray) (s : Int) : Nat := (M.takeWhile fun y => lessE y.1 y.2.1 m s).length
def hasM (M : List En) (m : ByteArray) (s : Int) : Bool := match M[posM M m s]? with
  | some y => decide (y.1 = m ∧ y.2.1 = s)
  | none => false
def insM (M : List En) (m : ByteArray) (s : Int) (l : Nat) : List En := M.take (posM M m s) ++ (m, s, l) :: M.drop (posM M m s)
def cutM (M : List En) (a b : Nat) : List En := M.take a ++ M.drop b
theorem pos_er (L : List Nd) (m : ByteArray) (s : Int) : posM (L.map er) m s = pos L m s := by
  unfold posM pos
  induction L with
  | nil => rfl
  | cons x L ih =>
    rw [List.map_cons]
    by_cases h : lessE x.m x.s m s = true
    · simp [er, h]; simpa [er] using ih
    · simp [er, h]
theorem has_er (L : List Nd) (m : ByteArray) (s : Int) : hasM (L.map er) m s = has L m s := by
  unfold hasM has
  rw [pos_er, List.getElem?_map]
  cases L[pos L m s]? <;> rfl
theorem put_er (L : List Nd) (x : Nd) : (putL L x).map er = insM (L.map er) x.m x.s x.l := by
  unfold putL insM
  rw [pos_er, List.map_append, List.map_cons, List.map_take, List.map_drop]; rfl
theorem cut_er (L : List Nd) (a b : Nat) : (L.take a ++ L.drop b).map er = cutM (L.map er) a b := by
  unfold cutM
  rw [List.map_append, List.map_take, List.map_drop]

/-- Where a cut begins and ends. -/
def from0 (f : Int) : Nat := (max f 0).toNat
def to0 (t : Int) (n : Nat) : Nat := (min t n).toNat
/-- What an act tells, and what it leaves. -/
def kd (x : Ac) : Nat := (x.d % 8).toNat
def resM (x : Ac) (M : List En) : Int :=
  if kd x < 4 then (if hasM M (cut12 x.m) x.s then 90 else 0)
  else if kd x < 6 then (if hasM M (cut12 x.m) x.s then 1 else 0)
  else if kd x = 6 then posM M (cut12 x.m) x.s
  else if from0 x.f < to0 x.t M.length then (to0 x.t M.length : Int) - from0 x.f else 0
def effM (x : Ac) (l : Nat) (M : List En) : List En :=
  if kd x < 4 then (if hasM M (cut12 x.m) x.s then M else insM M (cut12 x.m) x.s l)
  else if kd x < 6 then (if hasM M (cut12 x.m) x.s then cutM M (posM M (cut12 x.m) x.s) (posM M (cut12 x.m) x.s + 1) else M)
  else if kd x = 6 then M
  else if from0 x.f < to0 x.t M.length then cutM M (from0 x.f) (to0 x.t M.length) else M

/-- A list behind an act. -/
structure Act1 (w w' : World) (p : Nat) (L : List Nd) (M : List En) : Prop where
  ex : ∃ L', L'.map er = M ∧ Ls w' p L' ∧ (∀ k, isB (hd p :: L') k → isB (hd p :: L) k ∨ w.heap.size ≤ k)
  far : Far (isB (hd p :: L)) w w'
theorem Act1.same {w w' : World} {p : Nat} {L : List Nd} (h : Ls w p L) (hb : Below w.heap.size w w') : Act1 w w' p L (L.map er) := ⟨⟨L, rfl, h.later hb, fun _ hk => .inl hk⟩, Far.of_below hb⟩
theorem Act1.put {w w' : World} {p : Nat} {L : List Nd} {nb l : Nat} {m : ByteArray} {s : Int} (hn : w.heap.size ≤ nb) (hf : Far (isB (hd p :: L)) w w') (h : Ls w' p (putL L ⟨nb, m, s, l⟩)) : Act1 w w' p L (insM (L.map er) m s l) :=
  ⟨⟨_, put_er L ⟨nb, m, s, l⟩, h, fun k ⟨x, hx, e⟩ => by
    rcases List.mem_cons.1 hx with rfl | hx
    · exact .inl ⟨_, List.mem_cons_self .., e⟩
    · unfold putL at hx
      rcases List.mem_append.1 hx with hx | hx
      · exact .inl ⟨x, List.mem_cons_of_mem _ (List.mem_of_mem_take hx), e⟩
      · rcases List.mem_cons.1 hx with rfl | hx
        · exact .inr (e ▸ hn)
        · exact .inl ⟨x, List.mem_cons_of_mem _ (List.mem_of_mem_drop hx), e⟩⟩, hf⟩
theorem Act1.cut {w w' : World} {p : Nat} {L : List Nd} {a b : Nat} (hf : Far (isB (hd p :: L)) w w') (h : Ls w' p (L.take a ++ L.drop b)) : Act1 w w' p L (cutM (L.map er) a b) :=
  ⟨⟨_, cut_er L a b, h, fun k ⟨x, hx, e⟩ => by
    rcases List.mem_cons.1 hx with rfl | hx
    · exact .inl ⟨_, List.mem_cons_self .., e⟩
    · rcases List.mem_append.1 hx with hx | hx
      · exact .inl ⟨x, List.mem_cons_of_mem _ (List.mem_of_mem_take hx), e⟩
      · exact .inl ⟨x, List.mem_cons_of_mem _ (List.mem_of_mem_drop hx), e⟩⟩, hf⟩
theorem Act1.before {w0 w w' : World} {p : Nat} {L : List Nd} {M : List En} (h : Act1 w w' p L M) (hb : Below w0.heap.size w0 w) : Act1 w0 w' p L M := by
  obtain ⟨⟨L', h1, h2, h3⟩, hf⟩ := h
  exact ⟨⟨L', h1, h2, fun k hk => by rcases h3 k hk with h | h; exact .inl h; exact .inr (Nat.le_trans hb.size h)⟩, (Far.of_below hb).trans hf (fun k hk => .inl hk)⟩

variable {w : World} {p : Nat} {L : List Nd}
theorem insert_act (h : Ls w p L) (hN : L.length ≤ 100000) (m : ByteArray) (hm : m.size ≤ 281474976710656) (s : Int) (l : Nat) (hl : 0 < l ∧ l ≤ 32) :
    Calls Try.prog 27 #[.pointer (some ⟨p, 0, none⟩), .agg #[.string m, .int .i64 s], .int .i64 l] w fun e w' => e = .returned (.int .i64 (if hasM (L.map er) m s then 90 else 0)) ∧ Act1 w w' p L (if hasM (L.map er) m s then L.map er else insM (L.map er) m s l) :=
  (insert_ls h hN m hm s l hl).mono fun e w' hp => by
    rw [has_er]
    cases hh : has L m s with
    | true => obtain ⟨h1, h2⟩ := hp.1 hh; exact ⟨h1, Act1.same h h2⟩
    | false => obtain ⟨h1, nb, hn, hf, hl⟩ := hp.2 hh; exact ⟨h1, Act1.put hn hf hl⟩
theorem delete_act (h : Ls w p L) (hN : L.length ≤ 100000) (m : ByteArray) (s : Int) :
    Calls Try.prog 28 #[.pointer (some ⟨p, 0, none⟩), .agg #[.string m, .int .i64 s]] w fun e w' => e = .returned (.bool (hasM (L.map er) m s)) ∧ Act1 w w' p L (if hasM (L.map er) m s then cutM (L.map er) (posM (L.map er) m s) (posM (L.map er) m s + 1) else L.map er) :=
  (delete_ls h hN m s).mono fun e w' hp => by
    rw [has_er, pos_er]
    cases hh : has L m s with
    | true => obtain ⟨h1, h2, h3⟩ := hp.2 hh; exact ⟨h1, Act1.cut h2 h3⟩
    | false => obtain ⟨h1, h2⟩ := hp.1 hh; exact ⟨h1, Act1.same h h2⟩
theorem seek_act (h : Ls w p L) (hN : L.length ≤ 100000) (m : ByteArray) (s : Int) :
    Calls Try.prog 25 #[.pointer (some ⟨p, 0, none⟩), .agg #[.string m, .int .i64 s]] w fun e w' => e = .returned (.tuple #[.int .i64 (posM (L.map er) m s), .bool (hasM (L.map er) m s)]) ∧ Act1 w w' p L (L.map er) :=
  (seek_ls h hN m s).mono fun e w' hp => by
    rw [has_er, pos_er]
    exact ⟨hp.1, Act1.same h hp.2⟩
theorem cut_act (h : Ls w p L) (hN : L.length ≤ 100000) (f t : Int) :
    Calls Try.prog 29 #[.pointer (some ⟨p, 0, none⟩), .int .i64 f, .int .i64 t] w fun e w' => e = .returned (.int .i64 (if from0 f < to0 t (L.map er).length then (to0 t (L.map er).length : Int) - from0 f else 0)) ∧ Act1 w w' p L (if from0 f < to0 t (L.map er).length then cutM (L.map er) (from0 f) (to0 t (L.map er).length) else L.map er) := by
  rw [List.length_map]
  by_cases hab : from0 f < to0 t L.length
  · rw [if_pos hab, if_pos hab]
    refine (cut_ls h hN f t (from0 f) (to0 t L.length) (by unfold from0; omega) (by unfold from0 to0 at *; omega) hab).mono ?_
    rintro e w' ⟨h1, h2, h3⟩
    exact ⟨h1, Act1.cut h2 h3⟩
  · rw [if_neg hab, if_neg hab]
    refine (cut_none p L rfl w h.sk f t (by unfold from0 to0 at hab; omega)).mono ?_
    rintro e w' ⟨h1, rfl⟩
    exact ⟨h1, Act1.same h (Below.refl _ _)⟩
end Go.Proofs.Ytidiaomeahoapaa
