/- forth: the nodes of a level behind one, one by one. -/
import Derived.Test.YtidiaomeahoapaaMem
namespace Go.Proofs.Ytidiaomeahoapaa
open Go.RowKit Go.Shelf
attribute [local go_sem] Oper.semAt_some

def placeAt (W : World) (c : Nat) : Int := match W.cell? ⟨c, 1, none⟩ with | some v => intOf v | none => 0
def encQ (F : List Nd) (k : Nat) (_ : Nat) (q : Nat) : Array Value := #[stp F k q]

theorem facts3 {W : World} {b : Nat} {t : TypeId} {c0 c1 c2 : Value} (h : Blk W b t #[c0, c1, c2]) : W.cell? ⟨b, 0, none⟩ = some c0 ∧ W.cell? ⟨b, 1, none⟩ = some c1 ∧ W.cell? ⟨b, 2, none⟩ = some c2 ∧ W.frozen? ⟨b, 0, none⟩ = false ∧ W.frozen? ⟨b, 1, none⟩ = false ∧ W.frozen? ⟨b, 2, none⟩ = false :=
  ⟨h.cell 0, h.cell 1, h.cell 2, h.free 0, h.free 1, h.free 2⟩
/-- A step in its box. -/
def boxQ (F : List Nd) (k q : Nat) : Array Value := #[adr F q, .int .i64 ((q : Int) - 1), .int .i64 k]

set_option maxRecDepth 100000 in
set_option maxHeartbeats 4000000 in
theorem forth_any (F : List Nd) (ah : Nat → Value) (n : Int) (w : World) (k q0 : Nat) (x0 : Nd) (hk : k < 32) (hx0 : F[q0]? = some x0) (hl0 : k < x0.l) (hN : F.length ≤ 1000000) (L : List Nat) (hw : Sk w F (lk0 F) ah n) (hL : ∀ b ∈ L, ¬ isB F b) (hL2 : ∀ b ∈ L, b < w.heap.size) :
    SeqF Try.prog 38 #[stp F k q0] #[] (encQ F k) (steps F k q0) L w := by
  intro l J Jx W hW hJ hJx hY hJ0
  refine callsIn_of_wp Try.func38 rfl trivial ?_ rfl
  unfold stp
  simp only [Try.ntmps38, List.size_toArray, List.length_cons, List.length_nil, Nat.reduceAdd, Nat.reduceSub, Array.replicate_succ, Array.replicate_zero, List.push_toArray, List.append_toArray, List.nil_append, List.cons_append, List.append_nil]
  have HY := Lib.hid hY
  have HJ := Lib.hid hJ
  have HJX := Lib.hid hJx
  have HW := Lib.hid (hw.later hW)
  have HL := Lib.hid hL
  have hL2' : ∀ b ∈ L, b < W.heap.size := fun b hb => Nat.lt_of_lt_of_le (hL2 b hb) hW.size
  have HL2 := Lib.hid hL2'
  have HX0 := Lib.hid hx0
  have HL0 := Lib.hid hl0
  have HJ0 := Lib.hid (hJ 0 W (W.alloc (.cells (boxQ F k q0) 69)) hJ0 (Aside.of_below ((Below.refl _ _).alloc (Nat.le_refl _) _)))
  clear hY hJ hJx hW hL hL2 hw hx0 hl0 hJ0 hL2'
  gi_wp2
  gi_loopw [4] (fun _ wr => ∃ (i q : Nat) (x : Nd), F[q]? = some x ∧ k < x.l ∧ Blk wr W.heap.size 69 (boxQ F k q) ∧ (steps F k q0).drop i = steps F k q ∧ i ≤ (steps F k q0).length ∧ J i wr ∧ Sk wr F (lk0 F) ah n ∧ W.heap.size ≤ wr.heap.size)
    (fun _ wr => (F.length - placeAt wr W.heap.size).toNat)
  case atStart =>
    refine ⟨0, q0, x0, HX0.out, HL0.out, Blk.new _ _ _, rfl, Nat.zero_le _, HJ0.out, HW.out.later ((Below.refl _ _).alloc (Nat.le_refl _) _), by simp⟩
  case round =>
    obtain ⟨i, q, x, hx, hkl, kb, hd, hi, hJi, hS, hsz⟩ := hrel
    have hql : q < F.length := (List.getElem?_eq_some_iff.1 hx).1
    obtain ⟨s1, s2, s3, s4, s5⟩ := nxt_spec F k q hql
    obtain ⟨A, hA, hN1⟩ := hS.node q x hx
    obtain ⟨l1, l2⟩ := hN1.link k hkl
    have c1 := hA.cell (3 + k * 2)
    rw [l1] at c1
    have c2 := hA.cell (3 + k * 2 + 1)
    rw [l2] at c2
    have hae := adr_some hx
    have hpl : placeAt wr W.heap.size = (q : Int) - 1 := by unfold placeAt; rw [kb.cell 1]; rfl
    have HLK := fun (w : World) => Lib.hid (link_any x.b ((q : Int) - 1) k hk w)
    unfold boxQ at kb
    rw [hae] at kb
    unfold lk0 at c1 c2
    simp only at c1 c2
    have hb1 := Lib.hid hA
    obtain ⟨f0, f1, f2, f3, f4, f5⟩ := facts3 kb
    have KB := Lib.hid kb
    have HS := Lib.hid hS
    have S5 := Lib.hid s5
    have S4 := Lib.hid s4
    clear hA hN1 l1 l2 s3 s4 s5 kb hS hae
    gi_wp2_with fail
    refine ⟨trivial, ?_⟩
    refine (callsIn_wide.2 (HLK _).out).mono ?_
    rintro e w1 ⟨rfl, hb1'⟩
    have c1' := (hb1'.cell (p := ⟨x.b, 3 + k * 2, none⟩) (hb1.out.lt)).trans c1
    have c2' := (hb1'.cell (p := ⟨x.b, 3 + k * 2 + 1, none⟩) (hb1.out.lt)).trans c2
    have g0 := (hb1'.cell (p := ⟨W.heap.size, 0, none⟩) (KB.out.lt)).trans f0
    have g1 := (hb1'.cell (p := ⟨W.heap.size, 1, none⟩) (KB.out.lt)).trans f1
    have g2 := (hb1'.cell (p := ⟨W.heap.size, 2, none⟩) (KB.out.lt)).trans f2
    have kb1 := KB.out.later hb1'
    have f3' := kb1.free 0
    have f4' := kb1.free 1
    have f5' := kb1.free 2
    have z1 : W.heap.size < w1.heap.size := kb1.lt
    have KB1 := Lib.hid kb1
    have HB1 := Lib.hid hb1'
    clear f0 f1 f2 f3 f4 f5 c1 c2 kb1 hb1'
    by_cases hlast : nxt F k q < F.length
    · obtain ⟨y, hy⟩ : ∃ y, F[nxt F k q]? = some y := ⟨_, List.getElem?_eq_getElem hlast⟩
      have hay := adr_some hy
      rw [hay] at c1'
      gi_wp2_with fail
      have hp : (q : Int) - 1 + ((nxt F k q : Int) - q - 1) + 1 = (nxt F k q : Int) - 1 := by omega
      rw [hp]
      clear hp
      generalize ho : Obj.cells #[Value.pointer (some ⟨y.b, 0, none⟩), Value.int IntKind.i64 ((nxt F k q : Int) - q - 1)] 58 = o at *
      obtain ⟨W2, hW2⟩ : ∃ W2, W2 = ((((w1.setCell ⟨W.heap.size, 0, none⟩ (.pointer (some ⟨y.b, 0, none⟩))).setCell ⟨W.heap.size, 1, none⟩ (.int .i64 ((nxt F k q : Int) - 1))).setCell ⟨W.heap.size, 2, none⟩ (.int .i64 k)).alloc o) := ⟨_, rfl⟩
      rw [← hW2]
      have k2 : Blk W2 W.heap.size 69 (boxQ F k (nxt F k q)) := by
        rw [hW2]
        have := (((KB1.out.set 0 (.pointer (some ⟨y.b, 0, none⟩))).set 1 (.int .i64 ((nxt F k q : Int) - 1))).set 2 (.int .i64 k)).alloc o
        unfold boxQ
        rw [hay]
        exact this
      have hAs : Aside W.heap.size wr W2 := by
        rw [hW2]
        have q1 := KB1.out
        have q2 := q1.set 0 (.pointer (some ⟨y.b, 0, none⟩))
        have q3 := q2.set 1 (.int .i64 ((nxt F k q : Int) - 1))
        exact (Aside.of_below HB1.out).trans ((Aside.set _ _ _ _ q1 (Nat.le_refl _)).trans ((Aside.set _ _ _ _ q2 (Nat.le_refl _)).trans ((Aside.set _ _ _ _ q3 (Nat.le_refl _)).trans (Aside.of_below ((Below.refl _ _).alloc (Nat.le_refl _) _)))))
      have hJ2 := HJ.out i wr W2 hJi hAs
      have hS2 := HS.out.aside hAs
      have h5 := S5.out
      rw [if_pos hlast] at h5
      have hil : (steps F k q0)[i]? = some (nxt F k q) := by
        have := congrArg (fun l => l[0]?) (hd.trans h5)
        simpa using this
      have hz2 : W.heap.size ≤ W2.heap.size := Nat.le_trans hsz hAs.size
      obtain ⟨fn, tmps, assign, body, hy2, hR⟩ := HY.out i _ W2 hil hJ2
      unfold encQ stp at hy2
      rw [hay] at hy2
      have K2 := Lib.hid k2
      have S2 := Lib.hid hS2
      have HLE := Lib.hid (List.getElem?_eq_some_iff.1 hil).1
      have HD2 : (steps F k q0).drop (i + 1) = steps F k (nxt F k q) := by
        have := congrArg (List.drop 1) (hd.trans h5)
        simpa using this
      have HLY := Lib.hid (lev_some hy ▸ S4.out hlast)
      have HY' := Lib.hid hy
      clear c1' c2' g0 g1 g2 f3' f4' f5' hW2 k2 hAs hJ2 hS2 h5 hil hd hy hi ho
      rw [hy2]
      gi_wp2_with fail
      (try refine ⟨fun _ => by decide, ?_⟩)
      refine hR.mono ?_
      rintro e W3 (⟨rfl, hJ3, hk3⟩ | ⟨rfl, hJx3⟩)
      · have k3 := K2.out.keep hk3 (fun e => Nat.lt_irrefl _ (HL2.out _ e))
        have S3 := S2.out.keep hk3 HL.out
        clear hR hy2 K2 S2
        have hpl3 : placeAt W3 W.heap.size = (nxt F k q : Int) - 1 := by unfold placeAt; rw [k3.cell 1]; rfl
        have K3 := Lib.hid k3
        have S3' := Lib.hid S3
        clear k3 S3
        gi_wp2
        refine ⟨⟨i + 1, nxt F k q, y, HY'.out, HLY.out, K3.out, HD2, HLE.out, hJ3, S3'.out, Nat.le_trans hz2 hk3.size⟩, ?_⟩
        rw [hpl, hpl3]
        omega
      · clear hR hy2
        gi_wp2
        go_returns
        exact ⟨⟨_, rfl⟩, .inr ⟨_, hJx3⟩⟩
    · have hnone := adr_none (F := F) (q := nxt F k q) (by omega)
      rw [hnone] at c1'
      gi_wp2
      go_returns
      have h5 := S5.out
      rw [if_neg hlast] at h5
      have hie : i = (steps F k q0).length := by
        have := congrArg List.length (hd.trans h5)
        simp only [List.length_drop, List.length_nil] at this
        omega
      refine ⟨⟨_, rfl⟩, .inl ?_⟩
      rw [← hie]
      exact HJ.out i wr _ hJi (Aside.of_below (HB1.out.trans ((Below.refl _ _).alloc (HB1.out.size) _)))
end Go.Proofs.Ytidiaomeahoapaa
