/- back: the nodes from a step on to the first one. -/
import Derived.Test.YtidiaomeahoapaaRange2
namespace Go.Proofs.Ytidiaomeahoapaa
open Go.RowKit Go.Shelf
attribute [local go_sem] Oper.semAt_some

def downs : Nat → List Nat
  | 0 => []
  | q + 1 => (q + 1) :: downs q
theorem downs_len : ∀ q, (downs q).length = q
  | 0 => rfl
  | q + 1 => by simp [downs, downs_len q]
theorem downs_at : ∀ (q i x : Nat), (downs q)[i]? = some x → x + i = q ∧ 0 < x
  | 0, i, x, h => by simp [downs] at h
  | q + 1, 0, x, h => by simp [downs] at h; omega
  | q + 1, i + 1, x, h => by
    have := downs_at q i x (by simpa [downs] using h)
    omega

set_option maxRecDepth 100000 in
set_option maxHeartbeats 4000000 in
theorem back_seq (F : List Nd) (n : Int) (w : World) (q0 : Nat) (x0 : Nd) (hx0 : F[q0]? = some x0) (hN : F.length ≤ 1000000) (L : List Nat) (hw : Sk w F (lk0 F) (ah0 F) n) (hL : ∀ b ∈ L, ¬ isB F b) (hL2 : ∀ b ∈ L, b < w.heap.size) :
    SeqF Try.prog 42 #[stp F 0 q0] #[] (encQ F 0) (downs q0) L w := by
  intro l J Jx W hW hJ hJx hY hJ0
  refine callsIn_of_wp Try.func42 rfl trivial ?_ rfl
  unfold stp
  simp only [Try.ntmps42, List.size_toArray, List.length_cons, List.length_nil, Nat.reduceAdd, Nat.reduceSub, Array.replicate_succ, Array.replicate_zero, List.push_toArray, List.append_toArray, List.nil_append, List.cons_append, List.append_nil]
  have h00 : ((0 : Nat) : Int) = 0 := rfl
  have HY := Lib.hid hY
  have HJ := Lib.hid hJ
  have HW := Lib.hid (hw.later hW)
  have HL := Lib.hid hL
  have hL2' : ∀ b ∈ L, b < W.heap.size := fun b hb => Nat.lt_of_lt_of_le (hL2 b hb) hW.size
  have HL2 := Lib.hid hL2'
  have HX0 := Lib.hid hx0
  have HJ0 := Lib.hid (hJ 0 W (W.alloc (.cells (boxQ F 0 q0) 69)) hJ0 (Aside.of_below ((Below.refl _ _).alloc (Nat.le_refl _) _)))
  clear hY hJ hJx hW hL hL2 hw hx0 hJ0 hL2'
  rw [h00]
  gi_wp2
  gi_loopw [4] (fun _ wr => ∃ (i q : Nat) (x : Nd), F[q]? = some x ∧ Blk wr W.heap.size 69 (boxQ F 0 q) ∧ (downs q0).drop i = downs q ∧ i ≤ (downs q0).length ∧ J i wr ∧ Sk wr F (lk0 F) (ah0 F) n ∧ W.heap.size ≤ wr.heap.size)
    (fun _ wr => (placeAt wr W.heap.size + 1).toNat)
  case atStart =>
    refine ⟨0, q0, x0, HX0.out, Blk.new _ _ _, rfl, Nat.zero_le _, HJ0.out, HW.out.later ((Below.refl _ _).alloc (Nat.le_refl _) _), by simp⟩
  case round =>
    obtain ⟨i, q, x, hx, kb, hd, hi, hJi, hS, hsz⟩ := hrel
    have hql : q < F.length := (List.getElem?_eq_some_iff.1 hx).1
    have hpl : placeAt wr W.heap.size = (q : Int) - 1 := by unfold placeAt; rw [kb.cell 1]; rfl
    have hae := adr_some hx
    have KB := Lib.hid kb
    have HS := Lib.hid hS
    unfold boxQ at kb
    rw [hae, h00] at kb
    obtain ⟨f0, f1, f2, f3, f4, f5⟩ := facts3 kb
    clear kb hS
    by_cases hq0 : q = 0
    · subst hq0
      have hneg : ¬ (0 : Int) ≤ ((0 : Nat) : Int) - 1 := by omega
      rw [show downs 0 = [] from rfl] at hd
      have hie : i = (downs q0).length := by
        have := congrArg List.length hd
        simp only [List.length_drop, List.length_nil] at this
        omega
      have HJI := Lib.hid hJi
      clear hJi hd
      gi_wp2
      refine ⟨fun _ h => (by cases h), ?_⟩
      gi_wp2
      go_end0
      exact ⟨⟨_, rfl⟩, .inl (hie ▸ HJI.out)⟩
    · obtain ⟨q, rfl⟩ : ∃ j, q = j + 1 := ⟨q - 1, by omega⟩
      have hpos : (0 : Int) ≤ ((q + 1 : Nat) : Int) - 1 := by omega
      rw [show downs (q + 1) = (q + 1) :: downs q from rfl] at hd
      have hil : (downs q0)[i]? = some (q + 1) := by
        have := congrArg (fun l => l[0]?) hd
        simpa using this
      have HD2 : (downs q0).drop (i + 1) = downs q := by
        have := congrArg (List.drop 1) hd
        simpa using this
      have HLE := Lib.hid (List.getElem?_eq_some_iff.1 hil).1
      obtain ⟨fn, tmps, assign, body, hy2, hR⟩ := HY.out i _ wr hil hJi
      unfold encQ stp at hy2
      have hq1 : ((q + 1 : Nat) : Int) - 1 = q := by omega
      rw [hae, h00, hq1] at hy2
      rw [hq1] at f1 hpl
      clear hpos hq0
      have HX := Lib.hid hx
      clear hil hd hi hx
      gi_wp2_with fail
      (try refine ⟨fun _ => by decide, ?_⟩)
      refine hR.mono ?_
      rintro e W3 (⟨rfl, hJ3, hk3⟩ | ⟨rfl, hJx3⟩)
      · have k3 := KB.out.keep hk3 (fun e => Nat.lt_irrefl _ (HL2.out _ e))
        have S3 := HS.out.keep hk3 HL.out
        obtain ⟨A, hA, hNA⟩ := S3.node (q + 1) x HX.out
        have ca := (hA.cell 2).trans hNA.a
        obtain ⟨z, hz⟩ : ∃ z, F[q]? = some z := ⟨_, List.getElem?_eq_getElem (by omega)⟩
        rw [show ah0 F (q + 1) = adr F q by unfold ah0; rw [if_neg (by omega)]; rfl, adr_some hz] at ca
        have haz := adr_some hz
        have K3 := Lib.hid k3
        have HS3 := Lib.hid S3
        unfold boxQ at k3
        rw [hae, h00, hq1] at k3
        clear f0 f1 f2 f3 f4 f5
        obtain ⟨f0, f1, f2, f3, f4, f5⟩ := facts3 k3
        have HZ := Lib.hid hz
        have hs3 := hk3.size
        clear hR hy2 k3 S3 hA hNA hz
        gi_wp2_with fail
        gi_region
        have q1 := K3.out
        have q2 := q1.set 0 (.pointer (some ⟨z.b, 0, none⟩))
        have q3 := q2.set 1 (.int .i64 ((q : Int) - 1))
        have q4 := (q3.set 2 (.int .i64 0)).drew
        have hAs : Aside W.heap.size W3 (((W3.setCell ⟨W.heap.size, 0, none⟩ (.pointer (some ⟨z.b, 0, none⟩))).setCell ⟨W.heap.size, 1, none⟩ (.int .i64 ((q : Int) - 1))).setCell ⟨W.heap.size, 2, none⟩ (.int .i64 0)).drew :=
          (Aside.set _ _ _ _ q1 (Nat.le_refl _)).trans ((Aside.set _ _ _ _ q2 (Nat.le_refl _)).trans ((Aside.set _ _ _ _ q3 (Nat.le_refl _)).trans (Aside.of_below (drewB _ 1))))
        have kq : Blk (((W3.setCell ⟨W.heap.size, 0, none⟩ (.pointer (some ⟨z.b, 0, none⟩))).setCell ⟨W.heap.size, 1, none⟩ (.int .i64 ((q : Int) - 1))).setCell ⟨W.heap.size, 2, none⟩ (.int .i64 0)).drew W.heap.size 69 (boxQ F 0 q) := by
          unfold boxQ
          rw [haz]
          exact q4
        have hpl3 : placeAt (((W3.setCell ⟨W.heap.size, 0, none⟩ (.pointer (some ⟨z.b, 0, none⟩))).setCell ⟨W.heap.size, 1, none⟩ (.int .i64 ((q : Int) - 1))).setCell ⟨W.heap.size, 2, none⟩ (.int .i64 0)).drew W.heap.size = (q : Int) - 1 := by unfold placeAt; rw [kq.cell 1]; rfl
        have HJ4 := HJ.out (i + 1) W3 _ hJ3 hAs
        have HS4 := HS3.out.aside hAs
        have hz4 := hAs.size
        generalize (((W3.setCell ⟨W.heap.size, 0, none⟩ (.pointer (some ⟨z.b, 0, none⟩))).setCell ⟨W.heap.size, 1, none⟩ (.int .i64 ((q : Int) - 1))).setCell ⟨W.heap.size, 2, none⟩ (.int .i64 0)).drew = W4 at *
        clear f0 f1 f2 f3 f4 f5 ca q1 q2 q3 q4 hAs
        have KQ := Lib.hid kq
        have HS5 := Lib.hid HS4
        clear kq HS4
        gi_wp2
        refine ⟨⟨i + 1, q, z, HZ.out, KQ.out, HD2, HLE.out, HJ4, HS5.out, by omega⟩, ?_⟩
        rw [hpl, hpl3]
        omega
      · clear hR hy2
        gi_wp2
        go_end0
        exact ⟨⟨_, rfl⟩, .inr ⟨_, hJx3⟩⟩
end Go.Proofs.Ytidiaomeahoapaa
