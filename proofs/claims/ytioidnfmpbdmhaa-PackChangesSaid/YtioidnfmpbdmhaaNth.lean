/- nth and Find. -/
import Derived.Test.YtioidnfmpbdmhaaLoops
namespace Go.Proofs.Ytioidnfmpbdmhaa
open Go.RowKit Go.Shelf
attribute [local go_sem] Oper.semAt_some

/-- The cut behind the last one. -/
def atEnd (p : ByteArray) : Value := .agg #[.string ⟨#[]⟩, .int .i64 0, .int .i64 p.size, .int .i64 p.size]

set_option maxRecDepth 100000 in
set_option maxHeartbeats 4000000 in
theorem nth_walk (p : ByteArray) (hp : p.size ≤ 281474976710656) (xs : List Cut) (hc : Chain (nextF p) (begunS p 2) xs) (hx : ∀ c ∈ xs, c.to ≤ p.size) (k : Nat) (hk : k ≤ 1000) (ans : Value) 
    (h1 : ∀ c, xs[k]? = some c → ans = c.val) (h2 : xs[k]? = none → ans = atEnd p) (w : World) :
    Calls Try.prog 37 #[.string p, .int .i64 k] w fun e w' => e = .returned ans ∧ Below w.heap.size w w' := by
  have HF := fun w => Lib.hid (forth_any p hp xs hc hx w)
  have H1 := Lib.hid h1
  have H2 := Lib.hid h2
  have hmany := hc.many
  clear h1 h2 hc
  refine (callsIn_wide (n := 6)).1 (callsIn_of_wp_marks Try.func37 rfl trivial ?_ rfl)
  refine wpIn_wide.2 ?_
  simp only [Try.ntmps37, List.size_toArray, List.length_cons, List.length_nil, Nat.reduceAdd, Nat.reduceSub, Array.replicate_succ, Array.replicate_zero, List.push_toArray, List.append_toArray, List.nil_append, List.cons_append]
  go_wp2_with fail
  refine (HF _).out.mono ?_
  rintro e w1 ⟨v, rfl, ⟨lb, rfl, hG⟩, hb1⟩
  clear HF
  have k1 := ((Blk.new w 3 #[Value.int IntKind.i64 k]).alloc (Obj.cells #[Value.string { data := #[] }, Value.int IntKind.i64 0, Value.int IntKind.i64 0, Value.int IntKind.i64 0] 61)).later hb1
  have k2 := (Blk.new (w.alloc (Obj.cells #[Value.int IntKind.i64 k] 3)) 61 #[Value.string { data := #[] }, Value.int IntKind.i64 0, Value.int IntKind.i64 0, Value.int IntKind.i64 0]).later hb1
  rw [World.size_alloc] at k2
  have hB := (((Below.refl w.heap.size w).alloc (Nat.le_refl _) (Obj.cells #[Value.int IntKind.i64 k] 3)).alloc (by simp) (Obj.cells #[Value.string { data := #[] }, Value.int IntKind.i64 0, Value.int IntKind.i64 0, Value.int IntKind.i64 0] 61)).trans (hb1.mono (by simp; omega))
  have hsz1 := hb1.size
  simp only [World.size_alloc] at hsz1 hG
  clear hb1
  go_wp2
  have hseq := hG [w.heap.size + 1] w1 (Below.refl _ _) (by intro k hk; simp at hk; omega)
  refine (wpIn_wide (n := 6)).1 (range_x (gf := 45) (lb := lb) (encs := encC) (xs := xs) (L := [w.heap.size + 1]) rfl (enters_of Try.func45 (by kernel_rfl) rfl) hseq (fun _ _ => rfl)
    (fun i W => Below w.heap.size w W ∧ Blk W w.heap.size 3 #[.int .i64 (k : Int)] ∧ Blk W (w.heap.size + 1) 61 #[Value.string { data := #[] }, Value.int IntKind.i64 0, Value.int IntKind.i64 0, Value.int IntKind.i64 0] ∧ i ≤ k)
    (fun c j W => match c with
      | .ret => ∃ x : Cut, xs[k]? = some x ∧ Below w.heap.size w W ∧ Blk W (w.heap.size + 1) 61 #[.string x.m, .int .i64 x.s, .int .i64 x.fr, .int .i64 x.to]
      | _ => False)
    ?hI ?hIx ?h0 (fun i x a' W => ∃ q, a' = { tmps := #[Value.string p, Value.int IntKind.i64 ↑k, undef, Value.pointer (some { block := w.heap.size, off := 0 }),
          Value.pointer (some { block := w.heap.size + 1, off := 0 }), Value.int IntKind.i64 i, Value.pointer (some { block := q, off := 0 }), Value.string p,
          Value.func (Fn.func 45) #[] lb, Value.int IntKind.i64 i, Value.agg #[Value.string x.m, Value.int IntKind.i64 x.s, Value.int IntKind.i64 x.fr, Value.int IntKind.i64 x.to], undef, undef, undef, undef, undef, undef, undef, undef, undef], defers := [] } ∧ Blk W q 61 #[.string x.m, .int .i64 x.s, .int .i64 x.fr, .int .i64 x.to])
    (fun _ _ _ => own_ex fun _ => (own_pure _ _).and (own_blk _ _ _ _)) ?assign ?body ?done ?stop)
  case hI => exact (own_below _ w (by omega)).and ((own_blk _ _ _ _).and ((own_blk _ _ _ _).and (own_pure _ _)))
  case hIx =>
    intro c
    cases c with
    | ret => exact own_ex fun i => (own_pure _ _).and ((own_below _ w (by omega)).and (own_blk _ _ _ _))
    | _ => exact own_pure _ _
  case h0 => exact ⟨hB, k1, k2, Nat.zero_le _⟩
  case assign =>
    rintro l i x W K hx' ⟨hb, q1, q2, hgd⟩ hK
    clear hseq hG
    unfold encC Cut.val
    gi_wp2
    have hbw := (Below.refl W.heap.size W).alloc (Nat.le_refl _) (Obj.cells #[Value.string x.m, Value.int IntKind.i64 x.s, Value.int IntKind.i64 x.fr, Value.int IntKind.i64 x.to] 61)
    exact hK _ _ ((KeepsOthers.alloc _ _).from _) (KeepC.of_below hbw) ⟨hb.alloc hb.size _, q1.alloc _, q2.alloc _, hgd⟩ ⟨_, rfl, Blk.new _ _ _⟩
  case body =>
    rintro l i x a' W hx' ⟨hb, q1, q2, hgd⟩ ⟨q, rfl, q6⟩
    clear hseq hG
    obtain ⟨c1, _⟩ := facts1 q1
    obtain ⟨d0, d1, d2, d3, _⟩ := facts4 q6
    obtain ⟨g0, g1, g2, g3, g4, g5, g6, g7⟩ := facts4 q2
    have Q2 := Lib.hid q2
    by_cases hik : i = k
    · subst hik
      gi_wp2
      obtain ⟨z1, z2, z3⟩ := set4 (.string x.m) (.int .i64 x.s) (.int .i64 x.fr) (.int .i64 x.to) Q2.out
      exact ⟨((((KeepsOthers.setCell _ _ _).from _).trans ((KeepsOthers.setCell _ _ _).from _)).trans ((KeepsOthers.setCell _ _ _).from _)).trans ((KeepsOthers.setCell _ _ _).from _), x, hx', hb.trans (z3 _ (by omega)), z1⟩
    · have hik2 : ¬ (i : Int) = (k : Int) := by omega
      gi_wp2
      exact ⟨KeepsFrom.refl _ _, KeepC.refl _ _, hb, q1, q2, by omega⟩
  case done =>
    rintro D W hD ⟨hb, q1, q2, hgd⟩ hK
    have hans := H2.out (List.getElem?_eq_none_iff.2 hgd)
    clear hseq hG
    obtain ⟨g0, g1, g2, g3, g4, g5, g6, g7⟩ := facts4 q2
    have Q2 := Lib.hid q2
    have HK := Lib.hid hK
    clear hK q2
    simp only [Exit.inBlock, Exit.then]
    go_wp2
    obtain ⟨z1, z2, z3⟩ := set4 (.string ⟨#[]⟩) (.int .i64 0) (.int .i64 (p.size : Int)) (.int .i64 (p.size : Int)) Q2.out
    have hD' := (z2 D (by omega)).trans HK.out
    refine leave rfl hD' (res4 Try.results37 rfl (z1.put' hD' _)) ⟨by rw [hans]; rfl, below_put (hb.trans (z3 _ (by omega))) (by omega) _⟩
  case stop =>
    rintro D c j W hD hI hK
    cases c with
    | ret =>
      obtain ⟨x, hx', hb, q2⟩ := hI
      have hans := H1.out x hx'
      clear hseq hG
      have Q2 := Lib.hid q2
      have HK := Lib.hid hK
      clear hK q2
      refine wpIn_wide.2 ?_
      go_wp2
      refine leave rfl HK.out (res4 Try.results37 rfl (Q2.out.put' HK.out _)) ⟨by rw [hans]; rfl, below_put hb (by omega) _⟩
    | _ => exact hI.elim
end Go.Proofs.Ytioidnfmpbdmhaa
