/- Find, once its text is known to be a pack or not. -/
import Derived.Test.YtioidnfmpbdmhaaNth
import Derived.Test.YtioidnfmpbdmhaaMath
namespace Go.Proofs.Ytioidnfmpbdmhaa
open Go.RowKit Go.Shelf
attribute [local go_sem] Oper.semAt_some

theorem leave0 {fn : Func} {R : Ending → World → Prop} {a : Act} {W : World} {v : Value} (hd : a.defers = []) (hr : (results fn a.tmps).run Try.prog W = .ok v W) (hR : R (.returned v) W) : bodyPostM Fence.wide 6 Try.prog fn R .ret a W := by
  obtain ⟨tmps, ds⟩ := a
  simp only at hd
  subst hd
  exact ⟨v, hr, hR⟩

/-- The place of a member's first entry. -/
def findS (xs : List Cut) (m : ByteArray) : Int := match xs.findIdx? (fun c => decide (c.m = m)) with
  | none => -1
  | some i => i

theorem findS_none {xs : List Cut} {mem : ByteArray} (h : ∀ (j : Nat) (c : Cut), j < xs.length → xs[j]? = some c → c.m ≠ mem) : findS xs mem = -1 := by
  unfold findS
  rw [List.findIdx?_eq_none_iff.2 fun c hc => ?_]
  obtain ⟨j, hj, rfl⟩ := List.mem_iff_getElem.1 hc
  simpa using h j _ hj (List.getElem?_eq_getElem hj)
theorem findS_some {xs : List Cut} {mem : ByteArray} {i : Nat} {x : Cut} (hx : xs[i]? = some x) (hm : x.m = mem) (h : ∀ (j : Nat) (c : Cut), j < i → xs[j]? = some c → c.m ≠ mem) : findS xs mem = i := by
  unfold findS
  obtain ⟨hi, rfl⟩ := List.getElem?_eq_some_iff.1 hx
  rw [List.findIdx?_eq_some_iff_getElem.2 ⟨hi, by simpa using hm, fun j hj => by simpa using h j _ hj (List.getElem?_eq_getElem (by omega))⟩]

set_option maxRecDepth 100000 in
set_option maxHeartbeats 4000000 in
theorem find_walk (p mem : ByteArray) (hp : p.size ≤ 281474976710656) (ok : Bool) (HR : ∀ w, Hid (Calls Try.prog 18 #[.string p] w fun e w' => e = .returned (.bool ok) ∧ Below w.heap.size w w')) (xs : List Cut) (hc : Chain (nextF p) (begunS p 2) xs) (hx : ∀ c ∈ xs, c.to ≤ p.size) (w : World) :
    Calls Try.prog 25 #[.string p, .string mem] w fun e w' => e = .returned (.int .i64 (if ok then findS xs mem else -1)) ∧ Below w.heap.size w w' := by
  have HF := fun w => Lib.hid (forth_any p hp xs hc hx w)
  have hmany := hc.many
  clear hc
  refine (callsIn_wide (n := 6)).1 (callsIn_of_wp_marks Try.func25 rfl trivial ?_ rfl)
  refine wpIn_wide.2 ?_
  simp only [Try.ntmps25, List.size_toArray, List.length_cons, List.length_nil, Nat.reduceAdd, Nat.reduceSub, Array.replicate_succ, Array.replicate_zero, List.push_toArray, List.append_toArray, List.nil_append, List.cons_append]
  go_wp2_with fail
  refine (HR _).out.mono ?_
  clear HR
  rintro e w1 ⟨rfl, hb1⟩
  have k1 := ((Blk.new w 9 #[Value.string mem]).alloc (Obj.cells #[Value.int IntKind.i64 0] 3)).later hb1
  have k2 := (Blk.new (w.alloc (Obj.cells #[Value.string mem] 9)) 3 #[Value.int IntKind.i64 0]).later hb1
  rw [World.size_alloc] at k2
  have hB := (((Below.refl w.heap.size w).alloc (Nat.le_refl _) (Obj.cells #[Value.string mem] 9)).alloc (by simp) (Obj.cells #[Value.int IntKind.i64 0] 3)).trans (hb1.mono (by simp; omega))
  have hsz1 := hb1.size
  simp only [World.size_alloc] at hsz1
  clear hb1
  cases ok with
  | false =>
    obtain ⟨c2, f2⟩ := facts1 k2
    clear HF
    have Q2 := Lib.hid k2
    clear k2
    go_wp2
    exact leave0 rfl (res1 (.inl rfl) Try.results25 rfl (Q2.out.set 0 _)) ⟨rfl, hB.setCell (p := ⟨w.heap.size + 1, 0, none⟩) (by simp) _⟩
  | true =>
    go_wp2_with fail
    refine (HF _).out.mono ?_
    rintro e w2 ⟨v, rfl, ⟨lb, rfl, hG⟩, hb2⟩
    clear HF
    have k12 := k1.later hb2
    have k22 := k2.later hb2
    have hB2 := hB.trans (hb2.mono hB.size)
    have hsz2 := hb2.size
    clear k1 k2 hb2
    go_wp2
    have hseq := hG [w.heap.size + 1] w2 (Below.refl _ _) (by intro k hk; simp at hk; omega)
    refine (wpIn_wide (n := 6)).1 (range_x (gf := 45) (lb := lb) (encs := encC) (xs := xs) (L := [w.heap.size + 1]) rfl (enters_of Try.func45 (by kernel_rfl) rfl) hseq (fun _ _ => rfl)
      (fun i W => Below w.heap.size w W ∧ Blk W w.heap.size 9 #[.string mem] ∧ Blk W (w.heap.size + 1) 3 #[.int .i64 0] ∧ ∀ (j : Nat) (c : Cut), j < i → xs[j]? = some c → c.m ≠ mem)
      (fun c j W => match c with
        | .ret => ∃ (i : Nat) (x : Cut), xs[i]? = some x ∧ x.m = mem ∧ (∀ (j : Nat) (c : Cut), j < i → xs[j]? = some c → c.m ≠ mem) ∧ Below w.heap.size w W ∧ Blk W (w.heap.size + 1) 3 #[.int .i64 (i : Int)]
        | _ => False)
      ?hI ?hIx ?h0 (fun i x a' W => ∃ q, (∃ u0 u1 u11 u12, a' = { tmps := #[u0, u1, undef, Value.pointer (some { block := w.heap.size, off := 0 }),
          Value.pointer (some { block := w.heap.size + 1, off := 0 }), Value.int IntKind.i64 i, Value.pointer (some { block := q, off := 0 }), Value.string p, u11, u12, Value.string p, 
          Value.func (Fn.func 45) #[] lb, Value.int IntKind.i64 i, Value.agg #[Value.string x.m, Value.int IntKind.i64 x.s, Value.int IntKind.i64 x.fr, Value.int IntKind.i64 x.to], undef, undef, undef, undef, undef, undef], defers := [] }) ∧ Blk W q 61 #[.string x.m, .int .i64 x.s, .int .i64 x.fr, .int .i64 x.to])
      (fun _ _ _ => own_ex fun _ => (own_pure _ _).and (own_blk _ _ _ _)) ?assign ?body ?done ?stop)
    case hI => exact (own_below _ w (by omega)).and ((own_blk _ _ _ _).and ((own_blk _ _ _ _).and (own_pure _ _)))
    case hIx =>
      intro c
      cases c with
      | ret => exact own_ex fun i => own_ex fun x => (own_pure _ _).and ((own_pure _ _).and ((own_pure _ _).and ((own_below _ w (by omega)).and (own_blk _ _ _ _))))
      | _ => exact own_pure _ _
    case h0 => exact ⟨hB2, k12, k22, fun j c hj => by omega⟩
    case assign =>
      rintro l i x W K hx' ⟨hb, q1, q2, hgd⟩ hK
      clear hseq hG
      unfold encC Cut.val
      gi_wp2
      have hbw := (Below.refl W.heap.size W).alloc (Nat.le_refl _) (Obj.cells #[Value.string x.m, Value.int IntKind.i64 x.s, Value.int IntKind.i64 x.fr, Value.int IntKind.i64 x.to] 61)
      exact hK _ _ ((KeepsOthers.alloc _ _).from _) (KeepC.of_below hbw) ⟨hb.alloc hb.size _, q1.alloc _, q2.alloc _, hgd⟩ ⟨_, ⟨_, _, _, _, rfl⟩, Blk.new _ _ _⟩
    case body =>
      rintro l i x a' W hx' ⟨hb, q1, q2, hgd⟩ ⟨q, ⟨u0, u1, u11, u12, rfl⟩, q6⟩
      clear hseq hG
      obtain ⟨c1, _⟩ := facts1 q1
      obtain ⟨d0, d1, d2, d3, _⟩ := facts4 q6
      obtain ⟨g0, g1⟩ := facts1 q2
      have Q2 := Lib.hid q2
      by_cases hik : x.m = mem
      · have HX := Lib.hid hx'
        have HM := Lib.hid hik
        have hbeq : (x.m.toList == mem.toList) = true := by rw [hik]; simp
        clear hik
        gi_wp2
        exact ⟨(KeepsOthers.setCell _ _ _).from _, i, x, HX.out, HM.out, hgd, hb.setCell (p := ⟨w.heap.size + 1, 0, none⟩) (by simp) _, Q2.out.set 0 _⟩
      · have hbeq : (x.m.toList == mem.toList) = false := by
          rw [Bool.eq_false_iff]
          intro h
          rw [ByteArray.toList_eq, ByteArray.toList_eq] at h
          exact hik (ByteArray.ext (Array.ext' (by simpa using h)))
        have HIK := Lib.hid hik
        clear hik
        gi_wp2
        refine ⟨KeepsFrom.refl _ _, KeepC.refl _ _, hb, q1, Q2.out, fun j c hj hc => ?_⟩
        by_cases e : j = i
        · subst e; rw [hx'] at hc; cases hc; exact HIK.out
        · exact hgd j c (by omega) hc
    case done =>
      rintro D W hD ⟨hb, q1, q2, hgd⟩ hK
      clear hseq hG
      obtain ⟨g0, g1⟩ := facts1 q2
      have Q2 := Lib.hid q2
      have HK := Lib.hid hK
      clear hK q2
      simp only [Exit.inBlock, Exit.then]
      go_wp2
      have hD' : ∀ v, (W.setCell ⟨w.heap.size + 1, 0, none⟩ v).heap[D]? = some (.deferred (some [])) := fun v => (Below.heap_setCell _ _ _ _ (by simp; omega)).trans HK.out
      refine leave rfl (hD' _) (res1 (.inl rfl) Try.results25 rfl ((Q2.out.set 0 _).put' (hD' _) _)) ⟨?_, below_put (hb.setCell (p := ⟨w.heap.size + 1, 0, none⟩) (by simp) _) (by omega) _⟩
      rw [findS_none hgd]
    case stop =>
      rintro D c j W hD hI hK
      cases c with
      | ret =>
        obtain ⟨i, x, hx', hm, hf, hb, q2⟩ := hI
        clear hseq hG
        have Q2 := Lib.hid q2
        have HK := Lib.hid hK
        clear hK q2
        refine wpIn_wide.2 ?_
        go_wp2
        refine leave rfl HK.out (res1 (.inl rfl) Try.results25 rfl (Q2.out.put' HK.out _)) ⟨?_, below_put hb (by omega) _⟩
        rw [findS_some hx' hm hf]
      | _ => exact hI.elim
end Go.Proofs.Ytioidnfmpbdmhaa
