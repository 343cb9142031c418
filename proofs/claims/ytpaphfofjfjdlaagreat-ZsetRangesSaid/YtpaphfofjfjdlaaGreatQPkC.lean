/- Texts of one kind in one: PkFind, PkEntries, PkPick, PkWrite. -/
import Derived.Test.YtpaphfofjfjdlaaGreatQPkB
import Derived.Laws.AppendOwn
import Derived.Sort.CutIn
import Derived.Lib.AppendStr
import Derived.Laws.IdiomStrings
/- Find, once its text is known to be a pack or not. -/
namespace Go.Proofs.YtpaphfofjfjdlaaGreat.Pk
open Go.RowKit Go.Shelf
attribute [local go_sem] Oper.semAt_some

theorem leave0 {fn : Func} {R : Ending → World → Prop} {a : Act} {W : World} {v : Value} (hd : a.defers = []) (hr : (results fn a.tmps).run Tryz.prog W = .ok v W) (hR : R (.returned v) W) : bodyPostM Fence.wide 6 Tryz.prog fn R .ret a W := by
  obtain ⟨tmps, ds⟩ := a
  simp only at hd
  subst hd
  exact ⟨v, hr, hR⟩

/-- The place of a member's first entry. -/
def findS (xs : List Cut) (m : ByteArray) : Int := match xs.findIdx? (fun c => decide (c.m = m)) with
  | none => -1
  | some i => i

theorem findS_none {xs : List Cut} {mem : ByteArray} (h : ∀ (j : Nat) (c : Cut), j < xs.length → xs[j]? = some c → c.m ≠ mem) : findS xs mem = -1 := by
  unfold findS
  rw [List.findIdx?_eq_none_iff.2 fun c hc => ?_]
  obtain ⟨j, hj, rfl⟩ := List.mem_iff_getElem.1 hc
  simpa using h j _ hj (List.getElem?_eq_getElem hj)
theorem findS_some {xs : List Cut} {mem : ByteArray} {i : Nat} {x : Cut} (hx : xs[i]? = some x) (hm : x.m = mem) (h : ∀ (j : Nat) (c : Cut), j < i → xs[j]? = some c → c.m ≠ mem) : findS xs mem = i := by
  unfold findS
  obtain ⟨hi, rfl⟩ := List.getElem?_eq_some_iff.1 hx
  rw [List.findIdx?_eq_some_iff_getElem.2 ⟨hi, by simpa using hm, fun j hj => by simpa using h j _ hj (List.getElem?_eq_getElem (by omega))⟩]

set_option maxRecDepth 100000 in
set_option maxHeartbeats 4000000 in
theorem find_walk (p mem : ByteArray) (hp : p.size ≤ 281474976710656) (ok : Bool) (HR : ∀ w, Hid (Calls Tryz.prog 75 #[.string p] w fun e w' => e = .returned (.bool ok) ∧ Below w.heap.size w w')) (xs : List Cut) (hc : Chain (nextF p) (begunS p 2) xs) (hx : ∀ c ∈ xs, c.to ≤ p.size) (w : World) :
    Calls Tryz.prog 148 #[.string p, .string mem] w fun e w' => e = .returned (.int .i64 (if ok then findS xs mem else -1)) ∧ Below w.heap.size w w' := by
  have HF := fun w => Lib.hid (forth_any p hp xs hc hx w)
  have hmany := hc.many
  clear hc
  refine (callsIn_wide (n := 6)).1 (callsIn_of_wp_marks Tryz.func148 rfl trivial ?_ rfl)
  refine wpIn_wide.2 ?_
  simp only [Tryz.ntmps148, List.size_toArray, List.length_cons, List.length_nil, Nat.reduceAdd, Nat.reduceSub, Array.replicate_succ, Array.replicate_zero, List.push_toArray, List.append_toArray, List.nil_append, List.cons_append]
  go_wp2_with fail
  refine (HR _).out.mono ?_
  clear HR
  rintro e w1 ⟨rfl, hb1⟩
  have k1 := ((Blk.new w 9 #[Value.string mem]).alloc (Obj.cells #[Value.int IntKind.i64 0] 3)).later hb1
  have k2 := (Blk.new (w.alloc (Obj.cells #[Value.string mem] 9)) 3 #[Value.int IntKind.i64 0]).later hb1
  rw [World.size_alloc] at k2
  have hB := (((Below.refl w.heap.size w).alloc (Nat.le_refl _) (Obj.cells #[Value.string mem] 9)).alloc (by simp) (Obj.cells #[Value.int IntKind.i64 0] 3)).trans (hb1.mono (by simp; omega))
  have hsz1 := hb1.size
  simp only [World.size_alloc] at hsz1
  clear hb1
  cases ok with
  | false =>
    obtain ⟨c2, f2⟩ := facts1 k2
    clear HF
    have Q2 := Lib.hid k2
    clear k2
    go_wp2
    exact leave0 rfl (res1 (.inl rfl) Tryz.results148 rfl (Q2.out.set 0 _)) ⟨rfl, hB.setCell (p := ⟨w.heap.size + 1, 0, none⟩) (by simp) _⟩
  | true =>
    go_wp2_with fail
    refine (HF _).out.mono ?_
    rintro e w2 ⟨v, rfl, ⟨lb, rfl, hG⟩, hb2⟩
    clear HF
    have k12 := k1.later hb2
    have k22 := k2.later hb2
    have hB2 := hB.trans (hb2.mono hB.size)
    have hsz2 := hb2.size
    clear k1 k2 hb2
    go_wp2
    have hseq := hG [w.heap.size + 1] w2 (Below.refl _ _) (by intro k hk; simp at hk; omega)
    refine (wpIn_wide (n := 6)).1 (range_x (gf := 109) (lb := lb) (encs := encC) (xs := xs) (L := [w.heap.size + 1]) rfl (enters_of Tryz.func109 (by kernel_rfl) rfl) hseq (fun _ _ => rfl)
      (fun i W => Below w.heap.size w W ∧ Blk W w.heap.size 9 #[.string mem] ∧ Blk W (w.heap.size + 1) 3 #[.int .i64 0] ∧ ∀ (j : Nat) (c : Cut), j < i → xs[j]? = some c → c.m ≠ mem)
      (fun c j W => match c with
        | .ret => ∃ (i : Nat) (x : Cut), xs[i]? = some x ∧ x.m = mem ∧ (∀ (j : Nat) (c : Cut), j < i → xs[j]? = some c → c.m ≠ mem) ∧ Below w.heap.size w W ∧ Blk W (w.heap.size + 1) 3 #[.int .i64 (i : Int)]
        | _ => False)
      ?hI ?hIx ?h0 (fun i x a' W => ∃ q, (∃ u0 u1 u11 u12, a' = { tmps := #[u0, u1, undef, Value.pointer (some { block := w.heap.size, off := 0 }),
          Value.pointer (some { block := w.heap.size + 1, off := 0 }), Value.int IntKind.i64 i, Value.pointer (some { block := q, off := 0 }), Value.string p, u11, u12, Value.string p, 
          Value.func (Fn.func 109) #[] lb, Value.int IntKind.i64 i, Value.agg #[Value.string x.m, Value.int IntKind.i64 x.s, Value.int IntKind.i64 x.fr, Value.int IntKind.i64 x.to], undef, undef, undef, undef, undef, undef], defers := [] }) ∧ Blk W q 166 #[.string x.m, .int .i64 x.s, .int .i64 x.fr, .int .i64 x.to])
      (fun _ _ _ => own_ex fun _ => (own_pure _ _).and (own_blk _ _ _ _)) ?assign ?body ?done ?stop)
    case hI => exact (own_below _ w (by omega)).and ((own_blk _ _ _ _).and ((own_blk _ _ _ _).and (own_pure _ _)))
    case hIx =>
      intro c
      cases c with
      | ret => exact own_ex fun i => own_ex fun x => (own_pure _ _).and ((own_pure _ _).and ((own_pure _ _).and ((own_below _ w (by omega)).and (own_blk _ _ _ _))))
      | _ => exact own_pure _ _
    case h0 => exact ⟨hB2, k12, k22, fun j c hj => by omega⟩
    case assign =>
      rintro l i x W K hx' ⟨hb, q1, q2, hgd⟩ hK
      clear hseq hG
      unfold encC Cut.val
      gi_wp2
      have hbw := (Below.refl W.heap.size W).alloc (Nat.le_refl _) (Obj.cells #[Value.string x.m, Value.int IntKind.i64 x.s, Value.int IntKind.i64 x.fr, Value.int IntKind.i64 x.to] 166)
      exact hK _ _ ((KeepsOthers.alloc _ _).from _) (KeepC.of_below hbw) ⟨hb.alloc hb.size _, q1.alloc _, q2.alloc _, hgd⟩ ⟨_, ⟨_, _, _, _, rfl⟩, Blk.new _ _ _⟩
    case body =>
      rintro l i x a' W hx' ⟨hb, q1, q2, hgd⟩ ⟨q, ⟨u0, u1, u11, u12, rfl⟩, q6⟩
      clear hseq hG
      obtain ⟨c1, _⟩ := facts1 q1
      obtain ⟨d0, d1, d2, d3, _⟩ := facts4 q6
      obtain ⟨g0, g1⟩ := facts1 q2
      have Q2 := Lib.hid q2
      by_cases hik : x.m = mem
      · have HX := Lib.hid hx'
        have HM := Lib.hid hik
        have hbeq : (x.m.toList == mem.toList) = true := by rw [hik]; simp
        clear hik
        gi_wp2
        exact ⟨(KeepsOthers.setCell _ _ _).from _, i, x, HX.out, HM.out, hgd, hb.setCell (p := ⟨w.heap.size + 1, 0, none⟩) (by simp) _, Q2.out.set 0 _⟩
      · have hbeq : (x.m.toList == mem.toList) = false := by
          rw [Bool.eq_false_iff]
          intro h
          rw [ByteArray.toList_eq, ByteArray.toList_eq] at h
          exact hik (ByteArray.ext (Array.ext' (by simpa using h)))
        have HIK := Lib.hid hik
        clear hik
        gi_wp2
        refine ⟨KeepsFrom.refl _ _, KeepC.refl _ _, hb, q1, Q2.out, fun j c hj hc => ?_⟩
        by_cases e : j = i
        · subst e; rw [hx'] at hc; cases hc; exact HIK.out
        · exact hgd j c (by omega) hc
    case done =>
      rintro D W hD ⟨hb, q1, q2, hgd⟩ hK
      clear hseq hG
      obtain ⟨g0, g1⟩ := facts1 q2
      have Q2 := Lib.hid q2
      have HK := Lib.hid hK
      clear hK q2
      simp only [Exit.inBlock, Exit.then]
      go_wp2
      have hD' : ∀ v, (W.setCell ⟨w.heap.size + 1, 0, none⟩ v).heap[D]? = some (.deferred (some [])) := fun v => (Below.heap_setCell _ _ _ _ (by simp; omega)).trans HK.out
      refine leave rfl (hD' _) (res1 (.inl rfl) Tryz.results148 rfl ((Q2.out.set 0 _).put' (hD' _) _)) ⟨?_, below_put (hb.setCell (p := ⟨w.heap.size + 1, 0, none⟩) (by simp) _) (by omega) _⟩
      rw [findS_none hgd]
    case stop =>
      rintro D c j W hD hI hK
      cases c with
      | ret =>
        obtain ⟨i, x, hx', hm, hf, hb, q2⟩ := hI
        clear hseq hG
        have Q2 := Lib.hid q2
        have HK := Lib.hid hK
        clear hK q2
        refine wpIn_wide.2 ?_
        go_wp2
        refine leave rfl HK.out (res1 (.inl rfl) Tryz.results148 rfl (Q2.out.put' HK.out _)) ⟨?_, below_put hb (by omega) _⟩
        rw [findS_some hx' hm hf]
      | _ => exact hI.elim
end Go.Proofs.YtpaphfofjfjdlaaGreat.Pk
/- The entries that an iterator goes through, as a list. -/
namespace Go.Proofs.YtpaphfofjfjdlaaGreat.Pk
open Go.RowKit Go.Shelf
attribute [local go_sem] Oper.semAt_some

/-- An entry. -/
abbrev Ent := ByteArray × Int
def Cut.ent (c : Cut) : Ent := (c.m, c.s)
/-- Entries' cells. -/
def cellsE (l : List Ent) : List Value := l.flatMap fun e => [.string e.1, .int .i64 e.2]
theorem cellsE_append (a b : List Ent) : cellsE (a ++ b) = cellsE a ++ cellsE b := by simp [cellsE]
theorem cellsE_length (l : List Ent) : (cellsE l).length = l.length * 2 := by
  induction l with
  | nil => rfl
  | cons e l ih => rw [show cellsE (e :: l) = [.string e.1, .int .i64 e.2] ++ cellsE l from rfl]; simp [ih]; omega
/-- A list of entries in memory of one's own. -/
def Own35 (W : World) (n0 : Nat) (v : Value) (l : List Ent) : Prop := W.ownsRow n0 48 2 v l.length (cellsE l)

theorem own_row {β : Type} (B n0 : Nat) (v : Value) (l : β → List Ent) : OwnFrom B (fun s W => Own35 W n0 v (l s)) := fun s X Y row hs hg hr =>
  World.ownsRow.kept hs hg (by
    rcases hs.2 with ⟨rfl, _⟩ | ⟨g, cap, cur, rfl, _, hgb, _⟩
    · exact .inl rfl
    · refine .inr (fun e => ?_)
      obtain ⟨_, o, ho, hc⟩ := hr g e.symm
      rw [hgb] at ho; cases ho; cases hc)

theorem info48 : (Tryz.prog.info? 48).map (fun i => (i.zero, i.size, i.bytes)) = some (some (.agg #[.string ⟨#[]⟩, .int .i64 0]), 2, 24) := by kernel_rfl

theorem stepIn_append {F : Fence} {n : Nat} {P : Program} {ops : Array Oper} {o : Oper} {a : Act} {w w' : World} {K : Act → World → Prop} {Q : Exit → Act → World → Prop} {E : Prop} {v xv v' : Value} (hgd : o.guard = none) (s x : Operand) (t u : TypeId)
    (ho : o.op = Op.call { callee := Callee.builtin Builtin.append, args := #[s, x], argTypes := #[t, u] }) (hs : a.eval s = v) (hx : a.eval x = xv) (hrun : (Builtin.append_ #[t, u] o.type #[v, xv]).run P w = .ok v' w')
    (h : K (a.put o.dst v') w') : if Region.wanted o (yielded ops a.tmps) = true then Oper.wpIn F n P o a w K Q else E := by
  have hw : Region.wanted o (yielded ops a.tmps) = true := by simp [Region.wanted, hgd]
  rw [if_pos hw]
  unfold Oper.wpIn
  refine ⟨?_, ?_⟩
  · simp [Oper.about, ho, resolve, Target.leads, Sem.run_pure]
  · rw [Oper.semAt_plain F _ _ (by rw [ho]; intro c hc'; cases hc')]
    simp [execOp, ho, resolve, invoke, builtin, hs, hx, hrun, Result.andThen]
    exact h

theorem below_drew {W W6 : World} (h : Below W.drew.heap.size W.drew W6) : Below W.heap.size W W6 := (Below.refl W.heap.size W).drew.trans h
theorem Own35.later {W W6 : World} {n0 : Nat} {r : Value} {l : List Ent} (h : Own35 W n0 r l) (hb : Below W.heap.size W W6) : Own35 W6 n0 r l := World.ownsRow.kept h (below_grown hb) (by
  rcases h.2 with ⟨rfl, _⟩ | ⟨g, cap, cur, rfl, _⟩
  · exact .inl rfl
  · exact .inr (by simp [Value.ownBlock]))
theorem Blk.row {W W7 : World} {b n0 : Nat} {t : TypeId} {c : Array Value} {r : Value} {l : List Ent} {o : Obj} (h : Blk W b t c) (hg : (W.alloc o).grownBy W7 r.ownBlock) (ho : Own35 W n0 r l) (ht : t ≠ 48 := by decide) : Blk W7 b t c :=
  (hg.block b (h.alloc o).lt (fun e => by
    rcases ho.2 with ⟨rfl, _⟩ | ⟨g, cap, cur, rfl, _, hgb, _⟩
    · simp [Value.ownBlock] at e
    · simp [Value.ownBlock] at e
      subst e
      have := (show W.heap[b]? = _ from h).symm.trans hgb
      simp at this
      exact ht this.2)).trans (h.alloc o)
theorem app_ent {i0 : TypeInfo} (hi0 : Tryz.prog.info? 48 = some i0) (hz0 : i0.zero = some (Value.agg #[Value.string { data := #[] }, Value.int IntKind.i64 0])) (hz1 : i0.size = 2) (hz2 : i0.bytes = 24)
    {W W6 : World} {n0 : Nat} {r : Value} {l : List Ent} (hown : Own35 W n0 r l) (hb : Below W.heap.size W W6) (e : Ent) (hl : l.length ≤ 1000000000) (hn : n0 ≤ W6.heap.size) :
    ∃ g cap W7, (Builtin.append_ #[35, 35] 35 #[r, .slice (some ⟨W6.heap.size, 0, none⟩) 1 1]).run Tryz.prog (W6.alloc (.cells #[.string e.1, .int .i64 e.2] 48)) = .ok (.slice (some ⟨g, 0, none⟩) (l.length + 1) cap) W7 ∧
      Own35 W7 n0 (.slice (some ⟨g, 0, none⟩) (l.length + 1) cap) (l ++ [e]) ∧ (W6.alloc (.cells #[.string e.1, .int .i64 e.2] 48)).grownBy W7 r.ownBlock := by
  obtain ⟨v', w', hrun, r1, r2, r3⟩ := run_append_own (P := Tryz.prog) (W6.alloc (.cells #[.string e.1, .int .i64 e.2] 48)) n0 35 35 48 i0 _ 2 24 Tryz.underlying35 hi0 hz0 hz1 hz2 rfl (by decide) r _ _ (World.ownsRow.alloc (hown.later hb) _) ⟨W6.heap.size, 0, none⟩ 1 1 [.string e.1, .int .i64 e.2] rfl
    (fun j u hj => by
      have hB := Blk.new W6 48 #[.string e.1, .int .i64 e.2]
      match j, hj with
      | 0, hj => simp at hj; subst hj; exact hB.cell 0
      | 1, hj => simp at hj; subst hj; simp [Addr.add]
      | j + 2, hj => simp at hj)
    (by simp [Value.oneCell']) (by unfold maxLen; omega) (by omega) (by simp; omega)
  have r1' : Own35 w' n0 v' (l ++ [e]) := by
    unfold Own35
    rw [cellsE_append, List.length_append]
    exact r1
  rcases r1.2 with ⟨rfl, h0⟩ | ⟨g, cap, cur, rfl, _⟩
  · omega
  · exact ⟨g, cap, w', hrun, r1', r2⟩

theorem ownsRow_mono {w : World} {base base' : Nat} {e : TypeId} {size : Nat} {v : Value} {n : Nat} {xs : List Value} (h : w.ownsRow base e size v n xs) (hb : base' ≤ base) : w.ownsRow base' e size v n xs := by
  refine ⟨h.1, ?_⟩
  rcases h.2 with hn | ⟨g, cap, cur, rfl, hb', rest⟩
  · exact .inl hn
  · exact .inr ⟨g, cap, cur, rfl, Nat.le_trans hb hb', rest⟩
theorem app_end {w0 W W6 W7 : World} {o : Obj} {b n0 : Nat} {r v' : Value} {l l' : List Ent} (h : Blk W b 35 #[r]) (ho : Own35 W n0 r l) (hb6 : Below W.heap.size W W6) (hgrow : (W6.alloc o).grownBy W7 r.ownBlock) (ho7 : Own35 W7 n0 v' l') (hbn : b < n0)
    (hB : Below w0.heap.size w0 W) (hw : w0.heap.size ≤ b) (B : Nat) (L : List Nat) :
    KeepsFrom B W (W7.setCell ⟨b, 0, none⟩ v') ∧ KeepC L W (W7.setCell ⟨b, 0, none⟩ v') ∧ Below w0.heap.size w0 (W7.setCell ⟨b, 0, none⟩ v') ∧ Blk (W7.setCell ⟨b, 0, none⟩ v') b 35 #[v'] ∧ Own35 (W7.setCell ⟨b, 0, none⟩ v') n0 v' l' := by
  have h7 := (h.later hb6).row hgrow (ho.later hb6)
  have hs6 := hb6.size
  have hsw := hB.size
  refine ⟨?_, ?_, ?_, h7.set 0 v', ?_⟩
  · refine (((KeepsFrom.of_grownBy (row := none) (below_grown hb6) (fun _ h => by cases h)).trans ((KeepsOthers.alloc _ _).from _)).trans ((KeepsOthers.of_grownBy hgrow fun j o ej hj => ?_).from B)).trans ((KeepsOthers.setCell _ _ _).from _)
    rcases (World.ownsRow.alloc (ho.later hb6) _).2 with ⟨rfl, _⟩ | ⟨g, cap, cur, rfl, _, hgb, _⟩
    · simp [Value.ownBlock] at ej
    · obtain rfl : g = j := by simpa [Value.ownBlock] using ej
      rw [hgb] at hj; cases hj; rfl
  · refine (((KeepC.of_below hb6).trans (KeepC.of_below ((Below.refl _ _).alloc (Nat.le_refl _) _))).trans (KeepC.of_grownBy hgrow fun k c t ek hk => ?_)).trans (KeepC.of_grownBy (row := some b) (grownBy_setCell' _ _ _) fun k c t ek hk => ?_)
    · rcases (World.ownsRow.alloc (ho.later hb6) o).2 with ⟨rfl, _⟩ | ⟨g, cap, cur, rfl, _, hgb, _⟩
      · simp [Value.ownBlock] at ek
      · obtain rfl : g = k := by simpa [Value.ownBlock] using ek
        rw [hgb] at hk; cases hk
        simp [itT]
    · cases ek
      rw [show W7.heap[b]? = _ from h7] at hk; cases hk
      simp [itT]
  · refine (((hB.trans (hb6.mono hsw)).alloc (by omega) o).grown hgrow (by simp; omega) fun k ek => ?_).setCell (p := ⟨b, 0, none⟩) hw v'
    have := (World.ownsRow.lt ho k ek).1
    omega
  · refine World.ownsRow.kept ho7 (grownBy_setCell' _ _ _) (.inr fun e => ?_)
    have := (World.ownsRow.lt ho7 b e).1
    omega

set_option maxRecDepth 100000 in
set_option maxHeartbeats 4000000 in
theorem entries_run (lb : Array Value) (xs : List Cut) (LL : Nat → List Ent) (hL0 : LL 0 = []) (hLs : ∀ (i : Nat) (x : Cut), xs[i]? = some x → LL (i + 1) = LL i ++ [(x.m, x.s)]) (hLn : ∀ i, i ≤ xs.length → (LL i).length = i)
    (hs : ∀ c ∈ xs, c.m.size ≤ 1000) (hlen : xs.length ≤ 1000000) (w : World) (hG : SeqX Tryz.prog 109 lb encC xs [] (w.alloc (Obj.cells #[Value.slice none 0 0] 35))) :
    Calls Tryz.prog 76 #[.func (.func 109) #[] lb] w fun e w' => ∃ r, e = .returned r ∧ Own35 w' w.heap.size r (LL xs.length) ∧ Below w.heap.size w w' := by
  obtain ⟨i0, hi0, hz0, hz1, hz2⟩ := info_parts info48
  refine (callsIn_wide (n := 6)).1 (callsIn_of_wp_marks Tryz.func76 rfl trivial ?_ rfl)
  refine wpIn_wide.2 ?_
  simp only [Tryz.ntmps76, List.size_toArray, List.length_cons, List.length_nil, Nat.reduceAdd, Nat.reduceSub, Array.replicate_succ, Array.replicate_zero, List.push_toArray, List.append_toArray, List.nil_append, List.cons_append]
  go_wp2
  have k1 := Blk.new w 35 #[Value.slice none 0 0]
  have hB := (Below.refl w.heap.size w).alloc (Nat.le_refl _) (Obj.cells #[Value.slice none 0 0] 35)
  have hsz : (w.alloc (Obj.cells #[Value.slice none 0 0] 35)).heap.size = w.heap.size + 1 := by simp
  have hseq := hG
  clear hG
  generalize w.alloc (Obj.cells #[Value.slice none 0 0] 35) = w1 at *
  refine (wpIn_wide (n := 6)).1 (range_x (gf := 109) (lb := lb) (encs := encC) (xs := xs) (L := []) rfl (enters_of Tryz.func109 (by kernel_rfl) rfl) hseq (fun _ _ => rfl)
    (fun i W => ∃ r, Below w.heap.size w W ∧ Blk W w.heap.size 35 #[r] ∧ Own35 W (w.heap.size + 1) r (LL i))
    (fun _ _ _ => False)
    ?hI (fun _ => own_pure _ _) ?h0 (fun i x a' W => ∃ q, (∃ u7, a' = { tmps := #[.func (.func 109) #[] lb, undef, Value.slice none 0 0, Value.pointer (some { block := w.heap.size, off := 0 }), undef,
          Value.pointer (some { block := q, off := 0 }), .func (.func 109) #[] lb, u7, Value.agg #[Value.string x.m, Value.int IntKind.i64 x.s, Value.int IntKind.i64 x.fr, Value.int IntKind.i64 x.to], undef, undef, undef, undef, undef, undef], defers := [] }) ∧ Blk W q 166 #[.string x.m, .int .i64 x.s, .int .i64 x.fr, .int .i64 x.to])
    (fun _ _ _ => own_ex fun _ => (own_pure _ _).and (own_blk _ _ _ _)) ?assign ?body ?done (fun _ _ _ _ _ h _ => h.elim))
  case hI => exact own_ex fun r => (own_below _ w (by omega)).and ((own_blk _ _ _ _).and (own_row _ _ _ _))
  case h0 => exact ⟨_, hB, k1, by rw [hL0]; exact World.ownsRow_nil _ _ _ _⟩
  case assign =>
    rintro l i x W K hx' ⟨r, hb, q1, hown⟩ hK
    clear hseq
    unfold encC Cut.val
    gi_wp2
    have hbw := (Below.refl W.heap.size W).alloc (Nat.le_refl _) (Obj.cells #[Value.string x.m, Value.int IntKind.i64 x.s, Value.int IntKind.i64 x.fr, Value.int IntKind.i64 x.to] 166)
    exact hK _ _ ((KeepsOthers.alloc _ _).from _) (KeepC.of_below hbw) ⟨r, hb.alloc hb.size _, q1.alloc _, World.ownsRow.alloc hown _⟩ ⟨_, ⟨_, rfl⟩, Blk.new _ _ _⟩
  case body =>
    rintro l i x a' W hx' ⟨r, hb, q1, hown⟩ ⟨q, ⟨u7, rfl⟩, q6⟩
    clear hseq
    have hil : i < xs.length := (List.getElem?_eq_some_iff.1 hx').1
    have hE := fun w => Lib.hid (entry_any x (hs x (List.mem_of_getElem? hx')) w)
    unfold Cut.val at hE
    obtain ⟨c1, f1⟩ := facts1 q1
    obtain ⟨d0, d1, d2, d3, _⟩ := facts4 q6
    have hmix : Tryz.prog.follows .mixedOrders = true := by kernel_rfl
    have hli := hLn i (by omega)
    have HLS := Lib.hid (hLs i x hx')
    gi_wp2
    refine wpIn_region_any hmix ?_
    change wpAnyIn _ _ _ _ _ _ _ _ _ (World.drew _)
    all_goals (first | refine wpAnyIn_ready (rs := [0, 1]) (by decide +kernel) (by simp) (AllReadyIn.cons rfl (fun K hK => ?_) (AllReadyIn.cons rfl (fun K hK => ?_) AllReadyIn.nil)) | refine wpAnyIn_ready (rs := [0, 2]) (by decide +kernel) (by simp) (AllReadyIn.cons rfl (fun K hK => ?_) (AllReadyIn.cons rfl (fun K hK => ?_) AllReadyIn.nil)) | refine wpAnyIn_ready (rs := [0, 3]) (by decide +kernel) (by simp) (AllReadyIn.cons rfl (fun K hK => ?_) (AllReadyIn.cons rfl (fun K hK => ?_) AllReadyIn.nil)) | refine wpAnyIn_ready (rs := [0]) (by decide +kernel) (by simp) (AllReadyIn.cons rfl (fun K hK => ?_) AllReadyIn.nil) | refine wpAnyIn_ready (rs := [1]) (by decide +kernel) (by simp) (AllReadyIn.cons rfl (fun K hK => ?_) AllReadyIn.nil) | refine wpAnyIn_ready (rs := [2]) (by decide +kernel) (by simp) (AllReadyIn.cons rfl (fun K hK => ?_) AllReadyIn.nil) | refine wpAnyIn_ready (rs := [3]) (by decide +kernel) (by simp) (AllReadyIn.cons rfl (fun K hK => ?_) AllReadyIn.nil) | refine wpAnyIn_ready (rs := [4]) (by decide +kernel) (by simp) (AllReadyIn.cons rfl (fun K hK => ?_) AllReadyIn.nil) | refine wpAnyIn_ready (rs := [5]) (by decide +kernel) (by simp) (AllReadyIn.cons rfl (fun K hK => ?_) AllReadyIn.nil))
    all_goals (first | (refine stepIn_append rfl _ _ 35 35 rfl rfl rfl hrun ?_; refine hK _ _ ?_; clear hK K hrun) | (go_simp; refine hK _ _ ?_; clear hK K) | (go_simp; (try refine ⟨trivial, ?_⟩); refine (CallsIn.inRound l (callsIn_wide.2 (hE _).out)).mono ?_; rintro e W6 ⟨rfl, hb6⟩; have q16 := q1.drew.later hb6; have hc6 := (facts1 q16).1; have hc6b := (facts1 (q16.alloc (Obj.cells #[.string x.m, .int .i64 x.s] 48))).1; obtain ⟨g7, cap7, w7, hrun, hown7, hgrow⟩ := app_ent hi0 hz0 hz1 hz2 hown (below_drew hb6) (x.m, x.s) (by omega) (by have h1 := hb6.size; have h2 := q1.lt; rw [show W.drew.heap.size = W.heap.size from rfl] at h1; omega); rw [hli] at hrun hown7; have q17 := q16.row hgrow (hown.later (below_drew hb6)); obtain ⟨c7, f7⟩ := facts1 q17; go_simp; refine hK _ _ ?_; clear hK K))
    all_goals (first | refine wpAnyIn_ready (rs := [0, 1]) (by decide +kernel) (by simp) (AllReadyIn.cons rfl (fun K hK => ?_) (AllReadyIn.cons rfl (fun K hK => ?_) AllReadyIn.nil)) | refine wpAnyIn_ready (rs := [0, 2]) (by decide +kernel) (by simp) (AllReadyIn.cons rfl (fun K hK => ?_) (AllReadyIn.cons rfl (fun K hK => ?_) AllReadyIn.nil)) | refine wpAnyIn_ready (rs := [0, 3]) (by decide +kernel) (by simp) (AllReadyIn.cons rfl (fun K hK => ?_) (AllReadyIn.cons rfl (fun K hK => ?_) AllReadyIn.nil)) | refine wpAnyIn_ready (rs := [0]) (by decide +kernel) (by simp) (AllReadyIn.cons rfl (fun K hK => ?_) AllReadyIn.nil) | refine wpAnyIn_ready (rs := [1]) (by decide +kernel) (by simp) (AllReadyIn.cons rfl (fun K hK => ?_) AllReadyIn.nil) | refine wpAnyIn_ready (rs := [2]) (by decide +kernel) (by simp) (AllReadyIn.cons rfl (fun K hK => ?_) AllReadyIn.nil) | refine wpAnyIn_ready (rs := [3]) (by decide +kernel) (by simp) (AllReadyIn.cons rfl (fun K hK => ?_) AllReadyIn.nil) | refine wpAnyIn_ready (rs := [4]) (by decide +kernel) (by simp) (AllReadyIn.cons rfl (fun K hK => ?_) AllReadyIn.nil) | refine wpAnyIn_ready (rs := [5]) (by decide +kernel) (by simp) (AllReadyIn.cons rfl (fun K hK => ?_) AllReadyIn.nil))
    all_goals (first | (refine stepIn_append rfl _ _ 35 35 rfl rfl rfl hrun ?_; refine hK _ _ ?_; clear hK K hrun) | (go_simp; refine hK _ _ ?_; clear hK K) | (go_simp; (try refine ⟨trivial, ?_⟩); refine (CallsIn.inRound l (callsIn_wide.2 (hE _).out)).mono ?_; rintro e W6 ⟨rfl, hb6⟩; have q16 := q1.drew.later hb6; have hc6 := (facts1 q16).1; have hc6b := (facts1 (q16.alloc (Obj.cells #[.string x.m, .int .i64 x.s] 48))).1; obtain ⟨g7, cap7, w7, hrun, hown7, hgrow⟩ := app_ent hi0 hz0 hz1 hz2 hown (below_drew hb6) (x.m, x.s) (by omega) (by have h1 := hb6.size; have h2 := q1.lt; rw [show W.drew.heap.size = W.heap.size from rfl] at h1; omega); rw [hli] at hrun hown7; have q17 := q16.row hgrow (hown.later (below_drew hb6)); obtain ⟨c7, f7⟩ := facts1 q17; go_simp; refine hK _ _ ?_; clear hK K))
    all_goals (first | refine wpAnyIn_ready (rs := [0, 1]) (by decide +kernel) (by simp) (AllReadyIn.cons rfl (fun K hK => ?_) (AllReadyIn.cons rfl (fun K hK => ?_) AllReadyIn.nil)) | refine wpAnyIn_ready (rs := [0, 2]) (by decide +kernel) (by simp) (AllReadyIn.cons rfl (fun K hK => ?_) (AllReadyIn.cons rfl (fun K hK => ?_) AllReadyIn.nil)) | refine wpAnyIn_ready (rs := [0, 3]) (by decide +kernel) (by simp) (AllReadyIn.cons rfl (fun K hK => ?_) (AllReadyIn.cons rfl (fun K hK => ?_) AllReadyIn.nil)) | refine wpAnyIn_ready (rs := [0]) (by decide +kernel) (by simp) (AllReadyIn.cons rfl (fun K hK => ?_) AllReadyIn.nil) | refine wpAnyIn_ready (rs := [1]) (by decide +kernel) (by simp) (AllReadyIn.cons rfl (fun K hK => ?_) AllReadyIn.nil) | refine wpAnyIn_ready (rs := [2]) (by decide +kernel) (by simp) (AllReadyIn.cons rfl (fun K hK => ?_) AllReadyIn.nil) | refine wpAnyIn_ready (rs := [3]) (by decide +kernel) (by simp) (AllReadyIn.cons rfl (fun K hK => ?_) AllReadyIn.nil) | refine wpAnyIn_ready (rs := [4]) (by decide +kernel) (by simp) (AllReadyIn.cons rfl (fun K hK => ?_) AllReadyIn.nil) | refine wpAnyIn_ready (rs := [5]) (by decide +kernel) (by simp) (AllReadyIn.cons rfl (fun K hK => ?_) AllReadyIn.nil))
    all_goals (first | (refine stepIn_append rfl _ _ 35 35 rfl rfl rfl hrun ?_; refine hK _ _ ?_; clear hK K hrun) | (go_simp; refine hK _ _ ?_; clear hK K) | (go_simp; (try refine ⟨trivial, ?_⟩); refine (CallsIn.inRound l (callsIn_wide.2 (hE _).out)).mono ?_; rintro e W6 ⟨rfl, hb6⟩; have q16 := q1.drew.later hb6; have hc6 := (facts1 q16).1; have hc6b := (facts1 (q16.alloc (Obj.cells #[.string x.m, .int .i64 x.s] 48))).1; obtain ⟨g7, cap7, w7, hrun, hown7, hgrow⟩ := app_ent hi0 hz0 hz1 hz2 hown (below_drew hb6) (x.m, x.s) (by omega) (by have h1 := hb6.size; have h2 := q1.lt; rw [show W.drew.heap.size = W.heap.size from rfl] at h1; omega); rw [hli] at hrun hown7; have q17 := q16.row hgrow (hown.later (below_drew hb6)); obtain ⟨c7, f7⟩ := facts1 q17; go_simp; refine hK _ _ ?_; clear hK K))
    all_goals (first | refine wpAnyIn_ready (rs := [0, 1]) (by decide +kernel) (by simp) (AllReadyIn.cons rfl (fun K hK => ?_) (AllReadyIn.cons rfl (fun K hK => ?_) AllReadyIn.nil)) | refine wpAnyIn_ready (rs := [0, 2]) (by decide +kernel) (by simp) (AllReadyIn.cons rfl (fun K hK => ?_) (AllReadyIn.cons rfl (fun K hK => ?_) AllReadyIn.nil)) | refine wpAnyIn_ready (rs := [0, 3]) (by decide +kernel) (by simp) (AllReadyIn.cons rfl (fun K hK => ?_) (AllReadyIn.cons rfl (fun K hK => ?_) AllReadyIn.nil)) | refine wpAnyIn_ready (rs := [0]) (by decide +kernel) (by simp) (AllReadyIn.cons rfl (fun K hK => ?_) AllReadyIn.nil) | refine wpAnyIn_ready (rs := [1]) (by decide +kernel) (by simp) (AllReadyIn.cons rfl (fun K hK => ?_) AllReadyIn.nil) | refine wpAnyIn_ready (rs := [2]) (by decide +kernel) (by simp) (AllReadyIn.cons rfl (fun K hK => ?_) AllReadyIn.nil) | refine wpAnyIn_ready (rs := [3]) (by decide +kernel) (by simp) (AllReadyIn.cons rfl (fun K hK => ?_) AllReadyIn.nil) | refine wpAnyIn_ready (rs := [4]) (by decide +kernel) (by simp) (AllReadyIn.cons rfl (fun K hK => ?_) AllReadyIn.nil) | refine wpAnyIn_ready (rs := [5]) (by decide +kernel) (by simp) (AllReadyIn.cons rfl (fun K hK => ?_) AllReadyIn.nil))
    all_goals (first | (refine stepIn_append rfl _ _ 35 35 rfl rfl rfl hrun ?_; refine hK _ _ ?_; clear hK K hrun) | (go_simp; refine hK _ _ ?_; clear hK K) | (go_simp; (try refine ⟨trivial, ?_⟩); refine (CallsIn.inRound l (callsIn_wide.2 (hE _).out)).mono ?_; rintro e W6 ⟨rfl, hb6⟩; have q16 := q1.drew.later hb6; have hc6 := (facts1 q16).1; have hc6b := (facts1 (q16.alloc (Obj.cells #[.string x.m, .int .i64 x.s] 48))).1; obtain ⟨g7, cap7, w7, hrun, hown7, hgrow⟩ := app_ent hi0 hz0 hz1 hz2 hown (below_drew hb6) (x.m, x.s) (by omega) (by have h1 := hb6.size; have h2 := q1.lt; rw [show W.drew.heap.size = W.heap.size from rfl] at h1; omega); rw [hli] at hrun hown7; have q17 := q16.row hgrow (hown.later (below_drew hb6)); obtain ⟨c7, f7⟩ := facts1 q17; go_simp; refine hK _ _ ?_; clear hK K))
    all_goals (first | refine wpAnyIn_ready (rs := [0, 1]) (by decide +kernel) (by simp) (AllReadyIn.cons rfl (fun K hK => ?_) (AllReadyIn.cons rfl (fun K hK => ?_) AllReadyIn.nil)) | refine wpAnyIn_ready (rs := [0, 2]) (by decide +kernel) (by simp) (AllReadyIn.cons rfl (fun K hK => ?_) (AllReadyIn.cons rfl (fun K hK => ?_) AllReadyIn.nil)) | refine wpAnyIn_ready (rs := [0, 3]) (by decide +kernel) (by simp) (AllReadyIn.cons rfl (fun K hK => ?_) (AllReadyIn.cons rfl (fun K hK => ?_) AllReadyIn.nil)) | refine wpAnyIn_ready (rs := [0]) (by decide +kernel) (by simp) (AllReadyIn.cons rfl (fun K hK => ?_) AllReadyIn.nil) | refine wpAnyIn_ready (rs := [1]) (by decide +kernel) (by simp) (AllReadyIn.cons rfl (fun K hK => ?_) AllReadyIn.nil) | refine wpAnyIn_ready (rs := [2]) (by decide +kernel) (by simp) (AllReadyIn.cons rfl (fun K hK => ?_) AllReadyIn.nil) | refine wpAnyIn_ready (rs := [3]) (by decide +kernel) (by simp) (AllReadyIn.cons rfl (fun K hK => ?_) AllReadyIn.nil) | refine wpAnyIn_ready (rs := [4]) (by decide +kernel) (by simp) (AllReadyIn.cons rfl (fun K hK => ?_) AllReadyIn.nil) | refine wpAnyIn_ready (rs := [5]) (by decide +kernel) (by simp) (AllReadyIn.cons rfl (fun K hK => ?_) AllReadyIn.nil))
    all_goals (first | (refine stepIn_append rfl _ _ 35 35 rfl rfl rfl hrun ?_; refine hK _ _ ?_; clear hK K hrun) | (go_simp; refine hK _ _ ?_; clear hK K) | (go_simp; (try refine ⟨trivial, ?_⟩); refine (CallsIn.inRound l (callsIn_wide.2 (hE _).out)).mono ?_; rintro e W6 ⟨rfl, hb6⟩; have q16 := q1.drew.later hb6; have hc6 := (facts1 q16).1; have hc6b := (facts1 (q16.alloc (Obj.cells #[.string x.m, .int .i64 x.s] 48))).1; obtain ⟨g7, cap7, w7, hrun, hown7, hgrow⟩ := app_ent hi0 hz0 hz1 hz2 hown (below_drew hb6) (x.m, x.s) (by omega) (by have h1 := hb6.size; have h2 := q1.lt; rw [show W.drew.heap.size = W.heap.size from rfl] at h1; omega); rw [hli] at hrun hown7; have q17 := q16.row hgrow (hown.later (below_drew hb6)); obtain ⟨c7, f7⟩ := facts1 q17; go_simp; refine hK _ _ ?_; clear hK K))
    all_goals (first | refine wpAnyIn_ready (rs := [0, 1]) (by decide +kernel) (by simp) (AllReadyIn.cons rfl (fun K hK => ?_) (AllReadyIn.cons rfl (fun K hK => ?_) AllReadyIn.nil)) | refine wpAnyIn_ready (rs := [0, 2]) (by decide +kernel) (by simp) (AllReadyIn.cons rfl (fun K hK => ?_) (AllReadyIn.cons rfl (fun K hK => ?_) AllReadyIn.nil)) | refine wpAnyIn_ready (rs := [0, 3]) (by decide +kernel) (by simp) (AllReadyIn.cons rfl (fun K hK => ?_) (AllReadyIn.cons rfl (fun K hK => ?_) AllReadyIn.nil)) | refine wpAnyIn_ready (rs := [0]) (by decide +kernel) (by simp) (AllReadyIn.cons rfl (fun K hK => ?_) AllReadyIn.nil) | refine wpAnyIn_ready (rs := [1]) (by decide +kernel) (by simp) (AllReadyIn.cons rfl (fun K hK => ?_) AllReadyIn.nil) | refine wpAnyIn_ready (rs := [2]) (by decide +kernel) (by simp) (AllReadyIn.cons rfl (fun K hK => ?_) AllReadyIn.nil) | refine wpAnyIn_ready (rs := [3]) (by decide +kernel) (by simp) (AllReadyIn.cons rfl (fun K hK => ?_) AllReadyIn.nil) | refine wpAnyIn_ready (rs := [4]) (by decide +kernel) (by simp) (AllReadyIn.cons rfl (fun K hK => ?_) AllReadyIn.nil) | refine wpAnyIn_ready (rs := [5]) (by decide +kernel) (by simp) (AllReadyIn.cons rfl (fun K hK => ?_) AllReadyIn.nil))
    all_goals (first | (refine stepIn_append rfl _ _ 35 35 rfl rfl rfl hrun ?_; refine hK _ _ ?_; clear hK K hrun) | (go_simp; refine hK _ _ ?_; clear hK K) | (go_simp; (try refine ⟨trivial, ?_⟩); refine (CallsIn.inRound l (callsIn_wide.2 (hE _).out)).mono ?_; rintro e W6 ⟨rfl, hb6⟩; have q16 := q1.drew.later hb6; have hc6 := (facts1 q16).1; have hc6b := (facts1 (q16.alloc (Obj.cells #[.string x.m, .int .i64 x.s] 48))).1; obtain ⟨g7, cap7, w7, hrun, hown7, hgrow⟩ := app_ent hi0 hz0 hz1 hz2 hown (below_drew hb6) (x.m, x.s) (by omega) (by have h1 := hb6.size; have h2 := q1.lt; rw [show W.drew.heap.size = W.heap.size from rfl] at h1; omega); rw [hli] at hrun hown7; have q17 := q16.row hgrow (hown.later (below_drew hb6)); obtain ⟨c7, f7⟩ := facts1 q17; go_simp; refine hK _ _ ?_; clear hK K))
    all_goals refine wpAnyIn_done (by decide +kernel) ?_ _
    all_goals gi_wp2
    all_goals (
      obtain ⟨z1, z2, z3, z4, z5⟩ := app_end q1 hown (below_drew hb6) hgrow hown7 (by omega) hb (Nat.le_refl _) (w.heap.size + 1) []
      exact ⟨z1, z2, z3, _, z4, by rw [HLS.out]; exact z5⟩)
  case done =>
    rintro D W hD ⟨r, hb, q1, hown⟩ hK
    clear hseq
    obtain ⟨g0, g1⟩ := facts1 q1
    have Q2 := Lib.hid q1
    have HK := Lib.hid hK
    have HO := Lib.hid hown
    clear hK q1 hown
    simp only [Exit.inBlock, Exit.then]
    go_wp2
    refine leave rfl HK.out (results_tmp rfl _ _ _) ⟨_, rfl, ownsRow_mono (ownsRow_putObj HO.out _ HK.out rfl) (by omega), below_put hb (by omega) _⟩

theorem entries_any (v : Value) (xs : List Cut) (n0 : Nat) (w0 : World) (hG : Goes v xs n0 w0) (hs : ∀ c ∈ xs, c.m.size ≤ 1000) (hlen : xs.length ≤ 1000000) (w : World) (hw : Below w0.heap.size w0 w) :
    Calls Tryz.prog 76 #[v] w fun e w' => ∃ r, e = .returned r ∧ Own35 w' w.heap.size r (xs.map Cut.ent) ∧ Below w.heap.size w w' := by
  obtain ⟨lb, rfl, hG⟩ := hG
  have := entries_run lb xs (fun i => (xs.take i).map Cut.ent) rfl (fun i x hx => by
    obtain ⟨hi, rfl⟩ := List.getElem?_eq_some_iff.1 hx
    rw [List.take_succ_eq_append_getElem hi, List.map_append]; rfl) (fun i hi => by simp; omega) hs hlen w (hG [] _ (hw.alloc hw.size _) (by intro k hk; simp at hk))
  rwa [show (xs.take xs.length).map Cut.ent = xs.map Cut.ent by rw [List.take_of_length_le (Nat.le_refl _)]] at this
end Go.Proofs.YtpaphfofjfjdlaaGreat.Pk
/- What is read of a pack: its entries, from the front and from the end, one of them, where a member is. -/
namespace Go.Proofs.YtpaphfofjfjdlaaGreat.Pk
open Go.RowKit Go.Shelf
attribute [local go_sem] Oper.semAt_some

/-- The entries of a text; none, if it is no pack. -/
def packOf (p : ByteArray) : List Cut := (entriesS p).getD []
def entsOf (p : ByteArray) : List Ent := (packOf p).map Cut.ent

structure IsPack (p : ByteArray) (cs : List Cut) : Prop where
  go : goS p cs.length 2 = some cs
  count : countS p = cs.length
  many : cs.length ≤ 200
  chain : Chain (nextF p) (begunS p 2) cs
  each : ∀ c ∈ cs, 2 ≤ c.fr ∧ 2 ≤ c.to ∧ c.to ≤ p.size ∧ c.fr ≤ p.size ∧ endedS p c.to = some c
  ends : endOf cs cs.length = p.size
  two : 2 ≤ p.size
  short : ∀ c ∈ cs, c.m.size ≤ 64

theorem begun_of_mem {p : ByteArray} {cs : List Cut} (hc : Chain (nextF p) (begunS p 2) cs) {c : Cut} (h : c ∈ cs) : begunS p c.fr = some c := by
  obtain ⟨i, hi, rfl⟩ := List.mem_iff_getElem.1 h
  have hx : cs[i]? = some cs[i] := List.getElem?_eq_getElem hi
  have hb := (chain_at hc i (by omega)).trans hx
  rw [(begunS_some hb).2.1]
  exact hb

theorem isPack_of {p : ByteArray} (h : rightB p = true) : IsPack p (packOf p) := by
  unfold rightB at h
  obtain ⟨cs, hcs⟩ := Option.isSome_iff_exists.1 h
  have hp : packOf p = cs := by unfold packOf; rw [hcs]; rfl
  rw [hp]
  unfold entriesS at hcs
  have hr := countS_range p
  split at hcs
  · next hn =>
    obtain ⟨h1, h2, h3, h4, h5⟩ := goS_some _ _ _ hcs
    have htwo : 2 ≤ p.size := by
      rcases Nat.lt_or_ge p.size 2 with h | h
      · unfold countS at hn; rw [if_pos h] at hn; omega
      · exact h
    have hc : Chain (nextF p) (begunS p 2) cs := ⟨h2, h3, fun c hc => (h4 c hc).1, by omega⟩
    refine ⟨by rw [h1]; exact hcs, by omega, by omega, hc, h4, ?_, htwo, fun c hm => ?_⟩
    · cases cs with
      | nil => simpa [endOf] using h5
      | cons c l =>
        rw [List.getLast?_eq_getElem?] at h5
        simp only [List.length_cons, Nat.add_sub_cancel] at h5
        unfold endOf
        simp only [List.length_cons]
        have hx : (c :: l)[l.length]? = some ((c :: l)[l.length]'(by simp)) := List.getElem?_eq_getElem (by simp)
        rw [hx] at h5 ⊢
        exact h5
    · obtain ⟨_, _, _, _, h64, _, hm2, _⟩ := begunS_some (begun_of_mem hc hm)
      omega
  · cases hcs

theorem packOf_wrong {p : ByteArray} (h : rightB p = false) : packOf p = [] := by
  unfold rightB at h
  unfold packOf
  cases he : entriesS p with
  | none => rfl
  | some cs => rw [he] at h; simp at h

/-- From the end. -/
theorem ended_at {p : ByteArray} {cs : List Cut} (h : IsPack p cs) : ∀ i, i ≤ cs.length → endedS p (endOf cs i) = if i = 0 then none else cs[i - 1]?
  | 0, _ => by
    rw [if_pos rfl, show endOf cs 0 = 2 from rfl]
    unfold endedS begunI
    split
    · rfl
    · unfold begunS; rw [if_pos (by omega)]
  | i + 1, hi => by
    have hx : cs[i]? = some (cs[i]'(by omega)) := List.getElem?_eq_getElem (by omega)
    rw [if_neg (by omega), Nat.add_sub_cancel, hx, show endOf cs (i + 1) = (cs[i]'(by omega)).to by simp [endOf, hx]]
    exact (h.each _ (List.getElem_mem _)).2.2.2.2
theorem fr_at {p : ByteArray} {cs : List Cut} (h : IsPack p cs) (i : Nat) (c : Cut) (hx : cs[i]? = some c) : c.fr = endOf cs i := by
  have hi : i < cs.length := (List.getElem?_eq_some_iff.1 hx).1
  exact (begunS_some ((chain_at h.chain i (by omega)).trans hx)).2.1

theorem chain_back {p : ByteArray} {cs : List Cut} (h : IsPack p cs) : Chain (nextB p) (endedS p p.size) cs.reverse := by
  refine ⟨?_, fun i c hx => ?_, fun c hc => (h.each c (List.mem_reverse.1 hc)).1, by rw [List.length_reverse]; have := h.many; omega⟩
  · rw [← h.ends, ended_at h _ (Nat.le_refl _)]
    split
    · next h0 => simp [List.length_eq_zero_iff.1 h0]
    · next h0 => rw [List.getElem?_reverse (by omega), Nat.sub_zero]
  · have hi : i < cs.length := by have := (List.getElem?_eq_some_iff.1 hx).1; simpa using this
    rw [List.getElem?_reverse hi] at hx
    unfold nextB
    rw [fr_at h _ c hx, ended_at h _ (by omega)]
    split
    · rw [List.getElem?_eq_none (by simp; omega)]
    · rw [List.getElem?_reverse (by omega)]
      rw [show cs.length - 1 - i - 1 = cs.length - 1 - (i + 1) by omega]

/-- A list of entries is in memory that a call has made. -/
theorem entriesF_any (p : ByteArray) (hp : p.size ≤ 281474976710656) (w : World) :
    Calls Tryz.prog 72 #[.string p] w fun e w' => ∃ r, e = .returned (.tuple #[r, .int .i64 (if rightB p then 0 else 50)]) ∧ Own35 w' w.heap.size r (entsOf p) ∧ Below w.heap.size w w' := by
  have HR := Lib.hid (right_any p hp w)
  cases hr : rightB p with
  | false =>
    rw [hr] at HR
    rw [show entsOf p = [] by unfold entsOf; rw [packOf_wrong hr]; rfl]
    go_enter Tryz.func72, Tryz.ntmps72
    go_wp2_with fail
    refine HR.out.mono ?_
    rintro e w1 ⟨rfl, hb1⟩
    have HB := Lib.hid hb1
    clear hb1
    go_wp2
    go_ret2
    exact ⟨_, rfl, World.ownsRow_nil _ _ _ _, HB.out⟩
  | true =>
    rw [hr] at HR
    have hk := isPack_of hr
    have HF := fun w => Lib.hid (forth_any p hp (packOf p) hk.chain (fun c hc => (hk.each c hc).2.2.1) w)
    go_enter Tryz.func72, Tryz.ntmps72
    go_wp2_with fail
    refine HR.out.mono ?_
    rintro e w1 ⟨rfl, hb1⟩
    have HB := Lib.hid hb1
    clear hb1
    go_wp2_with fail
    refine (HF _).out.mono ?_
    rintro e w2 ⟨v, rfl, hG, hb2⟩
    have HE := Lib.hid (entries_any v (packOf p) _ w2 hG (fun c hc => by have := hk.short c hc; omega) (by have := hk.many; omega) w2 (Below.refl _ _))
    have HB2 := Lib.hid hb2
    clear hb2 hG
    go_wp2_with fail
    refine HE.out.mono ?_
    rintro e w3 ⟨r, rfl, ho, hb3⟩
    have HO := Lib.hid ho
    have HB3 := Lib.hid hb3
    clear ho hb3
    go_wp2
    go_ret2
    have s1 := HB.out.size
    have s2 := HB2.out.size
    exact ⟨_, rfl, ownsRow_mono HO.out (by omega), HB.out.trans ((HB2.out.mono s1).trans (HB3.out.mono (by omega)))⟩

/-- Where a member's first entry is. -/
def whereS (l : List Ent) (m : ByteArray) : Int := match l.findIdx? (fun e => decide (e.1 = m)) with
  | none => -1
  | some i => i
theorem findS_ents (xs : List Cut) (m : ByteArray) : findS xs m = whereS (xs.map Cut.ent) m := by
  unfold findS whereS
  rw [List.findIdx?_map]
  rfl
theorem find_any (p mem : ByteArray) (hp : p.size ≤ 281474976710656) (w : World) :
    Calls Tryz.prog 148 #[.string p, .string mem] w fun e w' => e = .returned (.int .i64 (whereS (entsOf p) mem)) ∧ Below w.heap.size w w' := by
  cases hr : rightB p with
  | false =>
    obtain ⟨xs, hc, hx⟩ := chain_exists p hp
    have := find_walk p mem hp false (fun w => Lib.hid (by rw [← hr]; exact right_any p hp w)) xs hc (fun c h => (hx c h).2) w
    rw [show entsOf p = [] by unfold entsOf; rw [packOf_wrong hr]; rfl]
    exact this
  | true =>
    have hk := isPack_of hr
    have := find_walk p mem hp true (fun w => Lib.hid (by rw [← hr]; exact right_any p hp w)) (packOf p) hk.chain (fun c hc => (hk.each c hc).2.2.1) w
    rw [if_pos rfl, findS_ents] at this
    exact this

/-- The entry at a place. -/
def pickS (p : ByteArray) (at_ : Int) : Option Cut × Int :=
  if rightB p then (if at_ < 0 ∨ (packOf p).length ≤ at_ then (none, 2) else ((packOf p)[at_.toNat]?, 0)) else (none, 50)

theorem ret4t {fn : Func} {R : Ending → World → Prop} {a : Act} {W : World} {b k j : Nat} {v0 v3 v1 v2 x : Value} (hr : fn.results = #[.cell k 166, .tmp j]) (hk : a.tmps.getD k undef = .pointer (some ⟨b, 0, none⟩)) (hj : a.tmps.getD j undef = x) (hB : Blk W b 166 #[v0, v1, v2, v3]) (hd : a.defers = [])
    (hR : R (.returned (.tuple #[.agg #[v0, v1, v2, v3], x])) W) : bodyPost Tryz.prog fn R .ret a W := by
  obtain ⟨e0, e1, e2, e3, f0, f1, f2, f3⟩ := facts4 hB
  refine bodyPost_ret ?_ hd hR
  have hk2 : a.tmps[k]?.getD undef = .pointer (some ⟨b, 0, none⟩) := by rw [← Array.getD_eq_getD_getElem?]; exact hk
  have hj2 : a.tmps[j]?.getD undef = x := by rw [← Array.getD_eq_getD_getElem?]; exact hj
  simp [results, hr, hk2, hj2, go_sem, e0, e1, e2, e3]
theorem ret2t {fn : Func} {R : Ending → World → Prop} {a : Act} {W : World} {b k j : Nat} {v0 v1 x : Value} (hr : fn.results = #[.cell k 48, .tmp j]) (hk : a.tmps.getD k undef = .pointer (some ⟨b, 0, none⟩)) (hj : a.tmps.getD j undef = x) (hB : Blk W b 48 #[v0, v1]) (hd : a.defers = [])
    (hR : R (.returned (.tuple #[.agg #[v0, v1], x])) W) : bodyPost Tryz.prog fn R .ret a W := by
  obtain ⟨e0, e1, f0, f1⟩ := facts2 hB
  refine bodyPost_ret ?_ hd hR
  have hk2 : a.tmps[k]?.getD undef = .pointer (some ⟨b, 0, none⟩) := by rw [← Array.getD_eq_getD_getElem?]; exact hk
  have hj2 : a.tmps[j]?.getD undef = x := by rw [← Array.getD_eq_getD_getElem?]; exact hj
  simp [results, hr, hk2, hj2, go_sem, e0, e1]

theorem pick_any (p : ByteArray) (hp : p.size ≤ 281474976710656) (at_ : Int) (w : World) :
    Calls Tryz.prog 151 #[.string p, .int .i64 at_] w fun e w' => e = .returned (.tuple #[cutV (pickS p at_).1, .int .i64 (pickS p at_).2]) ∧ Below w.heap.size w w' := by
  have HR := fun w => Lib.hid (right_any p hp w)
  have HC := fun w => Lib.hid (count_any p hp w)
  have hB0 := (Below.refl w.heap.size w).alloc (Nat.le_refl _) (Obj.cells #[Value.string { data := #[] }, Value.int IntKind.i64 0, Value.int IntKind.i64 0, Value.int IntKind.i64 0] 166)
  unfold pickS
  cases hr : rightB p with
  | false =>
    rw [hr] at HR
    simp only [Bool.false_eq_true, if_false]
    unfold cutV noCut
    go_enter Tryz.func151, Tryz.ntmps151
    go_wp2_with fail
    refine (HR _).out.mono ?_
    rintro e w1 ⟨rfl, hb1⟩
    have k1 := (Blk.new w 166 #[Value.string { data := #[] }, Value.int IntKind.i64 0, Value.int IntKind.i64 0, Value.int IntKind.i64 0]).later hb1
    have K1 := Lib.hid k1
    obtain ⟨e0, e1, e2, e3, f0, f1, f2, f3⟩ := facts4 k1
    have HB := Lib.hid (hB0.trans (hb1.mono hB0.size))
    clear hb1 k1 hB0
    go_wp2
    obtain ⟨g1, g2, g3⟩ := set4 (.string ⟨#[]⟩) (.int .i64 0) (.int .i64 0) (.int .i64 0) K1.out
    exact ret4t Tryz.results151 rfl rfl g1 rfl ⟨rfl, HB.out.trans (g3 _ (Nat.le_refl _))⟩
  | true =>
    rw [hr] at HR
    have hk := isPack_of hr
    simp only [if_true]
    rw [hk.count] at HC
    have hmany := hk.many
    by_cases hat : at_ < 0 ∨ ((packOf p).length : Int) ≤ at_
    · rw [if_pos hat]
      simp only []
      unfold cutV noCut
      generalize hlen : (packOf p).length = len at *
      go_enter Tryz.func151, Tryz.ntmps151
      go_wp2_with fail
      refine (HR _).out.mono ?_
      rintro e w1 ⟨rfl, hb1⟩
      have k1 := (Blk.new w 166 #[Value.string { data := #[] }, Value.int IntKind.i64 0, Value.int IntKind.i64 0, Value.int IntKind.i64 0]).later hb1
      have hB1 := hB0.trans (hb1.mono hB0.size)
      clear hb1
      by_cases h0 : at_ < 0
      · have K1 := Lib.hid k1
        obtain ⟨e0, e1, e2, e3, f0, f1, f2, f3⟩ := facts4 k1
        have HB := Lib.hid hB1
        clear k1 hB0 hB1
        go_wp2_with fail
        obtain ⟨g1, g2, g3⟩ := set4 (.string ⟨#[]⟩) (.int .i64 0) (.int .i64 0) (.int .i64 0) K1.out
        exact ret4t Tryz.results151 rfl rfl g1 rfl ⟨rfl, HB.out.trans (g3 _ (Nat.le_refl _))⟩
      · go_wp2_with fail
        refine (HC _).out.mono ?_
        rintro e w2 ⟨rfl, hb2⟩
        have k2 := k1.later hb2
        have K1 := Lib.hid k2
        obtain ⟨e0, e1, e2, e3, f0, f1, f2, f3⟩ := facts4 k2
        have HB := Lib.hid (hB1.trans (hb2.mono hB1.size))
        have hge : (len : Int) ≤ at_ := by omega
        clear k1 k2 hB0 hB1 hb2
        go_wp2
        obtain ⟨g1, g2, g3⟩ := set4 (.string ⟨#[]⟩) (.int .i64 0) (.int .i64 0) (.int .i64 0) K1.out
        exact ret4t Tryz.results151 rfl rfl g1 rfl ⟨rfl, HB.out.trans (g3 _ (Nat.le_refl _))⟩
    · rw [if_neg hat]
      simp only []
      obtain ⟨k, rfl⟩ : ∃ k : Nat, at_ = (k : Int) := ⟨at_.toNat, by omega⟩
      have hkl : k < (packOf p).length := by omega
      have hx : (packOf p)[k]? = some ((packOf p)[k]'hkl) := List.getElem?_eq_getElem hkl
      rw [Int.toNat_natCast, hx]
      have HN := fun w => Lib.hid (nth_walk p hp (packOf p) hk.chain (fun c hc => (hk.each c hc).2.2.1) k (by omega) _ (fun c hc => by rw [hx] at hc; cases hc; rfl) (fun hc => by rw [hx] at hc; cases hc) w)
      generalize (packOf p)[k]'hkl = c at *
      generalize hlen : (packOf p).length = len at *
      unfold cutV Cut.val at *
      have hk9 : (k : Int) < len := by omega
      have hk8 : (0 : Int) ≤ k := by omega
      clear hat hx
      go_enter Tryz.func151, Tryz.ntmps151
      go_wp2_with fail
      refine (HR _).out.mono ?_
      rintro e w1 ⟨rfl, hb1⟩
      have k1 := (Blk.new w 166 #[Value.string { data := #[] }, Value.int IntKind.i64 0, Value.int IntKind.i64 0, Value.int IntKind.i64 0]).later hb1
      have hB1 := hB0.trans (hb1.mono hB0.size)
      clear hb1
      go_wp2_with fail
      refine (HC _).out.mono ?_
      rintro e w2 ⟨rfl, hb2⟩
      have k2 := k1.later hb2
      have hB2 := hB1.trans (hb2.mono hB1.size)
      clear hb2
      go_wp2_with fail
      refine (HN _).out.mono ?_
      rintro e w3 ⟨rfl, hb3⟩
      have k3 := k2.later hb3
      have K1 := Lib.hid k3
      obtain ⟨e0, e1, e2, e3, f0, f1, f2, f3⟩ := facts4 k3
      have HB := Lib.hid (hB2.trans (hb3.mono hB2.size))
      clear k1 k2 k3 hB0 hB1 hB2 hb3
      go_wp2
      obtain ⟨g1, g2, g3⟩ := set4 (.string c.m) (.int .i64 c.s) (.int .i64 c.fr) (.int .i64 c.to) K1.out
      exact ret4t Tryz.results151 rfl rfl g1 rfl ⟨rfl, HB.out.trans (g3 _ (Nat.le_refl _))⟩

/-- The entry at a place, and what is told of it. -/
def getS (p : ByteArray) (at_ : Int) : Ent × Int :=
  if rightB p then (if at_ < 0 ∨ (entsOf p).length ≤ at_ then ((⟨#[]⟩, 0), 2) else ((entsOf p).getD at_.toNat (⟨#[]⟩, 0), 0)) else ((⟨#[]⟩, 0), 50)

theorem get_pick (p : ByteArray) (at_ : Int) : ∃ c : Cut, cutV (pickS p at_).1 = c.val ∧ c.ent = (getS p at_).1 ∧ (pickS p at_).2 = (getS p at_).2 ∧ c.m.size ≤ 64 := by
  have hno : cutV none = (⟨⟨#[]⟩, 0, 0, 0⟩ : Cut).val := rfl
  unfold pickS getS
  cases hr : rightB p with
  | false => exact ⟨_, hno, rfl, rfl, by decide⟩
  | true =>
    have hk := isPack_of hr
    simp only [if_true]
    rw [show (entsOf p).length = (packOf p).length by simp [entsOf]]
    split
    · exact ⟨_, hno, rfl, rfl, by decide⟩
    · next hat =>
      have hkl : at_.toNat < (packOf p).length := by omega
      have hx : (packOf p)[at_.toNat]? = some ((packOf p)[at_.toNat]'hkl) := List.getElem?_eq_getElem hkl
      refine ⟨(packOf p)[at_.toNat]'hkl, by rw [hx]; rfl, ?_, rfl, hk.short _ (List.getElem_mem _)⟩
      unfold entsOf
      simp [List.getD_eq_getElem?_getD, hx]

theorem get_any (p : ByteArray) (hp : p.size ≤ 281474976710656) (at_ : Int) (w : World) :
    Calls Tryz.prog 146 #[.string p, .int .i64 at_] w fun e w' => e = .returned (.tuple #[.agg #[.string (getS p at_).1.1, .int .i64 (getS p at_).1.2], .int .i64 (getS p at_).2]) ∧ Below w.heap.size w w' := by
  have HP := Lib.hid (pick_any p hp at_)
  obtain ⟨c, h1, h2, h3, h4⟩ := get_pick p at_
  rw [h1, h3] at HP
  rw [← h2]
  generalize (getS p at_).2 = er at *
  have HE := fun w => Lib.hid (entry_any c (by omega) w)
  clear h1 h2 h3 h4
  unfold Cut.val at *
  unfold Cut.ent
  simp only []
  go_enter Tryz.func146, Tryz.ntmps146
  go_wp2_with fail
  refine (HP.out _).mono ?_
  rintro e w1 ⟨rfl, hb1⟩
  have k1 := (Blk.new w 48 #[Value.string { data := #[] }, Value.int IntKind.i64 0]).later hb1
  have hB0 := (Below.refl w.heap.size w).alloc (Nat.le_refl _) (Obj.cells #[Value.string { data := #[] }, Value.int IntKind.i64 0] 48)
  have hB1 := hB0.trans (hb1.mono hB0.size)
  clear hb1
  go_wp2_with fail
  refine (HE _).out.mono ?_
  rintro e w2 ⟨rfl, hb2⟩
  have k2 := (k1.alloc (Obj.cells #[Value.string c.m, Value.int IntKind.i64 c.s, Value.int IntKind.i64 c.fr, Value.int IntKind.i64 c.to] 166)).later hb2
  have K2 := Lib.hid k2
  obtain ⟨e0, e1, f0, f1⟩ := facts2 k2
  have HB := Lib.hid ((hB1.alloc hB1.size (Obj.cells #[Value.string c.m, Value.int IntKind.i64 c.s, Value.int IntKind.i64 c.fr, Value.int IntKind.i64 c.to] 166)).trans (hb2.mono (by have := hB1.size; simp; omega)))
  clear k1 k2 hB0 hB1 hb2
  go_wp2
  obtain ⟨g1, g2, g3⟩ := set2 (.string c.m) (.int .i64 c.s) K2.out
  exact ret2t Tryz.results146 rfl rfl g1 rfl ⟨rfl, HB.out.trans (g3 _ (Nat.le_refl _))⟩

end Go.Proofs.YtpaphfofjfjdlaaGreat.Pk
/- The functions that write: which entries fit, their bytes. -/
namespace Go.Proofs.YtpaphfofjfjdlaaGreat.Pk
open Go.RowKit Go.Shelf
attribute [local go_sem] Oper.semAt_some

/-- A list of entries in memory. -/
def Ents (W : World) (a : Option Addr) (l : List Ent) : Prop := ∀ (i : Nat) (h : i < l.length), ∃ b off, a = some ⟨b, off, none⟩ ∧ W.cell? ⟨b, off + i * 2, none⟩ = some (.string l[i].1) ∧ W.cell? ⟨b, off + i * 2 + 1, none⟩ = some (.int .i64 l[i].2)
theorem Ents.below {w W : World} {a : Option Addr} {l : List Ent} (h : Ents w a l) (hb : Below w.heap.size w W) : Ents W a l := fun i hi => by
  obtain ⟨b, off, ha, h0, h1⟩ := h i hi
  have hlt : b < w.heap.size := World.block_lt_of_cell? w ⟨b, off + i * 2, none⟩ h0
  exact ⟨b, off, ha, (hb.cell (p := ⟨b, _, none⟩) hlt).trans h0, (hb.cell (p := ⟨b, _, none⟩) hlt).trans h1⟩

def fitS (l : List Ent) : Bool := l.all fun e => decide (e.1.size ≤ 64)

set_option maxHeartbeats 2000000 in
theorem fit_any (a : Option Addr) (cap : Nat) (l : List Ent) (hl : l.length ≤ 9223372036854775807) (hz : ∀ e ∈ l, e.1.size ≤ 9223372036854775807) (w : World) (hE : Ents w a l) :
    Calls Tryz.prog 153 #[.slice a l.length cap] w fun e w' => e = .returned (.bool (fitS l)) ∧ Below w.heap.size w w' := by
  go_enter Tryz.func153, Tryz.ntmps153
  go_wp2
  go_loopw [7] (fun i wr => ∃ (k : Nat), i = .int .i64 k ∧ k ≤ l.length ∧ Below w.heap.size w wr ∧ fitS (l.take k) = true)
    (fun i _ => l.length - (intOf i).toNat)
  case atStart => exact ⟨0, rfl, by omega, Below.refl _ _, rfl⟩
  case round =>
    obtain ⟨k, rfl, hk, hb, hf⟩ := hrel
    by_cases hlt : k < l.length
    · obtain ⟨b, off, rfl, c0, c1⟩ := (hE.below hb) k hlt
      have hm := hz _ (List.getElem_mem hlt)
      have hfs : fitS (l.take (k + 1)) = (fitS (l.take k) && decide (l[k].1.size ≤ 64)) := by
        unfold fitS; rw [List.take_succ_eq_append_getElem hlt, List.all_append]; simp
      have HF := Lib.hid hfs
      have HFk := Lib.hid hf
      have HE := Lib.hid hE
      have hrest : (¬ l[k].1.size ≤ 64) → fitS l = false := fun h => by
        unfold fitS
        rw [List.all_eq_false]
        exact ⟨l[k], List.getElem_mem hlt, by simpa using h⟩
      have HR := Lib.hid hrest
      generalize l[k].1 = m at *
      generalize l[k].2 = s at *
      clear hfs hf hE hrest
      go_wp2
      · go_ret
        rw [HR.out (by omega)]
        exact ⟨rfl, hb.alloc hb.size _⟩
      · refine ⟨⟨k + 1, by go_num, hlt, hb.alloc hb.size _, ?_⟩, by simp [intOf]; omega⟩
        rw [HF.out, HFk.out]
        simp
        omega
    · obtain rfl : k = l.length := by omega
      rw [List.take_length] at hf
      go_wp2
      go_ret
      rw [hf]
      exact ⟨rfl, hb⟩

/-- A byte of a score; its bytes, the greatest first; an entry's bytes. -/
def scoreB (s : Int) (k : Nat) : UInt8 := UInt8.ofNat ((s / 2 ^ (8 * k)) % 256).toNat
def score8 (s : Int) : List UInt8 := (List.range 8).map fun i => scoreB s (7 - i)
def entB (e : Ent) : List UInt8 := UInt8.ofNat e.1.size :: (e.1.data.toList ++ score8 e.2 ++ [UInt8.ofNat (e.1.size + 9)])
theorem entB_length (e : Ent) : (entB e).length = e.1.size + 10 := by
  simp [entB, score8, Array.length_toList]
theorem scoreB_val (s : Int) (k : Nat) : ((scoreB s k).toNat : Int) = s / 2 ^ (8 * k) % 256 := by
  unfold scoreB
  have h1 := Int.emod_nonneg (s / 2 ^ (8 * k)) (show (256 : Int) ≠ 0 by decide)
  have h2 := Int.emod_lt_of_pos (s / 2 ^ (8 * k)) (show (0 : Int) < 256 by decide)
  rw [UInt8.toNat_ofNat']
  omega
theorem score8_length (s : Int) : (score8 s).length = 8 := by simp [score8]
theorem score8_take (s : Int) (j : Nat) (h : j < 8) : (score8 s).take (j + 1) = (score8 s).take j ++ [scoreB s (7 - j)] := by
  rw [List.take_succ_eq_append_getElem (by rw [score8_length]; exact h)]
  simp [score8]
def Own5 (W : World) (n0 : Nat) (v : Value) (bs : List UInt8) : Prop := W.ownsRow n0 5 1 v bs.length (Lib.byteCells bs)
theorem info5 : (Tryz.prog.info? 5).map (fun i => (i.zero, i.size, i.bytes)) = some (some (.int .u8 0), 1, 1) := by kernel_rfl

theorem own5_form {W : World} {n0 : Nat} {v : Value} {bs : List UInt8} (h : Own5 W n0 v bs) : ∃ a cap, v = .slice a bs.length cap := by
  rcases h.2 with ⟨rfl, h0⟩ | ⟨g, cap, cur, rfl, _⟩
  · exact ⟨none, 0, by rw [h0]⟩
  · exact ⟨_, _, rfl⟩
theorem Own5.later {W W6 : World} {n0 : Nat} {r : Value} {l : List UInt8} (h : Own5 W n0 r l) (hb : Below W.heap.size W W6) : Own5 W6 n0 r l := World.ownsRow.kept h (below_grown hb) (by
  rcases h.2 with ⟨rfl, _⟩ | ⟨g, cap, cur, rfl, _⟩
  · exact .inl rfl
  · exact .inr (by simp [Value.ownBlock]))
theorem Blk.row5 {W W7 : World} {b n0 : Nat} {t : TypeId} {c : Array Value} {r : Value} {l : List UInt8} (h : Blk W b t c) (hg : W.grownBy W7 r.ownBlock) (ho : Own5 W n0 r l) (ht : t ≠ 5 := by decide) : Blk W7 b t c :=
  (hg.block b h.lt (fun e => by
    rcases ho.2 with ⟨rfl, _⟩ | ⟨g, cap, cur, rfl, _, hgb, _⟩
    · simp [Value.ownBlock] at e
    · simp [Value.ownBlock] at e
      subst e
      have := (show W.heap[b]? = _ from h).symm.trans hgb
      simp at this
      exact ht this.2)).trans h
theorem Below.row5 {w W W7 : World} {n0 : Nat} {r : Value} {l : List UInt8} (h : Below w.heap.size w W) (hg : W.grownBy W7 r.ownBlock) (ho : Own5 W n0 r l) (hn : w.heap.size ≤ n0) : Below w.heap.size w W7 :=
  h.grown hg h.size (fun k e => Nat.le_trans hn (World.ownsRow.lt ho k e).1)

theorem own5_snoc {W : World} {n0 : Nat} {v : Value} {bs : List UInt8} {n : Int} (b : UInt8) (hb : (b.toNat : Int) = n) (h : W.ownsRow n0 5 1 v (bs.length + 1) (Lib.byteCells bs ++ [Value.int .u8 n])) : Own5 W n0 v (bs ++ [b]) := by
  unfold Own5
  rw [Lib.byteCells_append, List.length_append]
  subst hb
  exact h
theorem own5_str {W : World} {n0 : Nat} {v : Value} {bs : List UInt8} {s : ByteArray} (h : W.ownsRow n0 5 1 v (bs.length + s.size) (Lib.byteCells bs ++ Lib.strCells s)) : Own5 W n0 v (bs ++ s.data.toList) := by
  unfold Own5
  rw [Lib.byteCells_append, List.length_append, Array.length_toList]
  exact h

/-- One byte more, some bytes more. -/
theorem app_byte {i0 : TypeInfo} (hi0 : Tryz.prog.info? 5 = some i0) (hz0 : i0.zero = some (.int .u8 0)) (hz1 : i0.size = 1) (hz2 : i0.bytes = 1) {W : World} {n0 : Nat} {v : Value} {bs : List UInt8} (ho : Own5 W n0 v bs) (b : UInt8) (hl : bs.length ≤ 100000000000000) (hn : n0 ≤ W.heap.size) :
    ∃ a cap W1, (Builtin.append_ #[70, 70] 70 #[v, .slice (some ⟨W.heap.size, 0, none⟩) 1 1]).run Tryz.prog (W.alloc (.cells #[.int .u8 b.toNat] 5)) = .ok (.slice a (bs.length + 1) cap) W1 ∧
      Own5 W1 n0 (.slice a (bs.length + 1) cap) (bs ++ [b]) ∧ (W.alloc (.cells #[.int .u8 b.toNat] 5)).grownBy W1 v.ownBlock := by
  obtain ⟨v', w', hrun, r1, r2, r3⟩ := run_append_own (P := Tryz.prog) (W.alloc (.cells #[.int .u8 b.toNat] 5)) n0 70 70 5 i0 _ 1 1 Tryz.underlying70 hi0 hz0 hz1 hz2 rfl (by decide) v _ _ (World.ownsRow.alloc ho _) ⟨W.heap.size, 0, none⟩ 1 1 [.int .u8 b.toNat] rfl
    (cell_one_new _ _ _) (by simp [Value.oneCell']) (by unfold maxLen; omega) (by omega) (by simp; omega)
  have r1' : Own5 w' n0 v' (bs ++ [b]) := by
    unfold Own5
    rw [Lib.byteCells_append, List.length_append]
    exact r1
  obtain ⟨a, cap, rfl⟩ := own5_form r1'
  rw [List.length_append] at hrun r1'
  exact ⟨a, cap, w', hrun, r1', r2⟩

set_option maxRecDepth 100000 in
set_option maxHeartbeats 4000000 in
theorem written_any (a : Option Addr) (cap : Nat) (l : List Ent) (hl : l.length ≤ 1000000) (hz : ∀ e ∈ l, e.1.size ≤ 64) (w : World) (hE : Ents w a l) :
    Calls Tryz.prog 155 #[.slice a l.length cap] w fun e w' => ∃ v, e = .returned v ∧ Own5 w' w.heap.size v (l.flatMap entB) ∧ Below w.heap.size w w' := by
  obtain ⟨i0, hi0, hz0, hz1, hz2⟩ := info_parts info5
  have hlen : ∀ k, k ≤ l.length → ((l.take k).flatMap entB).length ≤ 74 * k := fun k hk => by
    induction k with
    | zero => simp
    | succ k ih =>
      have := ih (by omega)
      rw [List.take_succ_eq_append_getElem (by omega), List.flatMap_append, List.length_append]
      have h1 := hz _ (List.getElem_mem (show k < l.length by omega))
      have h2 := entB_length (l[k]'(by omega))
      simp only [List.flatMap_cons, List.flatMap_nil, List.append_nil]
      omega
  go_enter Tryz.func155, Tryz.ntmps155
  go_wp2
  go_loopw [3, 10] (fun v i wr => ∃ (k : Nat) (ac : Option Addr) (cp : Nat), i = .int .i64 k ∧ k ≤ l.length ∧ Below w.heap.size w wr ∧ v = .slice ac ((l.take k).flatMap entB).length cp ∧ Own5 wr w.heap.size (.slice ac ((l.take k).flatMap entB).length cp) ((l.take k).flatMap entB))
    (fun _ i _ => l.length - (intOf i).toNat)
  case atStart => exact ⟨0, none, 0, rfl, by omega, Below.refl _ _, rfl, World.ownsRow_nil _ _ _ _⟩
  case round =>
    obtain ⟨k, ac, cp, rfl, hk, hb, rfl, hown⟩ := hrel
    by_cases hlt : k < l.length
    · obtain ⟨b, off, rfl, c0, c1⟩ := (hE.below hb) k hlt
      have hm := hz _ (List.getElem_mem hlt)
      have hbl := hlen k hk
      have hnx : (l.take (k + 1)).flatMap entB = (l.take k).flatMap entB ++ entB l[k] := by
        rw [List.take_succ_eq_append_getElem hlt, List.flatMap_append]; simp
      have HN := Lib.hid hnx
      have HE := Lib.hid hE
      have HL := Lib.hid hlen
      generalize hent : l[k] = e at *
      obtain ⟨m, s⟩ := e
      simp only at c0 c1 hm
      generalize (l.take k).flatMap entB = bs at *
      clear hnx hE hlen hent
      have hmb : ((UInt8.ofNat m.size).toNat : Int) = m.size := by simp; omega
      have hbk := hb.size
      have hm9 : (m.size : Int) ≤ 64 := by omega
      have hm8 : (0 : Int) ≤ m.size := by omega
      go_wp2_with (first
        | (at_builtin; refine wpList_append_own _ rfl _ _ 70 rfl w.heap.size 5 i0 _ 1 1 Tryz.underlying70 hi0 hz0 hz1 hz2 rfl (by decide) _ _ _ rfl ((World.ownsRow.alloc hown _).alloc _) ⟨wr.heap.size + 1, 0, none⟩ 1 1 [.int .u8 m.size] rfl rfl (by have := cell_one_new (wr.alloc (Obj.cells #[Value.string m, Value.int IntKind.i64 s] 48)) (.int .u8 (m.size : Int)) 5; rw [World.size_alloc] at this; exact this) (by simp [Value.oneCell']) (by unfold maxLen; omega) (by omega) (by simp; omega) ?_; intro v1 w2 hown2 hgrow2 _; have hg2 : ((wr.alloc (Obj.cells #[Value.string m, Value.int IntKind.i64 s] 48)).alloc (Obj.cells #[Value.int IntKind.u8 m.size] 5)).grownBy w2 (Value.slice ac bs.length cp).ownBlock := hgrow2; clear hgrow2; have ho1 : Own5 ((wr.alloc (Obj.cells #[Value.string m, Value.int IntKind.i64 s] 48)).alloc (Obj.cells #[Value.int IntKind.u8 m.size] 5)) w.heap.size (Value.slice ac bs.length cp) bs := (World.ownsRow.alloc hown _).alloc _; have k2 := ((Blk.new wr 48 #[Value.string m, Value.int IntKind.i64 s]).alloc (Obj.cells #[Value.int IntKind.u8 m.size] 5)).row5 hg2 ho1; have hb2 : Below w.heap.size w w2 := Below.row5 ((hb.alloc hb.size _).alloc (by simp; omega) _) hg2 ho1 (Nat.le_refl _); have o2 := own5_snoc _ hmb hown2; have hb2s := hb2.size; obtain ⟨e20, e21, _⟩ := facts2 k2; clear hown ho1 hown2)
        | (at_builtin; refine Lib.wpList_append_own_string _ rfl _ _ 70 9 rfl w.heap.size 5 i0 Tryz.underlying70 Tryz.underlying9 hi0 hz0 hz1 hz2 _ _ _ rfl o2 m rfl (by unfold maxLen; simp; omega) (by simp; omega) (by omega) ?_; intro v2 w3 hown3 hgrow3 _; have hg3 : w2.grownBy w3 v1.ownBlock := hgrow3; clear hgrow3; have k3 := k2.row5 hg3 o2; have hb3 : Below w.heap.size w w3 := Below.row5 hb2 hg3 o2 (Nat.le_refl _); have o3 := own5_str hown3; obtain ⟨e30, e31, _⟩ := facts2 k3; clear hown3))
      have hb1l : (bs ++ [UInt8.ofNat m.size] ++ m.data.toList).length = bs.length + 1 + m.size := by simp [Array.length_toList]; show _ + (m.data.size + 1) = _; rw [show m.data.size = m.size from rfl]; omega
      have hfin : bs ++ entB (m, s) = (bs ++ [UInt8.ofNat m.size] ++ m.data.toList) ++ score8 s ++ [UInt8.ofNat (m.size + 9)] := by simp [entB]
      rw [hfin] at HN
      clear hfin
      generalize bs ++ [UInt8.ofNat m.size] ++ m.data.toList = bs1 at *
      have HB3 := Lib.hid hb3
      clear hg2 hg3 k2 e20 e21 e30 e31 o2 hb2 hb hb3
      generalize wr.heap.size = P at *
      go_loopw [3, 27] (fun v i wr2 => ∃ (j : Nat), i = .int .i64 j ∧ j ≤ 8 ∧ Below w.heap.size w wr2 ∧ Blk wr2 P 48 #[.string m, .int .i64 s] ∧ Own5 wr2 w.heap.size v (bs1 ++ (score8 s).take j))
        (fun _ i _ => 8 - (intOf i).toNat)
      case atStart => exact ⟨0, rfl, by omega, HB3.out, k3, by simpa using o3⟩
      case round =>
        clear k3 o3
        obtain ⟨j, rfl, hj, hb4, k4, o4⟩ := hrel
        obtain ⟨e40, e41, _⟩ := facts2 k4
        by_cases hj8 : j < 8
        · have hj9 : (j : Int) < 8 := by omega
          have hj0 : (0 : Int) ≤ j := by omega
          have hsx := scoreB_val s (7 - j)
          have HX := Lib.hid hsx
          have HT := Lib.hid (score8_take s j hj8)
          have hlj : (bs1 ++ (score8 s).take j).length ≤ 100000000 := by
            have := List.length_take_le j (score8 s)
            rw [List.length_append]
            omega
          generalize hbs2 : bs1 ++ (score8 s).take j = bs2 at *
          have HBS := Lib.hid hbs2
          clear hbs2
          have HB4 := Lib.hid hb4
          have hb4s := hb4.size
          clear hsx hb4
          go_wp2_with (at_builtin; refine wpList_append_own _ rfl _ _ 70 rfl w.heap.size 5 i0 _ 1 1 Tryz.underlying70 hi0 hz0 hz1 hz2 rfl (by decide) _ _ _ rfl (World.ownsRow.alloc o4 _) ⟨wr.heap.size, 0, none⟩ 1 1 [.int .u8 (s / 2 ^ (8 * (7 - j)) % 256)] rfl rfl (cell_one_new _ _ _) (by simp [Value.oneCell']) (by unfold maxLen; omega) (by omega) (by simp; omega) ?_; intro v1 w2 hown2 hgrow2 _)
          have ho4 := World.ownsRow.alloc o4 (Obj.cells #[Value.int IntKind.u8 (s / 2 ^ (8 * (7 - j)) % 256)] 5)
          refine ⟨⟨j + 1, by go_num, by omega, Below.row5 (HB4.out.alloc HB4.out.size _) hgrow2 ho4 (Nat.le_refl _), Blk.row5 (k4.alloc _) hgrow2 ho4, ?_⟩, by simp [intOf]; omega⟩
          rw [HT.out, ← List.append_assoc, HBS.out]
          exact own5_snoc _ HX.out hown2
        · obtain rfl : j = 8 := by omega
          rw [List.take_of_length_le (by rw [score8_length]; exact Nat.le_refl _)] at o4
          have hl2 : (bs1 ++ score8 s).length = bs.length + m.size + 9 := by rw [List.length_append, score8_length]; omega
          rw [show bs1 ++ score8 s ++ [UInt8.ofNat (m.size + 9)] = (bs1 ++ score8 s) ++ [UInt8.ofNat (m.size + 9)] from rfl] at HN
          generalize bs1 ++ score8 s = bs2 at *
          obtain ⟨ac4, cp4, rfl⟩ := own5_form o4
          have hsub : (bs.length : Int) + m.size + 9 - bs.length = (m.size : Int) + 9 := by omega
          have hbs9 : bs2.length ≤ 1000000000 := by omega
          have HB4 := Lib.hid hb4
          have hb4s := hb4.size
          have hnine : ((UInt8.ofNat (m.size + 9)).toNat : Int) = (m.size : Int) + 9 := by simp; omega
          clear hb4
          go_wp2_with (at_builtin; refine wpList_append_own _ rfl _ _ 70 rfl w.heap.size 5 i0 _ 1 1 Tryz.underlying70 hi0 hz0 hz1 hz2 rfl (by decide) _ _ _ rfl (World.ownsRow.alloc o4 _) ⟨wr.heap.size, 0, none⟩ 1 1 [.int .u8 ((m.size : Int) + 9)] rfl rfl (cell_one_new _ _ _) (by simp [Value.oneCell']) (by unfold maxLen; omega) (by omega) (by simp; omega) ?_; intro v1 w2 hown2 hgrow2 _)
          have ho4 := World.ownsRow.alloc o4 (Obj.cells #[Value.int IntKind.u8 ((m.size : Int) + 9)] 5)
          have o5 := own5_snoc _ hnine hown2
          rw [← HN.out] at o5
          obtain ⟨a5, c5, rfl⟩ := own5_form o5
          exact ⟨⟨k + 1, a5, c5, by go_num, hlt, Below.row5 (HB4.out.alloc HB4.out.size _) hgrow2 ho4 (Nat.le_refl _), rfl, o5⟩, by simp [intOf]; omega⟩
    · obtain rfl : k = l.length := by omega
      rw [List.take_length] at hown
      go_wp2
      go_ret
      rw [List.take_length]
      exact ⟨_, rfl, hown, hb⟩
end Go.Proofs.YtpaphfofjfjdlaaGreat.Pk
