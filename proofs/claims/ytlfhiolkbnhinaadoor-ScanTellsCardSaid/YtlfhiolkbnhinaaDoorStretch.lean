/- The keys of a table's slots, from a cursor's one on. -/
import Derived.Test.YtlfhiolkbnhinaaDoorOrdered
import Derived.Test.YtlfhiolkbnhinaaDoorBucket
namespace Go.Proofs.YtlfhiolkbnhinaaDoor
open Go.RowKit Go.Shelf Go.Sort
attribute [local go_sem] Oper.semAt_some

/-- The keys of the first n slots from part q on. -/
def keysR (rows : List (List Nd)) (s q : Nat) : Nat → List (List UInt8)
  | 0 => []
  | n + 1 => keysR rows s q n ++ sortK ((rows.getD (curN s (q + n)) []).map bytesK)
theorem keysR_len (rows : List (List Nd)) (s q : Nat) : ∀ n, (keysR rows s q n).length ≤ n * rows.flatten.length
  | 0 => by simp [keysR]
  | n + 1 => by
    have h1 := keysR_len rows s q n
    have h2 : (sortK ((rows.getD (curN s (q + n)) []).map bytesK)).length ≤ rows.flatten.length := by
      rw [(sortK_perm _).length_eq, List.length_map, List.getD_eq_getElem?_getD]
      cases h : rows[curN s (q + n)]? with
      | none => simp
      | some r => exact row_le rows r (List.mem_of_getElem? h)
    rw [keysR, List.length_append, Nat.add_mul, Nat.one_mul]
    omega
theorem and_lt32 {a b : Nat} (ha : a < 4294967296) : a &&& b < 4294967296 := Nat.lt_of_le_of_lt Nat.and_le_left ha

theorem wpListIn_append_ran {F : Fence} {n : Nat} {P : Program} {w w' : World} {ops : Array Oper} {rest : List Oper} {o : Oper} {a : Act} {Q : Exit → Act → World → Prop} {v xv v' : Value} (hgd : o.guard = none) (s x : Operand) (t u : TypeId)
    (ho : o.op = Op.call { callee := Callee.builtin Builtin.append, args := #[s, x], argTypes := #[t, u] }) (hs : a.eval s = v) (hx : a.eval x = xv) (hrun : (Builtin.append_ #[t, u] o.type #[v, xv]).run P w = .ok v' w')
    (h : wpListIn F n P ops Q rest (a.put o.dst v') w') : wpListIn F n P ops Q (o :: rest) a w := by
  refine wpListIn_plain hgd fun K hK => ?_
  unfold Oper.wpIn
  refine ⟨by simp [Oper.about, ho, resolve, Target.leads, Sem.run_pure], ?_⟩
  rw [Oper.semAt_plain F _ _ (by rw [ho]; intro c hc'; cases hc')]
  simp [execOp, ho, resolve, invoke, builtin, hs, hx, hrun, Result.andThen]
  exact hK _ _ h

theorem own9_row {β : Type} (B n0 : Nat) (v : Value) (l : β → List (List UInt8)) : OwnFrom B (fun s W => Own9 W n0 v (l s)) := fun s X Y row hs hg hr =>
  World.ownsRow.kept hs hg (by
    rcases hs.2 with ⟨rfl, _⟩ | ⟨g, cap, cur, rfl, _, hgb, _⟩
    · exact .inl rfl
    · refine .inr (fun e => ?_)
      obtain ⟨_, o, ho, hc⟩ := hr g e.symm
      rw [hgb] at ho; cases ho; cases hc)
theorem Own9.mono {W : World} {n0 n1 : Nat} {v : Value} {l : List (List UInt8)} (h : Own9 W n0 v l) (hn : n1 ≤ n0) : Own9 W n1 v l := by
  refine ⟨h.1, ?_⟩
  rcases h.2 with hn | ⟨g, cap, cur, rfl, hb', rest⟩
  · exact .inl hn
  · exact .inr ⟨g, cap, cur, rfl, Nat.le_trans hn hb', rest⟩
theorem Own9.put {W : World} {n0 D : Nat} {v : Value} {l : List (List UInt8)} (h : Own9 W n0 v l) (hD : W.heap[D]? = some (.deferred (some []))) : Own9 (W.drew.putObj D (.deferred none)) n0 v l :=
  ownsRow_putObj (World.ownsRow.drew h) _ hD rfl
theorem Own9.setCell {W : World} {n0 b : Nat} {v : Value} {l : List (List UInt8)} (h : Own9 W n0 v l) (hb : b < n0) (y : Value) : Own9 (W.setCell ⟨b, 0, none⟩ y) n0 v l :=
  World.ownsRow.kept h (grownBy_setCell' _ _ _) (.inr fun e => by
    have := (World.ownsRow.lt h b e).1
    omega)
/-- What a round leaves: a row was lengthened, its cell and another one were written. -/
theorem app_end9 {w0 W W6 W7 : World} {b b2 n0 : Nat} {r v' x0 : Value} {l l' : List (List UInt8)} (y : Value) (h : Blk W b 38 #[r]) (h2 : Blk W b2 22 #[x0]) (ho : Own9 W n0 r l) (hb6 : Below W.heap.size W W6)
    (hgrow : W6.grownBy W7 r.ownBlock) (ho7 : Own9 W7 n0 v' l') (hbn : b < n0) (hbn2 : b2 < n0) (hne : b ≠ b2) (hB : Below w0.heap.size w0 W) (hw : w0.heap.size ≤ b) (hw2 : w0.heap.size ≤ b2) (B : Nat) :
    KeepsFrom B W ((W7.setCell ⟨b, 0, none⟩ v').setCell ⟨b2, 0, none⟩ y) ∧ Sc.KeepC [b2] W ((W7.setCell ⟨b, 0, none⟩ v').setCell ⟨b2, 0, none⟩ y) ∧ Below w0.heap.size w0 ((W7.setCell ⟨b, 0, none⟩ v').setCell ⟨b2, 0, none⟩ y) ∧
      Blk ((W7.setCell ⟨b, 0, none⟩ v').setCell ⟨b2, 0, none⟩ y) b 38 #[v'] ∧ Blk ((W7.setCell ⟨b, 0, none⟩ v').setCell ⟨b2, 0, none⟩ y) b2 22 #[y] ∧ Own9 ((W7.setCell ⟨b, 0, none⟩ v').setCell ⟨b2, 0, none⟩ y) n0 v' l' ∧
      ∀ k t c, Blk W k t c → k ≠ b → k ≠ b2 → k < n0 → Blk ((W7.setCell ⟨b, 0, none⟩ v').setCell ⟨b2, 0, none⟩ y) k t c := by
  have hsw := hB.size
  have ho6 := ho.below hb6
  have key : ∀ k t c, Blk W k t c → k < n0 → Blk W7 k t c := fun k t c hk hkn =>
    (hgrow.block k (hk.later hb6).lt (fun e => by
      have := (World.ownsRow.lt ho6 k e.symm).1
      omega)).trans (hk.later hb6)
  have h7 := key b 38 _ h hbn
  have h27 := key b2 22 _ h2 hbn2
  refine ⟨?_, ?_, ?_, (h7.set 0 v').setOther 0 y hne, (h27.setOther 0 v' hne.symm).set 0 y, (ho7.setCell hbn v').setCell hbn2 y, fun k t c hk n1 n2 n3 => ((key k t c hk n3).setOther 0 v' n1).setOther 0 y n2⟩
  · refine (((KeepsFrom.of_grownBy (row := none) (below_grown hb6) (fun _ h => by cases h)).trans ((KeepsOthers.of_grownBy hgrow fun j o ej hj => ?_).from B)).trans ((KeepsOthers.setCell _ _ _).from _)).trans ((KeepsOthers.setCell _ _ _).from _)
    rcases ho6.2 with ⟨rfl, _⟩ | ⟨g, cap, cur, rfl, _, hgb, _⟩
    · simp [Value.ownBlock] at ej
    · obtain rfl : g = j := by simpa [Value.ownBlock] using ej
      rw [hgb] at hj; cases hj; rfl
  · refine (((Sc.KeepC.of_below hb6).trans (Sc.KeepC.of_grownBy hgrow fun k c t ek hk => ?_)).trans (Sc.KeepC.of_grownBy (row := some b) (grownBy_setCell' _ _ _) fun k c t ek hk => ?_)).trans (Sc.KeepC.set _ b2 0 y (by simp))
    · rcases ho6.2 with ⟨rfl, _⟩ | ⟨g, cap, cur, rfl, _, hgb, _⟩
      · simp [Value.ownBlock] at ek
      · obtain rfl : g = k := by simpa [Value.ownBlock] using ek
        rw [hgb] at hk; cases hk
        simp [Sc.itT]
    · cases ek
      rw [show W7.heap[b]? = _ from h7] at hk; cases hk
      simp [Sc.itT]
  · refine (((hB.trans (hb6.mono hsw)).grown hgrow (by have := hb6.size; omega) fun k ek => ?_).setCell (p := ⟨b, 0, none⟩) hw v').setCell (p := ⟨b2, 0, none⟩) hw2 y
    have := (World.ownsRow.lt ho6 k ek).1
    omega
theorem slotsT_any (x : Nat × Nat) (c : Nat) (w : World) : Calls Tryd.prog 62 #[tabV x, .int .u32 c] w fun e w' =>
    e = .returned (.func (.func 72) #[] #[.pointer (some ⟨w.heap.size + 1, 0, none⟩), .pointer (some ⟨w.heap.size, 0, none⟩)]) ∧ w' = (w.alloc (Obj.cells #[.int .i64 x.1, .int .i64 x.2] 76)).alloc (Obj.cells #[.int .u32 c] 22) := by
  unfold tabV
  go_enter Tryd.func62, Tryd.ntmps62
  go_wp2
  go_ret
  exact ⟨rfl, rfl⟩

section
variable {S : Nat → Prop} {p seed : Nat} {D : Dc} {w : World}
set_option maxRecDepth 100000 in
set_option maxHeartbeats 4000000 in
theorem stretch_any (h : Rep tyI w p S seed D) (ok : D.Ok tyI) (hn : D.n ≤ 500) (t : Nat) (ht : t = 0 ∨ t = 1) (s : Nat) (hs : isS (s : Int) = true) (hrows : (rowsT D t).length = s) (hs10 : s ≤ 1024)
    (c : Nat) (hc : c < 4294967296) (g : Nat) (hg : g < 4294967296) (q : Nat) (hq : turnN c / unitN s = q) (m : Nat) (hm : q + m < s) (hno : ∀ i, i < m → curN s (q + i + 1) &&& g ≠ 0) (hyes : curN s (q + m + 1) &&& g = 0) (hE : Env w) :
    Calls Tryd.prog 38 #[.pointer (some ⟨p, 0, none⟩), tabV (t, s), .int .u32 c, .int .u32 g] w fun e w' =>
      ∃ u, e = .returned (.tuple #[u, .int .u32 (curN s (q + m + 1))]) ∧ Own9 w' w.heap.size u (keysR (rowsT D t) s q (m + 1)) ∧ Below w.heap.size w w' := by
  refine (callsIn_wide (n := 6)).1 (callsIn_of_wp_marks Tryd.func38 rfl trivial ?_ rfl)
  refine wpIn_wide.2 ?_
  simp only [Tryd.ntmps38, List.size_toArray, List.length_cons, List.length_nil, Nat.reduceAdd, Nat.reduceSub, Array.replicate_succ, Array.replicate_zero, List.push_toArray, List.append_toArray, List.nil_append, List.cons_append]
  have HMK := fun W => Lib.hid (slotsT_any (t, s) c W)
  unfold tabV at HMK ⊢
  simp only at HMK ⊢
  have HA := Lib.hid h
  have HE := Lib.hid hE
  go_wp2
  refine wp_scope_straight ?_
  go_wp2
  refine wp_label ?_
  go_wp2_with fail
  (with_reducible refine (HMK _).out.mono ?_)
  rintro e w1 ⟨rfl, rfl⟩
  go_wp2
  obtain ⟨w1, hw1⟩ : ∃ w1, (((((((w.alloc (Obj.cells #[Value.pointer (some { block := p, off := 0 })] 30)).alloc (Obj.cells #[Value.int IntKind.i64 ↑t, Value.int IntKind.i64 ↑s] 76)).alloc (Obj.cells #[Value.int IntKind.u32 ↑g] 22)).alloc (Obj.cells #[Value.slice none 0 0] 38)).alloc (Obj.cells #[Value.int IntKind.u32 0] 22)).alloc (Obj.cells #[Value.int IntKind.i64 ↑t, Value.int IntKind.i64 ↑s] 76)).alloc (Obj.cells #[Value.int IntKind.u32 ↑c] 22)) = w1 := ⟨_, rfl⟩
  have k0 : Blk w1 (w.heap.size) 30 #[Value.pointer (some { block := p, off := 0 })] := by
    rw [← hw1]
    have := ((((((Blk.new w 30 #[Value.pointer (some { block := p, off := 0 })]).alloc (Obj.cells #[Value.int IntKind.i64 ↑t, Value.int IntKind.i64 ↑s] 76)).alloc (Obj.cells #[Value.int IntKind.u32 ↑g] 22)).alloc (Obj.cells #[Value.slice none 0 0] 38)).alloc (Obj.cells #[Value.int IntKind.u32 0] 22)).alloc (Obj.cells #[Value.int IntKind.i64 ↑t, Value.int IntKind.i64 ↑s] 76)).alloc (Obj.cells #[Value.int IntKind.u32 ↑c] 22)
    (try simp only [World.size_alloc] at this)
    exact this
  have k1 : Blk w1 (w.heap.size + 1) 76 #[Value.int IntKind.i64 ↑t, Value.int IntKind.i64 ↑s] := by
    rw [← hw1]
    have := (((((Blk.new (w.alloc (Obj.cells #[Value.pointer (some { block := p, off := 0 })] 30)) 76 #[Value.int IntKind.i64 ↑t, Value.int IntKind.i64 ↑s]).alloc (Obj.cells #[Value.int IntKind.u32 ↑g] 22)).alloc (Obj.cells #[Value.slice none 0 0] 38)).alloc (Obj.cells #[Value.int IntKind.u32 0] 22)).alloc (Obj.cells #[Value.int IntKind.i64 ↑t, Value.int IntKind.i64 ↑s] 76)).alloc (Obj.cells #[Value.int IntKind.u32 ↑c] 22)
    (try simp only [World.size_alloc] at this)
    exact this
  have k2 : Blk w1 (w.heap.size + 1 + 1) 22 #[Value.int IntKind.u32 ↑g] := by
    rw [← hw1]
    have := ((((Blk.new ((w.alloc (Obj.cells #[Value.pointer (some { block := p, off := 0 })] 30)).alloc (Obj.cells #[Value.int IntKind.i64 ↑t, Value.int IntKind.i64 ↑s] 76)) 22 #[Value.int IntKind.u32 ↑g]).alloc (Obj.cells #[Value.slice none 0 0] 38)).alloc (Obj.cells #[Value.int IntKind.u32 0] 22)).alloc (Obj.cells #[Value.int IntKind.i64 ↑t, Value.int IntKind.i64 ↑s] 76)).alloc (Obj.cells #[Value.int IntKind.u32 ↑c] 22)
    (try simp only [World.size_alloc] at this)
    exact this
  have k3 : Blk w1 (w.heap.size + 1 + 1 + 1) 38 #[Value.slice none 0 0] := by
    rw [← hw1]
    have := (((Blk.new (((w.alloc (Obj.cells #[Value.pointer (some { block := p, off := 0 })] 30)).alloc (Obj.cells #[Value.int IntKind.i64 ↑t, Value.int IntKind.i64 ↑s] 76)).alloc (Obj.cells #[Value.int IntKind.u32 ↑g] 22)) 38 #[Value.slice none 0 0]).alloc (Obj.cells #[Value.int IntKind.u32 0] 22)).alloc (Obj.cells #[Value.int IntKind.i64 ↑t, Value.int IntKind.i64 ↑s] 76)).alloc (Obj.cells #[Value.int IntKind.u32 ↑c] 22)
    (try simp only [World.size_alloc] at this)
    exact this
  have k4 : Blk w1 (w.heap.size + 1 + 1 + 1 + 1) 22 #[Value.int IntKind.u32 0] := by
    rw [← hw1]
    have := ((Blk.new ((((w.alloc (Obj.cells #[Value.pointer (some { block := p, off := 0 })] 30)).alloc (Obj.cells #[Value.int IntKind.i64 ↑t, Value.int IntKind.i64 ↑s] 76)).alloc (Obj.cells #[Value.int IntKind.u32 ↑g] 22)).alloc (Obj.cells #[Value.slice none 0 0] 38)) 22 #[Value.int IntKind.u32 0]).alloc (Obj.cells #[Value.int IntKind.i64 ↑t, Value.int IntKind.i64 ↑s] 76)).alloc (Obj.cells #[Value.int IntKind.u32 ↑c] 22)
    (try simp only [World.size_alloc] at this)
    exact this
  have k5 : Blk w1 (w.heap.size + 1 + 1 + 1 + 1 + 1) 76 #[Value.int IntKind.i64 ↑t, Value.int IntKind.i64 ↑s] := by
    rw [← hw1]
    have := (Blk.new (((((w.alloc (Obj.cells #[Value.pointer (some { block := p, off := 0 })] 30)).alloc (Obj.cells #[Value.int IntKind.i64 ↑t, Value.int IntKind.i64 ↑s] 76)).alloc (Obj.cells #[Value.int IntKind.u32 ↑g] 22)).alloc (Obj.cells #[Value.slice none 0 0] 38)).alloc (Obj.cells #[Value.int IntKind.u32 0] 22)) 76 #[Value.int IntKind.i64 ↑t, Value.int IntKind.i64 ↑s]).alloc (Obj.cells #[Value.int IntKind.u32 ↑c] 22)
    (try simp only [World.size_alloc] at this)
    exact this
  have k6 : Blk w1 (w.heap.size + 1 + 1 + 1 + 1 + 1 + 1) 22 #[Value.int IntKind.u32 ↑c] := by
    rw [← hw1]
    have := Blk.new ((((((w.alloc (Obj.cells #[Value.pointer (some { block := p, off := 0 })] 30)).alloc (Obj.cells #[Value.int IntKind.i64 ↑t, Value.int IntKind.i64 ↑s] 76)).alloc (Obj.cells #[Value.int IntKind.u32 ↑g] 22)).alloc (Obj.cells #[Value.slice none 0 0] 38)).alloc (Obj.cells #[Value.int IntKind.u32 0] 22)).alloc (Obj.cells #[Value.int IntKind.i64 ↑t, Value.int IntKind.i64 ↑s] 76)) 22 #[Value.int IntKind.u32 ↑c]
    (try simp only [World.size_alloc] at this)
    exact this
  have hb : Below w.heap.size w w1 := by rw [← hw1]; exact (((((((Below.refl w.heap.size w).alloc (by (try simp only [World.size_alloc]); omega) (Obj.cells #[Value.pointer (some { block := p, off := 0 })] 30)).alloc (by (try simp only [World.size_alloc]); omega) (Obj.cells #[Value.int IntKind.i64 ↑t, Value.int IntKind.i64 ↑s] 76)).alloc (by (try simp only [World.size_alloc]); omega) (Obj.cells #[Value.int IntKind.u32 ↑g] 22)).alloc (by (try simp only [World.size_alloc]); omega) (Obj.cells #[Value.slice none 0 0] 38)).alloc (by (try simp only [World.size_alloc]); omega) (Obj.cells #[Value.int IntKind.u32 0] 22)).alloc (by (try simp only [World.size_alloc]); omega) (Obj.cells #[Value.int IntKind.i64 ↑t, Value.int IntKind.i64 ↑s] 76)).alloc (by (try simp only [World.size_alloc]); omega) (Obj.cells #[Value.int IntKind.u32 ↑c] 22)
  have hz1 : w1.heap.size = w.heap.size + 7 := by rw [← hw1]; simp only [World.size_alloc]
  rw [hw1]
  clear hw1
  have hEw : Env w1 := HE.out.below hb
  have hseq := cursors_any t s hs c hc (w.heap.size + 1 + 1 + 1 + 1 + 1 + 1) (w.heap.size + 1 + 1 + 1 + 1 + 1) w1 hEw k6 k5 [w.heap.size + 1 + 1 + 1 + 1] (by have := HE.out.lt; simp only [List.mem_singleton]; omega) (by simp only [List.mem_singleton]; omega) (by simp only [List.mem_singleton]; omega)
  rw [hq] at hseq
  have hHS := fun (W : World) (hb : Below w.heap.size w W) (x : Nat) (r : List Nd) hr => Lib.hid (bucket_in (HA.out.later hb) ok (by omega) t ht x r hr)
  refine (wpIn_wide (n := 6)).1 (Sc.range_x (gf := 72) (lb := #[Value.pointer (some { block := w.heap.size + 1 + 1 + 1 + 1 + 1 + 1, off := 0 }), Value.pointer (some { block := w.heap.size + 1 + 1 + 1 + 1 + 1, off := 0 })]) (encs := encT) (xs := roundsN s q) (L := [w.heap.size + 1 + 1 + 1 + 1]) rfl (enters_of Tryd.func72 (by kernel_rfl) rfl) hseq (fun _ _ => rfl)
    (fun i W => ∃ r y, i ≤ m ∧ Below w.heap.size w W ∧ Blk W (w.heap.size + 1 + 1 + 1) 38 #[r] ∧ Blk W (w.heap.size + 1 + 1 + 1 + 1) 22 #[y] ∧ Own9 W (w.heap.size + 5) r (keysR (rowsT D t) s q i) ∧ Blk W w.heap.size 30 #[.pointer (some ⟨p, 0, none⟩)] ∧ Blk W (w.heap.size + 1) 76 #[.int .i64 t, .int .i64 s] ∧ Blk W (w.heap.size + 1 + 1) 22 #[.int .u32 g])
    (fun c _ W => match c with
      | .exit id => id = 0 ∧ ∃ r, Below w.heap.size w W ∧ Blk W (w.heap.size + 1 + 1 + 1) 38 #[r] ∧ Blk W (w.heap.size + 1 + 1 + 1 + 1) 22 #[.int .u32 (curN s (q + m + 1))] ∧ Own9 W (w.heap.size + 5) r (keysR (rowsT D t) s q (m + 1))
      | _ => False)
    ?hI ?hIx ?h0 (fun i x a' W => a' = { tmps := #[Value.pointer (some { block := p, off := 0 }),
          Value.agg #[Value.int IntKind.i64 t, Value.int IntKind.i64 s], Value.int IntKind.u32 c,
          Value.int IntKind.u32 g, Value.pointer (some { block := w.heap.size, off := 0 }),
          Value.pointer (some { block := w.heap.size + 1, off := 0 }), undef,
          Value.pointer (some { block := w.heap.size + 1 + 1, off := 0 }), Value.slice none 0 0,
          Value.int IntKind.u32 0, Value.pointer (some { block := w.heap.size + 1 + 1 + 1, off := 0 }),
          Value.pointer (some { block := w.heap.size + 1 + 1 + 1 + 1, off := 0 }), .int .i64 x.1, .int .u32 x.2, undef, undef,
          Value.agg #[Value.int IntKind.i64 t, Value.int IntKind.i64 s], Value.int IntKind.u32 c,
          Value.func (Fn.func 72) #[]
            #[Value.pointer (some { block := w.heap.size + 1 + 1 + 1 + 1 + 1 + 1, off := 0 }),
              Value.pointer (some { block := w.heap.size + 1 + 1 + 1 + 1 + 1, off := 0 })],
          .int .i64 x.1, .int .u32 x.2, undef, undef, undef, undef, undef, undef, undef, undef, undef, undef, undef, undef, undef,
          undef, undef, undef, undef, undef], defers := [] })
    (fun _ _ _ => own_pure _ _) ?assign ?body ?done ?stop)
  case hI => exact own_ex fun r => own_ex fun y => (own_pure _ _).and ((own_below _ w (by omega)).and ((own_blk _ _ _ _).and ((own_blk _ _ _ _).and ((own9_row _ _ _ _).and ((own_blk _ _ _ _).and ((own_blk _ _ _ _).and (own_blk _ _ _ _)))))))
  case hIx =>
    intro c
    cases c with
    | exit id => exact (own_pure _ _).and (own_ex fun r => (own_below _ w (by omega)).and ((own_blk _ _ _ _).and ((own_blk _ _ _ _).and (own9_row _ _ _ _))))
    | _ => exact own_pure _ _
  case h0 => exact ⟨_, _, by omega, hb, k3, k4, World.ownsRow_nil _ _ _ _, k0, k1, k2⟩
  case assign =>
    rintro l i x W K hx' hI hK
    unfold encT
    gi_wp2
    exact hK _ _ (KeepsFrom.refl _ _) (Sc.KeepC.refl _ _) hI rfl
  case body =>
    rintro l i x a' W hx' ⟨r, y, him, hb', q3, q4, hown, q0, q1, q2⟩ rfl
    rw [rounds_at s q i (by omega)] at hx'
    obtain rfl := Option.some.inj hx'
    have hsl := cur_slot s (q + i) hs (by omega)
    have hnl := cur_small s (q + i + 1)
    have hkeys : keysR (rowsT D t) s q (i + 1) = keysR (rowsT D t) s q i ++ sortK ((rowsT D t)[curN s (q + i)]'(by omega) |>.map bytesK) := by
      rw [keysR, List.getD_eq_getElem?_getD, List.getElem?_eq_getElem (by omega)]
      rfl
    have hBK := hHS W hb' (curN s (q + i)) _ (List.getElem?_eq_getElem (by omega))
    have hkl := keysR_len (rowsT D t) s q (i + 1)
    have hnI := hno i
    generalize (rowsT D t)[curN s (q + i)]'(by omega) = rr at *
    obtain ⟨c0, f0⟩ := facts1 q0
    have c1 := q1.cell 0
    obtain ⟨c2, f2⟩ := facts1 q2
    obtain ⟨c3, f3⟩ := facts1 q3
    obtain ⟨c4, f4⟩ := facts1 q4
    simp at c1
    clear hx' hseq k0 k1 k2 k3 k4 k5 k6 hb HMK
    generalize hv : curN s (q + i) = v at *
    generalize hd : curN s (q + i + 1) = d at *
    have HO := Lib.hid hown
    have HKY := Lib.hid hkeys
    have HKL := Lib.hid hkl
    have HB := Lib.hid hb'
    have Q3 := Lib.hid q3
    have Q4 := Lib.hid q4
    have Q0 := Lib.hid q0
    have Q1 := Lib.hid q1
    have Q2 := Lib.hid q2
    have HHS := Lib.hid hHS
    clear hown hkeys hkl hb' q0 q1 q2 q3 q4 hHS
    gi_wp2_with fail
    refine ⟨trivial, (CallsIn.inRound l (callsIn_wide.2 hBK.out)).mono ?_⟩
    rintro e W6 ⟨u, rfl, hu, hb6⟩
    have hO6 := HO.out.below hb6
    have hz6 := hb6.size
    have hz0 := HB.out.size
    have hz3 := Q4.out.lt
    have hz4 := hz1
    obtain ⟨v7, w7, hrun, hO7, hg7⟩ := hO6.join hu (by
      have h1 := HKL.out
      have h2 := HKY.out
      have h3 := congrArg List.length h2
      rw [List.length_append] at h3
      have h4 : (rowsT D t).flatten.length ≤ 500 := by
        have h5 := ok.n
        rcases ht with rfl | rfl
        · show D.a.flatten.length ≤ 500; omega
        · show D.b.flatten.length ≤ 500; omega
      have h6 : (i + 1) * (rowsT D t).flatten.length ≤ 1024 * 500 := Nat.mul_le_mul (by omega) h4
      omega) (by omega)
    obtain ⟨c36, f36⟩ := facts1 (Q3.out.later hb6)
    obtain ⟨c46, f46⟩ := facts1 (Q4.out.later hb6)
    obtain ⟨c26, f26⟩ := facts1 (Q2.out.later hb6)
    have HU := Lib.hid hu
    have HB6 := Lib.hid hb6
    obtain ⟨va, vn, vc, rfl⟩ : ∃ va vn vc, v7 = .slice va vn vc := by
      rcases hO7.2 with ⟨rfl, _⟩ | ⟨g, cap, cur, rfl, _⟩
      · exact ⟨_, _, _, rfl⟩
      · exact ⟨_, _, _, rfl⟩
    have hz7 := hg7.size
    have HG7 := Lib.hid hg7
    have HO7 := Lib.hid hO7
    have key : ∀ k t c, Blk W k t c → k < w.heap.size + 5 → Blk w7 k t c := fun k t c hk hkn =>
      (hg7.block k (hk.later HB6.out).lt (fun e => by
        have := (World.ownsRow.lt hO6 k e.symm).1
        omega)).trans (hk.later HB6.out)
    obtain ⟨c37, f37⟩ := facts1 (key _ _ _ Q3.out (by omega))
    obtain ⟨c47, f47⟩ := facts1 (key _ _ _ Q4.out (by omega))
    have c27 := (facts1 (((key _ _ _ Q2.out (by omega)).setOther 0 (.slice va vn vc) (show w.heap.size + 1 + 1 ≠ w.heap.size + 1 + 1 + 1 by omega)).setOther 0 (.int .u32 d) (show w.heap.size + 1 + 1 ≠ w.heap.size + 1 + 1 + 1 + 1 by omega))).1
    obtain ⟨x1, x2, x3, x4, x5, x6, x7⟩ := app_end9 (b := w.heap.size + 1 + 1 + 1) (b2 := w.heap.size + 1 + 1 + 1 + 1) (.int .u32 d) Q3.out Q4.out HO.out HB6.out HG7.out HO7.out (by omega) (by omega) (by omega) HB.out (by omega) (by omega) w1.heap.size
    have X0 := Lib.hid (x7 _ _ _ Q0.out (by omega) (by omega) (by omega))
    have X1 := Lib.hid (x7 _ _ _ Q1.out (by omega) (by omega) (by omega))
    have X2 := Lib.hid (x7 _ _ _ Q2.out (by omega) (by omega) (by omega))
    have X := Lib.hid (And.intro x1 (And.intro x2 (And.intro x3 (And.intro x4 (And.intro x5 x6)))))
    clear c0 f0 c1 c2 f2 c3 f3 c4 f4 hu hb6 key x1 x2 x3 x4 x5 x6 x7 hg7 hO7 hO6 hz6 hz0 hz3 hz7
    have hand := bits_and32 d g hnl hg
    rcases Nat.lt_or_ge i m with him2 | him2
    · have hx := hnI him2
      generalize d &&& g = x at *
      have hx0 : ((x : Int) == 0) = false := by simpa using hx
      clear hx hnI hno hyes
      gi_wp2_with (gi_at_builtin; refine wpListIn_append_ran rfl _ _ 38 38 rfl rfl rfl hrun ?_)
      obtain ⟨x1, x2, x3, x4, x5, x6⟩ := X.out
      refine ⟨x1, x2, _, _, him2, x3, x4, x5, ?_, X0.out, X1.out, X2.out⟩
      rw [HKY.out]
      exact x6
    · obtain rfl : i = m := by omega
      rw [hd] at hyes
      rw [hyes] at hand
      clear hnI hno hyes
      have HD := Lib.hid hd
      clear hd
      gi_wp2_with (gi_at_builtin; refine wpListIn_append_ran rfl _ _ 38 38 rfl rfl rfl hrun ?_)
      obtain ⟨x1, x2, x3, x4, x5, x6⟩ := X.out
      refine ⟨x1, rfl, _, x3, x4, by rw [HD.out]; exact x5, ?_⟩
      rw [HKY.out]
      exact x6
  case done =>
    rintro DD W hD ⟨r, y, him, _⟩ hK
    rw [rounds_len] at him
    omega
  case stop =>
    rintro DD cc i W hD hI hK
    cases cc with
    | exit id =>
      obtain ⟨rfl, r, hb', q3, q4, hown⟩ := hI
      obtain ⟨c3, f3⟩ := facts1 q3
      obtain ⟨c4, f4⟩ := facts1 q4
      have HO := Lib.hid hown
      have HK := Lib.hid hK
      have HB := Lib.hid hb'
      clear hseq hown hK q3 q4 hb' k0 k1 k2 k3 k4 k5 k6 hb
      refine wpIn_wide.2 ?_
      go_wp2
      go_region
      go_wp2
      simp only [Exit.noGoto]
      exact leave (v := .tuple #[r, .int .u32 (curN s (q + m + 1))]) rfl HK.out (by simp [results, Tryd.results38, go_sem]) ⟨_, rfl, (HO.out.mono (by omega)).put HK.out, below_put HB.out.drew (by omega) _⟩
    | _ => exact hI.elim
end
end Go.Proofs.YtlfhiolkbnhinaaDoor
