/- The entry whose bytes end at a place; its copy; the iterators. -/
import Derived.Test.YtioidnfmpbdmhaaRange
namespace Go.Proofs.Ytioidnfmpbdmhaa
open Go.RowKit Go.Shelf
attribute [local go_sem] Oper.semAt_some

/-- A block that is known whole. -/
def Blk (W : World) (b : Nat) (t : TypeId) (c : Array Value) : Prop := W.heap[b]? = some (Obj.cells c t (0, 0))
theorem Blk.lt {W : World} {b : Nat} {t : TypeId} {c : Array Value} (h : Blk W b t c) : b < W.heap.size := (Array.getElem?_eq_some_iff.1 h).1
theorem Blk.cell {W : World} {b : Nat} {t : TypeId} {c : Array Value} (o : Nat) (h : Blk W b t c) : W.cell? ⟨b, o, none⟩ = c[o]? := by
  unfold Blk at h; simp [World.cell?, h]
theorem Blk.free {W : World} {b : Nat} {t : TypeId} {c : Array Value} (o : Nat) (h : Blk W b t c) : W.frozen? ⟨b, o, none⟩ = false := by
  unfold Blk at h; simp [World.frozen?, h]
theorem Blk.below {W W' : World} {b n : Nat} {t : TypeId} {c : Array Value} (h : Blk W b t c) (hb : Below n W W') (hn : b < n) : Blk W' b t c := (hb.block b hn).trans h
theorem Blk.later {W W' : World} {b : Nat} {t : TypeId} {c : Array Value} (h : Blk W b t c) (hb : Below W.heap.size W W') : Blk W' b t c := h.below hb h.lt
theorem Blk.keep {W W' : World} {L : List Nat} {b : Nat} {t : TypeId} {c : Array Value} (h : Blk W b t c) (hk : KeepC L W W') (hn : b ∉ L) (ht : itT t := by first | exact .inl rfl | exact .inr (.inl rfl) | exact .inr (.inr rfl)) : Blk W' b t c := hk.same b c t hn ht h
theorem Blk.new (W : World) (t : TypeId) (c : Array Value) : Blk (W.alloc (.cells c t)) W.heap.size t c := heap_at rfl
theorem Blk.alloc {W : World} {b : Nat} {t : TypeId} {c : Array Value} (h : Blk W b t c) (o : Obj) : Blk (W.alloc o) b t c := (Below.heap_alloc _ _ _ h.lt).trans h
theorem Blk.set {W : World} {b : Nat} {t : TypeId} {c : Array Value} (o : Nat) (v : Value) (h : Blk W b t c) : Blk (W.setCell ⟨b, o, none⟩ v) b t (c.setIfInBounds o v) := by
  unfold Blk at *; simp [World.setCell, Array.getElem?_modify, h]
theorem Blk.setOther {W : World} {b b' : Nat} {t : TypeId} {c : Array Value} (o : Nat) (v : Value) (h : Blk W b t c) (hne : b ≠ b') : Blk (W.setCell ⟨b', o, none⟩ v) b t c := (Below.heap_setCell _ _ _ _ hne).trans h
theorem Blk.drew {W : World} {b : Nat} {t : TypeId} {c : Array Value} (h : Blk W b t c) : Blk W.drew b t c := h

theorem facts1 {W : World} {b : Nat} {t : TypeId} {c0 : Value} (h : Blk W b t #[c0]) : W.cell? ⟨b, 0, none⟩ = some c0 ∧ W.frozen? ⟨b, 0, none⟩ = false := ⟨h.cell 0, h.free 0⟩
theorem facts2 {W : World} {b : Nat} {t : TypeId} {c0 c1 : Value} (h : Blk W b t #[c0, c1]) : W.cell? ⟨b, 0, none⟩ = some c0 ∧ W.cell? ⟨b, 1, none⟩ = some c1 ∧ W.frozen? ⟨b, 0, none⟩ = false ∧ W.frozen? ⟨b, 1, none⟩ = false :=
  ⟨h.cell 0, h.cell 1, h.free 0, h.free 1⟩
theorem facts4 {W : World} {b : Nat} {t : TypeId} {c0 c1 c2 c3 : Value} (h : Blk W b t #[c0, c1, c2, c3]) : W.cell? ⟨b, 0, none⟩ = some c0 ∧ W.cell? ⟨b, 1, none⟩ = some c1 ∧ W.cell? ⟨b, 2, none⟩ = some c2 ∧ W.cell? ⟨b, 3, none⟩ = some c3 ∧
    W.frozen? ⟨b, 0, none⟩ = false ∧ W.frozen? ⟨b, 1, none⟩ = false ∧ W.frozen? ⟨b, 2, none⟩ = false ∧ W.frozen? ⟨b, 3, none⟩ = false :=
  ⟨h.cell 0, h.cell 1, h.cell 2, h.cell 3, h.free 0, h.free 1, h.free 2, h.free 3⟩
theorem set2 {W : World} {b : Nat} {t : TypeId} {c0 c1 : Value} (v0 v1 : Value) (h : Blk W b t #[c0, c1]) :
    Blk ((W.setCell ⟨b, 0, none⟩ v0).setCell ⟨b, 1, none⟩ v1) b t #[v0, v1] ∧
    (∀ k, k ≠ b → ((W.setCell ⟨b, 0, none⟩ v0).setCell ⟨b, 1, none⟩ v1).heap[k]? = W.heap[k]?) ∧
    (∀ n, n ≤ b → Below n W ((W.setCell ⟨b, 0, none⟩ v0).setCell ⟨b, 1, none⟩ v1)) :=
  ⟨(h.set 0 v0).set 1 v1, fun k hk => by rw [Below.heap_setCell _ _ _ _ hk, Below.heap_setCell _ _ _ _ hk], fun n hn => ((Below.refl n W).setCell (p := ⟨b, 0, none⟩) hn v0).setCell (p := ⟨b, 1, none⟩) hn v1⟩
theorem set4 {W : World} {b : Nat} {t : TypeId} {c0 c1 c2 c3 : Value} (v0 v1 v2 v3 : Value) (h : Blk W b t #[c0, c1, c2, c3]) :
    Blk ((((W.setCell ⟨b, 0, none⟩ v0).setCell ⟨b, 1, none⟩ v1).setCell ⟨b, 2, none⟩ v2).setCell ⟨b, 3, none⟩ v3) b t #[v0, v1, v2, v3] ∧
    (∀ k, k ≠ b → ((((W.setCell ⟨b, 0, none⟩ v0).setCell ⟨b, 1, none⟩ v1).setCell ⟨b, 2, none⟩ v2).setCell ⟨b, 3, none⟩ v3).heap[k]? = W.heap[k]?) ∧
    (∀ n, n ≤ b → Below n W ((((W.setCell ⟨b, 0, none⟩ v0).setCell ⟨b, 1, none⟩ v1).setCell ⟨b, 2, none⟩ v2).setCell ⟨b, 3, none⟩ v3)) :=
  ⟨(((h.set 0 v0).set 1 v1).set 2 v2).set 3 v3, fun k hk => by rw [Below.heap_setCell _ _ _ _ hk, Below.heap_setCell _ _ _ _ hk, Below.heap_setCell _ _ _ _ hk, Below.heap_setCell _ _ _ _ hk],
    fun n hn => ((((Below.refl n W).setCell (p := ⟨b, 0, none⟩) hn v0).setCell (p := ⟨b, 1, none⟩) hn v1).setCell (p := ⟨b, 2, none⟩) hn v2).setCell (p := ⟨b, 3, none⟩) hn v3⟩

theorem ret4 {fn : Func} {R : Ending → World → Prop} {a : Act} {W : World} {b k : Nat} {v0 v3 v1 v2 : Value} (hr : fn.results = #[.cell k 61]) (hk : a.tmps.getD k undef = .pointer (some ⟨b, 0, none⟩)) (hB : Blk W b 61 #[v0, v1, v2, v3]) (hd : a.defers = [])
    (hR : R (.returned (.agg #[v0, v1, v2, v3])) W) : bodyPost Try.prog fn R .ret a W := by
  obtain ⟨e0, e1, e2, e3, f0, f1, f2, f3⟩ := facts4 hB
  refine bodyPost_ret ?_ hd hR
  have hk2 : a.tmps[k]?.getD undef = .pointer (some ⟨b, 0, none⟩) := by rw [← Array.getD_eq_getD_getElem?]; exact hk
  simp [results, hr, hk2, go_sem, e0, e1, e2, e3]
theorem ret2 {fn : Func} {R : Ending → World → Prop} {a : Act} {W : World} {b k : Nat} {v0 v1 : Value} (hr : fn.results = #[.cell k 35]) (hk : a.tmps.getD k undef = .pointer (some ⟨b, 0, none⟩)) (hB : Blk W b 35 #[v0, v1]) (hd : a.defers = [])
    (hR : R (.returned (.agg #[v0, v1])) W) : bodyPost Try.prog fn R .ret a W := by
  obtain ⟨e0, e1, f0, f1⟩ := facts2 hB
  refine bodyPost_ret ?_ hd hR
  have hk2 : a.tmps[k]?.getD undef = .pointer (some ⟨b, 0, none⟩) := by rw [← Array.getD_eq_getD_getElem?]; exact hk
  simp [results, hr, hk2, go_sem, e0, e1]

theorem cutV_shape (o : Option Cut) : ∃ m s f t, cutV o = .agg #[.string m, .int .i64 s, .int .i64 f, .int .i64 t] := by
  cases o with
  | none => exact ⟨_, _, _, _, rfl⟩
  | some c => exact ⟨_, _, _, _, rfl⟩

theorem ended_any (p : ByteArray) (hp : p.size ≤ 281474976710656) (to : Nat) (h0 : 0 < to) (ht : to ≤ p.size) (w : World) :
    Calls Try.prog 35 #[.string p, .int .i64 to] w fun e w' => e = .returned (cutV (endedS p to)) ∧ Below w.heap.size w w' := by
  obtain ⟨i, rfl⟩ : ∃ i, to = i + 1 := ⟨to - 1, by omega⟩
  have hi : i < p.size := by omega
  have hb := byte_eq p i hi
  have hl := byte_lt p i
  unfold endedS
  simp only [Nat.add_sub_cancel]
  generalize byte p i = n at *
  have HB := fun w => Lib.hid (begun_any p hp ((i : Int) - n) (by omega) (by omega) w)
  have hto : (((i + 1 : Nat) : Int) - 1 - n) = (i : Int) - n := by omega
  rw [hto]
  clear hto
  obtain ⟨m, s, f, t, hc⟩ := cutV_shape (begunI p ((i : Int) - n))
  rw [hc] at HB ⊢
  clear hc
  go_enter Try.func35, Try.ntmps35
  go_wp2_with fail
  refine (HB _).out.mono ?_
  rintro e w1 ⟨rfl, hb1⟩
  have hB := (Blk.new w 61 #[Value.string { data := #[] }, Value.int IntKind.i64 0, Value.int IntKind.i64 0, Value.int IntKind.i64 0]).later hb1
  obtain ⟨e0, e1, e2, e3, f0, f1, f2, f3⟩ := facts4 hB
  have HH := Lib.hid hB
  have HL := Lib.hid hb1
  clear hB hb1
  go_wp2
  obtain ⟨g1, g2, g3⟩ := set4 (.string m) (.int .i64 s) (.int .i64 f) (.int .i64 t) HH.out
  exact ret4 Try.results35 rfl g1 rfl ⟨rfl, (((Below.refl _ _).alloc (Nat.le_refl _) _).trans (HL.out.mono (by simp))).trans (g3 _ (Nat.le_refl _))⟩

/-- A cut's copy. -/
theorem entry_any (c : Cut) (hs : c.m.size ≤ 1000) (w : World) :
    Calls Try.prog 39 #[c.val] w fun e w' => e = .returned (.agg #[.string c.m, .int .i64 c.s]) ∧ Below w.heap.size w w' := by
  have HC := fun w => Lib.hid (Try.stringslite_Clone c.m w (by omega))
  have HD : ∀ w, Hid (Calls Try.prog 44 #[.string c.m] w fun e w' => e = .returned (.string c.m) ∧ Below w.heap.size w w') := fun w => Lib.hid (by
    go_enter Try.func44, Try.ntmps44
    go_wp2_with fail
    refine (HC _).out.mono ?_
    rintro e w1 ⟨rfl, hb1⟩
    go_wp2
    go_returns
    exact ⟨rfl, hb1⟩)
  clear HC
  unfold Cut.val
  go_enter Try.func39, Try.ntmps39
  go_wp2_with fail
  refine (HD _).out.mono ?_
  rintro e w1 ⟨rfl, hb1⟩
  have hA := ((Blk.new w 61 #[Value.string c.m, Value.int IntKind.i64 c.s, Value.int IntKind.i64 c.fr, Value.int IntKind.i64 c.to]).alloc (Obj.cells #[Value.string { data := #[] }, Value.int IntKind.i64 0] 35)).later hb1
  have hB := (Blk.new (w.alloc (Obj.cells #[Value.string c.m, Value.int IntKind.i64 c.s, Value.int IntKind.i64 c.fr, Value.int IntKind.i64 c.to] 61)) 35 #[Value.string { data := #[] }, Value.int IntKind.i64 0]).later hb1
  rw [World.size_alloc] at hB
  obtain ⟨a0, a1, a2, a3, b0, b1, b2, b3⟩ := facts4 hA
  obtain ⟨e0, e1, f0, f1⟩ := facts2 hB
  have HH := Lib.hid hB
  have HA := Lib.hid hA
  have HL := Lib.hid hb1
  clear hB hb1 hA
  go_wp2
  obtain ⟨g1, g2, g3⟩ := set2 (.string c.m) (.int .i64 c.s) (HH.out.setOther 0 (.string c.m) (show w.heap.size + 1 ≠ w.heap.size by omega))
  exact ret2 Try.results39 rfl g1 rfl ⟨rfl, (((((Below.refl _ _).alloc (Nat.le_refl _) _).alloc (by simp) _).trans (HL.out.mono (by simp; omega))).setCell (p := ⟨w.heap.size, 0, none⟩) (Nat.le_refl _) _).trans (g3 _ (by omega))⟩
end Go.Proofs.Ytioidnfmpbdmhaa
