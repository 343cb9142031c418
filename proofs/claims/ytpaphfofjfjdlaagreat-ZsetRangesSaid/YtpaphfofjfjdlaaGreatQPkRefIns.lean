/- The reference's Insert and Delete: parts of a list one behind the other. -/
import Derived.Test.YtpaphfofjfjdlaaGreatQPkD
import Derived.Deep.RegionLaw
import Derived.Test.YtpaphfofjfjdlaaGreatQDcB
import Derived.Deep.DrawnRows
namespace Go.Proofs.YtpaphfofjfjdlaaGreat.Pk
open Go.RowKit Go.Shelf
attribute [local go_sem] Oper.semAt_some

theorem cellsE_nth (xs : List Ent) : ∀ (j : Nat) (u : Value), (cellsE xs)[j]? = some u → ∃ i, ∃ h : i < xs.length, (j = i * 2 ∧ u = .string xs[i].1) ∨ (j = i * 2 + 1 ∧ u = .int .i64 xs[i].2) := by
  induction xs with
  | nil => intro j u h; simp [cellsE] at h
  | cons e xs ih =>
    intro j u h
    rw [show cellsE (e :: xs) = .string e.1 :: .int .i64 e.2 :: cellsE xs from rfl] at h
    match j, h with
    | 0, h => exact ⟨0, by simp, .inl ⟨rfl, by simpa using h.symm⟩⟩
    | 1, h => exact ⟨0, by simp, .inr ⟨rfl, by simpa using h.symm⟩⟩
    | j + 2, h =>
      obtain ⟨i, hi, hx⟩ := ih j u (by simpa using h)
      refine ⟨i + 1, by simp; omega, ?_⟩
      simp only [List.getElem_cons_succ]
      rcases hx with ⟨h1, h2⟩ | ⟨h1, h2⟩
      · exact .inl ⟨by omega, h2⟩
      · exact .inr ⟨by omega, h2⟩
theorem cellsE_one (xs : List Ent) : ∀ u ∈ cellsE xs, u.oneCell' = true := by
  intro u hu
  obtain ⟨e, _, he⟩ := List.mem_flatMap.1 hu
  simp at he
  rcases he with rfl | rfl <;> rfl

theorem app_list {W : World} {n0 : Nat} {r : Value} {l xs : List Ent} {a : Option Addr} (hown : Own35 W n0 r l) (hE : Ents W a xs) (cap : Nat) (hl : l.length ≤ 1000000) (hx : xs.length ≤ 1000000) (hn : n0 ≤ W.heap.size) :
    ∃ v' W', (Builtin.append_ #[35, 35] 35 #[r, .slice a xs.length cap]).run Tryz.prog W = .ok v' W' ∧ Own35 W' n0 v' (l ++ xs) ∧ W.grownBy W' r.ownBlock := by
  obtain ⟨i0, hi0, hz0, hz1, hz2⟩ := info_parts info48
  have hlen : (l ++ xs).length = l.length + xs.length := List.length_append
  cases a with
  | none =>
    have h0 : xs = [] := by
      cases xs with
      | nil => rfl
      | cons e xs => obtain ⟨b, off, h, _⟩ := hE 0 (by simp); cases h
    subst h0
    refine ⟨r, W, ?_, by rw [List.append_nil]; exact hown, World.grownBy.refl W _⟩
    rcases hown.2 with ⟨rfl, hl0⟩ | ⟨g, c, cur, rfl, _, _, hc, _⟩
    · simp [Builtin.append_, run_underlying Tryz.underlying35, sizeOf, typeInfo, hi0, Builtin.lenOf, Builtin.firstCells]
    · simp [Builtin.append_, run_underlying Tryz.underlying35, sizeOf, typeInfo, hi0, Builtin.lenOf, Builtin.firstCells, hc, storeCells]
  | some ad =>
    obtain ⟨v', W', h1, h2, h3, _⟩ := run_append_own (P := Tryz.prog) W n0 35 35 48 i0 _ 2 24 Tryz.underlying35 hi0 hz0 hz1 hz2 rfl (by decide) r _ _ hown ad xs.length cap (cellsE xs) (cellsE_length xs)
      (fun j u hu => by
        obtain ⟨i, hi, hx⟩ := cellsE_nth xs j u hu
        obtain ⟨b, off, h, c0, c1⟩ := hE i hi
        cases h
        rcases hx with ⟨rfl, rfl⟩ | ⟨rfl, rfl⟩
        · rw [Addr.add_lit]; exact c0
        · rw [Addr.add_lit, ← Nat.add_assoc]; exact c1)
      (cellsE_one xs) (by unfold maxLen; omega) (by omega) hn
    refine ⟨v', W', h1, ?_, h3⟩
    unfold Own35
    rw [hlen, cellsE_append]
    exact h2

theorem Ents.take {W : World} {a : Option Addr} {l : List Ent} (h : Ents W a l) (k : Nat) : Ents W a (l.take k) := fun i hi => by
  have h2 : i < l.length := by simp at hi; omega
  simp only [List.getElem_take]
  exact h i h2
theorem Ents.drop {W : World} {a : Option Addr} {l : List Ent} (h : Ents W a l) (k cap : Nat) (hc : l.length ≤ cap) : Ents W (if cap = k then a else a.map (·.add (k * 2))) (l.drop k) := fun i hi => by
  have h2 : k + i < l.length := by simp at hi; omega
  obtain ⟨b, off, rfl, c0, c1⟩ := h (k + i) h2
  rw [if_neg (by omega)]
  refine ⟨b, off + k * 2, by simp [Addr.add_lit], ?_, ?_⟩
  · simp only [List.getElem_drop]
    rw [show off + k * 2 + i * 2 = off + (k + i) * 2 by omega]; exact c0
  · simp only [List.getElem_drop]
    rw [show off + k * 2 + i * 2 + 1 = off + (k + i) * 2 + 1 by omega]; exact c1

theorem step_app_list {ops : Array Oper} {o : Oper} {a : Act} {W : World} {K : Act → World → Prop} {Q : Exit → Act → World → Prop} {E : Prop} (hgd : o.guard = none) (s x : Operand)
    (ho : o.op = Op.call { callee := Callee.builtin Builtin.append, args := #[s, x], argTypes := #[35, 35] }) (hty : o.type = 35)
    {n0 : Nat} {r : Value} {l xs : List Ent} {ad : Option Addr} {m cap : Nat} (hs : a.eval s = r) (hx : a.eval x = .slice ad m cap) (hm : m = xs.length)
    (hown : Own35 W n0 r l) (hE : Ents W ad xs) (hl : l.length ≤ 1000000) (hxl : xs.length ≤ 1000000) (hn : n0 ≤ W.heap.size)
    (h : ∀ v' W', Own35 W' n0 v' (l ++ xs) → W.grownBy W' r.ownBlock → K (a.put o.dst v') W') : if Region.wanted o (yielded ops a.tmps) = true then Oper.wp Tryz.prog o a W K Q else E := by
  subst hm
  obtain ⟨v', W', hrun, h2, h3⟩ := app_list hown hE cap hl hxl hn
  exact Dc.step_append_ran hgd s x 35 35 ho hs hx (by rw [hty]; exact hrun) (h v' W' h2 h3)

theorem wpList_app_list {ops : Array Oper} {rest : List Oper} {o : Oper} {a : Act} {W : World} {Q : Exit → Act → World → Prop} (hgd : o.guard = none) (s x : Operand)
    (ho : o.op = Op.call { callee := Callee.builtin Builtin.append, args := #[s, x], argTypes := #[35, 35] }) (hty : o.type = 35)
    {n0 : Nat} {r : Value} {l xs : List Ent} {ad : Option Addr} {m cap : Nat} (hs : a.eval s = r) (hx : a.eval x = .slice ad m cap) (hm : m = xs.length)
    (hown : Own35 W n0 r l) (hE : Ents W ad xs) (hl : l.length ≤ 1000000) (hxl : xs.length ≤ 1000000) (hn : n0 ≤ W.heap.size)
    (h : ∀ v' W', Own35 W' n0 v' (l ++ xs) → W.grownBy W' r.ownBlock → wpList Tryz.prog ops Q rest (a.put o.dst v') W') : wpList Tryz.prog ops Q (o :: rest) a W := by
  subst hm
  obtain ⟨v', W', hrun, h2, h3⟩ := app_list hown hE cap hl hxl hn
  refine wpList_plain hgd fun K hK => ?_
  unfold Oper.wp
  simp [execOp, ho, resolve, invoke, builtin, hs, hx, hty, hrun, Result.andThen]
  exact hK _ _ (h v' W' h2 h3)

set_option maxRecDepth 100000 in
set_option maxHeartbeats 2000000 in
theorem refDelete_any (a : Option Addr) (cap : Nat) (l : List Ent) (hl : l.length ≤ 1000) (hc : l.length ≤ cap) (k : Nat) (hk : k < l.length) (w : World) (hE : Ents w a l) :
    Calls Tryz.prog 51 #[.slice a l.length cap, .int .i64 k] w fun e w' => ∃ r, e = .returned r ∧ Own35 w' w.heap.size r (l.take k ++ l.drop (k + 1)) ∧ Below w.heap.size w w' := by
  have hk0 : (0 : Int) ≤ k := by omega
  have hk1 : (k : Int) ≤ cap := by omega
  have hk2 : (k : Int) < l.length := by omega
  have hk3 : (k : Int) ≤ 1000 := by omega
  have ho0 : Own35 w w.heap.size (.slice none 0 0) [] := World.ownsRow_nil _ _ _ _
  have HE := Lib.hid hE
  have hd := HE.out.drop (k + 1) cap hc
  have hg1 : IntKind.i64.wrap ((k : Int) + 1) = (k : Int) + 1 := IntWalk.i64_in _ (by omega)
  have ht : (l.take k).length = k := by simp; omega
  have hdl : (l.drop (k + 1)).length = l.length - (k + 1) := List.length_drop
  have HT := Lib.hid ht
  have HD := Lib.hid hd
  have HDL := Lib.hid hdl
  clear ht hd hdl hE
  go_enter Tryz.func51, Tryz.ntmps51
  go_wp2_with (first
    | (at_builtin
       refine wpList_app_list rfl (.tmp 6) (.tmp 9) rfl rfl (n0 := w.heap.size) (r := .slice none 0 0) (l := []) (xs := l.take k) (ad := a) (m := k) rfl rfl HT.out.symm ho0 (HE.out.take k) (by simp) (by rw [HT.out]; omega) (Nat.le_refl _) ?_
       rintro v1 w1 ho1 hg1
       have hb1 : Below w.heap.size w w1 := (Below.refl _ _).grown hg1 (Nat.le_refl _) (by simp [Value.ownBlock])
       have HB1 := Lib.hid hb1
       have HO1 := Lib.hid ho1
       clear hb1 ho1 hg1)
    | (at_builtin
       refine wpList_app_list rfl (.tmp 11) (.tmp 15) rfl rfl (n0 := w.heap.size) (r := v1) (l := [] ++ l.take k) (xs := l.drop (k + 1)) (ad := if cap = k + 1 then a else a.map (fun x => x.add ((k + 1) * 2))) (m := l.length - (k + 1)) rfl rfl HDL.out.symm HO1.out (HD.out.below HB1.out) (by simp; omega) (by rw [HDL.out]; omega) HB1.out.size ?_
       rintro v2 w2 ho2 hg2
       have hb2 : Below w.heap.size w w2 := HB1.out.grown hg2 HB1.out.size (fun k e => (World.ownsRow.lt HO1.out k e).1)
       have HB2 := Lib.hid hb2
       have HO2 := Lib.hid ho2
       clear hb2 ho2 hg2))
  all_goals (
    go_ret
    exact ⟨_, rfl, HO2.out, HB2.out⟩)

theorem box_keep {W w1 : World} {b : Nat} {v u : Value} {t : TypeId} (hk : Blk W b t #[v, u]) (hg : W.grownBy w1 none) : w1.cell? ⟨b, 0, none⟩ = some v ∧ w1.cell? ⟨b, 1, none⟩ = some u ∧ b < w1.heap.size :=
  have hb : Below W.heap.size W w1 := (Below.refl _ _).grown hg (Nat.le_refl _) (fun _ h => nomatch h)
  have hl := hk.later hb
  ⟨hl.cell 0, hl.cell 1, hl.lt⟩
theorem ents_keep {W w1 : World} {x : Ent} {v u : Value} (hg : ((W.alloc (.cells #[v, u] 48)).alloc (.cells #[.string x.1, .int .i64 x.2] 48)).grownBy w1 none) : Ents w1 (some ⟨W.heap.size + 1, 0, none⟩) [x] := by
  have hb : Below ((W.alloc (.cells #[v, u] 48)).alloc (.cells #[.string x.1, .int .i64 x.2] 48)).heap.size ((W.alloc (.cells #[v, u] 48)).alloc (.cells #[.string x.1, .int .i64 x.2] 48)) w1 := (Below.refl _ _).grown hg (Nat.le_refl _) (fun _ h => nomatch h)
  have := (ents_one (W.alloc (.cells #[v, u] 48)) x).below hb
  simpa using this
theorem grown_drew {W w1 : World} {r : Option Nat} (hg : W.drew.grownBy w1 r) : W.grownBy w1 r := ⟨hg.os, hg.tape, hg.output, hg.size, hg.block⟩

set_option maxRecDepth 100000 in
set_option maxHeartbeats 4000000 in
theorem refInsert_any (a : Option Addr) (cap : Nat) (l : List Ent) (hl : l.length ≤ 1000) (hc : l.length ≤ cap) (k : Nat) (hk : k ≤ l.length) (x : Ent) (w : World) (hE : Ents w a l) :
    Calls Tryz.prog 65 #[.slice a l.length cap, .int .i64 k, .agg #[.string x.1, .int .i64 x.2]] w fun e w' => ∃ r, e = .returned r ∧ Own35 w' w.heap.size r (l.take k ++ [x] ++ l.drop k) ∧ Below w.heap.size w w' := by
  have hk0 : (0 : Int) ≤ k := by omega
  have hk1 : (k : Int) ≤ cap := by omega
  have hk2 : (k : Int) ≤ l.length := by omega
  have hk3 : (k : Int) ≤ 1000 := by omega
  have HE := Lib.hid hE
  have ht : (l.take k).length = k := by simp; omega
  have hdl : (l.drop k).length = l.length - k := List.length_drop
  have HT := Lib.hid ht
  have HD := Lib.hid (HE.out.drop k cap hc)
  have HDL := Lib.hid hdl
  clear ht hdl hE
  have hb0 := (Below.refl w.heap.size w).alloc (Nat.le_refl _) (Obj.cells #[Value.string x.1, Value.int IntKind.i64 x.2] 48)
  have B0 := Blk.new w 48 #[Value.string x.1, Value.int IntKind.i64 x.2]
  obtain ⟨f0, f1, f2, f3⟩ := facts2 B0
  have HB0 := Lib.hid hb0
  have HK0 := Lib.hid B0
  have hs0 : w.heap.size ≤ (w.alloc (Obj.cells #[Value.string x.1, Value.int IntKind.i64 x.2] 48)).heap.size := hb0.size
  clear hb0 B0
  go_enter Tryz.func65, Tryz.ntmps65
  go_wp2
  go_region_law (first
    | (refine step_app_list rfl (.tmp 8) (.tmp 11) rfl rfl (n0 := w.heap.size) (r := .slice none 0 0) (l := []) (xs := l.take k) (ad := a) (m := k) (by simp [Act.eval, Act.put]) (by simp [Act.eval, Act.put]; rfl) HT.out.symm (World.ownsRow_nil _ _ _ _) (by first | exact (HE.out.take k).below HB0.out.drew | exact (HE.out.take k).below (HB0.out.alloc HB0.out.size _).drew) (by simp) (by rw [HT.out]; omega) (by first | exact HB0.out.size | exact (HB0.out.alloc HB0.out.size _).size) ?_
       rintro v1 w1 ho1 hg1
       first
         | (obtain ⟨g0, g1, g2⟩ := box_keep HK0.out (grown_drew hg1)
            have HB1 := Lib.hid (HB0.out.grown (grown_drew hg1) HB0.out.size (fun _ h => nomatch h)))
         | (obtain ⟨g0, g1, g2⟩ := box_keep (HK0.out.alloc _) (grown_drew hg1)
            have HX1 := Lib.hid (ents_keep (grown_drew hg1))
            have HB1 := Lib.hid ((HB0.out.alloc HB0.out.size _).grown (grown_drew hg1) (HB0.out.alloc HB0.out.size _).size (fun _ h => nomatch h)))
       have HO1 := Lib.hid ho1
       clear ho1 hg1)
    | (refine step_app_list rfl (.tmp 12) (.tmp 14) rfl rfl (n0 := w.heap.size) (r := v1) (l := [] ++ l.take k) (xs := [x]) (m := 1) (ad := some ⟨w1.heap.size, 0, none⟩) (cap := 1) rfl rfl rfl (World.ownsRow.alloc HO1.out _) (ents_one _ x) (by simp; omega) (by simp) (HB1.out.alloc HB1.out.size _).size ?_
       rintro v2 w2 ho2 hg2
       have HO2 := Lib.hid ho2
       have HB2 := Lib.hid ((HB1.out.alloc HB1.out.size _).grown hg2 (HB1.out.alloc HB1.out.size _).size (fun k e => (World.ownsRow.lt HO1.out k e).1))
       clear ho2 hg2)
    | (refine step_app_list rfl (.tmp 12) (.tmp 14) rfl rfl (n0 := w.heap.size) (r := v1) (l := [] ++ l.take k) (xs := [x]) (m := 1) (ad := some ⟨w.heap.size + 1, 0, none⟩) (cap := 1) rfl rfl rfl HO1.out HX1.out (by simp; omega) (by simp) HB1.out.size ?_
       rintro v2 w2 ho2 hg2
       have HO2 := Lib.hid ho2
       have HB2 := Lib.hid (HB1.out.grown hg2 HB1.out.size (fun k e => (World.ownsRow.lt HO1.out k e).1))
       clear ho2 hg2))
  all_goals (
    go_wp2_with (
      at_builtin
      refine wpList_app_list rfl (.tmp 16) (.tmp 19) rfl rfl (n0 := w.heap.size) (r := v2) (l := [] ++ l.take k ++ [x]) (xs := l.drop k) (ad := if cap = k then a else a.map (fun x => x.add (k * 2))) (m := l.length - k) rfl rfl HDL.out.symm HO2.out (HD.out.below HB2.out) (by simp; omega) (by rw [HDL.out]; omega) HB2.out.size ?_
      rintro v3 w3 ho3 hg3
      have hb3 : Below w.heap.size w w3 := HB2.out.grown hg3 HB2.out.size (fun k e => (World.ownsRow.lt HO2.out k e).1)
      have HB3 := Lib.hid hb3
      have HO3 := Lib.hid ho3
      clear hb3 ho3 hg3)
    all_goals (
      go_ret
      have hfin := HO3.out
      rw [List.nil_append, List.append_assoc] at hfin
      exact ⟨_, rfl, hfin, HB3.out⟩))
end Go.Proofs.YtpaphfofjfjdlaaGreat.Pk
