/- Scan: what is told, and the next cursor. -/
import Derived.Test.YtlfhiolkbnhinaaDoorMask
import Derived.Deep.CutRange
namespace Go.Proofs.YtlfhiolkbnhinaaDoor
open Go.RowKit Go.Shelf Go.Sort
attribute [local go_sem] Oper.semAt_some

/-- The lesser table's size; what is told at a position. -/
def Dc.least (D : Dc) : Nat := (smallT D.a.length D.b.length).2
def scanK (D : Dc) (P : Nat) : List (List UInt8) :=
  keysR (rowsT D (smallT D.a.length D.b.length).1) D.least (P / unitN D.least) 1 ++
    if D.b = [] then [] else keysR (rowsT D (greatT D.a.length D.b.length).1) (greatT D.a.length D.b.length).2 (P / unitN (greatT D.a.length D.b.length).2) (restN (greatT D.a.length D.b.length).2 D.least (P / unitN (greatT D.a.length D.b.length).2) + 1)

theorem tables_ok {D : Dc} (ok : D.Ok tyI) (x : Nat × Nat) (h : x = smallT D.a.length D.b.length ∨ x = greatT D.a.length D.b.length) (ha : D.a.length ≤ 1024) (hb : D.b.length ≤ 1024) :
    (x.1 = 0 ∨ x.1 = 1) ∧ isS (x.2 : Int) = true ∧ (rowsT D x.1).length = x.2 ∧ x.2 ≤ 1024 := by
  have hal := isS_pos ok.a
  have key : x = (0, D.a.length) ∨ (D.b ≠ [] ∧ x = (1, D.b.length)) := by
    have hb0 : D.b.length = 0 ↔ D.b = [] := List.length_eq_zero_iff
    rcases h with rfl | rfl
    · unfold smallT
      split
      · exact .inl rfl
      · rename_i h1
        exact .inr ⟨fun e => h1 (.inl (hb0.2 e)), rfl⟩
    · unfold greatT
      split
      · exact .inl rfl
      · rename_i h1
        exact .inr ⟨fun e => h1 (.inl (hb0.2 e)), rfl⟩
  rcases key with rfl | ⟨h1, rfl⟩
  · exact ⟨.inl rfl, ok.a, rfl, ha⟩
  · exact ⟨.inr rfl, ok.b h1, rfl, hb⟩
theorem tables_le (A B : Nat) : (smallT A B).2 ≤ (greatT A B).2 := by
  unfold smallT greatT
  split <;> split <;> simp only <;> omega
theorem tables_ne {A B : Nat} (hB : 0 < B) : (smallT A B).1 ≠ (greatT A B).1 := by
  unfold smallT greatT
  split <;> split <;> simp only <;> omega
theorem tables_eq {A : Nat} : greatT A 0 = smallT A 0 := by
  unfold smallT greatT
  rw [if_pos (.inl rfl), if_pos (.inl rfl)]

set_option maxRecDepth 100000 in
set_option maxHeartbeats 4000000 in
theorem scan_one (p c A B At : Nat) (sa sb : Nat) (nx : Nat) (KS : List (List UInt8)) (w : World)
    (HSZ : Hid (Calls Tryd.prog 24 #[.pointer (some ⟨p, 0, none⟩)] w fun e w' => e = .returned (.tuple #[.int .i64 A, .int .i64 B, .int .i64 At]) ∧ Below w.heap.size w w'))
    (HOR : ∀ g W, Blk W g 3 #[.int .i64 A, .int .i64 B] → Hid (Calls Tryd.prog 37 #[.slice (some ⟨g, 0, none⟩) 2 2] W fun e w' => e = .returned (.tuple #[tabV (sa, sb), tabV (sa, sb)]) ∧ Below W.heap.size W w'))
    (HST : ∀ W, Below w.heap.size w W → Hid (Calls Tryd.prog 38 #[.pointer (some ⟨p, 0, none⟩), tabV (sa, sb), .int .u32 c, .int .u32 0] W fun e w' => ∃ u, e = .returned (.tuple #[u, .int .u32 nx]) ∧ Own9 w' W.heap.size u KS ∧ Below W.heap.size W w')) :
    Calls Tryd.prog 17 #[.pointer (some ⟨p, 0, none⟩), .int .u32 c] w fun e w' => ∃ u, e = .returned (.tuple #[u, .int .u32 nx]) ∧ Own9 w' w.heap.size u KS ∧ Below w.heap.size w w' := by
  unfold tabV at HOR HST
  simp only at HOR HST
  go_enter Tryd.func17, Tryd.ntmps17
  go_wp2_with fail
  (with_reducible refine HSZ.out.mono ?_)
  rintro e w1 ⟨rfl, hb1⟩
  go_wp2_with fail
  (with_reducible refine (HOR _ _ (Blk.new w1 3 #[.int .i64 A, .int .i64 B])).out.mono ?_)
  rintro e w2 ⟨rfl, hb2⟩
  have hb3 := hb1.trans (((Below.refl w1.heap.size w1).alloc (Nat.le_refl _) (Obj.cells #[Value.int IntKind.i64 A, Value.int IntKind.i64 B] 3)).trans (hb2.mono (by simp)) |>.mono hb1.size)
  have HB3 := Lib.hid hb3
  clear hb1 hb2 hb3
  go_upto_region 3 with fail
  have k9 := (Blk.new w2 76 #[Value.int IntKind.i64 sa, Value.int IntKind.i64 sb]).alloc (Obj.cells #[Value.int IntKind.i64 sa, Value.int IntKind.i64 sb] 76)
  have k10 := Blk.new (w2.alloc (Obj.cells #[Value.int IntKind.i64 sa, Value.int IntKind.i64 sb] 76)) 76 #[Value.int IntKind.i64 sa, Value.int IntKind.i64 sb]
  rw [World.size_alloc] at k10
  have hb4 := (HB3.out.alloc HB3.out.size (Obj.cells #[Value.int IntKind.i64 sa, Value.int IntKind.i64 sb] 76)).alloc (by have := HB3.out.size; simp; omega) (Obj.cells #[Value.int IntKind.i64 sa, Value.int IntKind.i64 sb] 76)
  have hz2 := HB3.out.size
  generalize ((w2.alloc (Obj.cells #[Value.int IntKind.i64 sa, Value.int IntKind.i64 sb] 76)).alloc (Obj.cells #[Value.int IntKind.i64 sa, Value.int IntKind.i64 sb] 76)) = w3 at *
  have s0 := k9.cell 0
  have s1 := k9.cell 1
  have g0 := k10.cell 0
  have g1 := k10.cell 1
  simp at s0 s1 g0 g1
  have HST3 := HST w3 hb4
  have K9 := Lib.hid k9
  have K10 := Lib.hid k10
  have HB4 := Lib.hid hb4
  clear k9 k10 hb4
  go_wp2_with fail
  (with_reducible refine HST3.out.mono ?_)
  rintro e w4 ⟨u, rfl, hO, hb5⟩
  have hb6 := HB4.out.trans (hb5.mono HB4.out.size)
  have K9b := K9.out.later hb5
  have K10b := K10.out.later hb5
  have t0 := K9b.cell 0
  have t1 := K9b.cell 1
  have y0 := K10b.cell 0
  have y1 := K10b.cell 1
  simp at t0 t1 y0 y1
  have HO := Lib.hid hO
  have HB6 := Lib.hid hb6
  have hz3 := HB4.out.size
  have hz9 := hb5.size
  have K9c := Lib.hid K9b
  have K10c := Lib.hid K10b
  clear hO hb5 hb6 K9b K10b s0 s1 g0 g1
  go_wp2
  go_ret2
  exact ⟨_, rfl, HO.out.mono hz3, HB6.out⟩

set_option maxRecDepth 100000 in
set_option maxHeartbeats 4000000 in
theorem scan_two (p c A B At : Nat) (sa sb ga gb : Nat) (hne : sa ≠ ga) (nx M : Nat) (KS KG : List (List UInt8)) (hlen : KS.length + KG.length ≤ 1000000) (w : World)
    (HSZ : Hid (Calls Tryd.prog 24 #[.pointer (some ⟨p, 0, none⟩)] w fun e w' => e = .returned (.tuple #[.int .i64 A, .int .i64 B, .int .i64 At]) ∧ Below w.heap.size w w'))
    (HOR : ∀ g W, Blk W g 3 #[.int .i64 A, .int .i64 B] → Hid (Calls Tryd.prog 37 #[.slice (some ⟨g, 0, none⟩) 2 2] W fun e w' => e = .returned (.tuple #[tabV (sa, sb), tabV (ga, gb)]) ∧ Below W.heap.size W w'))
    (HST : ∀ W, Below w.heap.size w W → Hid (Calls Tryd.prog 38 #[.pointer (some ⟨p, 0, none⟩), tabV (sa, sb), .int .u32 c, .int .u32 0] W fun e w' => ∃ u, e = .returned (.tuple #[u, .int .u32 nx]) ∧ Own9 w' W.heap.size u KS ∧ Below W.heap.size W w'))
    (HDS : ∀ W, Hid (Calls Tryd.prog 39 #[tabV (sa, sb)] W fun e w' => e = .returned (.int .u32 (sb - 1 : Nat)) ∧ Below W.heap.size W w'))
    (HDG : ∀ W, Hid (Calls Tryd.prog 39 #[tabV (ga, gb)] W fun e w' => e = .returned (.int .u32 (gb - 1 : Nat)) ∧ Below W.heap.size W w'))
    (HM : bits .andNot .u32 ((gb - 1 : Nat) : Int) ((sb - 1 : Nat) : Int) = (M : Nat))
    (HGT : ∀ W, Below w.heap.size w W → Hid (Calls Tryd.prog 38 #[.pointer (some ⟨p, 0, none⟩), tabV (ga, gb), .int .u32 c, .int .u32 M] W fun e w' => ∃ u, e = .returned (.tuple #[u, .int .u32 nx]) ∧ Own9 w' W.heap.size u KG ∧ Below W.heap.size W w')) :
    Calls Tryd.prog 17 #[.pointer (some ⟨p, 0, none⟩), .int .u32 c] w fun e w' => ∃ u, e = .returned (.tuple #[u, .int .u32 nx]) ∧ Own9 w' w.heap.size u (KS ++ KG) ∧ Below w.heap.size w w' := by
  unfold tabV at HOR HST HDS HDG HGT
  simp only at HOR HST HDS HDG HGT
  have hn1 : ((ga : Int) == (sa : Int)) = false := by simp; omega
  have hn2 : ¬ (ga : Int) = (sa : Int) := by omega
  generalize gb - 1 = gd at *
  generalize sb - 1 = sd at *
  go_enter Tryd.func17, Tryd.ntmps17
  go_wp2_with fail
  (with_reducible refine HSZ.out.mono ?_)
  rintro e w1 ⟨rfl, hb1⟩
  go_wp2_with fail
  (with_reducible refine (HOR _ _ (Blk.new w1 3 #[.int .i64 A, .int .i64 B])).out.mono ?_)
  rintro e w2 ⟨rfl, hb2⟩
  have hb3 := hb1.trans (((Below.refl w1.heap.size w1).alloc (Nat.le_refl _) (Obj.cells #[Value.int IntKind.i64 A, Value.int IntKind.i64 B] 3)).trans (hb2.mono (by simp)) |>.mono hb1.size)
  have HB3 := Lib.hid hb3
  clear hb1 hb2 hb3
  go_upto_region 3 with fail
  have k9 := (Blk.new w2 76 #[Value.int IntKind.i64 sa, Value.int IntKind.i64 sb]).alloc (Obj.cells #[Value.int IntKind.i64 ga, Value.int IntKind.i64 gb] 76)
  have k10 := Blk.new (w2.alloc (Obj.cells #[Value.int IntKind.i64 sa, Value.int IntKind.i64 sb] 76)) 76 #[Value.int IntKind.i64 ga, Value.int IntKind.i64 gb]
  rw [World.size_alloc] at k10
  have hb4 := (HB3.out.alloc HB3.out.size (Obj.cells #[Value.int IntKind.i64 sa, Value.int IntKind.i64 sb] 76)).alloc (by have := HB3.out.size; simp; omega) (Obj.cells #[Value.int IntKind.i64 ga, Value.int IntKind.i64 gb] 76)
  have hz2 := HB3.out.size
  generalize ((w2.alloc (Obj.cells #[Value.int IntKind.i64 sa, Value.int IntKind.i64 sb] 76)).alloc (Obj.cells #[Value.int IntKind.i64 ga, Value.int IntKind.i64 gb] 76)) = w3 at *
  have s0 := k9.cell 0
  have s1 := k9.cell 1
  have g0 := k10.cell 0
  have g1 := k10.cell 1
  simp at s0 s1 g0 g1
  have HST3 := HST w3 hb4
  have K9 := Lib.hid k9
  have K10 := Lib.hid k10
  have HB4 := Lib.hid hb4
  clear k9 k10 hb4
  go_wp2_with fail
  (with_reducible refine HST3.out.mono ?_)
  rintro e w4 ⟨u, rfl, hO, hb5⟩
  have hb6 := HB4.out.trans (hb5.mono HB4.out.size)
  have K9b := K9.out.later hb5
  have K10b := K10.out.later hb5
  have t0 := K9b.cell 0
  have t1 := K9b.cell 1
  have y0 := K10b.cell 0
  have y1 := K10b.cell 1
  simp at t0 t1 y0 y1
  have HO := Lib.hid hO
  have HB6 := Lib.hid hb6
  have hz3 := HB4.out.size
  have hz9 := hb5.size
  have K9c := Lib.hid K9b
  have K10c := Lib.hid K10b
  clear hO hb5 hb6 K9b K10b s0 s1 g0 g1
  go_upto_region 6 with fail
  have D0 : Below w4.heap.size w4 w4.drew := (Below.refl _ _).drew
  have HKS : ∀ W, Below w4.heap.size w4 W → Hid (W.cell? ⟨w2.heap.size, 0, none⟩ = some (.int .i64 sa) ∧ W.cell? ⟨w2.heap.size, 1, none⟩ = some (.int .i64 sb) ∧ W.cell? ⟨w2.heap.size + 1, 0, none⟩ = some (.int .i64 ga) ∧ W.cell? ⟨w2.heap.size + 1, 1, none⟩ = some (.int .i64 gb)) :=
    fun W hb => Lib.hid ⟨(K9c.out.later hb).cell 0, (K9c.out.later hb).cell 1, (K10c.out.later hb).cell 0, (K10c.out.later hb).cell 1⟩
  clear t0 t1 y0 y1
  obtain ⟨i0, i1, i2, i3⟩ := (HKS _ D0).out
  go_region_law (go_simp; first
    | (go_at_call 39; (with_reducible refine (HDG _).out.mono ?_); rintro e w5 ⟨rfl, hb5⟩; have D5 : Below w4.heap.size w4 w5 := D0.trans (hb5.mono D0.size); obtain ⟨i0, i1, i2, i3⟩ := (HKS _ D5).out)
    | (go_at_call 39; (with_reducible refine (HDS _).out.mono ?_); rintro e w6 ⟨rfl, hb6⟩; have D6 : Below w4.heap.size w4 w6 := D5.trans (hb6.mono D5.size); obtain ⟨i0, i1, i2, i3⟩ := (HKS _ D6).out)
    | (go_at_call 38; (with_reducible refine (HGT _ (HB6.out.trans (D6.mono HB6.out.size))).out.mono ?_); rintro e w7 ⟨v, rfl, hv, hb7⟩))
  all_goals (
    have D7 : Below w4.heap.size w4 w7 := D6.trans (hb7.mono D6.size)
    have hO7 := HO.out.below D7
    have hz4 := HB6.out.size
    have hz7 := D7.size
    obtain ⟨z8, w8, hrun, hO8, hg8⟩ := hO7.join hv hlen (by omega)
    have hb8 : Below w.heap.size w w8 := (HB6.out.trans (D7.mono HB6.out.size)).grown hg8 (by omega) (fun k e => by have := (World.ownsRow.lt hO7 k e).1; omega)
    have HO8 := Lib.hid hO8
    have HB8 := Lib.hid hb8
    clear hb8 hO8 hg8 hO7 D7 D6 D5 D0 hv hb7 HKS HST HGT HDS HDG HOR HSZ
    go_wp2_with (at_builtin; refine wpList_append_ran rfl _ _ 38 38 rfl rfl rfl hrun ?_)
    go_ret2
    exact ⟨_, rfl, HO8.out.mono hz3, HB8.out⟩)
section
variable {S : Nat → Prop} {p seed : Nat} {D : Dc} {w : World}
theorem scan_any (h : Rep tyI w p S seed D) (ok : D.Ok tyI) (hn : D.n ≤ 500) (ha : D.a.length ≤ 1024) (hb : D.b.length ≤ 1024) (c : Nat) (hc : c < 4294967296) (hE : Env w) :
    Calls Tryd.prog 17 #[.pointer (some ⟨p, 0, none⟩), .int .u32 c] w fun e w' =>
      ∃ u, e = .returned (.tuple #[u, .int .u32 (nextN c D.least)]) ∧ Own9 w' w.heap.size u (scanK D (turnN c)) ∧ Below w.heap.size w w' := by
  have hal := isS_pos ok.a
  have hab0 : D.a.length = 0 → D.b.length = 0 := fun e => by omega
  have HSZ := Lib.hid (sizes_of h)
  have HOR := fun g W hk => Lib.hid (ordered_any D.a.length D.b.length (by omega) (by omega) hab0 g W hk)
  obtain ⟨s1, s2, s3, s4⟩ := tables_ok ok (smallT D.a.length D.b.length) (.inl rfl) ha hb
  obtain ⟨g1, g2, g3, g4⟩ := tables_ok ok (greatT D.a.length D.b.length) (.inr rfl) ha hb
  have hle := tables_le D.a.length D.b.length
  have hP := turn_lt c hc
  have hq := part_lt _ c s2 hc
  have HST := fun W (hb : Below w.heap.size w W) => Lib.hid (stretch_any (h.later hb) ok hn (smallT D.a.length D.b.length).1 s1 (smallT D.a.length D.b.length).2 s2 s3 s4 c hc 0 (by decide) _ rfl 0 (by omega) (fun i hi => by omega) (by simp) (hE.below hb))
  obtain ⟨e1, e2, e3, e4, e5, e6, e7⟩ := great_facts _ _ s2 g2 hle (turnN c) hP
  have HGT := fun W (hb : Below w.heap.size w W) => Lib.hid (stretch_any (h.later hb) ok hn (greatT D.a.length D.b.length).1 g1 (greatT D.a.length D.b.length).2 g2 g3 g4 c hc (maskN (greatT D.a.length D.b.length).2 (smallT D.a.length D.b.length).2) (maskN_lt _ _ (by omega)) _ rfl _ e2 e3 e4 (hE.below hb))
  have HM : bits .andNot .u32 (((greatT D.a.length D.b.length).2 - 1 : Nat) : Int) (((smallT D.a.length D.b.length).2 - 1 : Nat) : Int) = (maskN (greatT D.a.length D.b.length).2 (smallT D.a.length D.b.length).2 : Nat) := bits_andNot32 _ _ (by omega) (by omega)
  have HDS := fun W => Lib.hid (digits_any (smallT D.a.length D.b.length) (by have := isS_pos s2; omega) (by omega) W)
  have HDG := fun W => Lib.hid (digits_any (greatT D.a.length D.b.length) (by have := isS_pos g2; omega) (by omega) W)
  have htot : ∀ t, (rowsT D t).flatten.length ≤ 500 := fun t => by
    have h5 := ok.n
    unfold rowsT
    split <;> omega
  have hL : (keysR (rowsT D (smallT D.a.length D.b.length).1) D.least (turnN c / unitN D.least) 1).length ≤ 500 := by
    have h1 := keysR_len (rowsT D (smallT D.a.length D.b.length).1) D.least (turnN c / unitN D.least) 1
    have h2 := htot (smallT D.a.length D.b.length).1
    omega
  have hLG : (keysR (rowsT D (greatT D.a.length D.b.length).1) (greatT D.a.length D.b.length).2 (turnN c / unitN (greatT D.a.length D.b.length).2) (restN (greatT D.a.length D.b.length).2 D.least (turnN c / unitN (greatT D.a.length D.b.length).2) + 1)).length ≤ 1024 * 500 :=
    Nat.le_trans (keysR_len _ _ _ _) (Nat.mul_le_mul (Nat.le_trans (Nat.succ_le_of_lt (Nat.lt_of_le_of_lt (Nat.le_add_left _ _) e2)) g4) (htot _))
  rw [e5] at HGT
  unfold scanK
  by_cases hb0 : D.b = []
  · rw [if_pos hb0, List.append_nil]
    have hsg : greatT D.a.length D.b.length = smallT D.a.length D.b.length := by rw [hb0]; exact tables_eq
    rw [hsg] at HOR
    exact scan_one p c D.a.length D.b.length D.place _ _ _ _ w HSZ HOR HST
  · rw [if_neg hb0]
    exact scan_two p c D.a.length D.b.length D.place _ _ _ _ (tables_ne (List.length_pos_iff.2 hb0)) _ _ _ _ (by omega) w HSZ HOR HST HDS HDG HM HGT
end
end Go.Proofs.YtlfhiolkbnhinaaDoor
