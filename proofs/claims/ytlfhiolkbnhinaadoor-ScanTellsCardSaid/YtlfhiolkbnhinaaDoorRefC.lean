/- Texts of one kind in one: Rless, Rtexts, Rsort, Rkey. -/
import Derived.Test.YtlfhiolkbnhinaaDoorRefA
import Derived.Test.YtlfhiolkbnhinaaDoorKeys
import Derived.Deep.RegionLaw
/- The reference's Less. -/
namespace Go.Proofs.YtlfhiolkbnhinaaDoor
open Go.RowKit Go.Shelf
attribute [local go_sem] Oper.semAt_some

theorem lt_step {x y : List UInt8} {i : Nat} (hx : i < x.length) (hy : i < y.length) : (x.drop i < y.drop i) ↔ (x[i] < y[i] ∨ x[i] = y[i] ∧ x.drop (i + 1) < y.drop (i + 1)) := by
  rw [List.drop_eq_getElem_cons hx, List.drop_eq_getElem_cons hy, List.cons_lt_cons_iff]
theorem lt_end {x y : List UInt8} {i : Nat} (hx : i ≤ x.length) (hy : i ≤ y.length) (h : i = x.length ∨ i = y.length) : (x.drop i < y.drop i) ↔ x.length < y.length := by
  rcases h with rfl | rfl
  · rw [List.drop_length]
    cases hd : y.drop x.length with
    | nil =>
      have := List.drop_eq_nil_iff.1 hd
      simp; omega
    | cons u v =>
      have : x.length < y.length := by
        have h1 : (y.drop x.length).length = v.length + 1 := by rw [hd]; rfl
        rw [List.length_drop] at h1
        omega
      simp [this]
  · rw [List.drop_length]
    simp; omega

set_option maxRecDepth 100000 in
theorem less_any (a b : ByteArray) (ha : a.size ≤ 281474976710656) (hb : b.size ≤ 281474976710656) (w : World) : Calls Tryd.prog 64 #[.string a, .string b] w fun e w' => e = .returned (.bool (decide (a.data.toList < b.data.toList))) ∧ Below w.heap.size w w' := by
  obtain ⟨bv, hbv⟩ : ∃ bv, bv = decide (a.data.toList < b.data.toList) := ⟨_, rfl⟩
  have HBV := Lib.hid hbv
  rw [← hbv]
  clear hbv
  go_enter Tryd.func64, Tryd.ntmps64
  go_wp2
  go_loopw [5] (fun i wr => ∃ j : Nat, i = .int .i64 j ∧ j ≤ a.size ∧ j ≤ b.size ∧ Hid ((a.data.toList.drop j < b.data.toList.drop j) ↔ (a.data.toList < b.data.toList)) ∧ Below w.heap.size w wr) (fun i _ => a.size - (intOf i).toNat)
  case atStart => exact ⟨0, rfl, by omega, by omega, Lib.hid (by rw [List.drop_zero, List.drop_zero]), Below.refl _ _⟩
  case round =>
    obtain ⟨j, rfl, hja, hjb, HI, hbel⟩ := hrel
    have HW := Lib.hid hbel
    clear hbel
    by_cases hlt : j < a.size ∧ j < b.size
    · obtain ⟨h1, h2⟩ := hlt
      have hst := lt_step (x := a.data.toList) (y := b.data.toList) (i := j) (by simpa using h1) (by simpa using h2)
      have HST := Lib.hid hst
      clear hst
      by_cases he : a[j] = b[j]
      · have he2 : ((a[j].toNat : Int) == (b[j].toNat : Int)) = true := by rw [he]; simp
        have HE := Lib.hid he
        clear he
        go_wp2
        go_quiet (fail)
        go_wp2
        refine ⟨⟨j + 1, by go_num, by omega, by omega, Lib.hid ?_, HW.out.trans ((below_drewN _ nq).mono HW.out.size)⟩, by simp [intOf]; omega⟩
        rw [← HI.out, HST.out]
        have h1 : a.data.toList[j]'(by simpa using h1) = b.data.toList[j]'(by simpa using h2) := HE.out
        simp [h1]
      · have he2 : ((a[j].toNat : Int) == (b[j].toNat : Int)) = false := by
          rw [beq_eq_false_iff_ne]
          intro e
          exact he (UInt8.toNat_inj.1 (by omega))
        have HE := Lib.hid he
        clear he
        go_wp2
        go_quiet (fail)
        go_wp2
        go_quiet (fail)
        go_wp2
        go_returns
        refine ⟨?_, HW.out.trans ⟨rfl, rfl, rfl, Nat.le_refl _, fun _ _ => rfl⟩⟩
        have hv : decide (a[j].toNat < b[j].toNat) = bv := by
          rw [HBV.out, decide_eq_decide, ← HI.out, HST.out]
          have hne : ¬ a.data.toList[j]'(by simpa using h1) = b.data.toList[j]'(by simpa using h2) := HE.out
          simp only [hne, false_and, or_false]
          exact UInt8.lt_iff_toNat_lt.symm
        rw [← hv]
        rfl
    · have hex : (a.size : Int) ≤ j ∨ ((j : Int) < a.size ∧ (b.size : Int) ≤ j) := by omega
      have HX := Lib.hid (show decide (a.size < b.size) = bv by
        have h := lt_end (x := a.data.toList) (y := b.data.toList) (i := j) (by simpa using hja) (by simpa using hjb) (by simp; omega)
        rw [HBV.out, decide_eq_decide, ← HI.out, h]
        simp)
      clear hlt
      rcases hex with hex | ⟨hex, hex2⟩
      all_goals (
        go_wp2
        go_returns
        refine ⟨?_, HW.out⟩
        rw [← HX.out]
        rfl)
end Go.Proofs.YtlfhiolkbnhinaaDoor
/- The reference's comparison of two lists of texts, where they are the same. -/
namespace Go.Proofs.YtlfhiolkbnhinaaDoor
open Go.RowKit Go.Shelf
attribute [local go_sem] Oper.semAt_some

theorem Own9.formR {W : World} {B : Nat} {v : Value} {ks : List (List UInt8)} (h : Own9 W B v ks) : ∃ A cap, v = .slice A ks.length cap ∧ ∀ i (hi : i < ks.length), ∃ g, A = some ⟨g, 0, none⟩ ∧ W.cell? ⟨g, i, none⟩ = some (encStr ks[i]) := by
  have hO := h
  rcases h.2 with ⟨rfl, h0⟩ | ⟨g, cap, cur, rfl, _⟩
  · exact ⟨none, 0, by rw [h0], fun i hi => by omega⟩
  · refine ⟨some ⟨g, 0, none⟩, cap, rfl, fun i hi => ⟨g, rfl, ?_⟩⟩
    have hc := World.ownsRow.cellAt (w := W) (base := B) (e := 9) (size := 1) (g := g) (n := ks.length) (cap := cap) (xs := ks.map encStr) hO i (by omega)
    rw [hc, List.getElem?_map, List.getElem?_eq_getElem hi]
    rfl

set_option maxRecDepth 100000 in
theorem texts_sameR {B B' : Nat} {u u' : Value} {ks : List (List UInt8)} {w : World} (hu : Own9 w B u ks) (hu' : Own9 w B' u' ks) (hl : ks.length ≤ 1000000) : Calls Tryd.prog 19 #[u, u'] w fun e w' => e = .returned (.bool true) ∧ Below w.heap.size w w' := by
  obtain ⟨A, cap, rfl, hA⟩ := hu.formR
  obtain ⟨A', cap', rfl, hA'⟩ := hu'.formR
  have HA := Lib.hid hA
  have HA' := Lib.hid hA'
  clear hA hA' hu hu'
  go_enter Tryd.func19, Tryd.ntmps19
  go_wp2
  go_loopw [5] (fun i wr => ∃ j : Nat, i = .int .i64 j ∧ j ≤ ks.length ∧ Below w.heap.size w wr ∧ ∀ a, wr.cell? a = w.cell? a) (fun i _ => ks.length - (intOf i).toNat)
  case atStart => exact ⟨0, rfl, by omega, Below.refl _ _, fun _ => rfl⟩
  case round =>
    obtain ⟨j, rfl, hj, hb, hc⟩ := hrel
    by_cases hlt : j < ks.length
    · obtain ⟨g, rfl, z⟩ := HA.out j hlt
      obtain ⟨g', rfl, z'⟩ := HA'.out j hlt
      rw [← hc] at z z'
      unfold encStr at z z'
      generalize (⟨ks[j].toArray⟩ : ByteArray) = s at *
      have HB := Lib.hid hb
      have HC := Lib.hid hc
      clear hb hc
      go_wp2
      go_quiet (fail)
      go_wp2
      refine ⟨⟨j + 1, by go_num, by omega, HB.out.trans ((below_drewN _ nq).mono HB.out.size), fun a => HC.out a⟩, by simp [intOf]; omega⟩
    · have HB := Lib.hid hb
      clear hb hc
      have hj2 : (ks.length : Int) ≤ j := by omega
      go_wp2
      go_returns
      exact ⟨rfl, HB.out⟩
end Go.Proofs.YtlfhiolkbnhinaaDoor
/- The reference's buckets in order: putting in one by one is sorting. -/
namespace Go.Proofs.YtlfhiolkbnhinaaDoor
open Go.RowKit Go.Shelf

/-- A key is put in behind all that are lesser. -/
def insR (x : List UInt8) (out : List (List UInt8)) : List (List UInt8) := out.takeWhile (fun y => decide (y < x)) ++ x :: out.dropWhile (fun y => decide (y < x))
theorem insR_perm (x : List UInt8) (out : List (List UInt8)) : (insR x out).Perm (x :: out) := by
  unfold insR
  refine List.perm_middle.trans ?_
  rw [List.takeWhile_append_dropWhile]
theorem insR_cons (x y : List UInt8) (out : List (List UInt8)) : insR x (y :: out) = if y < x then y :: insR x out else x :: y :: out := by
  unfold insR
  by_cases h : y < x
  · rw [if_pos h, List.takeWhile_cons_of_pos (by simpa using h), List.dropWhile_cons_of_pos (by simpa using h)]; rfl
  · rw [if_neg h, List.takeWhile_cons_of_neg (by simpa using h), List.dropWhile_cons_of_neg (by simpa using h)]; rfl
theorem insR_sorted (x : List UInt8) : ∀ out : List (List UInt8), out.Pairwise (· ≤ ·) → (insR x out).Pairwise (· ≤ ·)
  | [], _ => by simp [insR]
  | y :: out, h => by
    rw [insR_cons]
    rw [List.pairwise_cons] at h
    split
    · rename_i hlt
      rw [List.pairwise_cons]
      refine ⟨fun z hz => ?_, insR_sorted x out h.2⟩
      rcases List.mem_cons.1 ((insR_perm x out).mem_iff.1 hz) with rfl | hz
      · exact List.le_of_lt hlt
      · exact h.1 z hz
    · rename_i hlt
      have hxy : x ≤ y := hlt
      rw [List.pairwise_cons]
      refine ⟨fun z hz => ?_, List.pairwise_cons.2 h⟩
      rcases List.mem_cons.1 hz with rfl | hz
      · exact hxy
      · exact List.le_trans hxy (h.1 z hz)
theorem sortK_ins (l : List (List UInt8)) : ∀ out : List (List UInt8), out.Pairwise (· ≤ ·) → l.foldl (fun o x => insR x o) out = sortK (out ++ l) := by
  induction l with
  | nil =>
    intro out h
    unfold sortK
    rw [List.append_nil]
    exact (List.mergeSort_of_pairwise (by simpa using h)).symm
  | cons x l ih =>
    intro out h
    rw [List.foldl_cons, ih _ (insR_sorted x out h)]
    unfold sortK
    have hp : (insR x out ++ l).Perm (out ++ x :: l) := ((insR_perm x out).append_right l).trans List.perm_middle.symm
    have tr : ∀ a b c : List UInt8, decide (a ≤ b) = true → decide (b ≤ c) = true → decide (a ≤ c) = true := fun a b c h1 h2 => by
      simp only [decide_eq_true_eq] at *; exact List.le_trans h1 h2
    have tot : ∀ a b : List UInt8, (decide (a ≤ b) || decide (b ≤ a)) = true := fun a b => by
      simp only [Bool.or_eq_true, decide_eq_true_eq]; exact List.le_total a b
    refine List.Perm.eq_of_pairwise (le := fun a b => decide (a ≤ b) = true) (fun a b _ _ h1 h2 => ?_) (List.pairwise_mergeSort tr tot _) (List.pairwise_mergeSort tr tot _) ?_
    · simp only [decide_eq_true_eq] at *; exact List.le_antisymm h1 h2
    · exact (List.mergeSort_perm _ _).trans (hp.trans (List.mergeSort_perm _ _).symm)
end Go.Proofs.YtlfhiolkbnhinaaDoor
/- The reference's rows of texts: parts of a row one behind the other; Less as a quiet call. -/
namespace Go.Proofs.YtlfhiolkbnhinaaDoor
open Go.RowKit Go.Shelf Go.Sort
attribute [local go_sem] Oper.semAt_some

/-- The cells of a list of texts, behind an address or none. -/
def KEnts (W : World) (a : Option Addr) (ks : List (List UInt8)) : Prop := ∀ i (h : i < ks.length), ∃ b off, a = some ⟨b, off, none⟩ ∧ W.cell? ⟨b, off + i, none⟩ = some (encStr ks[i])
theorem KEnts.of {W : World} {B : Nat} {A : Option Addr} {n cap : Nat} {ks : List (List UInt8)} (h : Own9 W B (.slice A n cap) ks) : KEnts W A ks := fun i hi => by
  obtain ⟨A', cap', e, hc⟩ := h.formR
  cases e
  obtain ⟨g, hA, hz⟩ := hc i hi
  exact ⟨g, 0, hA, by rw [Nat.zero_add]; exact hz⟩
theorem KEnts.take {W : World} {a : Option Addr} {l : List (List UInt8)} (h : KEnts W a l) (k : Nat) : KEnts W a (l.take k) := fun i hi => by
  have h2 : i < l.length := by simp at hi; omega
  simp only [List.getElem_take]
  exact h i h2
theorem KEnts.drop {W : World} {a : Option Addr} {l : List (List UInt8)} (h : KEnts W a l) (k cap : Nat) (hc : l.length ≤ cap) : KEnts W (if cap = k then a else a.map (·.add k)) (l.drop k) := fun i hi => by
  have h2 : k + i < l.length := by simp at hi; omega
  obtain ⟨b, off, rfl, c0⟩ := h (k + i) h2
  rw [if_neg (by omega)]
  refine ⟨b, off + k, by simp [Addr.add_lit], ?_⟩
  simp only [List.getElem_drop]
  rw [show off + k + i = off + (k + i) by omega]; exact c0
theorem KEnts.below {w W : World} {a : Option Addr} {l : List (List UInt8)} (h : KEnts w a l) (hb : Below w.heap.size w W) : KEnts W a l := fun i hi => by
  obtain ⟨b, off, ha, h0⟩ := h i hi
  have hlt : b < w.heap.size := World.block_lt_of_cell? w ⟨b, off + i, none⟩ h0
  exact ⟨b, off, ha, (hb.cell (p := ⟨b, _, none⟩) hlt).trans h0⟩
theorem KEnts.one (W : World) (x : List UInt8) : KEnts (W.alloc (.cells #[encStr x] 9)) (some ⟨W.heap.size, 0, none⟩) [x] := fun i hi => by
  obtain rfl : i = 0 := by simp at hi; omega
  refine ⟨_, _, rfl, ?_⟩
  have h := (Blk.new W 9 #[encStr x]).cell (0 + 0)
  rw [h]
  simp
theorem app_k {W : World} {n0 : Nat} {r : Value} {l xs : List (List UInt8)} {a : Option Addr} (hown : Own9 W n0 r l) (hE : KEnts W a xs) (cap : Nat) (hl : l.length ≤ 1000000) (hx : xs.length ≤ 1000000) (hn : n0 ≤ W.heap.size) :
    ∃ v' W', (Builtin.append_ #[38, 38] 38 #[r, .slice a xs.length cap]).run Tryd.prog W = .ok v' W' ∧ Own9 W' n0 v' (l ++ xs) ∧ W.grownBy W' r.ownBlock := by
  obtain ⟨i0, hi0, hz0, hz1, hz2⟩ := info_parts info9
  have hlen : (l ++ xs).length = l.length + xs.length := List.length_append
  cases a with
  | none =>
    have h0 : xs = [] := by
      cases xs with
      | nil => rfl
      | cons e xs => obtain ⟨b, off, h, _⟩ := hE 0 (by simp); cases h
    subst h0
    refine ⟨r, W, ?_, by rw [List.append_nil]; exact hown, World.grownBy.refl W _⟩
    rcases hown.2 with ⟨rfl, hl0⟩ | ⟨g, c, cur, rfl, _, _, hc, _⟩
    · simp [Builtin.append_, run_underlying Tryd.underlying38, sizeOf, typeInfo, hi0, Builtin.lenOf, Builtin.firstCells]
    · simp [Builtin.append_, run_underlying Tryd.underlying38, sizeOf, typeInfo, hi0, Builtin.lenOf, Builtin.firstCells, hc, storeCells]
  | some ad =>
    obtain ⟨v', W', h1, h2, h3, _⟩ := run_append_own_at (P := Tryd.prog) W n0 38 38 9 i0 (.string ⟨#[]⟩) 1 16 Tryd.underlying38 hi0 hz0 hz1 hz2 rfl (by decide) r _ _ hown ad xs.length cap (xs.map encStr) (by simp)
      (fun j u hu => by
        obtain ⟨hj, hju⟩ := List.getElem?_eq_some_iff.1 hu
        rw [List.length_map] at hj
        obtain ⟨b, off, h, c0⟩ := hE j hj
        cases h
        rw [Addr.add_lit, c0, ← hju, List.getElem_map])
      (by intro x hx; obtain ⟨b, _, rfl⟩ := List.mem_map.1 hx; rfl) (by unfold maxLen; omega) (by omega) hn
    refine ⟨v', W', h1, ?_, h3⟩
    unfold Own9
    rw [hlen, List.map_append]
    exact h2
theorem step_app_k {ops : Array Oper} {o : Oper} {a : Act} {W : World} {K : Act → World → Prop} {Q : Exit → Act → World → Prop} {E : Prop} (hgd : o.guard = none) (s x : Operand)
    (ho : o.op = Op.call { callee := Callee.builtin Builtin.append, args := #[s, x], argTypes := #[38, 38] }) (hty : o.type = 38)
    {n0 : Nat} {r : Value} {l xs : List (List UInt8)} {ad : Option Addr} {m cap : Nat} (hs : a.eval s = r) (hx : a.eval x = .slice ad m cap) (hm : m = xs.length)
    (hown : Own9 W n0 r l) (hE : KEnts W ad xs) (hl : l.length ≤ 1000000) (hxl : xs.length ≤ 1000000) (hn : n0 ≤ W.heap.size)
    (h : ∀ v' W', Own9 W' n0 v' (l ++ xs) → W.grownBy W' r.ownBlock → K (a.put o.dst v') W') : if Region.wanted o (yielded ops a.tmps) = true then Oper.wp Tryd.prog o a W K Q else E := by
  subst hm
  obtain ⟨v', W', hrun, h2, h3⟩ := app_k hown hE cap hl hxl hn
  exact step_append_ran hgd s x 38 38 ho hs hx (by rw [hty]; exact hrun) (h v' W' h2 h3)
theorem wpList_app_k {ops : Array Oper} {rest : List Oper} {o : Oper} {a : Act} {W : World} {Q : Exit → Act → World → Prop} (hgd : o.guard = none) (s x : Operand)
    (ho : o.op = Op.call { callee := Callee.builtin Builtin.append, args := #[s, x], argTypes := #[38, 38] }) (hty : o.type = 38)
    {n0 : Nat} {r : Value} {l xs : List (List UInt8)} {ad : Option Addr} {m cap : Nat} (hs : a.eval s = r) (hx : a.eval x = .slice ad m cap) (hm : m = xs.length)
    (hown : Own9 W n0 r l) (hE : KEnts W ad xs) (hl : l.length ≤ 1000000) (hxl : xs.length ≤ 1000000) (hn : n0 ≤ W.heap.size)
    (h : ∀ v' W', Own9 W' n0 v' (l ++ xs) → W.grownBy W' r.ownBlock → wpList Tryd.prog ops Q rest (a.put o.dst v') W') : wpList Tryd.prog ops Q (o :: rest) a W := by
  subst hm
  obtain ⟨v', W', hrun, h2, h3⟩ := app_k hown hE cap hl hxl hn
  refine wpList_plain hgd fun K hK => ?_
  unfold Oper.wp
  simp [execOp, ho, resolve, invoke, builtin, hs, hx, hty, hrun, Result.andThen]
  exact hK _ _ (h v' W' h2 h3)

set_option maxRecDepth 100000 in
theorem lessq_any (a b : ByteArray) (ha : a.size ≤ 281474976710656) (hb : b.size ≤ 281474976710656) (w : World) : Calls Tryd.prog 64 #[.string a, .string b] w fun e w' => e = .returned (.bool (decide (a.data.toList < b.data.toList))) ∧ ∃ n, w' = w.drewN n := by
  obtain ⟨bv, hbv⟩ : ∃ bv, bv = decide (a.data.toList < b.data.toList) := ⟨_, rfl⟩
  have HBV := Lib.hid hbv
  rw [← hbv]
  clear hbv
  go_enter Tryd.func64, Tryd.ntmps64
  go_wp2
  go_loopw [5] (fun i wr => ∃ j : Nat, i = .int .i64 j ∧ j ≤ a.size ∧ j ≤ b.size ∧ Hid ((a.data.toList.drop j < b.data.toList.drop j) ↔ (a.data.toList < b.data.toList)) ∧ Hid (∃ n, wr = w.drewN n)) (fun i _ => a.size - (intOf i).toNat)
  case atStart => exact ⟨0, rfl, by omega, by omega, Lib.hid (by rw [List.drop_zero, List.drop_zero]), Lib.hid ⟨0, rfl⟩⟩
  case round =>
    obtain ⟨j, rfl, hja, hjb, HI, HW⟩ := hrel
    by_cases hlt : j < a.size ∧ j < b.size
    · obtain ⟨h1, h2⟩ := hlt
      have hst := lt_step (x := a.data.toList) (y := b.data.toList) (i := j) (by simpa using h1) (by simpa using h2)
      have HST := Lib.hid hst
      clear hst
      by_cases he : a[j] = b[j]
      · have he2 : ((a[j].toNat : Int) == (b[j].toNat : Int)) = true := by rw [he]; simp
        have HE := Lib.hid he
        clear he
        go_wp2
        go_quiet (fail)
        go_wp2
        refine ⟨⟨j + 1, by go_num, by omega, by omega, Lib.hid ?_, Lib.hid ?_⟩, by simp [intOf]; omega⟩
        · rw [← HI.out, HST.out]
          have h1 : a.data.toList[j]'(by simpa using h1) = b.data.toList[j]'(by simpa using h2) := HE.out
          simp [h1]
        · obtain ⟨n, hn⟩ := HW.out
          exact ⟨n + nq, by rw [hn, World.drewN_drewN]⟩
      · have he2 : ((a[j].toNat : Int) == (b[j].toNat : Int)) = false := by
          rw [beq_eq_false_iff_ne]
          intro e
          exact he (UInt8.toNat_inj.1 (by omega))
        have HE := Lib.hid he
        clear he
        go_wp2
        go_quiet (fail)
        go_wp2
        go_quiet (fail)
        go_wp2
        go_returns
        refine ⟨?_, ?_⟩
        · have hv : decide (a[j].toNat < b[j].toNat) = bv := by
            rw [HBV.out, decide_eq_decide, ← HI.out, HST.out]
            have hne : ¬ a.data.toList[j]'(by simpa using h1) = b.data.toList[j]'(by simpa using h2) := HE.out
            simp only [hne, false_and, or_false]
            exact UInt8.lt_iff_toNat_lt.symm
          rw [← hv]
          rfl
        · obtain ⟨n, hn⟩ := HW.out
          subst hn
          simp only [World.drewN_drewN]
          exact ⟨_, rfl⟩
    · have hex : (a.size : Int) ≤ j ∨ ((j : Int) < a.size ∧ (b.size : Int) ≤ j) := by omega
      have HX := Lib.hid (show decide (a.size < b.size) = bv by
        have h := lt_end (x := a.data.toList) (y := b.data.toList) (i := j) (by simpa using hja) (by simpa using hjb) (by simp; omega)
        rw [HBV.out, decide_eq_decide, ← HI.out, h]
        simp)
      clear hlt
      rcases hex with hex | ⟨hex, hex2⟩
      all_goals (
        go_wp2
        go_returns
        refine ⟨?_, HW.out⟩
        rw [← HX.out]
        rfl)
end Go.Proofs.YtlfhiolkbnhinaaDoor
