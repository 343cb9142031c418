/- What is read of a pack: its entries, from the front and from the end, one of them, where a member is. -/
import Derived.Test.YtioidnfmpbdmhaaRight
import Derived.Test.YtioidnfmpbdmhaaFind
import Derived.Test.YtioidnfmpbdmhaaEntries
namespace Go.Proofs.Ytioidnfmpbdmhaa
open Go.RowKit Go.Shelf
attribute [local go_sem] Oper.semAt_some

/-- The entries of a text; none, if it is no pack. -/
def packOf (p : ByteArray) : List Cut := (entriesS p).getD []
def entsOf (p : ByteArray) : List Ent := (packOf p).map Cut.ent

structure IsPack (p : ByteArray) (cs : List Cut) : Prop where
  go : goS p cs.length 2 = some cs
  count : countS p = cs.length
  many : cs.length ≤ 200
  chain : Chain (nextF p) (begunS p 2) cs
  each : ∀ c ∈ cs, 2 ≤ c.fr ∧ 2 ≤ c.to ∧ c.to ≤ p.size ∧ c.fr ≤ p.size ∧ endedS p c.to = some c
  ends : endOf cs cs.length = p.size
  two : 2 ≤ p.size
  short : ∀ c ∈ cs, c.m.size ≤ 64

theorem begun_of_mem {p : ByteArray} {cs : List Cut} (hc : Chain (nextF p) (begunS p 2) cs) {c : Cut} (h : c ∈ cs) : begunS p c.fr = some c := by
  obtain ⟨i, hi, rfl⟩ := List.mem_iff_getElem.1 h
  have hx : cs[i]? = some cs[i] := List.getElem?_eq_getElem hi
  have hb := (chain_at hc i (by omega)).trans hx
  rw [(begunS_some hb).2.1]
  exact hb

theorem isPack_of {p : ByteArray} (h : rightB p = true) : IsPack p (packOf p) := by
  unfold rightB at h
  obtain ⟨cs, hcs⟩ := Option.isSome_iff_exists.1 h
  have hp : packOf p = cs := by unfold packOf; rw [hcs]; rfl
  rw [hp]
  unfold entriesS at hcs
  have hr := countS_range p
  split at hcs
  · next hn =>
    obtain ⟨h1, h2, h3, h4, h5⟩ := goS_some _ _ _ hcs
    have htwo : 2 ≤ p.size := by
      rcases Nat.lt_or_ge p.size 2 with h | h
      · unfold countS at hn; rw [if_pos h] at hn; omega
      · exact h
    have hc : Chain (nextF p) (begunS p 2) cs := ⟨h2, h3, fun c hc => (h4 c hc).1, by omega⟩
    refine ⟨by rw [h1]; exact hcs, by omega, by omega, hc, h4, ?_, htwo, fun c hm => ?_⟩
    · cases cs with
      | nil => simpa [endOf] using h5
      | cons c l =>
        rw [List.getLast?_eq_getElem?] at h5
        simp only [List.length_cons, Nat.add_sub_cancel] at h5
        unfold endOf
        simp only [List.length_cons]
        have hx : (c :: l)[l.length]? = some ((c :: l)[l.length]'(by simp)) := List.getElem?_eq_getElem (by simp)
        rw [hx] at h5 ⊢
        exact h5
    · obtain ⟨_, _, _, _, h64, _, hm2, _⟩ := begunS_some (begun_of_mem hc hm)
      omega
  · cases hcs

theorem packOf_wrong {p : ByteArray} (h : rightB p = false) : packOf p = [] := by
  unfold rightB at h
  unfold packOf
  cases he : entriesS p with
  | none => rfl
  | some cs => rw [he] at h; simp at h

/-- From the end. -/
theorem ended_at {p : ByteArray} {cs : List Cut} (h : IsPack p cs) : ∀ i, i ≤ cs.length → endedS p (endOf cs i) = if i = 0 then none else cs[i - 1]?
  | 0, _ => by
    rw [if_pos rfl, show endOf cs 0 = 2 from rfl]
    unfold endedS begunI
    split
    · rfl
    · unfold begunS; rw [if_pos (by omega)]
  | i + 1, hi => by
    have hx : cs[i]? = some (cs[i]'(by omega)) := List.getElem?_eq_getElem (by omega)
    rw [if_neg (by omega), Nat.add_sub_cancel, hx, show endOf cs (i + 1) = (cs[i]'(by omega)).to by simp [endOf, hx]]
    exact (h.each _ (List.getElem_mem _)).2.2.2.2
theorem fr_at {p : ByteArray} {cs : List Cut} (h : IsPack p cs) (i : Nat) (c : Cut) (hx : cs[i]? = some c) : c.fr = endOf cs i := by
  have hi : i < cs.length := (List.getElem?_eq_some_iff.1 hx).1
  exact (begunS_some ((chain_at h.chain i (by omega)).trans hx)).2.1

theorem chain_back {p : ByteArray} {cs : List Cut} (h : IsPack p cs) : Chain (nextB p) (endedS p p.size) cs.reverse := by
  refine ⟨?_, fun i c hx => ?_, fun c hc => (h.each c (List.mem_reverse.1 hc)).1, by rw [List.length_reverse]; have := h.many; omega⟩
  · rw [← h.ends, ended_at h _ (Nat.le_refl _)]
    split
    · next h0 => simp [List.length_eq_zero_iff.1 h0]
    · next h0 => rw [List.getElem?_reverse (by omega), Nat.sub_zero]
  · have hi : i < cs.length := by have := (List.getElem?_eq_some_iff.1 hx).1; simpa using this
    rw [List.getElem?_reverse hi] at hx
    unfold nextB
    rw [fr_at h _ c hx, ended_at h _ (by omega)]
    split
    · rw [List.getElem?_eq_none (by simp; omega)]
    · rw [List.getElem?_reverse (by omega)]
      rw [show cs.length - 1 - i - 1 = cs.length - 1 - (i + 1) by omega]

/-- A list of entries is in memory that a call has made. -/
theorem entriesF_any (p : ByteArray) (hp : p.size ≤ 281474976710656) (w : World) :
    Calls Try.prog 14 #[.string p] w fun e w' => ∃ r, e = .returned (.tuple #[r, .int .i64 (if rightB p then 0 else 50)]) ∧ Own35 w' w.heap.size r (entsOf p) ∧ Below w.heap.size w w' := by
  have HR := Lib.hid (right_any p hp w)
  cases hr : rightB p with
  | false =>
    rw [hr] at HR
    rw [show entsOf p = [] by unfold entsOf; rw [packOf_wrong hr]; rfl]
    go_enter Try.func14, Try.ntmps14
    go_wp2_with fail
    refine HR.out.mono ?_
    rintro e w1 ⟨rfl, hb1⟩
    have HB := Lib.hid hb1
    clear hb1
    go_wp2
    go_ret2
    exact ⟨_, rfl, World.ownsRow_nil _ _ _ _, HB.out⟩
  | true =>
    rw [hr] at HR
    have hk := isPack_of hr
    have HF := fun w => Lib.hid (forth_any p hp (packOf p) hk.chain (fun c hc => (hk.each c hc).2.2.1) w)
    go_enter Try.func14, Try.ntmps14
    go_wp2_with fail
    refine HR.out.mono ?_
    rintro e w1 ⟨rfl, hb1⟩
    have HB := Lib.hid hb1
    clear hb1
    go_wp2_with fail
    refine (HF _).out.mono ?_
    rintro e w2 ⟨v, rfl, hG, hb2⟩
    have HE := Lib.hid (entries_any v (packOf p) _ w2 hG (fun c hc => by have := hk.short c hc; omega) (by have := hk.many; omega) w2 (Below.refl _ _))
    have HB2 := Lib.hid hb2
    clear hb2 hG
    go_wp2_with fail
    refine HE.out.mono ?_
    rintro e w3 ⟨r, rfl, ho, hb3⟩
    have HO := Lib.hid ho
    have HB3 := Lib.hid hb3
    clear ho hb3
    go_wp2
    go_ret2
    have s1 := HB.out.size
    have s2 := HB2.out.size
    exact ⟨_, rfl, ownsRow_mono HO.out (by omega), HB.out.trans ((HB2.out.mono s1).trans (HB3.out.mono (by omega)))⟩

theorem backF_any (p : ByteArray) (hp : p.size ≤ 281474976710656) (w : World) :
    Calls Try.prog 19 #[.string p] w fun e w' => ∃ r, e = .returned (.tuple #[r, .int .i64 (if rightB p then 0 else 50)]) ∧ Own35 w' w.heap.size r (entsOf p).reverse ∧ Below w.heap.size w w' := by
  have HR := Lib.hid (right_any p hp w)
  cases hr : rightB p with
  | false =>
    rw [hr] at HR
    rw [show (entsOf p).reverse = [] by unfold entsOf; rw [packOf_wrong hr]; rfl]
    go_enter Try.func19, Try.ntmps19
    go_wp2_with fail
    refine HR.out.mono ?_
    rintro e w1 ⟨rfl, hb1⟩
    have HB := Lib.hid hb1
    clear hb1
    go_wp2
    go_ret2
    exact ⟨_, rfl, World.ownsRow_nil _ _ _ _, HB.out⟩
  | true =>
    rw [hr] at HR
    have hk := isPack_of hr
    have HF := fun w => Lib.hid (back_any p hp hk.two (packOf p).reverse (chain_back hk) (fun c hc => by have := hk.each c (List.mem_reverse.1 hc); omega) w)
    go_enter Try.func19, Try.ntmps19
    go_wp2_with fail
    refine HR.out.mono ?_
    rintro e w1 ⟨rfl, hb1⟩
    have HB := Lib.hid hb1
    clear hb1
    go_wp2_with fail
    refine (HF _).out.mono ?_
    rintro e w2 ⟨v, rfl, hG, hb2⟩
    have HE := Lib.hid (entries_any v (packOf p).reverse _ w2 hG (fun c hc => by have := hk.short c (List.mem_reverse.1 hc); omega) (by have := hk.many; rw [List.length_reverse]; omega) w2 (Below.refl _ _))
    have HB2 := Lib.hid hb2
    clear hb2 hG
    go_wp2_with fail
    refine HE.out.mono ?_
    rintro e w3 ⟨r, rfl, ho, hb3⟩
    have HO := Lib.hid ho
    have HB3 := Lib.hid hb3
    clear ho hb3
    go_wp2
    go_ret2
    have s1 := HB.out.size
    have s2 := HB2.out.size
    have ho := HO.out
    rw [List.map_reverse] at ho
    exact ⟨_, rfl, ownsRow_mono ho (by omega), HB.out.trans ((HB2.out.mono s1).trans (HB3.out.mono (by omega)))⟩

/-- Where a member's first entry is. -/
def whereS (l : List Ent) (m : ByteArray) : Int := match l.findIdx? (fun e => decide (e.1 = m)) with
  | none => -1
  | some i => i
theorem findS_ents (xs : List Cut) (m : ByteArray) : findS xs m = whereS (xs.map Cut.ent) m := by
  unfold findS whereS
  rw [List.findIdx?_map]
  rfl
theorem find_any (p mem : ByteArray) (hp : p.size ≤ 281474976710656) (w : World) :
    Calls Try.prog 25 #[.string p, .string mem] w fun e w' => e = .returned (.int .i64 (whereS (entsOf p) mem)) ∧ Below w.heap.size w w' := by
  cases hr : rightB p with
  | false =>
    obtain ⟨xs, hc, hx⟩ := chain_exists p hp
    have := find_walk p mem hp false (fun w => Lib.hid (by rw [← hr]; exact right_any p hp w)) xs hc (fun c h => (hx c h).2) w
    rw [show entsOf p = [] by unfold entsOf; rw [packOf_wrong hr]; rfl]
    exact this
  | true =>
    have hk := isPack_of hr
    have := find_walk p mem hp true (fun w => Lib.hid (by rw [← hr]; exact right_any p hp w)) (packOf p) hk.chain (fun c hc => (hk.each c hc).2.2.1) w
    rw [if_pos rfl, findS_ents] at this
    exact this

/-- The entry at a place. -/
def pickS (p : ByteArray) (at_ : Int) : Option Cut × Int :=
  if rightB p then (if at_ < 0 ∨ (packOf p).length ≤ at_ then (none, 2) else ((packOf p)[at_.toNat]?, 0)) else (none, 50)

theorem ret4t {fn : Func} {R : Ending → World → Prop} {a : Act} {W : World} {b k j : Nat} {v0 v3 v1 v2 x : Value} (hr : fn.results = #[.cell k 61, .tmp j]) (hk : a.tmps.getD k undef = .pointer (some ⟨b, 0, none⟩)) (hj : a.tmps.getD j undef = x) (hB : Blk W b 61 #[v0, v1, v2, v3]) (hd : a.defers = [])
    (hR : R (.returned (.tuple #[.agg #[v0, v1, v2, v3], x])) W) : bodyPost Try.prog fn R .ret a W := by
  obtain ⟨e0, e1, e2, e3, f0, f1, f2, f3⟩ := facts4 hB
  refine bodyPost_ret ?_ hd hR
  have hk2 : a.tmps[k]?.getD undef = .pointer (some ⟨b, 0, none⟩) := by rw [← Array.getD_eq_getD_getElem?]; exact hk
  have hj2 : a.tmps[j]?.getD undef = x := by rw [← Array.getD_eq_getD_getElem?]; exact hj
  simp [results, hr, hk2, hj2, go_sem, e0, e1, e2, e3]
theorem ret2t {fn : Func} {R : Ending → World → Prop} {a : Act} {W : World} {b k j : Nat} {v0 v1 x : Value} (hr : fn.results = #[.cell k 35, .tmp j]) (hk : a.tmps.getD k undef = .pointer (some ⟨b, 0, none⟩)) (hj : a.tmps.getD j undef = x) (hB : Blk W b 35 #[v0, v1]) (hd : a.defers = [])
    (hR : R (.returned (.tuple #[.agg #[v0, v1], x])) W) : bodyPost Try.prog fn R .ret a W := by
  obtain ⟨e0, e1, f0, f1⟩ := facts2 hB
  refine bodyPost_ret ?_ hd hR
  have hk2 : a.tmps[k]?.getD undef = .pointer (some ⟨b, 0, none⟩) := by rw [← Array.getD_eq_getD_getElem?]; exact hk
  have hj2 : a.tmps[j]?.getD undef = x := by rw [← Array.getD_eq_getD_getElem?]; exact hj
  simp [results, hr, hk2, hj2, go_sem, e0, e1]

theorem pick_any (p : ByteArray) (hp : p.size ≤ 281474976710656) (at_ : Int) (w : World) :
    Calls Try.prog 38 #[.string p, .int .i64 at_] w fun e w' => e = .returned (.tuple #[cutV (pickS p at_).1, .int .i64 (pickS p at_).2]) ∧ Below w.heap.size w w' := by
  have HR := fun w => Lib.hid (right_any p hp w)
  have HC := fun w => Lib.hid (count_any p hp w)
  have hB0 := (Below.refl w.heap.size w).alloc (Nat.le_refl _) (Obj.cells #[Value.string { data := #[] }, Value.int IntKind.i64 0, Value.int IntKind.i64 0, Value.int IntKind.i64 0] 61)
  unfold pickS
  cases hr : rightB p with
  | false =>
    rw [hr] at HR
    simp only [Bool.false_eq_true, if_false]
    unfold cutV noCut
    go_enter Try.func38, Try.ntmps38
    go_wp2_with fail
    refine (HR _).out.mono ?_
    rintro e w1 ⟨rfl, hb1⟩
    have k1 := (Blk.new w 61 #[Value.string { data := #[] }, Value.int IntKind.i64 0, Value.int IntKind.i64 0, Value.int IntKind.i64 0]).later hb1
    have K1 := Lib.hid k1
    obtain ⟨e0, e1, e2, e3, f0, f1, f2, f3⟩ := facts4 k1
    have HB := Lib.hid (hB0.trans (hb1.mono hB0.size))
    clear hb1 k1 hB0
    go_wp2
    obtain ⟨g1, g2, g3⟩ := set4 (.string ⟨#[]⟩) (.int .i64 0) (.int .i64 0) (.int .i64 0) K1.out
    exact ret4t Try.results38 rfl rfl g1 rfl ⟨rfl, HB.out.trans (g3 _ (Nat.le_refl _))⟩
  | true =>
    rw [hr] at HR
    have hk := isPack_of hr
    simp only [if_true]
    rw [hk.count] at HC
    have hmany := hk.many
    by_cases hat : at_ < 0 ∨ ((packOf p).length : Int) ≤ at_
    · rw [if_pos hat]
      simp only []
      unfold cutV noCut
      generalize hlen : (packOf p).length = len at *
      go_enter Try.func38, Try.ntmps38
      go_wp2_with fail
      refine (HR _).out.mono ?_
      rintro e w1 ⟨rfl, hb1⟩
      have k1 := (Blk.new w 61 #[Value.string { data := #[] }, Value.int IntKind.i64 0, Value.int IntKind.i64 0, Value.int IntKind.i64 0]).later hb1
      have hB1 := hB0.trans (hb1.mono hB0.size)
      clear hb1
      by_cases h0 : at_ < 0
      · have K1 := Lib.hid k1
        obtain ⟨e0, e1, e2, e3, f0, f1, f2, f3⟩ := facts4 k1
        have HB := Lib.hid hB1
        clear k1 hB0 hB1
        go_wp2_with fail
        obtain ⟨g1, g2, g3⟩ := set4 (.string ⟨#[]⟩) (.int .i64 0) (.int .i64 0) (.int .i64 0) K1.out
        exact ret4t Try.results38 rfl rfl g1 rfl ⟨rfl, HB.out.trans (g3 _ (Nat.le_refl _))⟩
      · go_wp2_with fail
        refine (HC _).out.mono ?_
        rintro e w2 ⟨rfl, hb2⟩
        have k2 := k1.later hb2
        have K1 := Lib.hid k2
        obtain ⟨e0, e1, e2, e3, f0, f1, f2, f3⟩ := facts4 k2
        have HB := Lib.hid (hB1.trans (hb2.mono hB1.size))
        have hge : (len : Int) ≤ at_ := by omega
        clear k1 k2 hB0 hB1 hb2
        go_wp2
        obtain ⟨g1, g2, g3⟩ := set4 (.string ⟨#[]⟩) (.int .i64 0) (.int .i64 0) (.int .i64 0) K1.out
        exact ret4t Try.results38 rfl rfl g1 rfl ⟨rfl, HB.out.trans (g3 _ (Nat.le_refl _))⟩
    · rw [if_neg hat]
      simp only []
      obtain ⟨k, rfl⟩ : ∃ k : Nat, at_ = (k : Int) := ⟨at_.toNat, by omega⟩
      have hkl : k < (packOf p).length := by omega
      have hx : (packOf p)[k]? = some ((packOf p)[k]'hkl) := List.getElem?_eq_getElem hkl
      rw [Int.toNat_natCast, hx]
      have HN := fun w => Lib.hid (nth_walk p hp (packOf p) hk.chain (fun c hc => (hk.each c hc).2.2.1) k (by omega) _ (fun c hc => by rw [hx] at hc; cases hc; rfl) (fun hc => by rw [hx] at hc; cases hc) w)
      generalize (packOf p)[k]'hkl = c at *
      generalize hlen : (packOf p).length = len at *
      unfold cutV Cut.val at *
      have hk9 : (k : Int) < len := by omega
      have hk8 : (0 : Int) ≤ k := by omega
      clear hat hx
      go_enter Try.func38, Try.ntmps38
      go_wp2_with fail
      refine (HR _).out.mono ?_
      rintro e w1 ⟨rfl, hb1⟩
      have k1 := (Blk.new w 61 #[Value.string { data := #[] }, Value.int IntKind.i64 0, Value.int IntKind.i64 0, Value.int IntKind.i64 0]).later hb1
      have hB1 := hB0.trans (hb1.mono hB0.size)
      clear hb1
      go_wp2_with fail
      refine (HC _).out.mono ?_
      rintro e w2 ⟨rfl, hb2⟩
      have k2 := k1.later hb2
      have hB2 := hB1.trans (hb2.mono hB1.size)
      clear hb2
      go_wp2_with fail
      refine (HN _).out.mono ?_
      rintro e w3 ⟨rfl, hb3⟩
      have k3 := k2.later hb3
      have K1 := Lib.hid k3
      obtain ⟨e0, e1, e2, e3, f0, f1, f2, f3⟩ := facts4 k3
      have HB := Lib.hid (hB2.trans (hb3.mono hB2.size))
      clear k1 k2 k3 hB0 hB1 hB2 hb3
      go_wp2
      obtain ⟨g1, g2, g3⟩ := set4 (.string c.m) (.int .i64 c.s) (.int .i64 c.fr) (.int .i64 c.to) K1.out
      exact ret4t Try.results38 rfl rfl g1 rfl ⟨rfl, HB.out.trans (g3 _ (Nat.le_refl _))⟩

/-- The entry at a place, and what is told of it. -/
def getS (p : ByteArray) (at_ : Int) : Ent × Int :=
  if rightB p then (if at_ < 0 ∨ (entsOf p).length ≤ at_ then ((⟨#[]⟩, 0), 2) else ((entsOf p).getD at_.toNat (⟨#[]⟩, 0), 0)) else ((⟨#[]⟩, 0), 50)

theorem get_pick (p : ByteArray) (at_ : Int) : ∃ c : Cut, cutV (pickS p at_).1 = c.val ∧ c.ent = (getS p at_).1 ∧ (pickS p at_).2 = (getS p at_).2 ∧ c.m.size ≤ 64 := by
  have hno : cutV none = (⟨⟨#[]⟩, 0, 0, 0⟩ : Cut).val := rfl
  unfold pickS getS
  cases hr : rightB p with
  | false => exact ⟨_, hno, rfl, rfl, by decide⟩
  | true =>
    have hk := isPack_of hr
    simp only [if_true]
    rw [show (entsOf p).length = (packOf p).length by simp [entsOf]]
    split
    · exact ⟨_, hno, rfl, rfl, by decide⟩
    · next hat =>
      have hkl : at_.toNat < (packOf p).length := by omega
      have hx : (packOf p)[at_.toNat]? = some ((packOf p)[at_.toNat]'hkl) := List.getElem?_eq_getElem hkl
      refine ⟨(packOf p)[at_.toNat]'hkl, by rw [hx]; rfl, ?_, rfl, hk.short _ (List.getElem_mem _)⟩
      unfold entsOf
      simp [List.getD_eq_getElem?_getD, hx]

theorem get_any (p : ByteArray) (hp : p.size ≤ 281474976710656) (at_ : Int) (w : World) :
    Calls Try.prog 22 #[.string p, .int .i64 at_] w fun e w' => e = .returned (.tuple #[.agg #[.string (getS p at_).1.1, .int .i64 (getS p at_).1.2], .int .i64 (getS p at_).2]) ∧ Below w.heap.size w w' := by
  have HP := Lib.hid (pick_any p hp at_)
  obtain ⟨c, h1, h2, h3, h4⟩ := get_pick p at_
  rw [h1, h3] at HP
  rw [← h2]
  generalize (getS p at_).2 = er at *
  have HE := fun w => Lib.hid (entry_any c (by omega) w)
  clear h1 h2 h3 h4
  unfold Cut.val at *
  unfold Cut.ent
  simp only []
  go_enter Try.func22, Try.ntmps22
  go_wp2_with fail
  refine (HP.out _).mono ?_
  rintro e w1 ⟨rfl, hb1⟩
  have k1 := (Blk.new w 35 #[Value.string { data := #[] }, Value.int IntKind.i64 0]).later hb1
  have hB0 := (Below.refl w.heap.size w).alloc (Nat.le_refl _) (Obj.cells #[Value.string { data := #[] }, Value.int IntKind.i64 0] 35)
  have hB1 := hB0.trans (hb1.mono hB0.size)
  clear hb1
  go_wp2_with fail
  refine (HE _).out.mono ?_
  rintro e w2 ⟨rfl, hb2⟩
  have k2 := (k1.alloc (Obj.cells #[Value.string c.m, Value.int IntKind.i64 c.s, Value.int IntKind.i64 c.fr, Value.int IntKind.i64 c.to] 61)).later hb2
  have K2 := Lib.hid k2
  obtain ⟨e0, e1, f0, f1⟩ := facts2 k2
  have HB := Lib.hid ((hB1.alloc hB1.size (Obj.cells #[Value.string c.m, Value.int IntKind.i64 c.s, Value.int IntKind.i64 c.fr, Value.int IntKind.i64 c.to] 61)).trans (hb2.mono (by have := hB1.size; simp; omega)))
  clear k1 k2 hB0 hB1 hb2
  go_wp2
  obtain ⟨g1, g2, g3⟩ := set2 (.string c.m) (.int .i64 c.s) K2.out
  exact ret2t Try.results22 rfl rfl g1 rfl ⟨rfl, HB.out.trans (g3 _ (Nat.le_refl _))⟩

end Go.Proofs.Ytioidnfmpbdmhaa
