/- New, Set, Get, Delete. -/
import Derived.Test.YtifbambalfifaaaDoes
import Derived.Test.YtifbambalfifaaaShelf
namespace Go.Proofs.Ytifbambalfifaaa
open Go.RowKit Go.Shelf
attribute [local go_sem] Oper.semAt_some

def rowHit (s : Nat) (key : ByteArray) (r : List Nd) : Option Nat := r.findIdx? (Nd.is s key)
/-- Where a key's node is: in which table, at which place of its row. -/
def Dc.hit (D : Dc) (s : Nat) (key : ByteArray) : Option (Nat × Nat) :=
  match rowHit s key (D.a.getD (s % D.a.length) []) with
  | some i => some (0, i)
  | none => if D.b = [] then none else match rowHit s key (D.b.getD (s % D.b.length) []) with
    | some i => some (1, i)
    | none => none
theorem rowHit_some {s : Nat} {key : ByteArray} {r : List Nd} {i : Nat} (h : rowHit s key r = some i) : ∃ x, r[i]? = some x ∧ Nd.is s key x = true ∧ ∀ q y, q < i → r[q]? = some y → Nd.is s key y = false := by
  obtain ⟨hi, h1, h2⟩ := List.findIdx?_eq_some_iff_getElem.1 h
  refine ⟨r[i], List.getElem?_eq_getElem hi, h1, fun q y hq hy => ?_⟩
  obtain ⟨hq2, rfl⟩ := List.getElem?_eq_some_iff.1 hy
  simpa using h2 q hq
theorem rowHit_none {s : Nat} {key : ByteArray} {r : List Nd} (h : rowHit s key r = none) : ∀ x ∈ r, Nd.is s key x = false := by
  intro x hx
  have := List.findIdx?_eq_none_iff.1 h x hx
  simpa using this
theorem hit_some {D : Dc} {s : Nat} {key : ByteArray} {j i : Nat} (h : D.hit s key = some (j, i)) : Hit D s key j i := by
  unfold Dc.hit at h
  cases h0 : rowHit s key (D.a.getD (s % D.a.length) []) with
  | some i0 =>
    rw [h0] at h
    simp at h
    obtain ⟨rfl, rfl⟩ := h
    obtain ⟨x, h1, h2, h3⟩ := rowHit_some h0
    exact ⟨_, x, rfl, h1, h2, h3, fun j r hj => absurd hj (Nat.not_lt_zero _)⟩
  | none =>
    rw [h0] at h
    simp only at h
    by_cases hb : D.b = []
    · rw [if_pos hb] at h; cases h
    · rw [if_neg hb] at h
      cases h1 : rowHit s key (D.b.getD (s % D.b.length) []) with
      | none => rw [h1] at h; cases h
      | some i1 =>
        rw [h1] at h
        simp at h
        obtain ⟨rfl, rfl⟩ := h
        obtain ⟨x, h2, h3, h4⟩ := rowHit_some h1
        refine ⟨_, x, by unfold Dc.rowsOf; rw [if_neg hb]; rfl, h2, h3, h4, fun j r hj hr => ?_⟩
        obtain rfl : j = 0 := by omega
        have : r = D.a.getD (s % D.a.length) [] := by unfold Dc.rowsOf at hr; simpa using hr.symm
        rw [this]
        exact rowHit_none h0
theorem hit_none {D : Dc} {s : Nat} {key : ByteArray} (h : D.hit s key = none) : NoHit D s key 2 := by
  unfold Dc.hit at h
  cases h0 : rowHit s key (D.a.getD (s % D.a.length) []) with
  | some i0 => rw [h0] at h; cases h
  | none =>
    rw [h0] at h
    simp only at h
    intro j r hj hr
    unfold Dc.rowsOf at hr
    match j, hr with
    | 0, hr => simp at hr; subst hr; exact rowHit_none (by simpa using h0)
    | 1, hr =>
      by_cases hb : D.b = []
      · rw [if_pos hb] at hr; simp at hr
      · rw [if_neg hb] at hr h
        simp at hr
        subst hr
        cases h1 : rowHit s key (D.b.getD (s % D.b.length) []) with
        | none => exact rowHit_none (by simpa using h1)
        | some i1 => rw [h1] at h; cases h
/-- A key's node. -/
def Dc.node (D : Dc) (s : Nat) (key : ByteArray) : Option Nd :=
  match D.hit s key with
  | some (j, i) => ((D.rowsOf s).getD j [])[i]?
  | none => none
theorem node_of {D : Dc} {s : Nat} {key : ByteArray} {j i : Nat} (h : D.hit s key = some (j, i)) : ∃ r y, (D.rowsOf s)[j]? = some r ∧ r[i]? = some y ∧ D.node s key = some y := by
  obtain ⟨r, x, h1, h2, h3, _⟩ := hit_some h
  refine ⟨r, x, h1, h2, ?_⟩
  unfold Dc.node
  rw [h]
  simp only
  rw [List.getD_eq_getElem?_getD, h1]
  exact h2

/-- A new key's node. -/
def Dc.add (D : Dc) (x : Nd) : Dc := if D.b = [] then { D with a := putR D.a x, n := D.n + 1 } else { D with b := putR D.b x, n := D.n + 1 }
def Dc.setS (D : Dc) (s : Nat) (key : ByteArray) (v : Value) : Dc :=
  match (D.step 1).hit s key with
  | some (j, i) => (D.step 1).upd s j (setV i v)
  | none => ((D.step 1).grown).add ⟨s, key, v⟩
def Dc.less (D : Dc) : Dc := { D with n := D.n - 1 }
def Dc.delS (D : Dc) (s : Nat) (key : ByteArray) : Dc :=
  match (D.step 1).hit s key with
  | some (j, i) => (((D.step 1).upd s j (·.eraseIdx i)).less).shrunk
  | none => D.step 1
def intV : Option Nd → Value
  | some y => y.v
  | none => .int .i64 0

section
variable {S : Nat → Prop} {p seed : Nat} {D : Dc} {w : World}

theorem mem_row {s j : Nat} {r : List Nd} {y : Nd} {i : Nat} (h1 : (D.rowsOf s)[j]? = some r) (h2 : r[i]? = some y) {T : Ty} (ok : D.Ok T) : y.fine T ∧ (∀ x ∈ r, x.fine T) := by
  have hm := List.mem_of_getElem? h1
  have hf : ∀ x ∈ r, x.fine T := by
    unfold Dc.rowsOf at hm
    rcases List.mem_cons.1 hm with rfl | h3
    · intro x hx; obtain ⟨r0, h4, h5⟩ := getD_mem hx; exact ok.fine r0 (.inl h4) x h5
    · by_cases hb : D.b = []
      · rw [if_pos hb] at h3; simp at h3
      · rw [if_neg hb, List.mem_singleton] at h3
        subst h3
        intro x hx; obtain ⟨r0, h4, h5⟩ := getD_mem hx; exact ok.fine r0 (.inr h4) x h5
  exact ⟨hf y (List.mem_of_getElem? h2), hf⟩

set_option maxHeartbeats 1000000 in
theorem get_any (hsd : seed < 4294967296) (h : Rep tyI w p S seed D) (ok : D.Ok tyI) (hn : D.n ≤ 1000000) (key : ByteArray) (hk : key.size ≤ 281474976710656) :
    Calls Try.prog 22 #[.pointer (some ⟨p, 0, none⟩), .string key] w fun e w' =>
      e = .returned (.tuple #[intV ((D.step 1).node (sumN seed key.data.toList) key), .bool ((D.step 1).hit (sumN seed key.data.toList) key).isSome]) ∧ Went tyI S w p seed (D.step 1) w' := by
  have hb0 : Below w.heap.size w (w.alloc (Obj.cells #[.int .i64 0] 3)) := (Below.refl _ _).alloc (Nat.le_refl _) _
  have k0 := Blk.new w 3 #[.int .i64 0]
  have hw := h.later hb0
  obtain ⟨ok1, hn1⟩ := step_ok ok 1
  cases hh : (D.step 1).hit (sumN seed key.data.toList) key with
  | none =>
    have hnd : (D.step 1).node (sumN seed key.data.toList) key = none := by unfold Dc.node; rw [hh]
    have hF := find_any hsd hw ok hn key hk 44 #[.pointer (some ⟨w.heap.size, 0, none⟩)] none (fun j i h => by cases h) (fun _ => hit_none hh) (fun _ => False) (fun j i h => by cases h)
    have HF := Lib.hid hF
    have HK := Lib.hid k0
    have HN := Lib.hid hnd
    have HC := Lib.hid hw.cells
    clear hF hh k0 hnd
    have hmf : ∀ (fn : Fn) (first cap : Array Value) (w : World), (Instr.makeFunc fn first cap).run Try.prog w = .ok (.func fn first cap) w := fun _ _ _ _ => rfl
    go_enter Try.func22, Try.ntmps22
    go_wp2_with fail
    refine HF.out.mono ?_
    rintro e w1 ⟨rfl, hw1, _⟩
    have hq := (hw1 trivial).blk HK.out HC.out (by decide)
    obtain ⟨c0, d0⟩ := facts1 hq
    have HW := Lib.hid (hw1 trivial)
    clear hw1 hq
    go_wp2
    go_ret2
    rw [HN.out]
    exact ⟨rfl, Went.since hb0 HW.out⟩
  | some ji =>
    obtain ⟨j, i⟩ := ji
    obtain ⟨r, y, h1, h2, h3⟩ := node_of hh
    obtain ⟨⟨_, nv, hnv⟩, hfr⟩ := mem_row h1 h2 ok1
    have hrl : r.length ≤ 1000000 := by
      have h4 := rows_len (D := D.step 1) _ j r h1
      have h5 := ok1.n
      omega
    have hF := find_any hsd hw ok hn key hk 44 #[.pointer (some ⟨w.heap.size, 0, none⟩)] (some (j, i)) (fun j' i' h => by cases h; exact hit_some hh) (fun h => by cases h) (Got S p seed (D.step 1) (w.alloc (Obj.cells #[.int .i64 0] 3)) w.heap.size nv)
      (fun j' i' h => by cases h; exact get_does ok1 hw.cells h1 h2 hrl w.heap.size nv hnv _ k0)
    have HF := Lib.hid hF
    have HN := Lib.hid h3
    have HV := Lib.hid hnv
    clear hF hh k0 h3 hnv h1 h2 hfr
    have hmf : ∀ (fn : Fn) (first cap : Array Value) (w : World), (Instr.makeFunc fn first cap).run Try.prog w = .ok (.func fn first cap) w := fun _ _ _ _ => rfl
    go_enter Try.func22, Try.ntmps22
    go_wp2_with fail
    refine HF.out.mono ?_
    rintro e w1 ⟨rfl, _, hw1⟩
    obtain ⟨g1, g2, g3⟩ := hw1 rfl
    obtain ⟨c0, d0⟩ := facts1 g3
    have G1 := Lib.hid g1
    have G2 := Lib.hid g2
    clear hw1 g1 g2 g3
    go_wp2
    go_ret2
    rw [HN.out]
    refine ⟨by simp only [intV]; rw [HV.out]; rfl, G1.out.wide (fun k hk => ⟨?_, hk.2⟩) (fun _ hk => hk.2), (Far.of_below hb0).trans G2.out fun k hk => ?_⟩
    · rcases hk.1 with h1 | h1
      · exact .inl h1
      · exact .inr (Nat.le_trans hb0.size h1)
    · rcases hk with h1 | h1
      · exact .inl h1
      · exact .inr (by omega)

/-- The count changes. -/
theorem went_n {W : World} (h : Went tyI S w p seed D W) (m : Nat) : Went tyI S w p seed { D with n := m } (W.setCell ⟨p, 4, none⟩ (.int .i64 m)) := by
  obtain ⟨g0, g1, A1, va, vb, hm, hf, hc⟩ := h.1
  have f : Far (fun k => k = p) W (W.setCell ⟨p, 4, none⟩ (.int .i64 m)) := (Far.refl _ _).set _ _ (.inl rfl)
  refine Went.mk' (g0 := g0) (g1 := g1) (A1 := A1) (va := va) (vb := vb) ⟨?_, hm.ta.past apartI f hm.dict, ?_, hm.sep⟩ (h.2.trans f fun k hk => by subst hk; exact hf.p.1) hf.p.1 hf.g0.1 (fun h => (hf.g1 h).1) (fun v hv k hk => (hf.row v hv k hk).1)
  · have := hm.dict.set 4 (.int .i64 m)
    simpa using this
  · rcases hm.tb with h1 | ⟨h1, h2, h3, h4⟩
    · exact .inl h1
    · exact .inr ⟨h1, h2, h3, h4.past apartI f hm.dict⟩
theorem count_facts {W : World} (h : Went tyI S w p seed D W) : W.cell? ⟨p, 4, none⟩ = some (.int .i64 D.n) ∧ W.frozen? ⟨p, 4, none⟩ = false := by
  obtain ⟨g0, g1, A1, va, vb, hm, hf, hc⟩ := h.1
  exact ⟨hm.dict.cell 4, hm.dict.free 4⟩
theorem n_pos {s j i : Nat} {r : List Nd} {y : Nd} (ok : D.Ok tyI) (h1 : (D.rowsOf s)[j]? = some r) (h2 : r[i]? = some y) : 0 < D.n := by
  have h3 := rows_len s j r h1
  have h4 := (List.getElem?_eq_some_iff.1 h2).1
  have h5 := ok.n
  omega

set_option maxHeartbeats 1000000 in
theorem del_any (hsd : seed < 4294967296) (h : Rep tyI w p S seed D) (ok : D.Ok tyI) (hn : D.n ≤ 1000000) (key : ByteArray) (hk : key.size ≤ 281474976710656) :
    Calls Try.prog 20 #[.pointer (some ⟨p, 0, none⟩), .string key] w fun e w' =>
      e = .returned (.bool ((D.step 1).hit (sumN seed key.data.toList) key).isSome) ∧ Went tyI S w p seed (D.delS (sumN seed key.data.toList) key) w' := by
  obtain ⟨ok1, hn1⟩ := step_ok ok 1
  cases hh : (D.step 1).hit (sumN seed key.data.toList) key with
  | none =>
    have hd : D.delS (sumN seed key.data.toList) key = D.step 1 := by unfold Dc.delS; rw [hh]
    rw [hd]
    have hF := find_any hsd h ok hn key hk 41 #[] none (fun j i h => by cases h) (fun _ => hit_none hh) (fun _ => False) (fun j i h => by cases h)
    have HF := Lib.hid hF
    clear hF hh hd
    go_enter Try.func20, Try.ntmps20
    go_wp2_with fail
    refine HF.out.mono ?_
    rintro e w1 ⟨rfl, hw1, _⟩
    have HW := Lib.hid (hw1 trivial)
    clear hw1
    go_wp2
    go_ret
    exact ⟨rfl, HW.out⟩
  | some ji =>
    obtain ⟨j, i⟩ := ji
    have hd : D.delS (sumN seed key.data.toList) key = (((D.step 1).upd (sumN seed key.data.toList) j (·.eraseIdx i)).less).shrunk := by unfold Dc.delS; rw [hh]
    rw [hd]
    obtain ⟨r, y, h1, h2, h3⟩ := node_of hh
    obtain ⟨_, hfr⟩ := mem_row h1 h2 ok1
    have hrl : r.length ≤ 1000000 := by
      have h4 := rows_len (D := D.step 1) _ j r h1
      have h5 := ok1.n
      omega
    have hnp := n_pos ok1 h1 h2
    have hun : ((D.step 1).upd (sumN seed key.data.toList) j (·.eraseIdx i)).n = (D.step 1).n := by unfold Dc.upd; split <;> rfl
    have hF := find_any hsd h ok hn key hk 41 #[] (some (j, i)) (fun j' i' h => by cases h; exact hit_some hh) (fun h => by cases h) (fun W' => Went tyI S w p seed ((D.step 1).upd (sumN seed key.data.toList) j (·.eraseIdx i)) W')
      (fun j' i' h => by cases h; exact del_does ok1 h1 h2 hrl (fun x hx => one_int (hfr x hx).2))
    have HF := Lib.hid hF
    generalize (D.step 1).upd (sumN seed key.data.toList) j (·.eraseIdx i) = D2 at *
    have hn2 : 0 < D2.n ∧ D2.n ≤ 1000000 := by omega
    have hcast : (((D2.n - 1 : Nat) : Int)) = (D2.n : Int) - 1 := by omega
    clear hF hh h3 h1 h2 hfr hun hd
    go_enter Try.func20, Try.ntmps20
    go_wp2_with fail
    refine HF.out.mono ?_
    rintro e w1 ⟨rfl, _, hw1⟩
    have hW := hw1 rfl
    obtain ⟨c0, d0⟩ := count_facts hW
    have hless := went_n hW (D2.n - 1)
    rw [hcast] at hless
    have hsh := shrink_any (D := D2.less) hless.1 (by show D2.n - 1 ≤ 1000000; omega)
    have HSH := Lib.hid hsh
    have HL := Lib.hid hless
    have hnn : (1 : Int) ≤ D2.n := by omega
    have hnn2 : (D2.n : Int) ≤ 1000000 := by omega
    clear hW hw1 hless hsh hcast
    go_wp2_with fail
    refine HSH.out.mono ?_
    rintro e w2 ⟨rfl, hw2⟩
    have HW2 := Lib.hid (HL.out.trans hw2)
    clear hw2
    go_wp2
    go_ret
    exact ⟨rfl, HW2.out⟩
end
end Go.Proofs.Ytifbambalfifaaa
