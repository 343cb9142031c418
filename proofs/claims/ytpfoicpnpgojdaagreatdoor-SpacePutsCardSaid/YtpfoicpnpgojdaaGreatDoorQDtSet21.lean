/- Texts of one kind in one: DtSet, DtIs. -/
import Derived.Test.YtpfoicpnpgojdaaGreatDoorQDtFind20
/- The same of a dict of pointers. -/
namespace Go.Proofs.YtpfoicpnpgojdaaGreatDoor.Dc.Dt
open Go.RowKit Go.Shelf
attribute [local go_sem] Oper.semAt_some

variable {S : Nat → Prop} {p seed : Nat} {D : Dc} {w : World}
theorem out_tab {W : World} {g g' : Nat} {vs us : List Value} {rows rows' : List (List Nd)} (h : TabAt tyP W g vs rows) (h' : TabAt tyP W g' us rows') (hg : g ≠ g') (hs : ∀ v ∈ vs, ∀ u ∈ us, ∀ k, v.ownBlock = some k → u.ownBlock ≠ some k) : ∀ k, InTab g vs k → ¬ InTab g' us k := by
  rintro k (rfl | ⟨v, hv, hk⟩) (h2 | ⟨u, hu, hk2⟩)
  · exact hg h2
  · obtain ⟨r, hr⟩ := h'.mem hu
    obtain ⟨c, hc⟩ := hr.blk hk2
    exact absurd (h.blk.ty hc) (by decide)
  · subst h2
    obtain ⟨r, hr⟩ := h.mem hv
    obtain ⟨c, hc⟩ := hr.blk hk
    exact absurd (h'.blk.ty hc) (by decide)
  · exact hs v hv u hu k hk hk2
theorem out_dict {W : World} {g : Nat} {vs : List Value} {rows : List (List Nd)} {c : Array Value} (h : TabAt tyP W g vs rows) (hp : Blk W p tyP.d c) : ¬ InTab g vs p := by
  rintro (rfl | ⟨v, hv, hk⟩)
  · exact absurd (hp.ty h.blk) (by decide)
  · obtain ⟨r, hr⟩ := h.mem hv
    obtain ⟨c, hc⟩ := hr.blk hk
    exact absurd (hp.ty hc) (by decide)
/-- Behind put onto the newest table. -/
theorem went_put {W W1 W' : World} {g0 g1 : Nat} {A1 : Option Addr} {va vb : List Value} (hm : Mem tyP W p g0 g1 A1 va vb seed D) (hf : Foot (grow tyP S w W) p g0 g1 va vb D) (hF : Far S w W) (hb1 : Below W.heap.size W W1) (x : Nd)
    (hP : PutI W1 (if D.b = [] then g0 else g1) (if D.b = [] then va else vb) (if D.b = [] then D.a else D.b) [x] 1 W') :
    Went tyP S w p seed (if D.b = [] then { D with a := putR D.a x } else { D with b := putR D.b x }) W' := by
  obtain ⟨vs', hT, hS, hI, hFP⟩ := hP
  have hm1 := hm.later hb1
  by_cases hb : D.b = []
  · simp only [hb, if_true] at hT hI hFP ⊢
    have hvb : vb = [] := by
      rcases hm.tb with ⟨_, h, _⟩ | ⟨h, _⟩
      · exact h
      · exact absurd hb h
    have hA : A1 = none := by
      rcases hm.tb with ⟨_, _, h⟩ | ⟨h, _⟩
      · exact h
      · exact absurd hb h
    subst hvb hA
    refine Went.mk' (g0 := g0) (g1 := g1) (A1 := none) (va := vs') (vb := []) ⟨?_, hT, .inl ⟨rfl, rfl, rfl⟩, by rw [List.append_nil]; exact hS⟩ (((hF.then_below hb1).trans hFP fun k hk => ?_)) hf.p.1 hf.g0.1 (fun h => absurd rfl h) fun v hv k hk => ?_
    · have := hFP.blk hm1.dict (out_dict hm1.ta hm1.dict)
      simp only [hb] at this
      simpa [hb, putR_len] using this
    · rcases hk with rfl | ⟨v, hv, hk⟩
      · exact hf.g0.1
      · exact (hf.row v (List.mem_append_left _ hv) k hk).1
    · rw [List.append_nil] at hv
      rcases hI v hv k hk with ⟨u0, h1, h2⟩ | h1
      · exact (hf.row u0 (List.mem_append_left _ h1) k h2).1
      · exact .inr (Nat.le_trans hF.size (Nat.le_trans hb1.size h1))
  · simp only [hb, if_false] at hT hI hFP ⊢
    rcases hm1.tb with ⟨h, _⟩ | ⟨_, hA, hg, htb⟩
    · exact absurd h hb
    have hne : putR D.b x ≠ [] := fun e => hb (List.eq_nil_of_length_eq_zero (by have := congrArg List.length e; rw [putR_len] at this; simpa using this))
    have hsa := fun v (hv : v ∈ va) u (hu : u ∈ vb) k hk => Sep.apart hm.sep hv hu (k := k) hk
    refine Went.mk' (g0 := g0) (g1 := g1) (A1 := A1) (va := va) (vb := vs') ⟨?_, hm1.ta.far hFP (out_tab hm1.ta htb (fun e => hg e.symm) hsa), .inr ⟨hne, hA, hg, hT⟩, ?_⟩ (((hF.then_below hb1).trans hFP fun k hk => ?_)) hf.p.1 hf.g0.1 (fun _ => (hf.g1 hb).1) fun v hv k hk => ?_
    · have := hFP.blk hm1.dict (out_dict htb hm1.dict)
      simpa [putR_len] using this
    · refine hm.sep.left.join hS fun v hv u hu k hk hk2 => ?_
      rcases hI u hu k hk2 with ⟨u0, h1, h2⟩ | h1
      · exact hsa v hv u0 h1 k hk h2
      · obtain ⟨r, hr⟩ := hm1.ta.mem hv
        have := hr.lt hk
        omega
    · rcases hk with rfl | ⟨v, hv, hk⟩
      · exact (hf.g1 hb).1
      · exact (hf.row v (List.mem_append_right _ hv) k hk).1
    · rcases List.mem_append.1 hv with h | h
      · exact (hf.row v (List.mem_append_left _ h) k hk).1
      · rcases hI v h k hk with ⟨u0, h1, h2⟩ | h1
        · exact (hf.row u0 (List.mem_append_right _ h1) k h2).1
        · exact .inr (Nat.le_trans hF.size (Nat.le_trans hb1.size h1))
theorem put_at {w2 : World} (h2 : Went tyP S w p seed D w2) (ok : D.Ok tyP) (hn : D.n + 1 ≤ 1000000) (x : Nd) (hx : x.fine tyP) :
    ∃ tv : Value, (∃ A n, tv = .slice A n n) ∧ (∀ W, Below w2.heap.size w2 W → Hid (Calls Tryz.prog 145 #[.pointer (some ⟨p, 0, none⟩)] W fun e w' => e = .returned tv ∧ w' = W)) ∧
      (∀ W, Below w2.heap.size w2 W → Hid (Calls Tryz.prog 146 #[tv, .slice (some ⟨W.heap.size, 0, none⟩) 1 1] (W.alloc (.cells x.cells.toArray 200)) fun e W' => e = .returned (.tuple #[]) ∧ Went tyP S w p seed (D.ins x) W')) := by
  obtain ⟨g0, g1, A1, va, vb, hm, hf, hc⟩ := h2.1
  refine ⟨if D.b = [] then .slice (some ⟨g0, 0, none⟩) D.a.length D.a.length else .slice A1 D.b.length D.b.length, ?_, fun W hW => ?_, fun W hW => ?_⟩
  · split
    · exact ⟨_, _, rfl⟩
    · exact ⟨_, _, rfl⟩
  · have hN := newest_any (S := grow tyP S w w2) (hm.later hW) hf (fun k hk => (hc k hk).same (hW.block k (hc k hk).lt))
    have e : (bif D.moving then Value.slice A1 D.b.length D.b.length else .slice (some ⟨g0, 0, none⟩) D.a.length D.a.length) = (if D.b = [] then .slice (some ⟨g0, 0, none⟩) D.a.length D.a.length else .slice A1 D.b.length D.b.length) := by
      cases hmv : D.moving with
      | false => rw [if_pos ((moving_iff D).1 hmv)]; rfl
      | true => rw [if_neg (b_ne hmv)]; rfl
    rw [e] at hN
    exact Lib.hid hN
  · have hb1 : Below w2.heap.size w2 (W.alloc (.cells x.cells.toArray 200)) := hW.alloc hW.size _
    have hm1 := hm.later hb1
    have hrow : RowAt tyP (W.alloc (.cells x.cells.toArray 200)) (.slice (some ⟨W.heap.size, 0, none⟩) 1 1) [x] := by
      have := World.ownsRow_lit (base := 0) (e := 200) (size := 3) W x.cells.toArray 1 (Nat.zero_le _) (by unfold maxLen; omega) rfl
      simpa [RowAt, flat, tyP] using this
    have hfl := ok.n
    by_cases hb : D.b = []
    · have hP := put_any g0 va D.a _ [x] _ hm1.ta hm1.sep.left ok.a hrow (fun u hu k hk h => by
        obtain ⟨r, hr⟩ := hm.ta.mem hu
        have h1 := hr.lt hk
        have h2 := hW.size
        simp [Value.ownBlock] at h
        omega) (fun y hy => by simp at hy; subst hy; exact hx) (by simp only [List.length_singleton]; omega)
      refine Lib.hid ?_
      rw [if_pos hb]
      refine hP.mono fun e W' ⟨he, hPI⟩ => ⟨he, ?_⟩
      exact went_put hm hf h2.2 hb1 x (by simpa only [hb, if_true, List.length_singleton] using hPI)
    · rcases hm1.tb with ⟨h, _⟩ | ⟨_, hA, hg, htb⟩
      · exact absurd h hb
      have hP := put_any g1 vb D.b _ [x] _ htb hm1.sep.right (ok.b hb) hrow (fun u hu k hk h => by
        rcases hm.tb with ⟨h5, _⟩ | ⟨_, _, _, htb0⟩
        · exact absurd h5 hb
        obtain ⟨r, hr⟩ := htb0.mem hu
        have h1 := hr.lt hk
        have h2 := hW.size
        simp [Value.ownBlock] at h
        omega) (fun y hy => by simp at hy; subst hy; exact hx) (by simp only [List.length_singleton]; omega)
      refine Lib.hid ?_
      rw [if_neg hb, hA]
      refine hP.mono fun e W' ⟨he, hPI⟩ => ⟨he, ?_⟩
      exact went_put hm hf h2.2 hb1 x (by simpa only [hb, if_false, List.length_singleton] using hPI)
set_option maxRecDepth 100000 in
set_option maxHeartbeats 4000000 in
theorem set_any (hsd : seed < 4294967296) (h : Rep tyP w p S seed D) (ok : D.Ok tyP) (hn : D.n + 1 ≤ 1000000) (key : ByteArray) (hk : key.size ≤ 281474976710656) (nv : Option Addr) :
    Calls Tryz.prog 96 #[.pointer (some ⟨p, 0, none⟩), .string key, .pointer nv] w fun e w' =>
      e = .returned (.bool (!((D.step 1).hit (sumN seed key.data.toList) key).isSome)) ∧ Went tyP S w p seed (D.setS (sumN seed key.data.toList) key (.pointer nv)) w' := by
  have hb0 : Below w.heap.size w (w.alloc (Obj.cells #[.pointer nv] 86)) := (Below.refl _ _).alloc (Nat.le_refl _) _
  have k0 := Blk.new w 86 #[.pointer nv]
  have hw := h.later hb0
  obtain ⟨ok1, hn1⟩ := step_ok ok 1
  have hmf : ∀ (fn : Fn) (first cap : Array Value) (w : World), (Instr.makeFunc fn first cap).run Tryz.prog w = .ok (.func fn first cap) w := fun _ _ _ _ => rfl
  have hsl := sumN_lt seed key.data.toList
  cases hh : (D.step 1).hit (sumN seed key.data.toList) key with
  | some ji =>
    obtain ⟨j, i⟩ := ji
    have hd : D.setS (sumN seed key.data.toList) key (.pointer nv) = (D.step 1).upd (sumN seed key.data.toList) j (setV i (.pointer nv)) := by unfold Dc.setS; rw [hh]
    rw [hd]
    obtain ⟨r, y, h1, h2, h3⟩ := node_of hh
    have hrl : r.length ≤ 1000000 := by
      have h4 := rows_len (D := D.step 1) _ j r h1
      have h5 := ok1.n
      omega
    have hF := find_any hsd hw ok (by omega) key hk 143 #[.pointer (some ⟨w.heap.size, 0, none⟩)] (some (j, i)) (fun j' i' h => by cases h; exact hit_some hh) (fun h => by cases h) (fun W' => Went tyP S (w.alloc (Obj.cells #[.pointer nv] 86)) p seed ((D.step 1).upd (sumN seed key.data.toList) j (setV i (.pointer nv))) W')
      (fun j' i' h => by cases h; exact set_does ok1 hw.cells h1 h2 hrl w.heap.size nv k0)
    have HF := Lib.hid hF
    clear hF hh k0 h3 h1 h2 hd
    go_enter Tryz.func96, Tryz.ntmps96
    go_wp2_with fail
    refine HF.out.mono ?_
    rintro e w1 ⟨rfl, _, hw1⟩
    have HW := Lib.hid (hw1 rfl)
    clear hw1
    go_wp2
    go_ret
    exact ⟨rfl, Went.since hb0 HW.out⟩
  | none =>
    have hd : D.setS (sumN seed key.data.toList) key (.pointer nv) = ((D.step 1).grown).add ⟨sumN seed key.data.toList, key, .pointer nv⟩ := by unfold Dc.setS; rw [hh]
    rw [hd]
    obtain ⟨ok2, hn2⟩ := grown_ok ok1
    have hF := find_any hsd hw ok (by omega) key hk 143 #[.pointer (some ⟨w.heap.size, 0, none⟩)] none (fun j i h => by cases h) (fun _ => hit_none hh) (fun _ => False) (fun j i h => by cases h)
    have HF := Lib.hid hF
    have HK := Lib.hid k0
    have HC := Lib.hid hw.cells
    clear hF hh k0 hd
    have HNM := fun W (hR : Rep tyP W p (grow tyP S (w.alloc (Obj.cells #[.pointer nv] 86)) W) seed (D.step 1).grown) => Lib.hid (named_any hsd hR key hk)
    generalize sumN seed key.data.toList = s at *
    go_enter Tryz.func96, Tryz.ntmps96
    go_wp2_with fail
    refine HF.out.mono ?_
    rintro e w1 ⟨rfl, hw1, _⟩
    have hW1 := hw1 trivial
    have hG := grow_any hW1.1 (by omega)
    have HW1 := Lib.hid hW1
    have HG := Lib.hid hG
    clear hw1 hW1 hG
    go_wp2_with fail
    refine HG.out.mono ?_
    rintro e w2 ⟨rfl, hw2⟩
    have hW2 := HW1.out.trans hw2
    obtain ⟨tv, ⟨At, nt, rfl⟩, HNEW, HPUT⟩ := put_at hW2 ok2 (by omega) ⟨s, key, .pointer nv⟩ ⟨hsl, nv, rfl⟩
    have hvb := hW2.blk HK.out HC.out (by decide)
    have HVB := Lib.hid hvb
    have B0 : Below w2.heap.size w2 w2.drew := (Below.refl _ _).drew
    have HW2 := Lib.hid hW2
    obtain ⟨v0, v1⟩ := facts1 hvb
    have HCL := fun W => Lib.hid (clone_any key hk W)
    clear hw2 hW2 hvb
    unfold Nd.cells at HPUT
    go_wp2
    go_region_law (go_simp; first
      | (go_at_call 95; refine (HCL _).out.mono ?_; rintro e w3 ⟨rfl, hb3⟩; have B3 : Below w2.heap.size w2 w3 := ofDrew hb3; obtain ⟨v3, x3⟩ := facts1 (HVB.out.later B3))
      | (go_at_call 147; refine (HNM _ (HW2.out.later B3).1).out.mono ?_; rintro e w4 ⟨rfl, hb4⟩; have B4 : Below w2.heap.size w2 w4 := B3.trans (hb4.mono B3.size); obtain ⟨v4, x4⟩ := facts1 (HVB.out.later B4))
      | (go_at_call 145; refine (HNEW _ (by first | exact B0 | exact B3 | exact B4 | exact B4.alloc B4.size _)).out.mono ?_; rintro e w5 ⟨rfl, rfl⟩)
      | (go_at_call 146; refine (HPUT _ B4).out.mono ?_; rintro e w6 ⟨rfl, hW6⟩))
    all_goals (
      obtain ⟨q0, q1⟩ := count_facts hW6
      rw [ins_n] at q0
      have hN := went_n hW6 ((D.step 1).grown.n + 1)
      rw [ins_add] at hN
      have HN := Lib.hid hN
      have hb1 : ((D.step 1).grown.n : Int) + 1 ≤ 1000000 := by omega
      clear hN hW6
      go_wp2
      go_ret
      refine ⟨rfl, Went.since hb0 ?_⟩
      have := HN.out
      rwa [show (((D.step 1).grown.n + 1 : Nat) : Int) = (D.n : Int) + 1 by omega] at this)
set_option maxRecDepth 100000 in
theorem new_any (sd : Nat) (w : World) : Calls Tryz.prog 64 #[.int .u32 sd] w fun e w' => ∃ q, e = .returned (.pointer (some ⟨q, 0, none⟩)) ∧ Rep tyP w' q (fresh tyP w w') sd newD ∧ Below w.heap.size w w' := by
  obtain ⟨i0, hi0, hz0, hz1, hz2⟩ := info_parts info159
  have hmk := fun W => run_make (P := Tryz.prog) W 136 201 i0 _ Tryz.underlying136 hi0 hz0 .i64 .i64 4 4 (by omega) (Int.le_refl _) (by rw [hz2]; omega) (by omega)
  rw [hz1] at hmk
  simp only [Int.reduceToNat, Nat.mul_one] at hmk
  go_enter Tryz.func64, Tryz.ntmps64
  go_wp2
  go_returns
  refine ⟨_, rfl, ?_, ((Below.refl _ _).alloc (Nat.le_refl _) _).alloc (by simp) _⟩
  have h1 := (Blk.new w 201 (madeCells #[Value.slice none 0 0] 4)).alloc (Obj.cells #[Value.slice (some { block := w.heap.size, off := 0 }) 4 4, Value.slice none 0 0, Value.int IntKind.u32 ↑sd, Value.int IntKind.i64 0, Value.int IntKind.i64 0] 139)
  have h2 := Blk.new (w.alloc (Obj.cells (madeCells #[Value.slice none 0 0] 4) 201)) 139 #[Value.slice (some { block := w.heap.size, off := 0 }) 4 4, Value.slice none 0 0, Value.int IntKind.u32 ↑sd, Value.int IntKind.i64 0, Value.int IntKind.i64 0]
  rw [World.size_alloc] at h2
  have hmc : madeCells #[Value.slice none 0 0] 4 = (List.replicate 4 (Value.slice none 0 0)).toArray := by
    rw [← toList_madeCells_one]
  have hW := Went.mk' (T := tyP) (S := fun _ => False) (W := w) (g0 := w.heap.size) (g1 := 0) (A1 := none) (va := List.replicate 4 (.slice none 0 0)) (vb := []) (D := newD) (seed := sd) ⟨h2, ⟨by rw [← hmc]; exact h1, rfl, fun i v r hv hr => ?_⟩, .inl ⟨rfl, rfl, rfl⟩, ?_⟩
    (Far.of_below (((Below.refl _ _).alloc (Nat.le_refl _) _).alloc (by simp) _)) (.inr (by simp)) (.inr (Nat.le_refl _)) (fun h => absurd rfl h) (fun v hv k hk => ?_)
  · exact hW.1
  · obtain ⟨hi, rfl⟩ := List.getElem?_eq_some_iff.1 hv
    obtain ⟨hi2, rfl⟩ := List.getElem?_eq_some_iff.1 hr
    simp only [newD, List.getElem_replicate]
    exact RowAt.nil _ _
  · refine Sep.none fun v hv => ?_
    rw [List.append_nil] at hv
    rw [List.eq_of_mem_replicate hv]; rfl
  · rw [List.append_nil] at hv
    rw [List.eq_of_mem_replicate hv] at hk
    simp [Value.ownBlock] at hk
end Go.Proofs.YtpfoicpnpgojdaaGreatDoor.Dc.Dt
/- A dict of pointers that is like a map: what its calls tell. -/
namespace Go.Proofs.YtpfoicpnpgojdaaGreatDoor.Dc.Dt
open Go.RowKit Go.Shelf
attribute [local go_sem] Oper.semAt_some

def ptrOf (a : Addr) : Value := .pointer (some a)
/-- In a world, in the blocks S, there is a dict that holds what m tells, of a shape. -/
def Is (W : World) (p : Nat) (S : Nat → Prop) (seed : Nat) (m : ByteArray → Option Addr) (n : Sh) : Prop :=
  ∃ D, Rep tyP W p S seed D ∧ Like tyP seed D (fun k => (m k).map ptrOf) ∧ D.shape = n
def putP (m : ByteArray → Option Addr) (key : ByteArray) (v : Addr) : ByteArray → Option Addr := fun k => if k = key then some v else m k
def remP (m : ByteArray → Option Addr) (key : ByteArray) : ByteArray → Option Addr := fun k => if k = key then none else m k
/-- What a call leaves of a dict: it is such a one now; all else is as it was. -/
def IsNow (S : Nat → Prop) (W : World) (p seed : Nat) (m : ByteArray → Option Addr) (n : Sh) (W' : World) : Prop := Is W' p (grow tyP S W W') seed m n ∧ Far S W W'

theorem Is.far {S S1 : Nat → Prop} {W W' : World} {p seed : Nat} {n : Sh} {m : ByteArray → Option Addr} (h : Is W p S seed m n) (f : Far S1 W W') (hd : ∀ k, S k → ¬ S1 k) : Is W' p S seed m n := by
  obtain ⟨D, h1, h2, h3⟩ := h
  exact ⟨D, h1.far f hd, h2, h3⟩
theorem Is.later {S : Nat → Prop} {W W' : World} {p seed : Nat} {n : Sh} {m : ByteArray → Option Addr} (h : Is W p S seed m n) (hb : Below W.heap.size W W') : Is W' p S seed m n := h.far (S1 := fun _ => False) (Far.of_below hb) fun _ _ h => h
theorem Is.cells {S : Nat → Prop} {W : World} {p seed : Nat} {n : Sh} {m : ByteArray → Option Addr} (h : Is W p S seed m n) : ∀ k, S k → CellB tyP W k := by obtain ⟨D, h1, _⟩ := h; exact h1.cells
theorem Is.lt {S : Nat → Prop} {W : World} {p seed : Nat} {n : Sh} {m : ByteArray → Option Addr} (h : Is W p S seed m n) : ∀ k, S k → k < W.heap.size := fun k hk => (h.cells k hk).lt
theorem Is.wide {S S1 : Nat → Prop} {W : World} {p seed : Nat} {n : Sh} {m : ByteArray → Option Addr} (h : Is W p S seed m n) (hs : ∀ k, S k → S1 k) (hc : ∀ k, S1 k → CellB tyP W k) : Is W p S1 seed m n := by
  obtain ⟨D, h1, h2, h3⟩ := h
  exact ⟨D, h1.wide hs hc, h2, h3⟩
theorem IsNow.of {S : Nat → Prop} {W W' : World} {p seed : Nat} {n : Sh} {m : ByteArray → Option Addr} {D : Dc} (h : Went tyP S W p seed D W') (hl : Like tyP seed D (fun k => (m k).map ptrOf)) (hn : D.shape = n) : IsNow S W p seed m n W' := ⟨⟨D, h.1, hl, hn⟩, h.2⟩
theorem IsNow.start {S : Nat → Prop} {W : World} {p seed : Nat} {n : Sh} {m : ByteArray → Option Addr} (h : Is W p S seed m n) : IsNow S W p seed m n W := by
  obtain ⟨D, h1, h2, h3⟩ := h
  exact IsNow.of (Went.start h1) h2 h3
theorem IsNow.trans {S : Nat → Prop} {W W1 W2 : World} {p seed : Nat} {n n2 : Sh} {m m2 : ByteArray → Option Addr} (h : IsNow S W p seed m n W1) (g : IsNow (grow tyP S W W1) W1 p seed m2 n2 W2) : IsNow S W p seed m2 n2 W2 := by
  obtain ⟨D1, h1, h2, h3⟩ := h.1
  obtain ⟨D2, g1, g2, g3⟩ := g.1
  exact IsNow.of (Went.trans ⟨h1, h.2⟩ ⟨g1, g.2⟩) g2 g3
theorem IsNow.later {S : Nat → Prop} {W W1 W2 : World} {p seed : Nat} {n : Sh} {m : ByteArray → Option Addr} (h : IsNow S W p seed m n W1) (hb : Below W1.heap.size W1 W2) : IsNow S W p seed m n W2 := by
  obtain ⟨D1, h1, h2, h3⟩ := h.1
  exact IsNow.of (Went.later ⟨h1, h.2⟩ hb) h2 h3
theorem IsNow.since {S : Nat → Prop} {W W1 W2 : World} {p seed : Nat} {n : Sh} {m : ByteArray → Option Addr} (hb : Below W.heap.size W W1) (h : IsNow S W1 p seed m n W2) : IsNow S W p seed m n W2 := by
  obtain ⟨D1, h1, h2, h3⟩ := h.1
  exact IsNow.of (Went.since hb ⟨h1, h.2⟩) h2 h3

section
variable {S : Nat → Prop} {p seed : Nat} {n : Sh} {m : ByteArray → Option Addr} {w : World}

theorem map_put (m : ByteArray → Option Addr) (key : ByteArray) (v : Addr) : (fun k => (putP m key v k).map ptrOf) = putM (fun k => (m k).map ptrOf) key (ptrOf v) := by
  funext k
  unfold putP putM
  split <;> rfl
theorem map_rem (m : ByteArray → Option Addr) (key : ByteArray) : (fun k => (remP m key k).map ptrOf) = remM (fun k => (m k).map ptrOf) key := by
  funext k
  unfold remP remM
  split <;> rfl

theorem new_is (sd : Nat) (w : World) : Calls Tryz.prog 64 #[.int .u32 sd] w fun e w' => ∃ q, e = .returned (.pointer (some ⟨q, 0, none⟩)) ∧ Is w' q (fresh tyP w w') sd (fun _ => none) ⟨4, 0, 0, 0⟩ ∧ Below w.heap.size w w' :=
  (new_any sd w).mono fun _ _ ⟨q, h1, h2, h3⟩ => ⟨q, h1, ⟨newD, h2, Like.new _ _, rfl⟩, h3⟩
theorem get_is (hsd : seed < 4294967296) (h : Is w p S seed m n) (hn : n.n ≤ 1000000) (key : ByteArray) (hk : key.size ≤ 281474976710656) :
    Calls Tryz.prog 86 #[.pointer (some ⟨p, 0, none⟩), .string key] w fun e w' => e = .returned (.tuple #[.pointer (m key), .bool (m key).isSome]) ∧ IsNow S w p seed m n.step1 w' := by
  obtain ⟨D, h1, h2, h3⟩ := h
  have hn' : D.n ≤ 1000000 := by rw [← h3] at hn; exact hn
  refine (get_any hsd h1 h2.1.ok hn' key hk).mono fun e w' ⟨he, hw⟩ => ?_
  obtain ⟨q1, q2, q3, q4⟩ := (h2.step 1).hit key
  refine ⟨?_, IsNow.of hw (h2.step 1) ((shape_step h2.1.ok 1).trans (by rw [h3]; rfl))⟩
  rw [he, q1]
  congr 2
  cases hm : m key with
  | none =>
    rw [q3 (by simp only [hm]; rfl)]
    rfl
  | some v =>
    obtain ⟨y, hy⟩ := q4 (by simp only [hm]; rfl)
    have := q2 y hy
    simp only [hm, Option.map_some, Option.some.injEq] at this
    rw [hy]
    simp only [ptrV, ← this, ptrOf]
    rfl
theorem set_is (hsd : seed < 4294967296) (h : Is w p S seed m n) (hn : n.n + 1 ≤ 1000000) (key : ByteArray) (hk : key.size ≤ 281474976710656) (v : Addr) :
    Calls Tryz.prog 96 #[.pointer (some ⟨p, 0, none⟩), .string key, .pointer (some v)] w fun e w' => e = .returned (.bool (!(m key).isSome)) ∧ IsNow S w p seed (putP m key v) (n.set (m key).isSome) w' := by
  obtain ⟨D, h1, h2, h3⟩ := h
  have hn' : D.n + 1 ≤ 1000000 := by rw [← h3] at hn; exact hn
  refine (set_any hsd h1 h2.1.ok hn' key hk (some v)).mono fun e w' ⟨he, hw⟩ => ?_
  obtain ⟨q1, _⟩ := (h2.step 1).hit key
  obtain ⟨g1, _⟩ := h2.set key (ptrOf v) ⟨some v, rfl⟩
  have g2 := shape_set h2.1.ok (sumN seed key.data.toList) key (.pointer (some v))
  rw [← map_put] at g1
  simp only [Option.isSome_map] at q1
  exact ⟨by rw [he, q1], IsNow.of hw g1 (by rw [g2, h3, q1])⟩
theorem del_is (hsd : seed < 4294967296) (h : Is w p S seed m n) (hn : n.n ≤ 1000000) (key : ByteArray) (hk : key.size ≤ 281474976710656) :
    Calls Tryz.prog 94 #[.pointer (some ⟨p, 0, none⟩), .string key] w fun e w' => e = .returned (.bool (m key).isSome) ∧ IsNow S w p seed (remP m key) (n.del (m key).isSome) w' ∧ ((m key).isSome = true → 0 < n.n) := by
  obtain ⟨D, h1, h2, h3⟩ := h
  have hn' : D.n ≤ 1000000 := by rw [← h3] at hn; exact hn
  refine (del_any hsd h1 h2.1.ok hn' key hk).mono fun e w' ⟨he, hw⟩ => ?_
  obtain ⟨q1, _⟩ := (h2.step 1).hit key
  obtain ⟨g1, _, g3⟩ := h2.del key
  have g2 := shape_del h2.1.ok (sumN seed key.data.toList) key
  rw [← map_rem] at g1
  simp only [Option.isSome_map] at q1 g3
  exact ⟨by rw [he, q1], IsNow.of hw g1 (by rw [g2, h3, q1]), fun e => by rw [← h3]; exact g3 e⟩
theorem len_is (h : Is w p S seed m n) : Calls Tryz.prog 48 #[.pointer (some ⟨p, 0, none⟩)] w fun e w' => e = .returned (.int .i64 n.n) ∧ w' = w := by
  obtain ⟨D, h1, h2, h3⟩ := h
  rw [← h3]
  exact len_any h1
theorem sizes_is (h : Is w p S seed m n) : Calls Tryz.prog 85 #[.pointer (some ⟨p, 0, none⟩)] w fun e w' => e = .returned (.tuple #[.int .i64 n.A, .int .i64 n.B, .int .i64 n.At]) ∧ Below w.heap.size w w' := by
  obtain ⟨D, h1, h2, h3⟩ := h
  rw [← h3]
  exact sizes_of h1
theorem step_is (h : Is w p S seed m n) (hn : n.n ≤ 1000000) (q : Int) : Calls Tryz.prog 67 #[.pointer (some ⟨p, 0, none⟩), .int .i64 q] w fun e w' => e = .returned (.int .i64 (min q.toNat n.left : Nat)) ∧ IsNow S w p seed m (Sh.steps q.toNat n) w' := by
  obtain ⟨D, h1, h2, h3⟩ := h
  have hn' : D.n ≤ 1000000 := by rw [← h3] at hn; exact hn
  refine (step_any h1 h2.1.ok hn' q).mono fun e w' ⟨he, hw⟩ => ⟨by rw [he, ← h3, shape_left], IsNow.of hw (h2.step _) ((shape_step h2.1.ok _).trans (by rw [h3]))⟩
end
end Go.Proofs.YtpfoicpnpgojdaaGreatDoor.Dc.Dt
