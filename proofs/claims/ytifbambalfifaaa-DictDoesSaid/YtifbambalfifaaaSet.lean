/- New and Set. -/
import Derived.Test.YtifbambalfifaaaOps
namespace Go.Proofs.Ytifbambalfifaaa
open Go.RowKit Go.Shelf
attribute [local go_sem] Oper.semAt_some

section
variable {S : Nat → Prop} {p seed : Nat} {D : Dc} {w : World}

theorem out_tab {W : World} {g g' : Nat} {vs us : List Value} {rows rows' : List (List Nd)} (h : TabAt tyI W g vs rows) (h' : TabAt tyI W g' us rows') (hg : g ≠ g') (hs : ∀ v ∈ vs, ∀ u ∈ us, ∀ k, v.ownBlock = some k → u.ownBlock ≠ some k) : ∀ k, InTab g vs k → ¬ InTab g' us k := by
  rintro k (rfl | ⟨v, hv, hk⟩) (h2 | ⟨u, hu, hk2⟩)
  · exact hg h2
  · obtain ⟨r, hr⟩ := h'.mem hu
    obtain ⟨c, hc⟩ := hr.blk hk2
    exact absurd (h.blk.ty hc) (by decide)
  · subst h2
    obtain ⟨r, hr⟩ := h.mem hv
    obtain ⟨c, hc⟩ := hr.blk hk
    exact absurd (h'.blk.ty hc) (by decide)
  · exact hs v hv u hu k hk hk2
theorem out_dict {W : World} {g : Nat} {vs : List Value} {rows : List (List Nd)} {c : Array Value} (h : TabAt tyI W g vs rows) (hp : Blk W p tyI.d c) : ¬ InTab g vs p := by
  rintro (rfl | ⟨v, hv, hk⟩)
  · exact absurd (hp.ty h.blk) (by decide)
  · obtain ⟨r, hr⟩ := h.mem hv
    obtain ⟨c, hc⟩ := hr.blk hk
    exact absurd (hp.ty hc) (by decide)

/-- Behind put onto the newest table. -/
theorem went_put {W W1 W' : World} {g0 g1 : Nat} {A1 : Option Addr} {va vb : List Value} (hm : Mem tyI W p g0 g1 A1 va vb seed D) (hf : Foot (grow tyI S w W) p g0 g1 va vb D) (hF : Far S w W) (hb1 : Below W.heap.size W W1) (x : Nd)
    (hP : PutI W1 (if D.b = [] then g0 else g1) (if D.b = [] then va else vb) (if D.b = [] then D.a else D.b) [x] 1 W') :
    Went tyI S w p seed (if D.b = [] then { D with a := putR D.a x } else { D with b := putR D.b x }) W' := by
  obtain ⟨vs', hT, hS, hI, hFP⟩ := hP
  have hm1 := hm.later hb1
  by_cases hb : D.b = []
  · simp only [hb, if_true] at hT hI hFP ⊢
    have hvb : vb = [] := by
      rcases hm.tb with ⟨_, h, _⟩ | ⟨h, _⟩
      · exact h
      · exact absurd hb h
    have hA : A1 = none := by
      rcases hm.tb with ⟨_, _, h⟩ | ⟨h, _⟩
      · exact h
      · exact absurd hb h
    subst hvb hA
    refine Went.mk' (g0 := g0) (g1 := g1) (A1 := none) (va := vs') (vb := []) ⟨?_, hT, .inl ⟨rfl, rfl, rfl⟩, by rw [List.append_nil]; exact hS⟩ (((hF.then_below hb1).trans hFP fun k hk => ?_)) hf.p.1 hf.g0.1 (fun h => absurd rfl h) fun v hv k hk => ?_
    · have := hFP.blk hm1.dict (out_dict hm1.ta hm1.dict)
      simp only [hb] at this
      simpa [hb, putR_len] using this
    · rcases hk with rfl | ⟨v, hv, hk⟩
      · exact hf.g0.1
      · exact (hf.row v (List.mem_append_left _ hv) k hk).1
    · rw [List.append_nil] at hv
      rcases hI v hv k hk with ⟨u0, h1, h2⟩ | h1
      · exact (hf.row u0 (List.mem_append_left _ h1) k h2).1
      · exact .inr (Nat.le_trans hF.size (Nat.le_trans hb1.size h1))
  · simp only [hb, if_false] at hT hI hFP ⊢
    rcases hm1.tb with ⟨h, _⟩ | ⟨_, hA, hg, htb⟩
    · exact absurd h hb
    have hne : putR D.b x ≠ [] := fun e => hb (List.eq_nil_of_length_eq_zero (by have := congrArg List.length e; rw [putR_len] at this; simpa using this))
    have hsa := fun v (hv : v ∈ va) u (hu : u ∈ vb) k hk => Sep.apart hm.sep hv hu (k := k) hk
    refine Went.mk' (g0 := g0) (g1 := g1) (A1 := A1) (va := va) (vb := vs') ⟨?_, hm1.ta.far hFP (out_tab hm1.ta htb (fun e => hg e.symm) hsa), .inr ⟨hne, hA, hg, hT⟩, ?_⟩ (((hF.then_below hb1).trans hFP fun k hk => ?_)) hf.p.1 hf.g0.1 (fun _ => (hf.g1 hb).1) fun v hv k hk => ?_
    · have := hFP.blk hm1.dict (out_dict htb hm1.dict)
      simpa [putR_len] using this
    · refine hm.sep.left.join hS fun v hv u hu k hk hk2 => ?_
      rcases hI u hu k hk2 with ⟨u0, h1, h2⟩ | h1
      · exact hsa v hv u0 h1 k hk h2
      · obtain ⟨r, hr⟩ := hm1.ta.mem hv
        have := hr.lt hk
        omega
    · rcases hk with rfl | ⟨v, hv, hk⟩
      · exact (hf.g1 hb).1
      · exact (hf.row v (List.mem_append_right _ hv) k hk).1
    · rcases List.mem_append.1 hv with h | h
      · exact (hf.row v (List.mem_append_left _ h) k hk).1
      · rcases hI v h k hk with ⟨u0, h1, h2⟩ | h1
        · exact (hf.row u0 (List.mem_append_right _ h1) k h2).1
        · exact .inr (Nat.le_trans hF.size (Nat.le_trans hb1.size h1))

theorem clone_any (s : ByteArray) (hs : s.size ≤ 281474976710656) (w : World) : Calls Try.prog 40 #[.string s] w fun e w' => e = .returned (.string s) ∧ Below w.heap.size w w' := by
  have HC := Lib.hid (Try.stringslite_Clone s w hs)
  go_enter Try.func40, Try.ntmps40
  go_wp2_with fail
  refine HC.out.mono ?_
  rintro e w1 ⟨rfl, hb1⟩
  go_wp2
  go_ret
  exact ⟨rfl, hb1⟩

theorem grown_ok {T : Ty} (ok : D.Ok T) : D.grown.Ok T ∧ D.grown.n = D.n := by
  unfold Dc.grown
  split
  · rename_i h
    have hz : D.b = [] := h.1
    have h0 : (List.replicate (sizeS (2 * D.n : Nat)) ([] : List Nd)).flatten = [] := by simp
    refine ⟨⟨ok.a, fun _ => by simp [Dc.begin]; exact isS_size _, fun _ => ?_, fun e => ?_, fun i hi => ?_, ?_, fun r hr x hx => ?_⟩, rfl⟩
    · show D.place < D.a.length
      rw [ok.still hz]
      have := isS_pos ok.a
      omega
    · have h1 := isS_pos (isS_size (2 * D.n : Nat))
      have h2 : (List.replicate (sizeS (2 * D.n : Nat)) ([] : List Nd)).length = 0 := by
        rw [show List.replicate (sizeS (2 * D.n : Nat)) ([] : List Nd) = [] from e]; rfl
      rw [List.length_replicate] at h2
      omega
    · have hi' : i < D.place := hi
      rw [ok.still hz] at hi'
      omega
    · have := ok.n
      rw [hz] at this
      show D.n = D.a.flatten.length + (List.replicate (sizeS (2 * D.n : Nat)) ([] : List Nd)).flatten.length
      rw [h0]
      simpa using this
    · rcases hr with hr | hr
      · exact ok.fine r (.inl hr) x hx
      · rw [List.eq_of_mem_replicate hr] at hx; simp at hx
  · exact ⟨ok, rfl⟩

/-- A node is put into the newest table. -/
def Dc.ins (D : Dc) (x : Nd) : Dc := if D.b = [] then { D with a := putR D.a x } else { D with b := putR D.b x }
theorem ins_n (D : Dc) (x : Nd) : (D.ins x).n = D.n := by unfold Dc.ins; split <;> rfl
theorem ins_add (D : Dc) (x : Nd) : { D.ins x with n := D.n + 1 } = D.add x := by unfold Dc.ins Dc.add; split <;> rfl
theorem put_at {w2 : World} (h2 : Went tyI S w p seed D w2) (ok : D.Ok tyI) (hn : D.n + 1 ≤ 1000000) (x : Nd) (hx : x.fine tyI) :
    ∃ tv : Value, (∃ A n, tv = .slice A n n) ∧ (∀ W, Below w2.heap.size w2 W → Hid (Calls Try.prog 37 #[.pointer (some ⟨p, 0, none⟩)] W fun e w' => e = .returned tv ∧ w' = W)) ∧
      (∀ W, Below w2.heap.size w2 W → Hid (Calls Try.prog 38 #[tv, .slice (some ⟨W.heap.size, 0, none⟩) 1 1] (W.alloc (.cells x.cells.toArray 75)) fun e W' => e = .returned (.tuple #[]) ∧ Went tyI S w p seed (D.ins x) W')) := by
  obtain ⟨g0, g1, A1, va, vb, hm, hf, hc⟩ := h2.1
  refine ⟨if D.b = [] then .slice (some ⟨g0, 0, none⟩) D.a.length D.a.length else .slice A1 D.b.length D.b.length, ?_, fun W hW => ?_, fun W hW => ?_⟩
  · split
    · exact ⟨_, _, rfl⟩
    · exact ⟨_, _, rfl⟩
  · have hN := newest_any (S := grow tyI S w w2) (hm.later hW) hf (fun k hk => (hc k hk).same (hW.block k (hc k hk).lt))
    have e : (bif D.moving then Value.slice A1 D.b.length D.b.length else .slice (some ⟨g0, 0, none⟩) D.a.length D.a.length) = (if D.b = [] then .slice (some ⟨g0, 0, none⟩) D.a.length D.a.length else .slice A1 D.b.length D.b.length) := by
      cases hmv : D.moving with
      | false => rw [if_pos ((moving_iff D).1 hmv)]; rfl
      | true => rw [if_neg (b_ne hmv)]; rfl
    rw [e] at hN
    exact Lib.hid hN
  · have hb1 : Below w2.heap.size w2 (W.alloc (.cells x.cells.toArray 75)) := hW.alloc hW.size _
    have hm1 := hm.later hb1
    have hrow : RowAt tyI (W.alloc (.cells x.cells.toArray 75)) (.slice (some ⟨W.heap.size, 0, none⟩) 1 1) [x] := by
      have := World.ownsRow_lit (base := 0) (e := 75) (size := 3) W x.cells.toArray 1 (Nat.zero_le _) (by unfold maxLen; omega) rfl
      simpa [RowAt, flat, tyI] using this
    have hfl := ok.n
    by_cases hb : D.b = []
    · have hP := put_any g0 va D.a _ [x] _ hm1.ta hm1.sep.left ok.a hrow (fun u hu k hk h => by
        obtain ⟨r, hr⟩ := hm.ta.mem hu
        have h1 := hr.lt hk
        have h2 := hW.size
        simp [Value.ownBlock] at h
        omega) (fun y hy => by simp at hy; subst hy; exact hx) (by simp only [List.length_singleton]; omega)
      refine Lib.hid ?_
      rw [if_pos hb]
      refine hP.mono fun e W' ⟨he, hPI⟩ => ⟨he, ?_⟩
      exact went_put hm hf h2.2 hb1 x (by simpa only [hb, if_true, List.length_singleton] using hPI)
    · rcases hm1.tb with ⟨h, _⟩ | ⟨_, hA, hg, htb⟩
      · exact absurd h hb
      have hP := put_any g1 vb D.b _ [x] _ htb hm1.sep.right (ok.b hb) hrow (fun u hu k hk h => by
        rcases hm.tb with ⟨h5, _⟩ | ⟨_, _, _, htb0⟩
        · exact absurd h5 hb
        obtain ⟨r, hr⟩ := htb0.mem hu
        have h1 := hr.lt hk
        have h2 := hW.size
        simp [Value.ownBlock] at h
        omega) (fun y hy => by simp at hy; subst hy; exact hx) (by simp only [List.length_singleton]; omega)
      refine Lib.hid ?_
      rw [if_neg hb, hA]
      refine hP.mono fun e W' ⟨he, hPI⟩ => ⟨he, ?_⟩
      exact went_put hm hf h2.2 hb1 x (by simpa only [hb, if_false, List.length_singleton] using hPI)

set_option maxRecDepth 100000 in
set_option maxHeartbeats 4000000 in
theorem set_any (hsd : seed < 4294967296) (h : Rep tyI w p S seed D) (ok : D.Ok tyI) (hn : D.n + 1 ≤ 1000000) (key : ByteArray) (hk : key.size ≤ 281474976710656) (nv : Int) :
    Calls Try.prog 19 #[.pointer (some ⟨p, 0, none⟩), .string key, .int .i64 nv] w fun e w' =>
      e = .returned (.bool (!((D.step 1).hit (sumN seed key.data.toList) key).isSome)) ∧ Went tyI S w p seed (D.setS (sumN seed key.data.toList) key (.int .i64 nv)) w' := by
  have hb0 : Below w.heap.size w (w.alloc (Obj.cells #[.int .i64 nv] 3)) := (Below.refl _ _).alloc (Nat.le_refl _) _
  have k0 := Blk.new w 3 #[.int .i64 nv]
  have hw := h.later hb0
  obtain ⟨ok1, hn1⟩ := step_ok ok 1
  have hmf : ∀ (fn : Fn) (first cap : Array Value) (w : World), (Instr.makeFunc fn first cap).run Try.prog w = .ok (.func fn first cap) w := fun _ _ _ _ => rfl
  have hsl := sumN_lt seed key.data.toList
  cases hh : (D.step 1).hit (sumN seed key.data.toList) key with
  | some ji =>
    obtain ⟨j, i⟩ := ji
    have hd : D.setS (sumN seed key.data.toList) key (.int .i64 nv) = (D.step 1).upd (sumN seed key.data.toList) j (setV i (.int .i64 nv)) := by unfold Dc.setS; rw [hh]
    rw [hd]
    obtain ⟨r, y, h1, h2, h3⟩ := node_of hh
    have hrl : r.length ≤ 1000000 := by
      have h4 := rows_len (D := D.step 1) _ j r h1
      have h5 := ok1.n
      omega
    have hF := find_any hsd hw ok (by omega) key hk 35 #[.pointer (some ⟨w.heap.size, 0, none⟩)] (some (j, i)) (fun j' i' h => by cases h; exact hit_some hh) (fun h => by cases h) (fun W' => Went tyI S (w.alloc (Obj.cells #[.int .i64 nv] 3)) p seed ((D.step 1).upd (sumN seed key.data.toList) j (setV i (.int .i64 nv))) W')
      (fun j' i' h => by cases h; exact set_does ok1 hw.cells h1 h2 hrl w.heap.size nv k0)
    have HF := Lib.hid hF
    clear hF hh k0 h3 h1 h2 hd
    go_enter Try.func19, Try.ntmps19
    go_wp2_with fail
    refine HF.out.mono ?_
    rintro e w1 ⟨rfl, _, hw1⟩
    have HW := Lib.hid (hw1 rfl)
    clear hw1
    go_wp2
    go_ret
    exact ⟨rfl, Went.since hb0 HW.out⟩
  | none =>
    have hd : D.setS (sumN seed key.data.toList) key (.int .i64 nv) = ((D.step 1).grown).add ⟨sumN seed key.data.toList, key, .int .i64 nv⟩ := by unfold Dc.setS; rw [hh]
    rw [hd]
    obtain ⟨ok2, hn2⟩ := grown_ok ok1
    have hF := find_any hsd hw ok (by omega) key hk 35 #[.pointer (some ⟨w.heap.size, 0, none⟩)] none (fun j i h => by cases h) (fun _ => hit_none hh) (fun _ => False) (fun j i h => by cases h)
    have HF := Lib.hid hF
    have HK := Lib.hid k0
    have HC := Lib.hid hw.cells
    clear hF hh k0 hd
    have HNM := fun W (hR : Rep tyI W p (grow tyI S (w.alloc (Obj.cells #[.int .i64 nv] 3)) W) seed (D.step 1).grown) => Lib.hid (named_any hsd hR key hk)
    generalize sumN seed key.data.toList = s at *
    go_enter Try.func19, Try.ntmps19
    go_wp2_with fail
    refine HF.out.mono ?_
    rintro e w1 ⟨rfl, hw1, _⟩
    have hW1 := hw1 trivial
    have hG := grow_any hW1.1 (by omega)
    have HW1 := Lib.hid hW1
    have HG := Lib.hid hG
    clear hw1 hW1 hG
    go_wp2_with fail
    refine HG.out.mono ?_
    rintro e w2 ⟨rfl, hw2⟩
    have hW2 := HW1.out.trans hw2
    obtain ⟨tv, ⟨At, nt, rfl⟩, HNEW, HPUT⟩ := put_at hW2 ok2 (by omega) ⟨s, key, .int .i64 nv⟩ ⟨hsl, nv, rfl⟩
    have hvb := hW2.blk HK.out HC.out (by decide)
    have HVB := Lib.hid hvb
    have B0 : Below w2.heap.size w2 w2.drew := (Below.refl _ _).drew
    have HW2 := Lib.hid hW2
    obtain ⟨v0, v1⟩ := facts1 hvb
    have HCL := fun W => Lib.hid (clone_any key hk W)
    clear hw2 hW2 hvb
    unfold Nd.cells at HPUT
    go_wp2
    go_region_law (go_simp; first
      | (go_at_call 40; refine (HCL _).out.mono ?_; rintro e w3 ⟨rfl, hb3⟩; have B3 : Below w2.heap.size w2 w3 := ofDrew hb3; obtain ⟨v3, x3⟩ := facts1 (HVB.out.later B3))
      | (go_at_call 39; refine (HNM _ (HW2.out.later B3).1).out.mono ?_; rintro e w4 ⟨rfl, hb4⟩; have B4 : Below w2.heap.size w2 w4 := B3.trans (hb4.mono B3.size); obtain ⟨v4, x4⟩ := facts1 (HVB.out.later B4))
      | (go_at_call 37; refine (HNEW _ (by first | exact B0 | exact B3 | exact B4 | exact B4.alloc B4.size _)).out.mono ?_; rintro e w5 ⟨rfl, rfl⟩)
      | (go_at_call 38; refine (HPUT _ B4).out.mono ?_; rintro e w6 ⟨rfl, hW6⟩))
    all_goals (
      obtain ⟨q0, q1⟩ := count_facts hW6
      rw [ins_n] at q0
      have hN := went_n hW6 ((D.step 1).grown.n + 1)
      rw [ins_add] at hN
      have HN := Lib.hid hN
      have hb1 : ((D.step 1).grown.n : Int) + 1 ≤ 1000000 := by omega
      clear hN hW6
      go_wp2
      go_ret
      refine ⟨rfl, Went.since hb0 ?_⟩
      have := HN.out
      rwa [show (((D.step 1).grown.n + 1 : Nat) : Int) = (D.n : Int) + 1 by omega] at this)

/-- An empty dict. -/
def newD : Dc := ⟨List.replicate 4 [], [], 0, 0⟩
theorem newD_ok (T : Ty) : newD.Ok T := ⟨by decide +kernel, fun h => absurd rfl h, fun h => absurd rfl h, fun _ => rfl, fun i hi => absurd hi (Nat.not_lt_zero _), rfl, fun r hr x hx => by
  rcases hr with hr | hr
  · rw [List.eq_of_mem_replicate hr] at hx; simp at hx
  · simp [newD] at hr⟩
/-- The blocks that were made since. -/
def fresh (T : Ty) (w W : World) (k : Nat) : Prop := grow T (fun _ => False) w W k
set_option maxRecDepth 100000 in
theorem new_any (sd : Nat) (w : World) : Calls Try.prog 10 #[.int .u32 sd] w fun e w' => ∃ q, e = .returned (.pointer (some ⟨q, 0, none⟩)) ∧ Rep tyI w' q (fresh tyI w w') sd newD ∧ Below w.heap.size w w' := by
  obtain ⟨i0, hi0, hz0, hz1, hz2⟩ := info_parts info67
  have hmk := fun W => run_make (P := Try.prog) W 62 67 i0 _ Try.underlying62 hi0 hz0 .i64 .i64 4 4 (by omega) (Int.le_refl _) (by rw [hz2]; omega) (by omega)
  rw [hz1] at hmk
  simp only [Int.reduceToNat, Nat.mul_one] at hmk
  go_enter Try.func10, Try.ntmps10
  go_wp2
  go_returns
  refine ⟨_, rfl, ?_, ((Below.refl _ _).alloc (Nat.le_refl _) _).alloc (by simp) _⟩
  have h1 := (Blk.new w 67 (madeCells #[Value.slice none 0 0] 4)).alloc (Obj.cells #[Value.slice (some { block := w.heap.size, off := 0 }) 4 4, Value.slice none 0 0, Value.int IntKind.u32 ↑sd, Value.int IntKind.i64 0, Value.int IntKind.i64 0] 65)
  have h2 := Blk.new (w.alloc (Obj.cells (madeCells #[Value.slice none 0 0] 4) 67)) 65 #[Value.slice (some { block := w.heap.size, off := 0 }) 4 4, Value.slice none 0 0, Value.int IntKind.u32 ↑sd, Value.int IntKind.i64 0, Value.int IntKind.i64 0]
  rw [World.size_alloc] at h2
  have hmc : madeCells #[Value.slice none 0 0] 4 = (List.replicate 4 (Value.slice none 0 0)).toArray := by
    rw [← toList_madeCells_one]
  have hW := Went.mk' (T := tyI) (S := fun _ => False) (W := w) (g0 := w.heap.size) (g1 := 0) (A1 := none) (va := List.replicate 4 (.slice none 0 0)) (vb := []) (D := newD) (seed := sd) ⟨h2, ⟨by rw [← hmc]; exact h1, rfl, fun i v r hv hr => ?_⟩, .inl ⟨rfl, rfl, rfl⟩, ?_⟩
    (Far.of_below (((Below.refl _ _).alloc (Nat.le_refl _) _).alloc (by simp) _)) (.inr (by simp)) (.inr (Nat.le_refl _)) (fun h => absurd rfl h) (fun v hv k hk => ?_)
  · exact hW.1
  · obtain ⟨hi, rfl⟩ := List.getElem?_eq_some_iff.1 hv
    obtain ⟨hi2, rfl⟩ := List.getElem?_eq_some_iff.1 hr
    simp only [newD, List.getElem_replicate]
    exact RowAt.nil _ _
  · refine Sep.none fun v hv => ?_
    rw [List.append_nil] at hv
    rw [List.eq_of_mem_replicate hv]; rfl
  · rw [List.append_nil] at hv
    rw [List.eq_of_mem_replicate hv] at hk
    simp [Value.ownBlock] at hk
end
end Go.Proofs.Ytifbambalfifaaa
