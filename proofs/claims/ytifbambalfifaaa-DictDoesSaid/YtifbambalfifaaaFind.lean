/- find: a slot is moved, then something is done with a key's node, if it is there. -/
import Derived.Test.YtifbambalfifaaaQuietIn
namespace Go.Proofs.Ytifbambalfifaaa
open Go.RowKit Go.Shelf
attribute [local go_sem] Oper.semAt_some

/-- Is it the node of a key? -/
def Nd.is (s : Nat) (k : ByteArray) (x : Nd) : Bool := x.sum == s && decide (x.key = k)
/-- The rows in which a hash's key may be. -/
def Dc.rowsOf (D : Dc) (s : Nat) : List (List Nd) := D.a.getD (s % D.a.length) [] :: if D.b = [] then [] else [D.b.getD (s % D.b.length) []]
def NoHit (D : Dc) (s : Nat) (k : ByteArray) (n : Nat) : Prop := ∀ j r, j < n → (D.rowsOf s)[j]? = some r → ∀ x ∈ r, Nd.is s k x = false
/-- The key's node is the first one, in the row j, at i. -/
def Hit (D : Dc) (s : Nat) (k : ByteArray) (j i : Nat) : Prop := ∃ r x, (D.rowsOf s)[j]? = some r ∧ r[i]? = some x ∧ Nd.is s k x = true ∧ (∀ q y, q < i → r[q]? = some y → Nd.is s k y = false) ∧ NoHit D s k j

section
variable {S : Nat → Prop} {p seed : Nat} {D : Dc} {w : World}

theorem slot_at {T : Ty} {W : World} {g0 g1 : Nat} {A1 : Option Addr} {va vb : List Value} (h : Mem T W p g0 g1 A1 va vb seed D) (ok : D.Ok T) (s j : Nat) (x : Nat × Nat) (hx : (D.slots g0 g1 s)[j]? = some x) :
    ∃ v r, (D.rowsOf s)[j]? = some r ∧ W.cell? ⟨x.1, x.2, none⟩ = some v ∧ W.frozen? ⟨x.1, x.2, none⟩ = false ∧ RowAt T W v r := by
  have hal := isS_pos ok.a
  have key : ∀ (g : Nat) (vs : List Value) (rows : List (List Nd)), TabAt T W g vs rows → isS (rows.length : Int) = true → ∃ v, W.cell? ⟨g, s % rows.length, none⟩ = some v ∧ W.frozen? ⟨g, s % rows.length, none⟩ = false ∧ RowAt T W v (rows.getD (s % rows.length) []) := fun g vs rows hT hz => by
    have := isS_pos hz
    have hlt : s % rows.length < rows.length := Nat.mod_lt _ (by omega)
    have hlv : s % rows.length < vs.length := by rw [hT.len]; exact hlt
    refine ⟨vs[s % rows.length], ?_, hT.blk.free _, ?_⟩
    · rw [hT.blk.cell]; simp [hlv]
    · rw [List.getD_eq_getElem?_getD, List.getElem?_eq_getElem hlt]
      exact hT.row _ _ _ (List.getElem?_eq_getElem hlv) (List.getElem?_eq_getElem hlt)
  unfold Dc.slots at hx
  match j, hx with
  | 0, hx =>
    simp at hx
    subst hx
    obtain ⟨v, h1, h2, h3⟩ := key g0 va D.a h.ta ok.a
    exact ⟨v, _, rfl, h1, h2, h3⟩
  | 1, hx =>
    by_cases hb : D.b = []
    · rw [if_pos hb] at hx; simp at hx
    · rw [if_neg hb] at hx
      simp at hx
      subst hx
      rcases h.tb with ⟨h1, _⟩ | ⟨_, _, _, htb⟩
      · exact absurd h1 hb
      · obtain ⟨v, h1, h2, h3⟩ := key g1 vb D.b htb (ok.b hb)
        exact ⟨v, _, by unfold Dc.rowsOf; rw [if_neg hb]; rfl, h1, h2, h3⟩
  | j + 2, hx =>
    by_cases hb : D.b = []
    · rw [if_pos hb] at hx; simp at hx
    · rw [if_neg hb] at hx; simp at hx
theorem slots_len (g0 g1 s : Nat) : (D.slots g0 g1 s).length = (D.rowsOf s).length := by
  unfold Dc.slots Dc.rowsOf
  split <;> rfl

theorem rows_len (s j : Nat) (r : List Nd) (h : (D.rowsOf s)[j]? = some r) : r.length ≤ D.a.flatten.length + D.b.flatten.length := by
  have key : ∀ (rows : List (List Nd)) i, (rows.getD i []).length ≤ rows.flatten.length := fun rows i => by
    rw [List.getD_eq_getElem?_getD]
    cases hg : rows[i]? with
    | none => simp
    | some r0 => exact row_le rows r0 (List.mem_of_getElem? hg)
  have k0 := key D.a (s % D.a.length)
  have k1 := key D.b (s % D.b.length)
  unfold Dc.rowsOf at h
  have hm := List.mem_of_getElem? h
  rcases List.mem_cons.1 hm with rfl | h1
  · omega
  · by_cases hb : D.b = []
    · rw [if_pos hb] at h1; simp at h1
    · rw [if_neg hb, List.mem_singleton] at h1; subst h1; omega
theorem beq_toList {a b : ByteArray} (h : a.toList = b.toList) : a = b := by
  rw [ByteArray.toList_eq, ByteArray.toList_eq] at h
  exact ByteArray.ext (Array.toList_inj.1 h)
theorem eq_name (x : Nd) (s : Nat) (key : ByteArray) (b : Bool) (h : Nd.is s key x = b) (W : World) :
    (binOp .eql 73 (.agg #[.int .u32 x.sum, .string x.key]) (.agg #[.int .u32 s, .string key])).run Try.prog W = .ok (.bool b) W := by
  unfold Nd.is at h
  by_cases h1 : x.sum = s
  · by_cases h2 : x.key = key
    · rw [h1, h2] at h
      simp at h
      subst h
      rw [h1, h2]
      simp [go_sem]
    · have h3 : ¬ x.key.toList = key.toList := fun e => h2 (beq_toList e)
      simp [h1, h2] at h
      subst h
      rw [h1]
      simp [go_sem, h3]
  · have h4 : (x.sum == s) = false := by rw [beq_eq_false_iff_ne]; exact h1
    rw [h4, Bool.false_and] at h
    subst h
    simp [go_sem]
    intro h
    omega
theorem drewB {B : Nat} (W : World) (n : Nat) : Below B W (W.drewN n) := ⟨rfl, rfl, rfl, Nat.le_refl _, fun _ _ => rfl⟩
/-- What was there is there still. -/
theorem kept {W W' : World} (hb : Below W.heap.size W W') {a : Addr} {v : Value} (h : W.cell? a = some v) : W'.cell? a = some v := (hb.cell (World.block_lt_of_cell? W a h)).trans h
theorem step_ok {T : Ty} (ok : D.Ok T) (n : Nat) : (D.step n).Ok T ∧ (D.step n).n = D.n := by
  have := run_facts ok (min n D.left) (Nat.min_le_right _ _)
  exact ⟨this.1, this.2.2.1⟩

theorem row_none {r : List Nd} {s : Nat} {k : ByteArray} (h : ∀ x ∈ r, Nd.is s k x = false) (q : Nat) (y : Nd) (hy : r[q]? = some y) : Nd.is s k y = false := h y (List.mem_of_getElem? hy)

/-- What is done with a node: a function value, what it leaves. -/
structure Does (w : World) (S : Nat → Prop) (p seed : Nat) (D1 : Dc) (s : Nat) (j i K : Nat) (caps : Array Value) (Post : World → Prop) : Prop where
  enter : ∀ args W, (callFunc K args).run Try.prog W = .ok (.enter K args) W
  own : OwnFrom w.heap.size (fun (_ : Unit) W => Post W)
  set : ∀ W b v c, w.heap.size ≤ b → Blk W b 4 c → Post W → Post (W.setCell ⟨b, 0, none⟩ v)
  call : ∀ W g0 g1 A1 va vb x, Mem tyI W p g0 g1 A1 va vb seed D1 → Foot (grow tyI S w W) p g0 g1 va vb D1 → Far S w W → (D1.slots g0 g1 s)[j]? = some x →
    Calls Try.prog K (#[.pointer (some ⟨x.1, x.2, none⟩), .int .i64 i] ++ caps) W fun e W' => e = .returned (.tuple #[]) ∧ KeepsFrom w.heap.size W W' ∧ (∀ b c, Blk W b 4 c → Blk W' b 4 c) ∧ Post W'

set_option maxRecDepth 100000 in
set_option maxHeartbeats 4000000 in
theorem find_any (hsd : seed < 4294967296) (h : Rep tyI w p S seed D) (ok : D.Ok tyI) (hn : D.n ≤ 1000000) (key : ByteArray) (hk : key.size ≤ 281474976710656) (K : Nat) (caps : Array Value)
    (hit : Option (Nat × Nat)) (hh : ∀ j i, hit = some (j, i) → Hit (D.step 1) (sumN seed key.data.toList) key j i) (hh0 : hit = none → NoHit (D.step 1) (sumN seed key.data.toList) key 2)
    (Post : World → Prop) (hdo : ∀ j i, hit = some (j, i) → Does w S p seed (D.step 1) (sumN seed key.data.toList) j i K caps Post) :
    Calls Try.prog 34 #[.pointer (some ⟨p, 0, none⟩), .string key, .func (.func K) #[] caps] w fun e w' =>
      e = .returned (.bool hit.isSome) ∧ (hit = none → Went tyI S w p seed (D.step 1) w') ∧ (hit.isSome = true → Post w') := by
  refine (callsIn_wide (n := 6)).1 (callsIn_of_wp_marks Try.func34 rfl trivial ?_ rfl)
  refine wpIn_wide.2 ?_
  simp only [Try.ntmps34, List.size_toArray, List.length_cons, List.length_nil, Nat.reduceAdd, Nat.reduceSub, Array.replicate_succ, Array.replicate_zero, List.push_toArray, List.append_toArray, List.nil_append, List.cons_append]
  have hbx : Below w.heap.size w (w.alloc (Obj.cells #[.func (.func K) #[] caps] 76)) := (Below.refl _ _).alloc (Nat.le_refl _) _
  have kb0 := Blk.new w 76 #[.func (.func K) #[] caps]
  have hst := step_any (h.later hbx) ok hn 1
  rw [show Int.toNat 1 = 1 from rfl] at hst
  obtain ⟨ok1, hn1⟩ := step_ok ok 1
  have hsl := sumN_lt seed key.data.toList
  have HST := Lib.hid hst
  have HH := Lib.hid hh
  have HH0 := Lib.hid hh0
  have HDO := Lib.hid hdo
  have HB0 := Lib.hid kb0
  have HR := Lib.hid h.cells
  clear hst hh hh0 hdo kb0
  obtain ⟨s, hse⟩ : ∃ s, sumN seed key.data.toList = s := ⟨_, rfl⟩
  have HSE := Lib.hid hse
  rw [hse] at HH HH0 HDO hsl
  clear hse
  go_wp2_with fail
  refine wp_scope_straight ?_
  go_wp2_with fail
  refine HST.out.mono ?_
  rintro e w1 ⟨rfl, hw1⟩
  have hnm := named_any hsd hw1.1 key hk
  rw [HSE.out] at hnm
  have kb1 := hw1.blk HB0.out (fun k hk => (HR.out k hk).same (hbx.block k (HR.out k hk).lt)) (by decide)
  have hw1' := Went.since hbx hw1
  have HNM := Lib.hid hnm
  have HW1 := Lib.hid hw1'
  have HB1 := Lib.hid kb1
  generalize min 1 D.left = mm at *
  clear hnm hw1 kb1 hw1'
  go_wp2_with fail
  refine HNM.out.mono ?_
  rintro e w2 ⟨rfl, hb2⟩
  have HB2 := Lib.hid hb2
  clear hb2
  go_wp2_with fail
  refine wp_label ?_
  go_wp2_with fail
  refine (slots_any s _).mono ?_
  rintro e w3 ⟨rfl, rfl⟩
  go_wp2
  have z1 := HW1.out.2.size
  have z2 := HB2.out.size
  have kW := (((Blk.new w2 73 #[Value.int IntKind.u32 ↑s, Value.string key]).alloc (Obj.cells #[Value.bool false] 4)).alloc (Obj.cells #[Value.pointer (some ⟨p, 0, none⟩)] 25)).alloc (Obj.cells #[Value.int IntKind.u32 ↑s] 22)
  have kF := ((Blk.new (w2.alloc (Obj.cells #[Value.int IntKind.u32 ↑s, Value.string key] 73)) 4 #[Value.bool false]).alloc (Obj.cells #[Value.pointer (some ⟨p, 0, none⟩)] 25)).alloc (Obj.cells #[Value.int IntKind.u32 ↑s] 22)
  have kP := (Blk.new ((w2.alloc (Obj.cells #[Value.int IntKind.u32 ↑s, Value.string key] 73)).alloc (Obj.cells #[Value.bool false] 4)) 25 #[Value.pointer (some ⟨p, 0, none⟩)]).alloc (Obj.cells #[Value.int IntKind.u32 ↑s] 22)
  have kS := Blk.new (((w2.alloc (Obj.cells #[Value.int IntKind.u32 ↑s, Value.string key] 73)).alloc (Obj.cells #[Value.bool false] 4)).alloc (Obj.cells #[Value.pointer (some ⟨p, 0, none⟩)] 25)) 22 #[Value.int IntKind.u32 ↑s]
  have hb4 : Below w2.heap.size w2 ((((w2.alloc (Obj.cells #[Value.int IntKind.u32 ↑s, Value.string key] 73)).alloc (Obj.cells #[Value.bool false] 4)).alloc (Obj.cells #[Value.pointer (some ⟨p, 0, none⟩)] 25)).alloc (Obj.cells #[Value.int IntKind.u32 ↑s] 22)) :=
    ((((Below.refl _ _).alloc (Nat.le_refl _) _).alloc (by simp) _).alloc (by simp; omega) _).alloc (by simp; omega) _
  have hz4 : ((((w2.alloc (Obj.cells #[Value.int IntKind.u32 ↑s, Value.string key] 73)).alloc (Obj.cells #[Value.bool false] 4)).alloc (Obj.cells #[Value.pointer (some ⟨p, 0, none⟩)] 25)).alloc (Obj.cells #[Value.int IntKind.u32 ↑s] 22)).heap.size = w2.heap.size + 4 := by simp
  simp only [World.size_alloc] at kF kP kS
  generalize ((((w2.alloc (Obj.cells #[Value.int IntKind.u32 ↑s, Value.string key] 73)).alloc (Obj.cells #[Value.bool false] 4)).alloc (Obj.cells #[Value.pointer (some ⟨p, 0, none⟩)] 25)).alloc (Obj.cells #[Value.int IntKind.u32 ↑s] 22)) = w4 at *
  have k0 := (HB1.out.later HB2.out).later hb4
  have hw4 := (HW1.out.later HB2.out).later hb4
  have HW4 := Lib.hid hw4
  obtain ⟨g0, g1, A1, va, vb, hm4, hf4, hc4⟩ := hw4.1
  have HM4 := Lib.hid hm4
  have HF4 := Lib.hid hf4
  have hslots := slots1_any hm4 ok1 s hsl _ _ kP kS [] (by simp) (by simp)
  clear hm4 hf4 hc4 hw4
  refine (wpIn_wide (n := 6)).1 (range_x (gf := 73) (encs := encS) (xs := (D.step 1).slots g0 g1 s) (L := []) rfl (enters_of Try.func73 (by kernel_rfl) rfl) hslots (fun _ _ => rfl)
    (fun i W => Below w4.heap.size w4 W ∧ ∀ j' i', hit = some (j', i') → i ≤ j')
    (fun c _ W => match c with
      | .exit id => id = 0 ∧ hit.isSome = true ∧ Post W ∧ Blk W (w2.heap.size + 1) 4 #[.bool true]
      | _ => False)
    ?hI ?hIx ?h0 (fun i x a' W => a' = { tmps := #[Value.pointer (some ⟨p, 0, none⟩), Value.string key, Value.func (Fn.func K) #[] caps, undef,
          undef, Value.pointer (some { block := w.heap.size, off := 0 }), Value.bool false,
          Value.pointer (some { block := w2.heap.size, off := 0 }),
          Value.pointer (some { block := w2.heap.size + 1, off := 0 }), Value.pointer (some ⟨x.1, x.2, none⟩), undef,
          Value.pointer (some { block := p, off := 0 }), Value.int IntKind.i64 ↑mm,
          Value.pointer (some { block := p, off := 0 }), Value.string key,
          Value.agg #[Value.int IntKind.u32 ↑s, Value.string key], Value.pointer (some { block := p, off := 0 }),
          Value.pointer (some { block := w2.heap.size, off := 0 }), Value.int IntKind.u32 ↑s,
          Value.func (Fn.func 73) #[]
            #[Value.pointer (some { block := w2.heap.size + 1 + 1, off := 0 }),
              Value.pointer (some { block := w2.heap.size + 1 + 1 + 1, off := 0 })],
          Value.pointer (some ⟨x.1, x.2, none⟩), undef, undef, undef, undef, undef, undef, undef, undef, undef, undef, undef, undef, undef, undef,
          undef, undef, undef, undef, undef, undef, undef, undef], defers := [] })
    (fun _ _ _ => own_pure _ _) ?assign ?body ?done ?stop)
  case hI => exact (own_below _ w4 (Nat.le_refl _)).and (own_pure _ _)
  case hIx =>
    intro c
    cases c with
    | exit id =>
      cases hh : hit with
      | none => exact (own_pure _ _).and (fun _ _ _ _ h => by simp at h)
      | some ji =>
        have := (HDO.out ji.1 ji.2 (by rw [hh])).own
        exact (own_pure _ _).and ((own_pure _ _).and (OwnFrom.and (fun _ X Y row h1 h2 h3 => this () X Y row h1 h2 (fun k hk => ⟨by have := (h3 k hk).1; omega, (h3 k hk).2⟩)) (own_blk _ _ _ _)))
    | _ => exact own_pure _ _
  case h0 => exact ⟨Below.refl _ _, fun _ _ _ => Nat.zero_le _⟩
  case assign =>
    rintro l i x W K' hx' ⟨hb, hq⟩ hK
    unfold encS
    gi_wp2
    exact hK _ _ (KeepsFrom.refl _ _) (KeepC.refl _ _) ⟨hb, hq⟩ rfl
  case body =>
    rintro l i x a' W hx' ⟨hb, hq⟩ rfl
    obtain ⟨vv, r, hr, c0, d0, hR⟩ := slot_at (HM4.out.later hb) ok1 s i x hx'
    obtain ⟨A, cap, rfl, hcap, hmax, hat⟩ := hR.form
    have q0 := k0.later hb
    have qW := kW.later hb
    have qF := kF.later hb
    obtain ⟨e0, e1⟩ := facts1 q0
    have y0 := qW.cell 0
    have y1 := qW.cell 1
    obtain ⟨e2, e3⟩ := facts1 qF
    by_cases hhit : ∃ i', hit = some (i, i')
    · obtain ⟨m, rfl⟩ := hhit
      obtain ⟨r', y0', h1, h2, h3, h4, _⟩ := HH.out i m rfl
      rw [hr] at h1
      cases h1
      have hD := HDO.out i m rfl
      have henter := hD.enter
      have HDD := Lib.hid hD
      have H2 := Lib.hid h2
      have H3 := Lib.hid h3
      have H4 := Lib.hid h4
      have HAT := Lib.hid hat
      have HX := Lib.hid hx'
      have hml : m < r.length := (List.getElem?_eq_some_iff.1 h2).1
      have hrl : (r.length : Int) ≤ 1000000 := by
        have h1 := rows_len s i r hr
        have h2 := ok1.n
        omega
      have Q0 := Lib.hid q0
      have QF := Lib.hid qF
      clear hD h2 h3 h4 hat hR hq hx' hr q0 qW qF k0 kW kF kP kS hslots hmax hcap
      gi_wp2
      gi_loopw [25] (fun a wr => ∃ (k : Nat), a = .int .i64 k ∧ k ≤ m ∧ Below W.heap.size W wr) (fun a _ => r.length - (intOf a).toNat)
      case atStart => exact ⟨0, rfl, by omega, Below.refl _ _⟩
      case round =>
        obtain ⟨k, rfl, hk, hbr⟩ := hrel
        have hlt : k < r.length := by omega
        have hy : r[k]? = some r[k] := List.getElem?_eq_getElem hlt
        obtain ⟨g, hA, hob, n0, n1, n2, fz⟩ := HAT.out k _ hy
        subst hA
        have hmx : Try.prog.follows Departure.mixedOrders = true := by kernel_rfl
        have c0' := kept hbr c0
        have n0' := kept hbr n0
        have n1' := kept hbr n1
        have y0' := kept hbr y0
        have y1' := kept hbr y1
        have e0' := kept hbr e0
        have hzW := hb.size
        have hzr := hbr.size
        by_cases hkm : k = m
        · subst hkm
          have hne : Nd.is s key r[k] = true := by
            have := H2.out
            rw [hy] at this
            cases this
            exact H3.out
          generalize r[k] = y at *
          clear hy fz e0 e1 e2 e3 d0 n0 n1 n2 y0 y1 c0
          obtain ⟨ys, yk, yv⟩ := y
          simp only at n0' n1'
          have heq := eq_name ⟨ys, yk, yv⟩ s key true hne
          simp only at heq
          clear hne hk
          have hbD : Below w4.heap.size w4 wr := hb.trans (hbr.mono hb.size)
          gi_wp2
          refine region_quiet_in (by kernel_rfl) (by kernel_rfl) (by kernel_rfl) ?_
          repeat (quiet_step (fail))
          refine wpQuiet_nil ?_
          intro _ hw'
          obtain ⟨nq, hw''⟩ := hw'
          subst hw''
          have hbN : Below w4.heap.size w4 (wr.drewN nq) := hbD.trans (drewB _ nq)
          have HWN := Lib.hid (HW4.out.later hbN)
          have hcall := HDD.out.call (wr.drewN nq) g0 g1 A1 va vb x (HM4.out.later hbN) (by
            have h1 := HF4.out
            have h2 := HW4.out.later hbN
            exact ⟨⟨h1.p.1, h1.p.2.same (hbN.block _ h1.p.2.lt)⟩, ⟨h1.g0.1, h1.g0.2.same (hbN.block _ h1.g0.2.lt)⟩, fun h => ⟨(h1.g1 h).1, (h1.g1 h).2.same (hbN.block _ (h1.g1 h).2.lt)⟩, fun v hv k hk => ⟨(h1.row v hv k hk).1, (h1.row v hv k hk).2.same (hbN.block _ (h1.row v hv k hk).2.lt)⟩⟩) HWN.out.2 HX.out
          have HCALL := Lib.hid hcall
          have hqF := (QF.out.later hbr).later (drewB (wr) nq)
          have HQF := Lib.hid hqF
          have hzd : (wr.drewN nq).heap.size = wr.heap.size := rfl
          clear hcall hqF
          gi_wp2_with fail
          refine ⟨trivial, ?_⟩
          refine (CallsIn.inRound l (callsIn_wide.2 HCALL.out)).mono ?_
          rintro e W5 ⟨rfl, hkf5, hk4, hP5⟩
          have q5 := hk4 _ _ HQF.out
          obtain ⟨a5, b5⟩ := facts1 q5
          have HK5 := Lib.hid hkf5
          have HP5 := Lib.hid hP5
          have HQ5 := Lib.hid q5
          clear hkf5 hk4 hP5 q5
          gi_wp2
          refine ⟨?_, rfl, rfl, HDD.out.set _ _ _ _ (by omega) HQ5.out HP5.out, HQ5.out.set 0 _⟩
          exact ⟨Nat.le_trans hzr (Nat.le_trans HK5.out.size (by simp [World.setCell])), fun k' o hk' ho hc => by
            have h1 := hbr.block k' (Array.getElem?_eq_some_iff.1 ho).1
            exact (KeepsOthers.setCell W5 ⟨w2.heap.size + 1, 0, none⟩ (.bool true)).same k' o (HK5.out.same k' o (by omega) (h1.trans ho) hc) hc⟩
        · have hne : Nd.is s key r[k] = false := H4.out k _ (by omega) hy
          generalize r[k] = y at *
          clear hy fz e0 e1 e2 e3 d0 n0 n1 n2 y0 y1 c0
          obtain ⟨ys, yk, yv⟩ := y
          simp only at n0' n1'
          have heq := eq_name ⟨ys, yk, yv⟩ s key false hne
          simp only at heq
          clear hne
          gi_wp2
          refine region_quiet_in (by kernel_rfl) (by kernel_rfl) (by kernel_rfl) ?_
          repeat (quiet_step (fail))
          refine wpQuiet_nil ?_
          intro _ hw'
          obtain ⟨nq, hw''⟩ := hw'
          subst hw''
          gi_wp2
          exact ⟨⟨k + 1, by go_num, by omega, hbr.trans (drewB _ nq)⟩, by simp [intOf]; omega⟩
    · have hrow : ∀ y ∈ r, Nd.is s key y = false := by
        cases hh : hit with
        | none => exact HH0.out hh i r (by
            have := (List.getElem?_eq_some_iff.1 hr).1
            have h2 : ((D.step 1).rowsOf s).length ≤ 2 := by unfold Dc.rowsOf; split <;> simp
            omega) hr
        | some ji =>
          obtain ⟨r', x', _, _, _, _, h5⟩ := HH.out ji.1 ji.2 hh
          have h1 := hq ji.1 ji.2 hh
          have h2 : i ≠ ji.1 := fun e => hhit ⟨ji.2, by rw [hh, e]⟩
          exact h5 i r (by omega) hr
      have HROW := Lib.hid hrow
      have HAT := Lib.hid hat
      have HR' := Lib.hid hR
      have HQ := Lib.hid hq
      have HX := Lib.hid hx'
      have HHIT := Lib.hid hhit
      have hrl : (r.length : Int) ≤ 1000000 := by
        have h1 := rows_len s i r hr
        have h2 := ok1.n
        omega
      clear hrow hat hR hq hx' hhit hr q0 qW qF k0 kW kF kP kS hslots hmax hcap
      gi_wp2
      gi_loopw [25] (fun a wr => ∃ (k : Nat), a = .int .i64 k ∧ k ≤ r.length ∧ Below W.heap.size W wr) (fun a _ => r.length - (intOf a).toNat)
      case atStart => exact ⟨0, rfl, by omega, Below.refl _ _⟩
      case round =>
        obtain ⟨k, rfl, hk, hbr⟩ := hrel
        by_cases hlt : k < r.length
        · have hy : r[k]? = some r[k] := List.getElem?_eq_getElem hlt
          obtain ⟨g, hA, hob, n0, n1, n2, fz⟩ := HAT.out k _ hy
          subst hA
          have hne := row_none HROW.out k _ hy
          generalize r[k] = y at *
          have c0' := kept hbr c0
          have n0' := kept hbr n0
          have n1' := kept hbr n1
          have y0' := kept hbr y0
          have y1' := kept hbr y1
          clear hy fz e0 e1 e2 e3 d0 n0 n1 n2 y0 y1 c0
          have hmx : Try.prog.follows Departure.mixedOrders = true := by kernel_rfl
          obtain ⟨ys, yk, yv⟩ := y
          simp only at n0' n1'
          have heq := eq_name ⟨ys, yk, yv⟩ s key false hne
          simp only at heq
          clear hne
          gi_wp2
          refine region_quiet_in (by kernel_rfl) (by kernel_rfl) (by kernel_rfl) ?_
          repeat (quiet_step (fail))
          refine wpQuiet_nil ?_
          intro _ hw'
          obtain ⟨nq, hw''⟩ := hw'
          subst hw''
          gi_wp2
          exact ⟨⟨k + 1, by go_num, hlt, hbr.trans (drewB _ nq)⟩, by simp [intOf]; omega⟩
        · obtain rfl : k = r.length := by omega
          gi_wp2
          refine ⟨(Far.of_below (S := fun _ => False) hbr).keeps (T := tyI) (fun _ h => h.elim) _, KeepC.of_below hbr, hb.trans (hbr.mono hb.size), fun j' i' hh => ?_⟩
          have h1 := HQ.out j' i' hh
          have h2 : i ≠ j' := fun e => HHIT.out ⟨i', by rw [hh, e]⟩
          omega
  case done =>
    rintro Dd W hD ⟨hb, hq⟩ hK
    have hn : hit = none := by
      cases hh : hit with
      | none => rfl
      | some ji =>
        obtain ⟨r, x, h1, _⟩ := HH.out ji.1 ji.2 hh
        have h2 := hq ji.1 ji.2 hh
        have h3 := (List.getElem?_eq_some_iff.1 h1).1
        rw [slots_len] at h2
        omega
    subst hn
    have q := kF.later hb
    obtain ⟨e0, e1⟩ := facts1 q
    have HK := Lib.hid hK
    have HWW := Lib.hid (HW4.out.later hb)
    clear hK q k0 kW kF kP kS
    simp only [Exit.inBlock, Exit.then]
    go_wp2
    refine leave (v := .bool false) rfl HK.out (by simp [results, Try.results34, go_sem]) ⟨rfl, ?_⟩
    exact (own_went (β := Unit) w.heap.size (Nat.le_refl _) p seed (fun _ => _)).putObj (s := ()) _ HWW.out (by omega) HK.out rfl
  case stop =>
    rintro Dd c j W hD hI hK
    cases c with
    | exit id =>
      obtain ⟨rfl, hs, hP, q3⟩ := hI
      obtain ⟨c3, d3⟩ := facts1 q3
      have HK := Lib.hid hK
      have HP := Lib.hid hP
      have HS := Lib.hid hs
      clear hK hP q3 k0 kW kF kP kS hs
      refine wpIn_wide.2 ?_
      go_wp2
      refine leave (v := .bool true) rfl HK.out (by simp [results, Try.results34, go_sem]) ⟨by rw [HS.out], fun h => ?_, fun _ => ?_⟩
      · have := HS.out; rw [h] at this; cases this
      · obtain ⟨ji, hji⟩ := Option.isSome_iff_exists.1 HS.out
        exact ((HDO.out ji.1 ji.2 hji).own).putObj (s := ()) _ HP.out (by omega) HK.out rfl
    | _ => exact hI.elim
end
end Go.Proofs.Ytifbambalfifaaa
