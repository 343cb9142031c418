/- The iterators over a text's entries. -/
import Derived.Test.YtioidnfmpbdmhaaRead
namespace Go.Proofs.Ytioidnfmpbdmhaa
open Go.RowKit Go.Shelf
attribute [local go_sem] Oper.semAt_some

def encC (i : Nat) (c : Cut) : Array Value := #[.int .i64 i, c.val]

/-- A closure that answers what comes next. -/
def NextC (g B : Nat) (p : ByteArray) (nx : Cut → Option Cut) (xs : List Cut) : Prop := ∀ c ∈ xs, ∀ W, Blk W B 9 #[.string p] →
  Calls Try.prog g #[c.val, .pointer (some ⟨B, 0, none⟩)] W fun e w' => e = .returned (cutV (nx c)) ∧ Below W.heap.size W w'

/-- A list that is gone through by a function of what comes next. -/
structure Chain (nx : Cut → Option Cut) (first : Option Cut) (xs : List Cut) : Prop where
  first : xs[0]? = first
  next : ∀ (i : Nat) (c : Cut), xs[i]? = some c → nx c = xs[i + 1]?
  two : ∀ c ∈ xs, 2 ≤ c.fr
  many : xs.length ≤ 1000000000000000

theorem neq_no (c : Cut) (h : 2 ≤ c.fr) (W : World) : (binOp .neq 61 (.agg #[.string c.m, .int .i64 c.s, .int .i64 c.fr, .int .i64 c.to]) (.agg #[.string ⟨#[]⟩, .int .i64 0, .int .i64 0, .int .i64 0])).run Try.prog W = .ok (.bool true) W := by
  simp [go_sem]
  omega
theorem neq_no2 (W : World) : (binOp .neq 61 (.agg #[.string ⟨#[]⟩, .int .i64 0, .int .i64 0, .int .i64 0]) (.agg #[.string ⟨#[]⟩, .int .i64 0, .int .i64 0, .int .i64 0])).run Try.prog W = .ok (.bool false) W := by
  simp [go_sem]

set_option maxRecDepth 100000 in
set_option maxHeartbeats 4000000 in
theorem walk1_any (g B B1 B2 : Nat) (p : ByteArray) (nx : Cut → Option Cut) (xs : List Cut) (m : ByteArray) (s f t : Int) (hc : Chain nx xs[0]? xs) (hN : NextC g B p nx xs) (eg : ∀ args w, (callFunc g args).run Try.prog w = .ok (.enter g args) w)
    (L : List Nat) (w : World) (hL : ∀ k ∈ L, k < w.heap.size) (hB : B ∉ L) (_ : B1 ∉ L) (hB2 : B2 ∉ L) (h0 : Blk w B 9 #[.string p]) (h1 : Blk w B1 61 #[.string m, .int .i64 s, .int .i64 f, .int .i64 t]) (hm : cutV xs[0]? = .agg #[.string m, .int .i64 s, .int .i64 f, .int .i64 t])
    (h2 : Blk w B2 67 #[.func (.func g) #[] #[.pointer (some ⟨B, 0, none⟩)]]) :
    SeqX Try.prog 45 #[.pointer (some ⟨B1, 0, none⟩), .pointer (some ⟨B2, 0, none⟩)] encC xs L w := by
  intro l J Jx W hW hJ hJx hY hJ0
  have k0 := h0.later hW
  have k1 := h1.later hW
  have k2 := h2.later hW
  obtain ⟨a0, a1, a2, a3, b0, b1, b2, b3⟩ := facts4 k1
  have hsz := hW.size
  refine callsIn_of_wp Try.func45 rfl trivial ?_ rfl
  simp only [Try.ntmps45, List.size_toArray, List.length_cons, List.length_nil, Nat.reduceAdd, Nat.reduceSub, Array.replicate_succ, Array.replicate_zero, List.push_toArray, List.append_toArray, List.nil_append, List.cons_append]
  have HN := Lib.hid hN
  have HY := Lib.hid hY
  have HC := Lib.hid hc
  clear hN hY hc
  gi_wp2
  gi_loopw [4, 5] (fun at' cp wr => ∃ (i C : Nat) (m : ByteArray) (s f t : Int), at' = .int .i64 i ∧ cp = .pointer (some ⟨C, 0, none⟩) ∧ i ≤ xs.length ∧ J i wr ∧ w.heap.size ≤ C ∧ Blk wr C 61 #[.string m, .int .i64 s, .int .i64 f, .int .i64 t] ∧ cutV xs[i]? = .agg #[.string m, .int .i64 s, .int .i64 f, .int .i64 t] ∧ Blk wr B 9 #[.string p] ∧ Blk wr B2 67 #[.func (.func g) #[] #[.pointer (some ⟨B, 0, none⟩)]])
    (fun at' _ _ => xs.length - (intOf at').toNat)
  case atStart => exact ⟨0, _, m, s, f, t, rfl, rfl, Nat.zero_le _, hJ _ _ _ hJ0 ((Below.refl _ _).alloc (Nat.le_refl _) _), hsz, heap_at rfl, hm, k0.alloc _, k2.alloc _⟩
  case round =>
    clear a0 a1 a2 a3 b0 b1 b2 b3 k0 k1 k2 hm h1
    obtain ⟨i, C, m', s', f', t', rfl, rfl, hi, hJi, hC, k1, hm, k0, k2⟩ := hrel
    obtain ⟨a0, a1, a2, a3, b0, b1, b2, b3⟩ := facts4 k1
    obtain ⟨c2, _⟩ := facts1 k2
    cases hx : xs[i]? with
    | none =>
      rw [hx] at hm
      unfold cutV noCut at hm
      simp only [Value.agg.injEq, Array.mk.injEq, List.cons.injEq, Value.string.injEq, Value.int.injEq, and_true, true_and] at hm
      obtain ⟨rfl, rfl, rfl, rfl⟩ := hm
      have hne := neq_no2
      have hil : i = xs.length := by have := List.getElem?_eq_none_iff.1 hx; omega
      rw [hil] at hJi
      clear hil
      gi_wp2
      refine ⟨fun _ h => (by cases h), ?_⟩
      gi_wp2
      go_end0
      exact ⟨⟨_, rfl⟩, .inl hJi⟩
    | some c =>
      rw [hx] at hm
      unfold cutV Cut.val at hm
      simp only [Value.agg.injEq, Array.mk.injEq, List.cons.injEq, Value.string.injEq, Value.int.injEq, and_true, true_and] at hm
      obtain ⟨rfl, rfl, rfl, rfl⟩ := hm
      have hne := neq_no c (HC.out.two c (List.mem_of_getElem? hx))
      have hlt : i < xs.length := by have := List.getElem?_eq_some_iff.1 hx; exact this.1
      obtain ⟨fn, tmps, assign, body, hy, hR⟩ := HY.out i c wr hx hJi
      unfold encC Cut.val at hy
      gi_wp2_with fail
      (try refine ⟨fun _ => by decide, ?_⟩)
      refine hR.mono ?_
      rintro e W3 (⟨rfl, hJ3, hk3⟩ | ⟨rfl, hJx3⟩)
      · have k13 := k1.keep hk3 (fun h => by have := hL _ h; omega)
        have k03 := k0.keep hk3 hB
        have k23 := k2.keep hk3 hB2
        obtain ⟨a30, a31, a32, a33, b30, b31, b32, b33⟩ := facts4 k13
        obtain ⟨c23, _⟩ := facts1 k23
        have HK := Lib.hid hk3
        have hNc := fun W h => Lib.hid (HN.out c (List.mem_of_getElem? hx) W h)
        unfold Cut.val at hNc
        have hi9 : (i : Int) ≤ 1000000000000000 := by have := HC.out.many; omega
        have hi0 : (0 : Int) ≤ i := by omega
        obtain ⟨c24, _⟩ := facts1 (k23.alloc (Obj.cells #[Value.string c.m, Value.int IntKind.i64 c.s, Value.int IntKind.i64 c.fr, Value.int IntKind.i64 c.to] 61))
        have k04 := k03.alloc (Obj.cells #[Value.string c.m, Value.int IntKind.i64 c.s, Value.int IntKind.i64 c.fr, Value.int IntKind.i64 c.to] 61)
        clear hR hy hk3
        gi_wp2_with fail
        refine ⟨trivial, ?_⟩
        refine callsIn_wide.2 (Calls.mono (hNc _ k04).out ?_)
        rintro e W5 ⟨rfl, hb5⟩
        have hJ5 := hJ _ _ _ hJ3 ((((Below.refl _ _).alloc (Nat.le_refl _) _).trans (hb5.mono (by simp))))
        obtain ⟨m5, s5, f5, t5, h5⟩ := cutV_shape (nx c)
        have hn5 := HC.out.next i c hx
        rw [h5]
        have k15 := (Blk.new W3 61 #[Value.string c.m, Value.int IntKind.i64 c.s, Value.int IntKind.i64 c.fr, Value.int IntKind.i64 c.to]).later hb5
        obtain ⟨d0, d1, d2, d3, o0, o1, o2, o3⟩ := facts4 k15
        have HB5 := Lib.hid hb5
        clear hb5
        gi_wp2
        obtain ⟨g1, g2, g3⟩ := set4 (.string m5) (.int .i64 s5) (.int .i64 f5) (.int .i64 t5) k15
        have hb9 : W3.heap.size < W5.heap.size := k15.lt
        have hCw : C < W3.heap.size := k13.lt
        refine ⟨⟨i + 1, W3.heap.size, m5, s5, f5, t5, by go_num, rfl, hlt, ?_, by omega, g1, by rw [← hn5]; exact h5, ?_, ?_⟩, by simp [intOf]; omega⟩
        · exact hJ _ _ _ hJ3 ((((Below.refl _ _).alloc (Nat.le_refl _) _).trans (HB5.out.mono (by simp))).trans (g3 _ (Nat.le_refl _)))
        · exact (g2 _ (by have := k03.lt; omega)).trans (k04.later HB5.out)
        · exact (g2 _ (by have := k23.lt; omega)).trans ((k23.alloc _).later HB5.out)
      · gi_wp2
        go_end0
        exact ⟨⟨_, rfl⟩, .inr ⟨_, hJx3⟩⟩

/-- What comes next, from the front and from the end. -/
def nextF (p : ByteArray) (c : Cut) : Option Cut := begunS p c.to
def nextB (p : ByteArray) (c : Cut) : Option Cut := endedS p c.fr

theorem forth1_next (p : ByteArray) (hp : p.size ≤ 281474976710656) (B : Nat) (xs : List Cut) (hx : ∀ c ∈ xs, c.to ≤ p.size) : NextC 42 B p (nextF p) xs := by
  intro c hc W hB
  have hto := hx c hc
  have HB := fun w => Lib.hid (begun_any p hp (c.to : Int) (by omega) (by omega) w)
  rw [show begunI p (c.to : Int) = nextF p c by unfold begunI nextF; rw [if_neg (by omega)]; rfl] at HB
  obtain ⟨m, s, f, t, h⟩ := cutV_shape (nextF p c)
  rw [h] at HB ⊢
  clear h
  obtain ⟨e0, _⟩ := facts1 hB
  unfold Cut.val
  have e1 := (facts1 ((hB.alloc (Obj.cells #[Value.string c.m, Value.int IntKind.i64 c.s, Value.int IntKind.i64 c.fr, Value.int IntKind.i64 c.to] 61)).alloc (Obj.cells #[Value.string { data := #[] }, Value.int IntKind.i64 0, Value.int IntKind.i64 0, Value.int IntKind.i64 0] 61))).1
  go_enter Try.func42, Try.ntmps42
  go_wp2_with fail
  refine (HB _).out.mono ?_
  rintro e w1 ⟨rfl, hb1⟩
  have hA := (Blk.new (W.alloc (Obj.cells #[Value.string c.m, Value.int IntKind.i64 c.s, Value.int IntKind.i64 c.fr, Value.int IntKind.i64 c.to] 61)) 61 #[Value.string { data := #[] }, Value.int IntKind.i64 0, Value.int IntKind.i64 0, Value.int IntKind.i64 0]).later hb1
  rw [World.size_alloc] at hA
  obtain ⟨a0, a1, a2, a3, b0, b1, b2, b3⟩ := facts4 hA
  have HA := Lib.hid hA
  have HL := Lib.hid hb1
  clear hb1 hA
  go_wp2
  obtain ⟨g1, g2, g3⟩ := set4 (.string m) (.int .i64 s) (.int .i64 f) (.int .i64 t) HA.out
  exact ret4 Try.results42 rfl g1 rfl ⟨rfl, ((((Below.refl _ _).alloc (Nat.le_refl _) _).alloc (by simp) _).trans (HL.out.mono (by simp; omega))).trans (g3 _ (by omega))⟩

theorem back1_next (p : ByteArray) (hp : p.size ≤ 281474976710656) (B : Nat) (xs : List Cut) (hx : ∀ c ∈ xs, 0 < c.fr ∧ c.fr ≤ p.size) : NextC 43 B p (nextB p) xs := by
  intro c hc W hB
  obtain ⟨hf0, hf1⟩ := hx c hc
  have HB := fun w => Lib.hid (ended_any p hp c.fr hf0 hf1 w)
  rw [show endedS p c.fr = nextB p c from rfl] at HB
  obtain ⟨m, s, f, t, h⟩ := cutV_shape (nextB p c)
  rw [h] at HB ⊢
  clear h
  obtain ⟨e0, _⟩ := facts1 hB
  unfold Cut.val
  have e1 := (facts1 ((hB.alloc (Obj.cells #[Value.string c.m, Value.int IntKind.i64 c.s, Value.int IntKind.i64 c.fr, Value.int IntKind.i64 c.to] 61)).alloc (Obj.cells #[Value.string { data := #[] }, Value.int IntKind.i64 0, Value.int IntKind.i64 0, Value.int IntKind.i64 0] 61))).1
  go_enter Try.func43, Try.ntmps43
  go_wp2_with fail
  refine (HB _).out.mono ?_
  rintro e w1 ⟨rfl, hb1⟩
  have hA := (Blk.new (W.alloc (Obj.cells #[Value.string c.m, Value.int IntKind.i64 c.s, Value.int IntKind.i64 c.fr, Value.int IntKind.i64 c.to] 61)) 61 #[Value.string { data := #[] }, Value.int IntKind.i64 0, Value.int IntKind.i64 0, Value.int IntKind.i64 0]).later hb1
  rw [World.size_alloc] at hA
  obtain ⟨a0, a1, a2, a3, b0, b1, b2, b3⟩ := facts4 hA
  have HA := Lib.hid hA
  have HL := Lib.hid hb1
  clear hb1 hA
  go_wp2
  obtain ⟨g1, g2, g3⟩ := set4 (.string m) (.int .i64 s) (.int .i64 f) (.int .i64 t) HA.out
  exact ret4 Try.results43 rfl g1 rfl ⟨rfl, ((((Below.refl _ _).alloc (Nat.le_refl _) _).alloc (by simp) _).trans (HL.out.mono (by simp; omega))).trans (g3 _ (by omega))⟩

/-- A value that goes through a list. -/
def Goes (v : Value) (xs : List Cut) (n0 : Nat) (w : World) : Prop := ∃ lb, v = .func (.func 45) #[] lb ∧ ∀ (L : List Nat) (W : World), Below w.heap.size w W → (∀ k ∈ L, k < n0 ∧ k < W.heap.size) → SeqX Try.prog 45 lb encC xs L W

theorem walk_any (n0 g B : Nat) (p : ByteArray) (nx : Cut → Option Cut) (xs : List Cut) (hc : Chain nx xs[0]? xs) (hN : NextC g B p nx xs) (eg : ∀ args w, (callFunc g args).run Try.prog w = .ok (.enter g args) w) (w : World) (h0 : Blk w B 9 #[.string p]) (hn : n0 ≤ B) :
    Calls Try.prog 40 #[cutV xs[0]?, .func (.func g) #[] #[.pointer (some ⟨B, 0, none⟩)]] w fun e w' => ∃ v, e = .returned v ∧ Goes v xs n0 w' ∧ Below w.heap.size w w' := by
  have hmf : ∀ (fn : Fn) (first cap : Array Value) (w : World), (Instr.makeFunc fn first cap).run Try.prog w = .ok (.func fn first cap) w := fun _ _ _ _ => rfl
  obtain ⟨m, s, f, t, h⟩ := cutV_shape xs[0]?
  rw [h]
  go_enter Try.func40, Try.ntmps40
  go_wp2
  go_ret
  have k0 := (h0.alloc (Obj.cells #[Value.string m, Value.int IntKind.i64 s, Value.int IntKind.i64 f, Value.int IntKind.i64 t] 61)).alloc (Obj.cells #[Value.func (Fn.func g) #[] #[Value.pointer (some { block := B, off := 0 })]] 67)
  have k1 := (Blk.new w 61 #[Value.string m, Value.int IntKind.i64 s, Value.int IntKind.i64 f, Value.int IntKind.i64 t]).alloc (Obj.cells #[Value.func (Fn.func g) #[] #[Value.pointer (some { block := B, off := 0 })]] 67)
  have k2 := Blk.new (w.alloc (Obj.cells #[Value.string m, Value.int IntKind.i64 s, Value.int IntKind.i64 f, Value.int IntKind.i64 t] 61)) 67 #[Value.func (Fn.func g) #[] #[Value.pointer (some { block := B, off := 0 })]]
  rw [World.size_alloc] at k2
  have hB := h0.lt
  refine ⟨_, rfl, ⟨_, rfl, fun L W hW hL => ?_⟩, ((Below.refl _ _).alloc (Nat.le_refl _) _).alloc (by simp) _⟩
  have no : ∀ k, n0 ≤ k → k ∉ L := fun k hk hk2 => by have := (hL k hk2).1; omega
  exact walk1_any g B _ _ p nx xs m s f t hc hN eg L W (fun k hk => (hL k hk).2) (no _ (by omega)) (no _ (by omega)) (no _ (by omega)) (k0.later hW) (k1.later hW) h (k2.later hW)

theorem forth_any (p : ByteArray) (hp : p.size ≤ 281474976710656) (xs : List Cut) (hc : Chain (nextF p) (begunS p 2) xs) (hx : ∀ c ∈ xs, c.to ≤ p.size) (w : World) :
    Calls Try.prog 33 #[.string p] w fun e w' => ∃ v, e = .returned v ∧ Goes v xs w.heap.size w' ∧ Below w.heap.size w w' := by
  have hmf : ∀ (fn : Fn) (first cap : Array Value) (w : World), (Instr.makeFunc fn first cap).run Try.prog w = .ok (.func fn first cap) w := fun _ _ _ _ => rfl
  have HB := fun w => Lib.hid (begun_any p hp 2 (by omega) (by omega) w)
  rw [show begunI p 2 = xs[0]? from hc.first.symm] at HB
  have hc' : Chain (nextF p) xs[0]? xs := ⟨rfl, hc.next, hc.two, hc.many⟩
  go_enter Try.func33, Try.ntmps33
  go_wp2_with fail
  refine (HB _).out.mono ?_
  rintro e w1 ⟨rfl, hb1⟩
  have hA := (Blk.new w 9 #[Value.string p]).later hb1
  have HW := Lib.hid (walk_any w.heap.size 42 w.heap.size p (nextF p) xs hc' (forth1_next p hp _ xs hx) (fun _ _ => by kernel_rfl) w1 hA (Nat.le_refl _))
  have HL := Lib.hid hb1
  clear hb1 hA
  go_wp2_with fail
  refine HW.out.mono ?_
  rintro e w2 ⟨v, rfl, hG, hb2⟩
  have HG := Lib.hid hG
  have HL2 := Lib.hid hb2
  clear hG hb2
  go_wp2
  go_ret
  exact ⟨_, rfl, HG.out, (((Below.refl _ _).alloc (Nat.le_refl _) _).trans (HL.out.mono (by simp))).trans (HL2.out.mono (Nat.le_trans (by simp) HL.out.size))⟩

theorem back_any (p : ByteArray) (hp : p.size ≤ 281474976710656) (h2 : 2 ≤ p.size) (xs : List Cut) (hc : Chain (nextB p) (endedS p p.size) xs) (hx : ∀ c ∈ xs, 0 < c.fr ∧ c.fr ≤ p.size) (w : World) :
    Calls Try.prog 36 #[.string p] w fun e w' => ∃ v, e = .returned v ∧ Goes v xs w.heap.size w' ∧ Below w.heap.size w w' := by
  have hmf : ∀ (fn : Fn) (first cap : Array Value) (w : World), (Instr.makeFunc fn first cap).run Try.prog w = .ok (.func fn first cap) w := fun _ _ _ _ => rfl
  have HB := fun w => Lib.hid (ended_any p hp p.size (by omega) (Nat.le_refl _) w)
  rw [show endedS p p.size = xs[0]? from hc.first.symm] at HB
  have hc' : Chain (nextB p) xs[0]? xs := ⟨rfl, hc.next, hc.two, hc.many⟩
  go_enter Try.func36, Try.ntmps36
  go_wp2_with fail
  refine (HB _).out.mono ?_
  rintro e w1 ⟨rfl, hb1⟩
  have hA := (Blk.new w 9 #[Value.string p]).later hb1
  have HW := Lib.hid (walk_any w.heap.size 43 w.heap.size p (nextB p) xs hc' (back1_next p hp _ xs hx) (fun _ _ => by kernel_rfl) w1 hA (Nat.le_refl _))
  have HL := Lib.hid hb1
  clear hb1 hA
  go_wp2_with fail
  refine HW.out.mono ?_
  rintro e w2 ⟨v, rfl, hG, hb2⟩
  have HG := Lib.hid hG
  have HL2 := Lib.hid hb2
  clear hG hb2
  go_wp2
  go_ret
  exact ⟨_, rfl, HG.out, (((Below.refl _ _).alloc (Nat.le_refl _) _).trans (HL.out.mono (by simp))).trans (HL2.out.mono (Nat.le_trans (by simp) HL.out.size))⟩

end Go.Proofs.Ytioidnfmpbdmhaa
