/- Texts of one kind in one: DoesAt, Sched. -/
import Derived.Test.YtidiaomeahoapaaQ15
import Derived.Test.YtidiaomeahoapaaQ16
import Derived.Test.YtidiaomeahoapaaQ17
import Derived.OrdersHeld
import Derived.Deep.RegionHeld
/- Both lists behind acts; what they tell then. -/
namespace Go.Proofs.Ytidiaomeahoapaa
open Go.RowKit Go.Shelf
attribute [local go_sem] Oper.semAt_some

theorem did_any {w : World} {p r : Nat} {L : List Nd} (h : Ls w p L) (hN : L.length ≤ 1000) (hz : Small (L.map er)) (hr : RefM w r (L.map er)) (x : Ac) (hx : x.Fit) :
    Calls Try.prog 12 #[.pointer (some ⟨p, 0, none⟩), .pointer (some ⟨r, 0, none⟩), x.val] w fun e w' => e = .returned (.bool true) ∧ DidP w w' p r L (effD x (L.map er)) := by
  have hk := kd_lt x
  have : kd x = 0 ∨ kd x = 1 ∨ kd x = 2 ∨ kd x = 3 ∨ kd x = 4 ∨ kd x = 5 ∨ kd x = 6 ∨ kd x = 7 := by omega
  rcases this with h1 | h1 | h1 | h1 | h1 | h1 | h1 | h1
  · exact did_0 h hN hz hr x hx h1
  · exact did_1 h hN hz hr x hx h1
  · exact did_2 h hN hz hr x hx h1
  · exact did_3 h hN hz hr x hx h1
  · exact did_4 h hN hz hr x hx h1
  · exact did_5 h hN hz hr x hx h1
  · exact did_6 h hN hz hr x hx h1
  · exact did_7 h hN hz hr x hx h1
theorem effD_len (x : Ac) (M : List En) : (effD x M).length ≤ M.length + 1 := by
  unfold effD
  split
  · exact insE_len _ _ _ _
  · split
    · have := delE_len M (cut12 x.m) x.s; omega
    · split
      · omega
      · have := cutE_len M x.f x.t; omega
theorem effD_small (x : Ac) {M : List En} (h : Small M) : Small (effD x M) := by
  unfold effD
  split
  · exact insE_small h _ (cut12_size x.m) _ _
  · split
    · exact delE_small h _ _
    · split
      · exact h
      · exact cutE_small h _ _

/-- Both behind k acts. -/
structure DoesAt (w0 : World) (p r k : Nat) (W : World) : Prop where
  ex : ∃ L, Ls W p L ∧ RefM W r (L.map er) ∧ Beyond w0.heap.size p L ∧ L.length ≤ k ∧ Small (L.map er)
  below : Below w0.heap.size w0 W
  rb : w0.heap.size ≤ r
theorem DoesAt.did {w0 W W' : World} {p r k : Nat} {L : List Nd} {M : List En} (hB : Beyond w0.heap.size p L) (hb : Below w0.heap.size w0 W) (hr : w0.heap.size ≤ r) (hl : M.length ≤ k) (hz : Small M) (h : DidP W W' p r L M) : DoesAt w0 p r k W' := by
  obtain ⟨L', h1, h2, h3⟩ := h.ex
  refine ⟨⟨L', h2, h1 ▸ h.ref, fun b hb' => ?_, ?_, h1 ▸ hz⟩, hb.trans (h.far.below (fun q hq => ?_) hb.size), hr⟩
  · rcases h3 b hb' with h | h
    · exact hB b h
    · exact Nat.le_trans hb.size h
  · have := congrArg List.length h1
    rw [List.length_map] at this
    omega
  · rcases hq with hq | rfl
    · exact hB q hq
    · exact hr
theorem DoesAt.later {w0 W W' : World} {p r k : Nat} (h : DoesAt w0 p r k W) (hb : Below W.heap.size W W') : DoesAt w0 p r k W' := by
  obtain ⟨L, h1, h2, h3, h4, h5⟩ := h.ex
  exact ⟨⟨L, h1.later hb, RefAt.later h2 hb, h3, h4, h5⟩, h.below.trans (hb.mono h.below.size), h.rb⟩
theorem ref_start (w : World) : RefM (w.alloc (.cells #[.slice none 0 0, .slice none 0 0] 30)) w.heap.size [] :=
  RefAt.mk' (n0 := 0) (Blk.new _ _ _) (World.ownsRow_nil _ _ _ _) (World.ownsRow_nil _ _ _ _)

/-- The spans of both. -/
theorem spans_both {w : World} {p r : Nat} {L : List Nd} (h : Ls w p L) (hN : L.length ≤ 1000) (hr : RefM w r (L.map er)) (v : Int) :
    ∃ l : List Int, l.length ≤ 1000 ∧ (∀ W, Below w.heap.size w W → Calls Try.prog 21 #[.pointer (some ⟨p, 0, none⟩), .int .i64 v] W fun e w' => ∃ a c, e = .returned (.slice a l.length c) ∧ Flat w' a (cellsI l) ∧ Below W.heap.size W w') ∧
      (∀ W, Below w.heap.size w W → Calls Try.prog 22 #[.pointer (some ⟨r, 0, none⟩), .int .i64 v] W fun e w' => ∃ a c, e = .returned (.slice a l.length c) ∧ Flat w' a (cellsI l) ∧ Below W.heap.size W w') := by
  by_cases hv : v < 1 ∨ 32 < v
  · refine ⟨[], by simp, fun W _ => ?_, fun W hb => ?_⟩
    · refine (spans_out ⟨p, 0, none⟩ v hv W).mono ?_
      rintro e w' ⟨rfl, rfl⟩
      exact ⟨none, 0, rfl, fun j u h => by simp [cellsI] at h, Below.refl _ _⟩
    · refine (refSpans_out r _ _ (by simpa using hN) v hv W (RefAt.later hr hb)).mono ?_
      rintro e w' ⟨rfl, rfl⟩
      exact ⟨none, 0, rfl, fun j u h => by simp [cellsI] at h, Below.refl _ _⟩
  · have h1 : 1 ≤ v := by omega
    have h2 : v ≤ 32 := by omega
    have hsp := sp_steps p L v h1
    refine ⟨diffs 0 (spP ((L.map er).map lI) v ((L.map er).map lI).length), ?_, fun W hb => ?_, fun W hb => ?_⟩
    · rw [diffs_len]
      exact Nat.le_trans (spP_len _ _ _) (by simpa using hN)
    · have := spans_any p L rfl W (h.later hb).sk (by simp; omega) (v.toNat - 1) (by omega)
      rw [show (((v.toNat - 1 : Nat) : Int) + 1) = v by omega] at this
      refine this.mono ?_
      rintro e w' ⟨u, rfl, ho, hb2⟩
      rw [← hsp] at ho
      obtain ⟨a, c, rfl, _, hf⟩ := Own3.flat ho
      exact ⟨a, c, rfl, hf, hb2⟩
    · refine (refSpans_in r _ _ (by simpa using hN) v h1 h2 W (RefAt.later hr hb)).mono ?_
      rintro e w' ⟨u, rfl, ho, hb2⟩
      obtain ⟨a, c, rfl, _, hf⟩ := Own3.flat ho
      exact ⟨a, c, rfl, hf, hb2⟩

theorem flat_later {W W' : World} {a : Option Addr} {l : List Value} (h : Flat W a l) (hb : Below W.heap.size W W') : Flat W' a l := fun j u hu => by
  obtain ⟨b, off, rfl, hc⟩ := h j u hu
  exact ⟨b, off, rfl, (hb.cell (World.block_lt_of_cell? W _ hc)).trans hc⟩
theorem flat_ent {W : World} {a : Option Addr} {l : List Ent} (h : Flat W a (cellsE l)) {i : Nat} {e : Ent} (he : l[i]? = some e) :
    ∃ b off, a = some ⟨b, off, none⟩ ∧ W.cell? ⟨b, off + i * 2, none⟩ = some (.string e.1) ∧ W.cell? ⟨b, off + i * 2 + 1, none⟩ = some (.int .i64 e.2) := by
  obtain ⟨h1, h2⟩ := cellsE_at l i e he
  obtain ⟨b, off, rfl, k1⟩ := h _ _ h1
  obtain ⟨b', off', e', k2⟩ := h _ _ h2
  cases e'
  exact ⟨b, off, rfl, k1, by rw [Nat.add_assoc]; exact k2⟩
set_option maxRecDepth 100000 in
set_option maxHeartbeats 4000000 in
theorem same_flat (a1 a2 : Option Addr) (c1 c2 : Nat) (l : List Ent) (hl : l.length ≤ 1000000) (w : World) (h1 : Flat w a1 (cellsE l)) (h2 : Flat w a2 (cellsE l)) :
    Calls Try.prog 17 #[.slice a1 l.length c1, .slice a2 l.length c2] w fun e w' => e = .returned (.bool true) ∧ Below w.heap.size w w' := by
  have H1 := Lib.hid h1
  have H2 := Lib.hid h2
  clear h1 h2
  go_enter Try.func17, Try.ntmps17
  go_wp2
  go_loopw [5] (fun i wr => ∃ (k : Nat), i = .int .i64 k ∧ k ≤ l.length ∧ Below w.heap.size w wr) (fun i _ => l.length - (intOf i).toNat)
  case atStart => exact ⟨0, rfl, by omega, Below.refl _ _⟩
  case round =>
    obtain ⟨k, rfl, hk, hbr⟩ := hrel
    by_cases hlt : k < l.length
    · have hx : l[k]? = some l[k] := List.getElem?_eq_getElem hlt
      generalize l[k] = x at *
      obtain ⟨b1, o1, rfl, p1, q1⟩ := flat_ent (flat_later H1.out hbr) hx
      obtain ⟨b2, o2, rfl, p2, q2⟩ := flat_ent (flat_later H2.out hbr) hx
      have hk2 : (k : Int) < l.length := by omega
      have hne := neq_ent x.1 x.1 x.2 x.2 true (by simp)
      have HBR := Lib.hid hbr
      clear hx hbr H1 H2
      go_wp2_with fail
      go_quiet (fail)
      go_wp2_with fail
      exact ⟨⟨k + 1, by go_num, hlt, HBR.out.trans ((drewB wr _).mono HBR.out.size)⟩, by simp [intOf]; omega⟩
    · obtain rfl : k = l.length := by omega
      go_wp2
      go_returns
      exact ⟨rfl, hbr⟩

theorem rng1 {w : World} {p : Nat} {L : List Nd} (h : Ls w p L) (hN : L.length ≤ 100000) (f t : Int) : Calls Try.prog 18 #[.pointer (some ⟨p, 0, none⟩), .int .i64 f, .int .i64 t] w fun e w' =>
    ∃ a c, e = .returned (.slice a (sub (L.map en) f t).length c) ∧ Flat w' a (cellsE (sub (L.map en) f t)) ∧ Below w.heap.size w w' :=
  (range_ls h hN f t).mono fun e w' hp => by
    obtain ⟨v, he, ho, hb⟩ := hp
    obtain ⟨a, c, e2, _, hf⟩ := Own32.flat ho
    exact ⟨a, c, by rw [he, e2], hf, hb⟩
theorem rng0 {w : World} {p : Nat} {L : List Nd} (h : Ls w p L) (hN : L.length ≤ 100000) : Calls Try.prog 18 #[.pointer (some ⟨p, 0, none⟩), .int .i64 0, .int .i64 L.length] w fun e w' =>
    ∃ a c, e = .returned (.slice a L.length c) ∧ Flat w' a (cellsE (L.map en)) ∧ Below w.heap.size w w' := by
  have h1 : sub (L.map en) 0 L.length = L.map en := by
    have := sub_all (L.map en)
    rwa [List.length_map] at this
  have := rng1 h hN 0 L.length
  rw [h1, List.length_map] at this
  exact this
theorem rng2 {w : World} {r : Nat} {L : List Nd} (hN : L.length ≤ 1000) (h : RefM w r (L.map er)) (f t : Int) : Calls Try.prog 19 #[.pointer (some ⟨r, 0, none⟩), .int .i64 f, .int .i64 t] w fun e w' =>
    ∃ a c, e = .returned (.slice a (sub (L.map en) f t).length c) ∧ Flat w' a (cellsE (sub (L.map en) f t)) ∧ w' = w := by
  have hE : (L.map er).map e2 = L.map en := (en_er L).symm
  have := refRange_any r _ _ (by simpa using hN) f t w h
  rw [hE, (range_sub (L.map en) f t).1, (range_sub (L.map en) f t).2] at this
  exact this.mono fun e w' ⟨a, c, h1, h2, h3⟩ => ⟨a, c, h1, h3 ▸ h2, h3⟩
end Go.Proofs.Ytidiaomeahoapaa
/- A region that draws its order, walked in one schedule. -/
namespace Go.Proofs.Ytidiaomeahoapaa.Sched
open Go

section
variable {P : Program} {ops : Array Oper} {Q : Exit → Act → World → Prop} {md : Region.Mode} {S : World → Prop}

/-- May number i come up now? -/
def isReady (md : Region.Mode) (ops : Array Oper) (listed : Array Bool) (i : Nat) : Bool :=
  match ops[i]? with
  | some o => !listed.toList.getD i true && o.after.toList.all fun e => !Region.binds md e || listed.toList.getD e.on false
  | none => false
theorem isReady_spec {listed : Array Bool} {i : Nat} (h : isReady md ops listed i = true) : (Region.ready md ops listed).contains i = true := by
  unfold isReady at h
  cases ho : ops[i]? with
  | none => rw [ho] at h; cases h
  | some o =>
    rw [ho] at h
    simp only [Bool.and_eq_true, Bool.not_eq_true', List.all_eq_true, Bool.or_eq_true] at h
    rw [List.contains_iff_mem, mem_ready]
    refine ⟨by simpa using h.1, o, ho, fun e he hb => ?_⟩
    rcases h.2 e (by simpa using he) with h2 | h2
    · rw [hb] at h2; cases h2
    · simpa using h2
/-- Does nothing that is still to come touch what oi touches? -/
def freeL (md : Region.Mode) (ops : Array Oper) (oi : Oper) (i : Nat) : Nat → List Oper → List Bool → Bool
  | j, oj :: r, l :: lr => (l || j == i || oj.after.toList.any (fun e => Region.binds md e && e.on == i) || oi.apart ops oj) && freeL md ops oi i (j + 1) r lr
  | _, _, _ => true
theorem freeL_spec {oi : Oper} {i : Nat} : ∀ (r : List Oper) (l : List Bool) (j : Nat), freeL md ops oi i j r l = true → ∀ k oj, r[k]? = some oj → l.getD k true = true ∨ j + k = i ∨ oj.after.any (fun e => Region.binds md e && e.on == i) = true ∨ oi.apart ops oj = true
  | [], _, _, _, k, oj, hk => by simp at hk
  | o :: r, [], _, _, k, oj, hk => .inl (by simp)
  | o :: r, b :: l, j, h, k, oj, hk => by
    unfold freeL at h
    simp only [Bool.and_eq_true, Bool.or_eq_true, beq_iff_eq] at h
    cases k with
    | zero =>
      simp only [List.getElem?_cons_zero, Option.some.injEq] at hk
      subst hk
      rcases h.1 with ((h1 | h1) | h1) | h1
      · exact .inl (by simpa using h1)
      · exact .inr (.inl (by omega))
      · refine .inr (.inr (.inl ?_))
        rw [← Array.any_toList]
        exact h1
      · exact .inr (.inr (.inr h1))
    | succ k =>
      simp only [List.getElem?_cons_succ] at hk
      rcases freeL_spec r l (j + 1) h.2 k oj hk with h1 | h1 | h1 | h1
      · exact .inl (by simpa using h1)
      · exact .inr (.inl (by omega))
      · exact .inr (.inr (.inl h1))
      · exact .inr (.inr (.inr h1))
def isFree (md : Region.Mode) (ops : Array Oper) (listed : Array Bool) (i : Nat) : Bool :=
  match ops[i]? with
  | some oi => freeL md ops oi i 0 ops.toList listed.toList
  | none => false
theorem isFree_spec {listed : Array Bool} {i : Nat} (h : isFree md ops listed i = true) : Region.free md ops listed i = true := by
  unfold isFree at h
  unfold Region.free
  cases ho : ops[i]? with
  | none => rw [ho] at h; cases h
  | some o =>
    rw [ho] at h
    simp only [List.all_eq_true, List.mem_range]
    intro j hj
    have := freeL_spec _ _ _ h j ops[j] (by simp [hj])
    simp only [Array.getElem?_eq_getElem hj, Bool.or_eq_true, beq_iff_eq]
    rcases this with h1 | h1 | h1 | h1
    · exact .inl (.inr (by simpa using h1))
    · exact .inl (.inl (by omega))
    · exact .inr (.inl h1)
    · exact .inr (.inr h1)
/-- Does nothing come up but i? -/
def onlyL (md : Region.Mode) (listed : List Bool) (i : Nat) : Nat → List Oper → List Bool → Bool
  | j, o :: r, l :: lr => (l || j == i || !(o.after.toList.all fun e => !Region.binds md e || listed.getD e.on false)) && onlyL md listed i (j + 1) r lr
  | _, _, _ => true
theorem onlyL_spec {listed : List Bool} {i : Nat} : ∀ (r : List Oper) (l : List Bool) (j : Nat), onlyL md listed i j r l = true → ∀ k o, r[k]? = some o → l.getD k true = true ∨ j + k = i ∨ (o.after.toList.all fun e => !Region.binds md e || listed.getD e.on false) = false
  | [], _, _, _, k, oj, hk => by simp at hk
  | o :: r, [], _, _, k, oj, hk => .inl (by simp)
  | o :: r, b :: l, j, h, k, oj, hk => by
    unfold onlyL at h
    simp only [Bool.and_eq_true, Bool.or_eq_true, beq_iff_eq, Bool.not_eq_true'] at h
    cases k with
    | zero =>
      simp only [List.getElem?_cons_zero, Option.some.injEq] at hk
      subst hk
      rcases h.1 with (h1 | h1) | h1
      · exact .inl (by simpa using h1)
      · exact .inr (.inl (by omega))
      · exact .inr (.inr h1)
    | succ k =>
      simp only [List.getElem?_cons_succ] at hk
      rcases onlyL_spec r l (j + 1) h.2 k oj hk with h1 | h1 | h1
      · exact .inl (by simpa using h1)
      · exact .inr (.inl (by omega))
      · exact .inr (.inr h1)
theorem only_mem {listed : Array Bool} {i j : Nat} (h : onlyL md listed.toList i 0 ops.toList listed.toList = true) (hj : j ∈ Region.ready md ops listed) : j = i := by
  rw [mem_ready] at hj
  obtain ⟨h0, o, ho, ha⟩ := hj
  rcases onlyL_spec _ _ _ h j o (by simpa using ho) with h1 | h1 | h1
  · have h1' : listed.getD j true = true := by simpa using h1
    rw [h0] at h1'; cases h1'
  · omega
  · refine absurd ?_ (by rw [h1]; decide : ¬ (o.after.toList.all fun e => !Region.binds md e || listed.toList.getD e.on false) = true)
    rw [List.all_eq_true]
    intro e he
    cases hb : Region.binds md e
    · rfl
    · have := ha e (by simpa using he) hb
      have h2 : listed.toList.getD e.on false = true := by simpa using this
      rw [h2]; rfl
theorem ready_nodup (listed : Array Bool) : (Region.ready md ops listed).Nodup := List.nodup_range.sublist List.filter_sublist
theorem only_ready {listed : Array Bool} {i : Nat} (h : onlyL md listed.toList i 0 ops.toList listed.toList = true) (hr : isReady md ops listed i = true) : Region.ready md ops listed = [i] := by
  have h1 := fun j (hj : j ∈ Region.ready md ops listed) => only_mem h hj
  have h2 : i ∈ Region.ready md ops listed := by simpa using isReady_spec hr
  have h3 := ready_nodup (md := md) (ops := ops) listed
  generalize Region.ready md ops listed = R at *
  match R, h1, h2, h3 with
  | [], _, h2, _ => cases h2
  | [x], h1, _, _ => rw [h1 x (by simp)]
  | x :: y :: r, h1, _, h3 =>
    have e1 := h1 x (by simp)
    have e2 := h1 y (by simp)
    subst e1
    subst e2
    simp at h3
theorem none_ready {listed : Array Bool} (h : onlyL md listed.toList ops.size 0 ops.toList listed.toList = true) : Region.ready md ops listed = [] := by
  have h1 := fun j (hj : j ∈ Region.ready md ops listed) => only_mem h hj
  have h4 := fun j (hj : j ∈ Region.ready md ops listed) => (mem_ready.1 hj).2
  generalize Region.ready md ops listed = R at *
  match R, h1, h4 with
  | [], _, _ => rfl
  | x :: r, h1, h4 =>
    obtain ⟨o, ho, _⟩ := h4 x (by simp)
    have := h1 x (by simp)
    have := (Array.getElem?_eq_some_iff.1 ho).1
    omega

/-- Is this a schedule? Number by number; with true: what yields its value in every world of the class; with false: what is carried out, and nothing else may come up then. -/
def schedB (md : Region.Mode) (ops : Array Oper) : List (Nat × Bool) → Array Bool → Bool
  | [], listed => onlyL md listed.toList ops.size 0 ops.toList listed.toList
  | (i, true) :: r, listed => isReady md ops listed i && isFree md ops listed i && schedB md ops r (listed.setIfInBounds i true)
  | (i, false) :: r, listed => isReady md ops listed i && onlyL md listed.toList i 0 ops.toList listed.toList && schedB md ops r (listed.setIfInBounds i true)

/-- The walk in that order. -/
def wpSched (P : Program) (ops : Array Oper) (S : World → Prop) (Q : Exit → Act → World → Prop) : List (Nat × Bool) → Act → World → Prop
  | [], a, w => Q .normal a w
  | (i, true) :: r, a, w => ∃ o, ops[i]? = some o ∧ ((Region.wanted o (yielded ops a.tmps) = true ∧ ∃ v, (∀ w', S w' → (execOp a.eval o).run P w' = .ok (.value v) w') ∧ wpSched P ops S Q r (a.put o.dst v) w) ∨ (Region.wanted o (yielded ops a.tmps) = false ∧ wpSched P ops S Q r (a.put o.dst undef) w))
  | (i, false) :: r, a, w => ∃ o, ops[i]? = some o ∧ if Region.wanted o (yielded ops a.tmps) = true then o.wp P a w (fun a' w' => S w' ∧ wpSched P ops S Q r a' w') Q else wpSched P ops S Q r (a.put o.dst undef) w

theorem held_of_sched (hs : Region.noSelect ops = true) (hQ : ∀ c a w d v, Q (.panic c) (a.put d v) w → Q (.panic c) a w) :
    ∀ (l : List (Nat × Bool)) (listed : Array Bool) (a : Act) (w : World), schedB md ops l listed = true → S w → wpSched P ops S Q l a w → wpAnyH P md ops Q S l.length listed a w
  | [], listed, a, w, hB, _, h => by
    unfold schedB at hB
    exact wpAnyH_done (none_ready hB) h 0
  | (i, true) :: r, listed, a, w, hB, hS, h => by
    unfold schedB at hB
    simp only [Bool.and_eq_true] at hB
    obtain ⟨⟨hr, hf⟩, hB'⟩ := hB
    unfold wpSched at h
    obtain ⟨o, ho, h⟩ := h
    rcases h with ⟨hw, v, hy, h⟩ | ⟨hw, h⟩
    · exact wpAnyH_take ho hs (isFree_spec hf) (isReady_spec hr) (fun c a w => hQ c a w _ _) (.inl ⟨hw, hy⟩) hS (held_of_sched hs hQ r _ _ w hB' hS h)
    · exact wpAnyH_take (v := undef) ho hs (isFree_spec hf) (isReady_spec hr) (fun c a w => hQ c a w _ _) (.inr ⟨hw, rfl⟩) hS (held_of_sched hs hQ r _ _ w hB' hS h)
  | (i, false) :: r, listed, a, w, hB, hS, h => by
    unfold schedB at hB
    simp only [Bool.and_eq_true] at hB
    obtain ⟨⟨hr0, hr1⟩, hB'⟩ := hB
    have hr := only_ready hr1 hr0
    unfold wpSched at h
    obtain ⟨o, ho, h⟩ := h
    refine wpAnyH_all hr (by simp) ?_
    intro j hj
    rw [List.mem_singleton] at hj
    subst hj
    unfold wpOp
    simp only [ho]
    split
    · rename_i hw
      rw [if_pos hw] at h
      refine .inl ?_
      exact (Oper.wp_mono (fun a' w' h' => ⟨h'.1, held_of_sched hs hQ r _ a' w' hB' h'.1 h'.2⟩) h)
    · rename_i hw
      rw [if_neg hw] at h
      exact ⟨hS, held_of_sched hs hQ r _ _ w hB' hS h⟩

/-- The same walk, the operations written out: what is said of the schedule is worked out once, ahead. -/
def wpL (P : Program) (ops : Array Oper) (S : World → Prop) (Q : Exit → Act → World → Prop) : List (Option Oper × Bool) → Act → World → Prop
  | [], a, w => Q .normal a w
  | (none, _) :: _, _, _ => False
  | (some o, true) :: r, a, w => (Region.wanted o (yielded ops a.tmps) = true ∧ ∃ v, (∀ w', S w' → (execOp a.eval o).run P w' = .ok (.value v) w') ∧ wpL P ops S Q r (a.put o.dst v) w) ∨ (Region.wanted o (yielded ops a.tmps) = false ∧ wpL P ops S Q r (a.put o.dst undef) w)
  | (some o, false) :: r, a, w => if Region.wanted o (yielded ops a.tmps) = true then o.wp P a w (fun a' w' => S w' ∧ wpL P ops S Q r a' w') Q else wpL P ops S Q r (a.put o.dst undef) w
/-- The schedule's operations. -/
def picks (ops : Array Oper) : List (Nat × Bool) → List (Option Oper × Bool)
  | [] => []
  | (i, b) :: r => (ops[i]?, b) :: picks ops r
theorem sched_of : ∀ (l : List (Nat × Bool)) (a : Act) (w : World), wpL P ops S Q (picks ops l) a w → wpSched P ops S Q l a w
  | [], _, _, h => h
  | (i, b) :: r, a, w, h => by
    unfold picks at h
    cases ho : ops[i]? with
    | none => rw [ho] at h; unfold wpL at h; exact h.elim
    | some o =>
      rw [ho] at h
      cases b
      · unfold wpL at h
        unfold wpSched
        refine ⟨o, ho, ?_⟩
        split
        · rename_i hw
          rw [if_pos hw] at h
          exact Oper.wp_mono (fun a' w' h' => ⟨h'.1, sched_of r _ _ h'.2⟩) h
        · rename_i hw
          rw [if_neg hw] at h
          exact sched_of r _ _ h
      · unfold wpL at h
        unfold wpSched
        refine ⟨o, ho, ?_⟩
        rcases h with ⟨hw, v, hy, h⟩ | ⟨hw, h⟩
        · exact .inl ⟨hw, v, hy, sched_of r _ _ h⟩
        · exact .inr ⟨hw, sched_of r _ _ h⟩

theorem region_sched {id : Nat} {a : Act} {w : World} (sched : List (Nat × Bool)) (S : World → Prop) (hm : P.follows .mixedOrders = true) (hs : Region.noSelect ops = true) (hn : sched.length = ops.size)
    (hB : schedB .any ops sched (Array.replicate ops.size false) = true) (hQ : ∀ c a w d v, Q (.panic c) (a.put d v) w → Q (.panic c) a w) (hS : S w.drew) (h : ∀ L, picks ops sched = L → wpL P ops S Q L a w.drew) : (Code.region id ops true).wp P Q a w := by
  refine wp_region_held (S := S) hm ?_
  rw [← hn]
  rw [← hn] at hB
  exact held_of_sched hs hQ sched _ a w.drew hB hS (sched_of _ _ _ (h _ rfl))
theorem sched_nil {a : Act} {w : World} (h : Q .normal a w) : wpL P ops S Q [] a w := h
theorem sched_skip {b : Bool} {o : Oper} {r : List (Option Oper × Bool)} {a : Act} {w : World} (hw : Region.wanted o (yielded ops a.tmps) = false) (h : wpL P ops S Q r (a.put o.dst undef) w) : wpL P ops S Q ((some o, b) :: r) a w := by
  cases b
  · unfold wpL; rw [hw]; exact h
  · exact .inr ⟨hw, h⟩
theorem sched_take {o : Oper} {v : Value} {r : List (Option Oper × Bool)} {a : Act} {w : World} (hw : Region.wanted o (yielded ops a.tmps) = true) (hy : ∀ w', S w' → (execOp a.eval o).run P w' = .ok (.value v) w') (h : wpL P ops S Q r (a.put o.dst v) w) : wpL P ops S Q ((some o, true) :: r) a w :=
  .inl ⟨hw, v, hy, h⟩
/-- What follows, behind a name. -/
def Way (P : Program) (ops : Array Oper) (S : World → Prop) (Q : Exit → Act → World → Prop) (r : List (Option Oper × Bool)) (K' : Act → World → Prop) : Prop := ∀ a w, S w → wpL P ops S Q r a w → K' a w
theorem sched_do {o : Oper} {r : List (Option Oper × Bool)} {a : Act} {w : World} (hw : Region.wanted o (yielded ops a.tmps) = true) (h : ∀ K' : Act → World → Prop, Way P ops S Q r K' → o.wp P a w K' Q) : wpL P ops S Q ((some o, false) :: r) a w := by
  unfold wpL; rw [if_pos hw]; exact h _ (fun a w hS h => ⟨hS, h⟩)
end
end Go.Proofs.Ytidiaomeahoapaa.Sched
