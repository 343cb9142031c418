/- Texts of one kind in one: Sched, ZThru. -/
import Derived.OrdersHeld
import Derived.OrdersIn
import Derived.RangeFuncCalls
import Derived.ControlIn
import Derived.Deep.RegionHeld
import Derived.Test.YtpfoicpnpgojdaaGreatDoorQErReflect24
/- A region that draws its order, walked in one schedule. -/
namespace Go.Proofs.YtpfoicpnpgojdaaGreatDoor.Sched
open Go

section
variable {P : Program} {ops : Array Oper} {Q : Exit → Act → World → Prop} {md : Region.Mode} {S : World → Prop}

/-- May number i come up now? -/
def isReady (md : Region.Mode) (ops : Array Oper) (listed : Array Bool) (i : Nat) : Bool :=
  match ops[i]? with
  | some o => !listed.toList.getD i true && o.after.toList.all fun e => !Region.binds md e || listed.toList.getD e.on false
  | none => false
theorem isReady_spec {listed : Array Bool} {i : Nat} (h : isReady md ops listed i = true) : (Region.ready md ops listed).contains i = true := by
  unfold isReady at h
  cases ho : ops[i]? with
  | none => rw [ho] at h; cases h
  | some o =>
    rw [ho] at h
    simp only [Bool.and_eq_true, Bool.not_eq_true', List.all_eq_true, Bool.or_eq_true] at h
    rw [List.contains_iff_mem, mem_ready]
    refine ⟨by simpa using h.1, o, ho, fun e he hb => ?_⟩
    rcases h.2 e (by simpa using he) with h2 | h2
    · rw [hb] at h2; cases h2
    · simpa using h2
/-- Does nothing that is still to come touch what oi touches? -/
def freeL (md : Region.Mode) (ops : Array Oper) (oi : Oper) (i : Nat) : Nat → List Oper → List Bool → Bool
  | j, oj :: r, l :: lr => (l || j == i || oj.after.toList.any (fun e => Region.binds md e && e.on == i) || oi.apart ops oj) && freeL md ops oi i (j + 1) r lr
  | _, _, _ => true
theorem freeL_spec {oi : Oper} {i : Nat} : ∀ (r : List Oper) (l : List Bool) (j : Nat), freeL md ops oi i j r l = true → ∀ k oj, r[k]? = some oj → l.getD k true = true ∨ j + k = i ∨ oj.after.any (fun e => Region.binds md e && e.on == i) = true ∨ oi.apart ops oj = true
  | [], _, _, _, k, oj, hk => by simp at hk
  | o :: r, [], _, _, k, oj, hk => .inl (by simp)
  | o :: r, b :: l, j, h, k, oj, hk => by
    unfold freeL at h
    simp only [Bool.and_eq_true, Bool.or_eq_true, beq_iff_eq] at h
    cases k with
    | zero =>
      simp only [List.getElem?_cons_zero, Option.some.injEq] at hk
      subst hk
      rcases h.1 with ((h1 | h1) | h1) | h1
      · exact .inl (by simpa using h1)
      · exact .inr (.inl (by omega))
      · refine .inr (.inr (.inl ?_))
        rw [← Array.any_toList]
        exact h1
      · exact .inr (.inr (.inr h1))
    | succ k =>
      simp only [List.getElem?_cons_succ] at hk
      rcases freeL_spec r l (j + 1) h.2 k oj hk with h1 | h1 | h1 | h1
      · exact .inl (by simpa using h1)
      · exact .inr (.inl (by omega))
      · exact .inr (.inr (.inl h1))
      · exact .inr (.inr (.inr h1))
def isFree (md : Region.Mode) (ops : Array Oper) (listed : Array Bool) (i : Nat) : Bool :=
  match ops[i]? with
  | some oi => freeL md ops oi i 0 ops.toList listed.toList
  | none => false
theorem isFree_spec {listed : Array Bool} {i : Nat} (h : isFree md ops listed i = true) : Region.free md ops listed i = true := by
  unfold isFree at h
  unfold Region.free
  cases ho : ops[i]? with
  | none => rw [ho] at h; cases h
  | some o =>
    rw [ho] at h
    simp only [List.all_eq_true, List.mem_range]
    intro j hj
    have := freeL_spec _ _ _ h j ops[j] (by simp [hj])
    simp only [Array.getElem?_eq_getElem hj, Bool.or_eq_true, beq_iff_eq]
    rcases this with h1 | h1 | h1 | h1
    · exact .inl (.inr (by simpa using h1))
    · exact .inl (.inl (by omega))
    · exact .inr (.inl h1)
    · exact .inr (.inr h1)
/-- Does nothing come up but i? -/
def onlyL (md : Region.Mode) (listed : List Bool) (i : Nat) : Nat → List Oper → List Bool → Bool
  | j, o :: r, l :: lr => (l || j == i || !(o.after.toList.all fun e => !Region.binds md e || listed.getD e.on false)) && onlyL md listed i (j + 1) r lr
  | _, _, _ => true
theorem onlyL_spec {listed : List Bool} {i : Nat} : ∀ (r : List Oper) (l : List Bool) (j : Nat), onlyL md listed i j r l = true → ∀ k o, r[k]? = some o → l.getD k true = true ∨ j + k = i ∨ (o.after.toList.all fun e => !Region.binds md e || listed.getD e.on false) = false
  | [], _, _, _, k, oj, hk => by simp at hk
  | o :: r, [], _, _, k, oj, hk => .inl (by simp)
  | o :: r, b :: l, j, h, k, oj, hk => by
    unfold onlyL at h
    simp only [Bool.and_eq_true, Bool.or_eq_true, beq_iff_eq, Bool.not_eq_true'] at h
    cases k with
    | zero =>
      simp only [List.getElem?_cons_zero, Option.some.injEq] at hk
      subst hk
      rcases h.1 with (h1 | h1) | h1
      · exact .inl (by simpa using h1)
      · exact .inr (.inl (by omega))
      · exact .inr (.inr h1)
    | succ k =>
      simp only [List.getElem?_cons_succ] at hk
      rcases onlyL_spec r l (j + 1) h.2 k oj hk with h1 | h1 | h1
      · exact .inl (by simpa using h1)
      · exact .inr (.inl (by omega))
      · exact .inr (.inr h1)
theorem only_mem {listed : Array Bool} {i j : Nat} (h : onlyL md listed.toList i 0 ops.toList listed.toList = true) (hj : j ∈ Region.ready md ops listed) : j = i := by
  rw [mem_ready] at hj
  obtain ⟨h0, o, ho, ha⟩ := hj
  rcases onlyL_spec _ _ _ h j o (by simpa using ho) with h1 | h1 | h1
  · have h1' : listed.getD j true = true := by simpa using h1
    rw [h0] at h1'; cases h1'
  · omega
  · refine absurd ?_ (by rw [h1]; decide : ¬ (o.after.toList.all fun e => !Region.binds md e || listed.toList.getD e.on false) = true)
    rw [List.all_eq_true]
    intro e he
    cases hb : Region.binds md e
    · rfl
    · have := ha e (by simpa using he) hb
      have h2 : listed.toList.getD e.on false = true := by simpa using this
      rw [h2]; rfl
theorem ready_nodup (listed : Array Bool) : (Region.ready md ops listed).Nodup := List.nodup_range.sublist List.filter_sublist
theorem only_ready {listed : Array Bool} {i : Nat} (h : onlyL md listed.toList i 0 ops.toList listed.toList = true) (hr : isReady md ops listed i = true) : Region.ready md ops listed = [i] := by
  have h1 := fun j (hj : j ∈ Region.ready md ops listed) => only_mem h hj
  have h2 : i ∈ Region.ready md ops listed := by simpa using isReady_spec hr
  have h3 := ready_nodup (md := md) (ops := ops) listed
  generalize Region.ready md ops listed = R at *
  match R, h1, h2, h3 with
  | [], _, h2, _ => cases h2
  | [x], h1, _, _ => rw [h1 x (by simp)]
  | x :: y :: r, h1, _, h3 =>
    have e1 := h1 x (by simp)
    have e2 := h1 y (by simp)
    subst e1
    subst e2
    simp at h3
theorem none_ready {listed : Array Bool} (h : onlyL md listed.toList ops.size 0 ops.toList listed.toList = true) : Region.ready md ops listed = [] := by
  have h1 := fun j (hj : j ∈ Region.ready md ops listed) => only_mem h hj
  have h4 := fun j (hj : j ∈ Region.ready md ops listed) => (mem_ready.1 hj).2
  generalize Region.ready md ops listed = R at *
  match R, h1, h4 with
  | [], _, _ => rfl
  | x :: r, h1, h4 =>
    obtain ⟨o, ho, _⟩ := h4 x (by simp)
    have := h1 x (by simp)
    have := (Array.getElem?_eq_some_iff.1 ho).1
    omega

/-- Is this a schedule? Number by number; with true: what yields its value in every world of the class; with false: what is carried out, and nothing else may come up then. -/
def schedB (md : Region.Mode) (ops : Array Oper) : List (Nat × Bool) → Array Bool → Bool
  | [], listed => onlyL md listed.toList ops.size 0 ops.toList listed.toList
  | (i, true) :: r, listed => isReady md ops listed i && isFree md ops listed i && schedB md ops r (listed.setIfInBounds i true)
  | (i, false) :: r, listed => isReady md ops listed i && onlyL md listed.toList i 0 ops.toList listed.toList && schedB md ops r (listed.setIfInBounds i true)

/-- The walk in that order. -/
def wpSched (P : Program) (ops : Array Oper) (S : World → Prop) (Q : Exit → Act → World → Prop) : List (Nat × Bool) → Act → World → Prop
  | [], a, w => Q .normal a w
  | (i, true) :: r, a, w => ∃ o, ops[i]? = some o ∧ ((Region.wanted o (yielded ops a.tmps) = true ∧ ∃ v, (∀ w', S w' → (execOp a.eval o).run P w' = .ok (.value v) w') ∧ wpSched P ops S Q r (a.put o.dst v) w) ∨ (Region.wanted o (yielded ops a.tmps) = false ∧ wpSched P ops S Q r (a.put o.dst undef) w))
  | (i, false) :: r, a, w => ∃ o, ops[i]? = some o ∧ if Region.wanted o (yielded ops a.tmps) = true then o.wp P a w (fun a' w' => S w' ∧ wpSched P ops S Q r a' w') Q else wpSched P ops S Q r (a.put o.dst undef) w

theorem held_of_sched (hs : Region.noSelect ops = true) (hQ : ∀ c a w d v, Q (.panic c) (a.put d v) w → Q (.panic c) a w) :
    ∀ (l : List (Nat × Bool)) (listed : Array Bool) (a : Act) (w : World), schedB md ops l listed = true → S w → wpSched P ops S Q l a w → wpAnyH P md ops Q S l.length listed a w
  | [], listed, a, w, hB, _, h => by
    unfold schedB at hB
    exact wpAnyH_done (none_ready hB) h 0
  | (i, true) :: r, listed, a, w, hB, hS, h => by
    unfold schedB at hB
    simp only [Bool.and_eq_true] at hB
    obtain ⟨⟨hr, hf⟩, hB'⟩ := hB
    unfold wpSched at h
    obtain ⟨o, ho, h⟩ := h
    rcases h with ⟨hw, v, hy, h⟩ | ⟨hw, h⟩
    · exact wpAnyH_take ho hs (isFree_spec hf) (isReady_spec hr) (fun c a w => hQ c a w _ _) (.inl ⟨hw, hy⟩) hS (held_of_sched hs hQ r _ _ w hB' hS h)
    · exact wpAnyH_take (v := undef) ho hs (isFree_spec hf) (isReady_spec hr) (fun c a w => hQ c a w _ _) (.inr ⟨hw, rfl⟩) hS (held_of_sched hs hQ r _ _ w hB' hS h)
  | (i, false) :: r, listed, a, w, hB, hS, h => by
    unfold schedB at hB
    simp only [Bool.and_eq_true] at hB
    obtain ⟨⟨hr0, hr1⟩, hB'⟩ := hB
    have hr := only_ready hr1 hr0
    unfold wpSched at h
    obtain ⟨o, ho, h⟩ := h
    refine wpAnyH_all hr (by simp) ?_
    intro j hj
    rw [List.mem_singleton] at hj
    subst hj
    unfold wpOp
    simp only [ho]
    split
    · rename_i hw
      rw [if_pos hw] at h
      refine .inl ?_
      exact (Oper.wp_mono (fun a' w' h' => ⟨h'.1, held_of_sched hs hQ r _ a' w' hB' h'.1 h'.2⟩) h)
    · rename_i hw
      rw [if_neg hw] at h
      exact ⟨hS, held_of_sched hs hQ r _ _ w hB' hS h⟩

/-- The same walk, the operations written out: what is said of the schedule is worked out once, ahead. -/
def wpL (P : Program) (ops : Array Oper) (S : World → Prop) (Q : Exit → Act → World → Prop) : List (Option Oper × Bool) → Act → World → Prop
  | [], a, w => Q .normal a w
  | (none, _) :: _, _, _ => False
  | (some o, true) :: r, a, w => (Region.wanted o (yielded ops a.tmps) = true ∧ ∃ v, (∀ w', S w' → (execOp a.eval o).run P w' = .ok (.value v) w') ∧ wpL P ops S Q r (a.put o.dst v) w) ∨ (Region.wanted o (yielded ops a.tmps) = false ∧ wpL P ops S Q r (a.put o.dst undef) w)
  | (some o, false) :: r, a, w => if Region.wanted o (yielded ops a.tmps) = true then o.wp P a w (fun a' w' => S w' ∧ wpL P ops S Q r a' w') Q else wpL P ops S Q r (a.put o.dst undef) w
/-- The schedule's operations. -/
def picks (ops : Array Oper) : List (Nat × Bool) → List (Option Oper × Bool)
  | [] => []
  | (i, b) :: r => (ops[i]?, b) :: picks ops r
theorem sched_of : ∀ (l : List (Nat × Bool)) (a : Act) (w : World), wpL P ops S Q (picks ops l) a w → wpSched P ops S Q l a w
  | [], _, _, h => h
  | (i, b) :: r, a, w, h => by
    unfold picks at h
    cases ho : ops[i]? with
    | none => rw [ho] at h; unfold wpL at h; exact h.elim
    | some o =>
      rw [ho] at h
      cases b
      · unfold wpL at h
        unfold wpSched
        refine ⟨o, ho, ?_⟩
        split
        · rename_i hw
          rw [if_pos hw] at h
          exact Oper.wp_mono (fun a' w' h' => ⟨h'.1, sched_of r _ _ h'.2⟩) h
        · rename_i hw
          rw [if_neg hw] at h
          exact sched_of r _ _ h
      · unfold wpL at h
        unfold wpSched
        refine ⟨o, ho, ?_⟩
        rcases h with ⟨hw, v, hy, h⟩ | ⟨hw, h⟩
        · exact .inl ⟨hw, v, hy, sched_of r _ _ h⟩
        · exact .inr ⟨hw, sched_of r _ _ h⟩

theorem region_sched {id : Nat} {a : Act} {w : World} (sched : List (Nat × Bool)) (S : World → Prop) (hm : P.follows .mixedOrders = true) (hs : Region.noSelect ops = true) (hn : sched.length = ops.size)
    (hB : schedB .any ops sched (Array.replicate ops.size false) = true) (hQ : ∀ c a w d v, Q (.panic c) (a.put d v) w → Q (.panic c) a w) (hS : S w.drew) (h : ∀ L, picks ops sched = L → wpL P ops S Q L a w.drew) : (Code.region id ops true).wp P Q a w := by
  refine wp_region_held (S := S) hm ?_
  rw [← hn]
  rw [← hn] at hB
  exact held_of_sched hs hQ sched _ a w.drew hB hS (sched_of _ _ _ (h _ rfl))
theorem sched_nil {a : Act} {w : World} (h : Q .normal a w) : wpL P ops S Q [] a w := h
theorem sched_skip {b : Bool} {o : Oper} {r : List (Option Oper × Bool)} {a : Act} {w : World} (hw : Region.wanted o (yielded ops a.tmps) = false) (h : wpL P ops S Q r (a.put o.dst undef) w) : wpL P ops S Q ((some o, b) :: r) a w := by
  cases b
  · unfold wpL; rw [hw]; exact h
  · exact .inr ⟨hw, h⟩
theorem sched_take {o : Oper} {v : Value} {r : List (Option Oper × Bool)} {a : Act} {w : World} (hw : Region.wanted o (yielded ops a.tmps) = true) (hy : ∀ w', S w' → (execOp a.eval o).run P w' = .ok (.value v) w') (h : wpL P ops S Q r (a.put o.dst v) w) : wpL P ops S Q ((some o, true) :: r) a w :=
  .inl ⟨hw, v, hy, h⟩
/-- What follows, behind a name. -/
def Way (P : Program) (ops : Array Oper) (S : World → Prop) (Q : Exit → Act → World → Prop) (r : List (Option Oper × Bool)) (K' : Act → World → Prop) : Prop := ∀ a w, S w → wpL P ops S Q r a w → K' a w
theorem sched_do {o : Oper} {r : List (Option Oper × Bool)} {a : Act} {w : World} (hw : Region.wanted o (yielded ops a.tmps) = true) (h : ∀ K' : Act → World → Prop, Way P ops S Q r K' → o.wp P a w K' Q) : wpL P ops S Q ((some o, false) :: r) a w := by
  unfold wpL; rw [if_pos hw]; exact h _ (fun a w hS h => ⟨hS, h⟩)

/-- .. within a round of a range over a function. -/
def noDefer (ops : Array Oper) : Bool := ops.all fun o => match o.op with | .defer _ => false | _ => true
theorem noDefer_at {ops : Array Oper} (h : noDefer ops = true) {i : Nat} {o : Oper} (ho : ops[i]? = some o) (c : Call) : o.op ≠ .defer c := fun e => by
  have := Array.all_eq_true'.1 h o (Array.mem_of_getElem? ho)
  simp [e] at this
theorem wpIn_of_wp {n l : Nat} {o : Oper} (hd : ∀ c, o.op ≠ .defer c) {a : Act} {K : Act → World → Prop} {w : World} (h : o.wp P a w K Q) : o.wpIn (Fence.wide.inRound l) n P a w K Q := by
  refine ⟨fun _ _ => trivial, ?_⟩
  rw [Oper.semAt_eq _ _ _ hd]
  unfold Oper.wp at h
  generalize (execOp a.eval o).run P w = r at *
  cases r with
  | ok x w' =>
    cases x <;> simp only [Oper.upon] at h
    case value v => exact h
    case skip => exact h
    case defer d => exact h
    case enter f args => exact ⟨fun h => by simp [Fence.wide] at h, CallsIn.inRound l (callsIn_wide.2 h)⟩
    case row row args => exact ⟨fun h => by simp [Fence.wide] at h, fun c cs _ => let ⟨v, w', r, s⟩ := h c cs; ⟨v, w', r, stepsIn_wide.2 s⟩⟩
  | halt x w' =>
    cases x <;> simp only [Oper.upon] at h
    case panic u => exact h
theorem wpAnyIn_of {n l : Nat} (hp : noDefer ops = true) (hL : ¬ LetsOut Q) : ∀ (fuel : Nat) (listed : Array Bool) (a : Act) (w : World), wpAny P md ops Q fuel listed a w → wpAnyIn (Fence.wide.inRound l) n P md ops Q fuel listed a w
  | 0, _, _, _, h => h
  | fuel + 1, listed, a, w, h => ⟨h.1, fun i hi => by
    have h2 := h.2 i hi
    unfold wpOp at h2
    unfold wpOpIn
    cases ho : ops[i]? with
    | none => rw [ho] at h2; exact wpAnyIn_of hp hL fuel _ _ _ h2
    | some o =>
      rw [ho] at h2
      simp only at h2 ⊢
      split
      · rename_i hw
        rw [if_pos hw] at h2
        rcases h2 with h2 | h2
        · exact wpIn_of_wp (noDefer_at hp ho) (Oper.wp_mono (fun a' w' h' => wpAnyIn_of hp hL fuel _ a' w' h') h2)
        · exact absurd h2.2 hL
      · rename_i hw
        rw [if_neg hw] at h2
        exact ⟨fun _ _ => trivial, wpAnyIn_of hp hL fuel _ _ _ h2⟩⟩
theorem region_sched_in {n l id : Nat} {a : Act} {w : World} (sched : List (Nat × Bool)) (S : World → Prop) (hm : P.follows .mixedOrders = true) (hs : Region.noSelect ops = true) (hp : noDefer ops = true) (hL : ¬ LetsOut Q) (hn : sched.length = ops.size)
    (hB : schedB .any ops sched (Array.replicate ops.size false) = true) (hQ : ∀ c a w d v, Q (.panic c) (a.put d v) w → Q (.panic c) a w) (hS : S w.drew) (h : ∀ L, picks ops sched = L → wpL P ops S Q L a w.drew) : (Code.region id ops true).wpIn (Fence.wide.inRound l) n P Q a w := by
  refine wpIn_region_any hm (wpAnyIn_of hp hL _ _ _ _ (wpAny_of_held (S := S) _ _ _ _ ?_))
  rw [← hn]
  rw [← hn] at hB
  exact held_of_sched hs hQ sched _ a w.drew hB hS (sched_of _ _ _ (h _ rfl))
end
end Go.Proofs.YtpfoicpnpgojdaaGreatDoor.Sched
/- A form's entries, gone through. -/
namespace Go.Proofs.YtpfoicpnpgojdaaGreatDoor
open Go.RowKit Go.Shelf Sk
attribute [local go_sem] Oper.semAt_some

/-- What through answers. -/
def Thru (w : World) (E : List En) (e : Ending) (w' : World) : Prop := ∃ bx r, e = .returned (.func (.func 194) #[] #[.pointer (some ⟨bx, 0, none⟩)]) ∧ Blk w' bx 55 #[r] ∧ w.heap.size ≤ bx ∧ Row w' w.heap.size r E ∧ Below w.heap.size w w'
theorem values_mk (a : Option Addr) (n c : Nat) (w : World) : Calls Tryz.prog 178 #[.slice a n c] w fun e w' => e = .returned (.func (.func 194) #[] #[.pointer (some ⟨w.heap.size, 0, none⟩)]) ∧ w' = w.alloc (Obj.cells #[.slice a n c] 55) := by
  go_enter Tryz.func178, Tryz.ntmps178
  go_wp2
  go_ret
  exact ⟨rfl, rfl⟩
variable {w : World} {b l p q sd : Nat} {D : Nat → Prop} {L : List Nd} {m : ByteArray → Option Int} {n : Dc.Sh} {E : List En}
theorem meth_plen (b : Nat) (W : World) : (method 498 154 (.pointer (some ⟨b, 0, none⟩)) "Len").run Tryz.prog W = .ok (104, .pointer (some ⟨b, 0, none⟩)) W := by kernel_rfl
theorem meth_prange (b : Nat) (W : World) : (method 498 154 (.pointer (some ⟨b, 0, none⟩)) "Range").run Tryz.prog W = .ok (276, .pointer (some ⟨b, 0, none⟩)) W := by kernel_rfl
theorem nil_prange (b : Nat) (W : World) : (nilAhead 498 154 (.pointer (some ⟨b, 0, none⟩)) "Range").run Tryz.prog W = .ok (some false) W := by kernel_rfl
set_option maxRecDepth 100000 in
theorem p_thru (h : PackAt w b E) : Calls Tryz.prog 152 #[.iface 154 (.pointer (some ⟨b, 0, none⟩))] w (Thru w E) := by
  have HL := fun W (hb : Below w.heap.size w W) => Lib.hid (p_len (h.later hb))
  have HR := fun W (hb : Below w.heap.size w W) => Lib.hid (p_range (h.later hb) 0 E.length)
  rw [subE_all] at HR
  clear h
  have HB0 := Lib.hid (drewB w 1)
  have HLA := HL _ HB0.out
  go_enter Tryz.func152, Tryz.ntmps152
  go_wp2_with fail
  have S0 : True := trivial
  have hm1 := meth_plen b
  have hm2 := meth_prange b
  have hm3 := nil_prange b
  refine Sched.region_sched [(0, true), (1, true), (3, true), (4, true), (5, true), (2, false), (6, false), (7, false), (8, true)] (fun W => True) (by kernel_rfl) (by kernel_rfl) rfl (by kernel_rfl) (fun _ _ _ d _ h => by cases d <;> exact h) S0 ?_
  intro L hL
  simp only [Sched.picks, List.getElem?_toArray, List.getElem?_cons_zero, List.getElem?_cons_succ] at hL
  subst hL
  repeat (first
    | (refine Sched.sched_take (v := ?_) (by rfl) ?_ ?_
       rotate_left
       (focus (intro w' hSw; (try dsimp only at hSw); go_simp; (try with_reducible rfl); done))
       simp only [Act.put, List.setIfInBounds_toArray, List.set_cons_zero, List.set_cons_succ]))
  refine Sched.sched_do (by rfl) fun K' hK => ?_
  go_simp
  go_at_call 104; refine HLA.out.mono ?_; rintro e w1 ⟨rfl, hb⟩
  have HB1 := Lib.hid (HB0.out.trans (hb.mono HB0.out.size))
  have HRA := HR w1 HB1.out
  clear hb HLA HL HR
  refine hK _ _ trivial ?_
  clear hK K'
  repeat (first
    | (refine Sched.sched_take (v := ?_) (by rfl) ?_ ?_
       rotate_left
       (focus (intro w' hSw; (try dsimp only at hSw); go_simp; (try with_reducible rfl); done))
       simp only [Act.put, List.setIfInBounds_toArray, List.set_cons_zero, List.set_cons_succ]))
  refine Sched.sched_do (by rfl) fun K' hK => ?_
  go_simp
  go_at_call 276; refine HRA.out.mono ?_; rintro e w2 ⟨r, rfl, hr, hb⟩
  have HB2 := Lib.hid (HB1.out.trans (hb.mono HB1.out.size))
  have HR2 := Lib.hid (hr.mono HB1.out.size)
  have hz := HB2.out.size
  obtain ⟨ra, rc, rfl⟩ := hr.form
  have HV := Lib.hid (values_mk ra E.length rc w2)
  clear hb HRA hr
  refine hK _ _ trivial ?_
  clear hK K'
  repeat (first
    | (refine Sched.sched_take (v := ?_) (by rfl) ?_ ?_
       rotate_left
       (focus (intro w' hSw; (try dsimp only at hSw); go_simp; (try with_reducible rfl); done))
       simp only [Act.put, List.setIfInBounds_toArray, List.set_cons_zero, List.set_cons_succ]))
  refine Sched.sched_do (by rfl) fun K' hK => ?_
  go_simp
  go_at_call 178; refine HV.out.mono ?_; rintro e w3 ⟨rfl, rfl⟩
  clear HV
  refine hK _ _ trivial ?_
  clear hK K'
  repeat (first
    | (refine Sched.sched_take (v := ?_) (by rfl) ?_ ?_
       rotate_left
       (focus (intro w' hSw; (try dsimp only at hSw); go_simp; (try with_reducible rfl); done))
       simp only [Act.put, List.setIfInBounds_toArray, List.set_cons_zero, List.set_cons_succ]))
  refine Sched.sched_nil ?_
  go_wp2_with fail
  go_ret
  exact ⟨_, _, rfl, Blk.new _ _ _, hz, HR2.out.later (alloc_below _ _), HB2.out.alloc hz _⟩
theorem nil_lrange (W : World) (l : Nat) :
    (nilAhead 498 175 (.pointer (some ⟨l, 0, none⟩)) "Range").run Tryz.prog W = .ok (some false) W := by
  cases hi : Tryz.prog.info? 175 with
  | none => exact absurd (congrArg Option.isSome hi) (by rw [show (Tryz.prog.info? 175).isSome = true by kernel_rfl]; decide)
  | some i =>
    have hm : ((Tryz.prog.info? 175).bind fun i => (i.methods.find? (·.name == "Range")).map fun m => (m.path.toList, m.func)) = some ([{ struct := 234, index := 0, deref := true }], some (300, true)) := by kernel_rfl
    rw [hi] at hm
    cases hf : i.methods.find? (·.name == "Range") with
    | none => rw [Option.bind_some, hf] at hm; cases hm
    | some mm =>
      rw [Option.bind_some, hf] at hm
      simp only [Option.map_some, Option.some.injEq, Prod.mk.injEq] at hm
      have hu := run_underlying (P := Tryz.prog) Tryz.underlying234
      unfold nilAhead
      simp [typeInfo, hi, hf, hm.1, hm.2, followBlind, hu, go_sem]
set_option maxRecDepth 100000 in
theorem l_thru (h : LAt w l p q D sd L m n) (hN : L.length ≤ 100000) : Calls Tryz.prog 152 #[.iface 175 (.pointer (some ⟨l, 0, none⟩))] w (Thru w (L.map en)) := by
  have HL := fun W (hb : Below w.heap.size w W) => Lib.hid (len_any p L rfl (h.later hb).ls.sk)
  have HR := fun W (hb : Below w.heap.size w W) => Lib.hid (l_range (h.later hb).ls hN 0 L.length)
  have hls : (L.map en).length = L.length := List.length_map ..
  have hsu : subE (L.map en) 0 (L.length : Int) = L.map en := by rw [← hls]; exact subE_all _
  simp only [hsu] at HR
  have HS := fun W (hb : Below w.heap.size w W) => Lib.hid (show W.cell? ⟨l, 0, none⟩ = some (.pointer (some ⟨p, 0, none⟩)) from (facts2 (h.later hb).blk).1)
  clear hsu
  clear h
  have HB0 := Lib.hid (show Below w.heap.size w w.drew from drewB w 1)
  have HLA := HL _ HB0.out
  go_enter Tryz.func152, Tryz.ntmps152
  go_wp2_with fail
  have S0 := (HS _ HB0.out).out
  have hm1 := meth_len S0
  refine Sched.region_sched [(0, true), (1, true), (3, true), (4, true), (5, true), (2, false), (6, false), (7, false), (8, true)] (fun W => W.cell? ⟨l, 0, none⟩ = some (.pointer (some ⟨p, 0, none⟩))) (by kernel_rfl) (by kernel_rfl) rfl (by kernel_rfl) (fun _ _ _ d _ h => by cases d <;> exact h) S0 ?_
  intro L hL
  simp only [Sched.picks, List.getElem?_toArray, List.getElem?_cons_zero, List.getElem?_cons_succ] at hL
  subst hL
  repeat (first
    | (refine Sched.sched_take (v := ?_) (by rfl) ?_ ?_
       rotate_left
       (focus (intro w' hSw; (try dsimp only at hSw); have hm3 := nil_lrange w' l; go_simp; (try with_reducible rfl); done))
       simp only [Act.put, List.setIfInBounds_toArray, List.set_cons_zero, List.set_cons_succ]))
  refine Sched.sched_do (by rfl) fun K' hK => ?_
  go_simp
  go_at_call 299; refine HLA.out.mono ?_; rintro e w1 ⟨rfl, rfl⟩
  have HB1 := HB0
  have hm2 := meth_range S0
  have HRA := HR _ HB1.out
  clear HLA HL HR
  refine hK _ _ S0 ?_
  clear hK K'
  repeat (first
    | (refine Sched.sched_take (v := ?_) (by rfl) ?_ ?_
       rotate_left
       (focus (intro w' hSw; (try dsimp only at hSw); go_simp; (try with_reducible rfl); done))
       simp only [Act.put, List.setIfInBounds_toArray, List.set_cons_zero, List.set_cons_succ]))
  refine Sched.sched_do (by rfl) fun K' hK => ?_
  go_simp
  go_at_call 300; refine HRA.out.mono ?_; rintro e w2 ⟨r, rfl, hr, hb⟩
  have HB2 := Lib.hid (HB1.out.trans (hb.mono HB1.out.size))
  have HR2 := Lib.hid (hr.mono HB1.out.size)
  have hz := HB2.out.size
  obtain ⟨ra, rc, rfl⟩ := hr.form
  have HV := Lib.hid (values_mk ra (L.map en).length rc w2)
  rw [hls] at HV
  have S2 := (HS _ HB2.out).out
  clear hb HRA hr
  refine hK _ _ S2 ?_
  clear hK K'
  repeat (first
    | (refine Sched.sched_take (v := ?_) (by rfl) ?_ ?_
       rotate_left
       (focus (intro w' hSw; (try dsimp only at hSw); go_simp; (try with_reducible rfl); done))
       simp only [Act.put, List.setIfInBounds_toArray, List.set_cons_zero, List.set_cons_succ]))
  refine Sched.sched_do (by rfl) fun K' hK => ?_
  go_simp
  go_at_call 178; refine HV.out.mono ?_; rintro e w3 ⟨rfl, rfl⟩
  have S3 := (HS _ (HB2.out.alloc hz (.cells #[.slice ra L.length rc] 55))).out
  clear HV
  refine hK _ _ S3 ?_
  clear hK K'
  repeat (first
    | (refine Sched.sched_take (v := ?_) (by rfl) ?_ ?_
       rotate_left
       (focus (intro w' hSw; (try dsimp only at hSw); go_simp; (try with_reducible rfl); done))
       simp only [Act.put, List.setIfInBounds_toArray, List.set_cons_zero, List.set_cons_succ]))
  refine Sched.sched_nil ?_
  go_wp2_with fail
  go_ret
  rw [hls] at HR2
  exact ⟨_, _, rfl, Blk.new _ _ _, hz, HR2.out.later (alloc_below _ _), HB2.out.alloc hz _⟩
end Go.Proofs.YtpfoicpnpgojdaaGreatDoor
