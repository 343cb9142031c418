/- The entries whose members are in at least so many sets. -/
import Derived.Test.YtjilfgkoibbcnaaDoorThru
namespace Go.Proofs.YtjilfgkoibbcnaaDoor
open Go.RowKit Go.Shelf
attribute [local go_sem] Oper.semAt_some

/-- How often each member came. -/
def cntM (xs : List (Nat × Ent)) : List Ent := xs.foldl (fun M x => putM M x.2.1 ((getM M x.2.1).getD 0 + 1)) []
theorem cntM_snoc (xs : List (Nat × Ent)) (x : Nat × Ent) : cntM (xs ++ [x]) = putM (cntM xs) x.2.1 ((getM (cntM xs) x.2.1).getD 0 + 1) := by unfold cntM; rw [List.foldl_append]; rfl
def cntOf (xs : List (Nat × Ent)) (m : ByteArray) : Nat := (xs.filter fun x => decide (x.2.1 = m)).length
theorem snoc_ind {α : Type} {p : List α → Prop} (l : List α) (h0 : p []) (hs : ∀ l x, p l → p (l ++ [x])) : p l := by
  rw [← List.reverse_reverse l]
  induction l.reverse with
  | nil => exact h0
  | cons x r ih => rw [List.reverse_cons]; exact hs _ _ ih
theorem cntM_get (xs : List (Nat × Ent)) (m : ByteArray) : (getM (cntM xs) m).getD 0 = cntOf xs m := by
  induction xs using snoc_ind with
  | h0 => rfl
  | hs xs x ih =>
    rw [cntM_snoc, getM_put]
    unfold cntOf at *
    rw [List.filter_append, List.length_append]
    by_cases e : x.2.1 = m
    · subst e
      rw [if_pos rfl, ih]
      simp
    · rw [if_neg e, ih]
      simp [e]
theorem cntOf_le (xs : List (Nat × Ent)) (m : ByteArray) : cntOf xs m ≤ xs.length := List.length_filter_le _ _
theorem cntM_len (xs : List (Nat × Ent)) : (cntM xs).length ≤ xs.length := by
  induction xs using snoc_ind with
  | h0 => simp [cntM]
  | hs xs x ih =>
    rw [cntM_snoc, List.length_append]
    have := len_put (cntM xs) x.2.1 ((getM (cntM xs) x.2.1).getD 0 + 1)
    simp only [List.length_singleton]
    omega
theorem seqFrom_len (ls : List (List Ent)) (h : ∀ l ∈ ls, l.length ≤ 1000) : ∀ p, (seqFrom p ls).length ≤ ls.length * 1000 := by
  induction ls with
  | nil => intro p; simp [seqFrom]
  | cons l r ih =>
    intro p
    have h1 := ih (fun l hl => h l (List.mem_cons_of_mem _ hl)) (p + 1)
    have h2 := h l List.mem_cons_self
    simp only [seqFrom, List.length_append, List.length_map, List.length_cons]
    omega
theorem seqOf_len {ls : List (List Ent)} (h : OkS ls) : (seqOf ls).length ≤ 1000000 := by
  have := seqFrom_len ls (fun l hl => (h.2 l hl).1) 0
  have := h.1
  unfold seqOf
  omega
theorem seqOf_ok {ls : List (List Ent)} (h : OkS ls) {x : Nat × Ent} (hx : x ∈ seqOf ls) : x.1 < ls.length ∧ x.2.1.size ≤ 1000000 ∧ I64 x.2.2 := by
  obtain ⟨_, h1, l, hl, hm⟩ := seqFrom_mem ls 0 x hx
  exact ⟨by omega, (h.2 l hl).2.2 _ hm⟩

theorem Blk.turned {W W' : World} {b : Nat} {t : TypeId} {c : Array Value} {row : Option Nat} (h : Blk W b t c) (hg : W.grownBy W' row) (hne : some b ≠ row) : Blk W' b t c := (hg.block b h.lt hne).trans h
/-- What a store into a map leaves of all else. -/
theorem keepc_map {W W' : World} {b : Nat} {e : TypeId} {M : List Ent} (hM : MapIs W e b M) (hg : W.grownBy W' (some b)) : KeepC [b] W W' := by
  obtain ⟨es, c, hb⟩ := hM.blk
  refine KeepC.of_grownBy hg (fun k c t ek hk => ?_) (fun k es c ek _ => ?_)
  · cases ek
    rw [hb] at hk; cases hk
  · cases ek; exact List.mem_singleton.2 rfl

set_option maxRecDepth 100000 in
set_option maxHeartbeats 4000000 in
theorem shared_any (least : Int) (ls : List (List Ent)) (hls : OkS ls) (a : Option Addr) (cap : Nat) (w : World) (hS : Sets w a ls) :
    Calls Tryd.prog 39 #[.int .i64 least, .slice a ls.length cap] w fun e w' => ∃ b1 b2 b3 c, e = .returned (.func (.func 52) #[] #[.pointer (some ⟨b1, 0, none⟩), .pointer (some ⟨b2, 0, none⟩), .pointer (some ⟨b3, 0, none⟩)]) ∧
      Blk w' b1 22 #[.slice a ls.length cap] ∧ Blk w' b2 76 #[.map (some c)] ∧ Blk w' b3 3 #[.int .i64 least] ∧ MapIs w' 3 c (cntM (seqOf ls)) ∧ w.heap.size ≤ c ∧ Below w.heap.size w w' := by
  have hmm := @run_makeMap Tryd.prog
  have hlen := seqOf_len hls
  refine (callsIn_wide (n := 6)).1 (callsIn_of_wp_marks Tryd.func39 rfl trivial ?_ rfl)
  refine wpIn_wide.2 ?_
  simp only [Tryd.ntmps39, List.size_toArray, List.length_cons, List.length_nil, Nat.reduceAdd, Nat.reduceSub, Array.replicate_succ, Array.replicate_zero, List.push_toArray, List.append_toArray, List.nil_append, List.cons_append]
  go_wp2_with fail
  refine (through_any _ _ _ _).mono ?_
  rintro e w1 ⟨rfl, rfl⟩
  go_wp2_with fail
  obtain ⟨n, hn⟩ : ∃ n, w.heap.size = n := ⟨_, rfl⟩
  obtain ⟨w1, hw1⟩ : ∃ w1, (((((w.alloc (Obj.cells #[Value.int IntKind.i64 least] 3)).alloc (Obj.cells #[Value.slice a ls.length cap] 22)).alloc (Obj.map #[] 0)).alloc (Obj.cells #[Value.map (some (w.heap.size + 1 + 1))] 76)).alloc (Obj.cells #[Value.slice a ls.length cap] 22)) = w1 := ⟨_, rfl⟩
  have k0 : Blk w1 n 3 #[.int .i64 least] := by
    rw [← hw1, ← hn]
    exact ((((Blk.new w 3 #[.int .i64 least]).alloc _).alloc _).alloc _).alloc _
  have k1 : Blk w1 (n + 1) 22 #[.slice a ls.length cap] := by
    have := (((Blk.new (w.alloc (Obj.cells #[Value.int IntKind.i64 least] 3)) 22 #[.slice a ls.length cap]).alloc (Obj.map #[] 0)).alloc (Obj.cells #[Value.map (some (w.heap.size + 1 + 1))] 76)).alloc (Obj.cells #[Value.slice a ls.length cap] 22)
    rwa [World.size_alloc, hw1, hn] at this
  have k2 : MapIs w1 3 (n + 1 + 1) [] := by
    have := ((MapIs.made ((w.alloc (Obj.cells #[Value.int IntKind.i64 least] 3)).alloc (Obj.cells #[Value.slice a ls.length cap] 22)) 3).alloc (Obj.cells #[Value.map (some (w.heap.size + 1 + 1))] 76)).alloc (Obj.cells #[Value.slice a ls.length cap] 22)
    rwa [World.size_alloc, World.size_alloc, hw1, hn] at this
  have k3 : Blk w1 (n + 1 + 1 + 1) 76 #[.map (some (n + 1 + 1))] := by
    have := (Blk.new (((w.alloc (Obj.cells #[Value.int IntKind.i64 least] 3)).alloc (Obj.cells #[Value.slice a ls.length cap] 22)).alloc (Obj.map #[] 0)) 76 #[Value.map (some (w.heap.size + 1 + 1))]).alloc (Obj.cells #[Value.slice a ls.length cap] 22)
    rw [World.size_alloc, World.size_alloc, World.size_alloc, hw1, hn] at this
    exact this
  have k4 : Blk w1 (n + 1 + 1 + 1 + 1) 22 #[.slice a ls.length cap] := by
    have := Blk.new ((((w.alloc (Obj.cells #[Value.int IntKind.i64 least] 3)).alloc (Obj.cells #[Value.slice a ls.length cap] 22)).alloc (Obj.map #[] 0)).alloc (Obj.cells #[Value.map (some (w.heap.size + 1 + 1))] 76)) 22 #[.slice a ls.length cap]
    rw [World.size_alloc, World.size_alloc, World.size_alloc, World.size_alloc, hw1, hn] at this
    exact this
  have hB : Below w.heap.size w w1 := by
    rw [← hw1]
    exact (((((Below.refl _ _).alloc (Nat.le_refl _) _).alloc (by simp) _).alloc (by simp only [World.size_alloc]; omega) _).alloc (by simp only [World.size_alloc]; omega) _).alloc (by simp only [World.size_alloc]; omega) _
  have hsz : w1.heap.size = n + 5 := by rw [← hw1, ← hn]; simp
  have hS1 := hS.later hB
  rw [hw1]
  rw [hn]
  have HSq := Lib.hid (thru_any ls hls a cap (n + 1 + 1 + 1 + 1) [n + 1 + 1] w1 hS1 k4)
  have HLS := Lib.hid hls
  clear hw1 hS k4 hmm hls hS1
  refine (wpIn_wide (n := 6)).1 (range_x (gf := 56) (lb := #[.pointer (some ⟨n + 1 + 1 + 1 + 1, 0, none⟩)]) (encs := encP) (xs := seqOf ls) (L := [n + 1 + 1]) rfl (enters_of Tryd.func56 (by kernel_rfl) rfl) HSq.out (fun _ _ => rfl)
    (fun i W => Below w.heap.size w W ∧ Blk W n 3 #[.int .i64 least] ∧ Blk W (n + 1) 22 #[.slice a ls.length cap] ∧ Blk W (n + 1 + 1 + 1) 76 #[.map (some (n + 1 + 1))] ∧ MapIs W 3 (n + 1 + 1) (cntM ((seqOf ls).take i)))
    (fun _ _ _ => False)
    ?hI (fun _ => own_pure _ _) ?h0 (fun i x a' W => ∃ q, a' = { tmps := #[Value.int IntKind.i64 least, Value.slice a ls.length cap, Value.pointer (some { block := n, off := 0 }), Value.pointer (some { block := n + 1, off := 0 }), Value.nilFunc,
          Value.pointer (some { block := n + 1 + 1 + 1, off := 0 }), undef, Value.pointer (some { block := q, off := 0 }), Value.map (some (n + 1 + 1)), Value.slice a ls.length cap,
          Value.func (Fn.func 56) #[] #[Value.pointer (some { block := n + 1 + 1 + 1 + 1, off := 0 })], .int .i64 x.1, .agg #[.string x.2.1, .int .i64 x.2.2], undef, undef, undef, undef, undef, undef], defers := [] } ∧ Blk W q 38 #[.string x.2.1, .int .i64 x.2.2])
    (fun _ _ _ => own_ex fun _ => (own_pure _ _).and (own_blk _ _ _ _)) ?assign ?body ?done (fun _ _ _ _ _ h _ => h.elim))
  case hI => exact (own_below _ w (by omega)).and ((own_blk _ _ _ _).and ((own_blk _ _ _ _).and ((own_blk _ _ _ _).and (MapIs.own _ _ _ (by omega) _))))
  case h0 => exact ⟨hB, k0, k1, k3, k2⟩
  case assign =>
    rintro l i x W K hx' ⟨hb, q0, q1, q3, q2⟩ hK
    unfold encP
    gi_wp2
    have hbw := alloc_below W (Obj.cells #[Value.string x.2.1, Value.int IntKind.i64 x.2.2] 38)
    exact hK _ _ ((KeepsOthers.alloc _ _).from _) (KeepC.of_below hbw) ⟨hb.alloc hb.size _, q0.alloc _, q1.alloc _, q3.alloc _, q2.alloc _⟩ ⟨_, rfl, Blk.new _ _ _⟩
  case body =>
    rintro l i x a' W hx' ⟨hb, q0, q1, q3, q2⟩ ⟨q, rfl, qe⟩
    have hil : i < (seqOf ls).length := (List.getElem?_eq_some_iff.1 hx').1
    have hnx : cntM ((seqOf ls).take (i + 1)) = putM (cntM ((seqOf ls).take i)) x.2.1 ((getM (cntM ((seqOf ls).take i)) x.2.1).getD 0 + 1) := by
      rw [List.take_succ_eq_append_getElem hil, cntM_snoc, (List.getElem?_eq_some_iff.1 hx').2]
    have hct := cntM_get ((seqOf ls).take i) x.2.1
    have hcl := cntOf_le ((seqOf ls).take i) x.2.1
    have hml := cntM_len ((seqOf ls).take i)
    rw [List.length_take] at hcl hml
    obtain ⟨_, hm, _⟩ := seqOf_ok HLS.out (List.mem_of_getElem? hx')
    obtain ⟨i', e⟩ := x
    obtain ⟨m, sc⟩ := e
    simp only at *
    obtain ⟨c3, _⟩ := facts1 q3
    obtain ⟨d0, d1, _, _⟩ := facts2 qe
    rw [hct] at hnx
    have HN := Lib.hid hnx
    have HQ2 := Lib.hid q2
    have HCT := Lib.hid hct
    have hc1 : (cntOf ((seqOf ls).take i) m : Int) ≤ 1000000 := by omega
    have hc0 : (0 : Int) ≤ (cntOf ((seqOf ls).take i) m : Int) := by omega
    generalize hcc : (cntOf ((seqOf ls).take i) m : Int) = c at *
    have HKB := Lib.hid (show Below w.heap.size w W ∧ Blk W n 3 #[.int .i64 least] ∧ Blk W (n + 1) 22 #[.slice a ls.length cap] ∧ Blk W (n + 1 + 1 + 1) 76 #[.map (some (n + 1 + 1))] from ⟨hb, q0, q1, q3⟩)
    have hml2 : (cntM ((seqOf ls).take i)).length ≤ 1000000 := by omega
    have HML := Lib.hid hml2
    clear hx' hnx hct hcl hml hcc hb q0 q1 q3 q2 qe hml2 HSq k0 k1 k2 k3 hB hlen
    gi_wp2_with (first
      | (gi_at_lookup
         refine wpListIn_look rfl _ _ 76 rfl 3 Tryd.underlying76 Tryd.underlying3 (Tryd.zeroValue3 _) (b := n + 1 + 1) rfl HQ2.out m rfl hm ?_
         rw [HCT.out])
      | (gi_at_mapUpdate
         refine wpListIn_put rfl _ _ _ 76 rfl 3 Tryd.underlying76 Tryd.underlying3 (b := n + 1 + 1) rfl HQ2.out HML.out m (c + 1) rfl (by go_num) hm (by unfold I64; omega) ?_
         intro W1 hM1 hg1
         have HM1 := Lib.hid hM1
         have HG1 := Lib.hid hg1
         clear hM1 hg1))
    obtain ⟨hb, q0, q1, q3⟩ := HKB.out
    have hg := HG1.out
    exact ⟨KeepsFrom.of_grownBy hg (fun j e => by cases e; omega), keepc_map HQ2.out hg, hb.grown hg hb.size (fun k e => by cases e; omega), q0.turned hg (by simp; omega), q1.turned hg (by simp), q3.turned hg (by simp), by rw [HN.out]; exact HM1.out⟩
  case done =>
    rintro D W hD ⟨hb, q0, q1, q3, q2⟩ hK
    have HK := Lib.hid hK
    rw [List.take_of_length_le (Nat.le_refl _)] at q2
    have HQ := Lib.hid (show Below w.heap.size w W ∧ Blk W n 3 #[.int .i64 least] ∧ Blk W (n + 1) 22 #[.slice a ls.length cap] ∧ Blk W (n + 1 + 1 + 1) 76 #[.map (some (n + 1 + 1))] ∧ MapIs W 3 (n + 1 + 1) (cntM (seqOf ls)) from ⟨hb, q0, q1, q3, q2⟩)
    clear hK hb q0 q1 q3 q2 HSq k0 k1 k2 k3 hlen
    simp only [Exit.inBlock, Exit.then]
    go_wp2
    obtain ⟨hb, q0, q1, q3, q2⟩ := HQ.out
    exact leave rfl HK.out (results_tmp rfl _ _ _) ⟨_, _, _, _, rfl, q1.put' HK.out _, q3.put' HK.out _, q0.put' HK.out _, q2.put HK.out _, by omega, below_put hb (by omega) _⟩

/-- The entries whose members are in at least so many sets. -/
def keepsX (least : Int) (ls : List (List Ent)) (x : Nat × Ent) : Bool := decide (least ≤ (cntOf (seqOf ls) x.2.1 : Int))
def sharedS (least : Int) (ls : List (List Ent)) : List (Nat × Ent) := (seqOf ls).filter (keepsX least ls)
theorem filter_take_yes {α : Type} (p : α → Bool) (l : List α) (i : Nat) (x : α) (hx : l[i]? = some x) (hp : p x = true) :
    (l.filter p)[((l.take i).filter p).length]? = some x ∧ ((l.take (i + 1)).filter p).length = ((l.take i).filter p).length + 1 := by
  obtain ⟨hi, rfl⟩ := List.getElem?_eq_some_iff.1 hx
  constructor
  · conv => lhs; lhs; rw [← List.take_append_drop i l, List.filter_append, List.drop_eq_getElem_cons hi, List.filter_cons_of_pos hp]
    rw [List.getElem?_append_right (Nat.le_refl _), Nat.sub_self]; rfl
  · rw [List.take_succ_eq_append_getElem hi, List.filter_append, List.length_append, List.filter_cons_of_pos hp]; rfl
theorem filter_take_no {α : Type} (p : α → Bool) (l : List α) (i : Nat) (x : α) (hx : l[i]? = some x) (hp : p x = false) : ((l.take (i + 1)).filter p).length = ((l.take i).filter p).length := by
  obtain ⟨hi, rfl⟩ := List.getElem?_eq_some_iff.1 hx
  rw [List.take_succ_eq_append_getElem hi, List.filter_append, List.length_append, List.filter_cons_of_neg (by simp [hp])]; rfl

set_option maxRecDepth 100000 in
set_option maxHeartbeats 4000000 in
/-- The iterator that tells them. -/
theorem shares_any (least : Int) (ls : List (List Ent)) (hls : OkS ls) (a : Option Addr) (cap b1 b2 b3 c : Nat) (L : List Nat) (hL : c ∉ L) (w : World) (hS : Sets w a ls) (h1 : Blk w b1 22 #[.slice a ls.length cap]) (h2 : Blk w b2 76 #[.map (some c)]) (h3 : Blk w b3 3 #[.int .i64 least])
    (hM : MapIs w 3 c (cntM (seqOf ls))) :
    SeqX Tryd.prog 52 #[.pointer (some ⟨b1, 0, none⟩), .pointer (some ⟨b2, 0, none⟩), .pointer (some ⟨b3, 0, none⟩)] encP (sharedS least ls) L w := by
  intro y J Jx W hW hJ hJx hY hJ0
  refine callsIn_wide.2 ((callsIn_wide (n := 6)).1 (callsIn_of_wp_marks Tryd.func52 rfl trivial ?_ rfl))
  refine wpIn_wide.2 ?_
  simp only [Tryd.ntmps52, List.size_toArray, List.length_cons, List.length_nil, Nat.reduceAdd, Nat.reduceSub, Array.replicate_succ, Array.replicate_zero, List.push_toArray, List.append_toArray, List.nil_append, List.cons_append]
  obtain ⟨c1, _⟩ := facts1 (h1.later hW)
  have HY := Lib.hid hY
  have HW := Lib.hid hW
  have hlt1 : b1 < W.heap.size := (h1.later hW).lt
  clear hY hW
  go_wp2_with fail
  refine (through_any _ _ _ _).mono ?_
  rintro e w1 ⟨rfl, rfl⟩
  go_wp2_with fail
  obtain ⟨n, hn⟩ : ∃ n, W.heap.size = n := ⟨_, rfl⟩
  obtain ⟨w1, hw1⟩ : ∃ w1, ((W.alloc (Obj.cells #[Value.func (Fn.yield y) #[] #[]] 77)).alloc (Obj.cells #[Value.slice a ls.length cap] 22)) = w1 := ⟨_, rfl⟩
  have k0 : Blk w1 n 77 #[Value.func (Fn.yield y) #[] #[]] := by
    rw [← hw1, ← hn]
    exact (Blk.new W 77 #[Value.func (Fn.yield y) #[] #[]]).alloc _
  have k1 : Blk w1 (n + 1) 22 #[.slice a ls.length cap] := by
    have := Blk.new (W.alloc (Obj.cells #[Value.func (Fn.yield y) #[] #[]] 77)) 22 #[.slice a ls.length cap]
    rwa [World.size_alloc, hw1, hn] at this
  have hB : Below W.heap.size W w1 := by
    rw [← hw1]
    exact ((Below.refl _ _).alloc (Nat.le_refl _) _).alloc (by simp) _
  have hsz : w1.heap.size = n + 2 := by rw [← hw1, ← hn]; simp
  have hBw : Below w.heap.size w w1 := HW.out.trans (hB.mono HW.out.size)
  have hS1 := hS.later hBw
  have j2 := h2.later hBw
  have j3 := h3.later hBw
  have jM := hM.later hBw
  have hcn : c < n := by have := hM.lt; have := HW.out.size; omega
  have hJ1 : J 0 w1 := by rw [← hw1]; exact hJ.alloc _ (hJ.alloc _ hJ0)
  rw [hw1]
  rw [hn]
  rw [hn] at hJ hJx HY
  have HSq := Lib.hid (thru_any ls hls a cap (n + 1) L w1 hS1 k1)
  have HLS := Lib.hid hls
  clear hw1 hS k1 hls hS1 hBw h1 h2 h3 hM hJ0 c1 hB
  have hJ2 : OwnFrom w1.heap.size J := own_up hJ (by omega)
  have hJx2 : OwnFrom w1.heap.size Jx := own_up hJx (by omega)
  have hzm : ∀ (i : Nat) x, (seqOf ls)[i]? = some x → x.2.1.size ≤ 1000000 := fun i x hx => (seqOf_ok HLS.out (List.mem_of_getElem? hx)).2.1
  refine (wpIn_wide (n := 6)).1 (range_x (gf := 56) (lb := #[.pointer (some ⟨n + 1, 0, none⟩)]) (encs := encP) (xs := seqOf ls) (L := L) rfl (enters_of Tryd.func56 (by kernel_rfl) rfl) HSq.out (fun _ _ => rfl)
    (fun i W => Blk W n 77 #[Value.func (Fn.yield y) #[] #[]] ∧ Blk W b2 76 #[.map (some c)] ∧ Blk W b3 3 #[.int .i64 least] ∧ MapIs W 3 c (cntM (seqOf ls)) ∧ J (((seqOf ls).take i).filter (keepsX least ls)).length W)
    (fun k _ W => k = .ret ∧ ∃ i, Jx i W)
    ?hI ?hIx ?h0 (fun i x a' W => ∃ q, (∃ u9 u10, a' = { tmps := #[Value.func (Fn.yield y) #[] #[], Value.pointer (some { block := b1, off := 0 }), Value.pointer (some { block := b2, off := 0 }), Value.pointer (some { block := b3, off := 0 }),
          Value.pointer (some { block := n, off := 0 }), .int .i64 x.1, Value.pointer (some { block := q, off := 0 }), Value.slice a ls.length cap,
          Value.func (Fn.func 56) #[] #[Value.pointer (some { block := n + 1, off := 0 })], u9, u10, undef, undef, undef, undef, undef, undef, undef, undef, undef, undef, undef, undef, undef], defers := [] }) ∧ Blk W q 38 #[.string x.2.1, .int .i64 x.2.2])
    (fun _ _ _ => own_ex fun _ => (own_pure _ _).and (own_blk _ _ _ _)) ?assign ?body ?done ?stop)
  case hI => exact (own_blk _ _ _ _).and ((own_blk _ _ _ _).and ((own_blk _ _ _ _).and ((MapIs.own _ _ _ (by omega) (fun _ => cntM (seqOf ls))).and (fun s X Y row hs hg hr => hJ2 _ X Y row hs hg hr))))
  case hIx => exact fun k s X Y row ⟨hk, i, hs⟩ hg hr => ⟨hk, i, hJx2 _ X Y row hs hg hr⟩
  case h0 => exact ⟨k0, j2, j3, jM, hJ1⟩
  case assign =>
    rintro l i x W1 K hx' ⟨q0, q2, q3, qM, qJ⟩ hK
    unfold encP
    clear HSq
    gi_wp2
    have hbw := alloc_below W1 (Obj.cells #[Value.string x.2.1, Value.int IntKind.i64 x.2.2] 38)
    exact hK _ _ ((KeepsOthers.alloc _ _).from _) (KeepC.of_below hbw) ⟨q0.alloc _, q2.alloc _, q3.alloc _, qM.alloc _, hJ2.alloc _ qJ⟩ ⟨_, ⟨_, _, rfl⟩, Blk.new _ _ _⟩
  case body =>
    rintro l i x a' W1 hx' ⟨q0, q2, q3, qM, qJ⟩ ⟨q, ⟨u9, u10, rfl⟩, qe⟩
    have hm := hzm i x hx'
    have hct := cntM_get (seqOf ls) x.2.1
    obtain ⟨c0, _⟩ := facts1 q0
    obtain ⟨c2, _⟩ := facts1 q2
    obtain ⟨c3, _⟩ := facts1 q3
    obtain ⟨d0, d1, _, _⟩ := facts2 qe
    have HM := Lib.hid qM
    have HCT := Lib.hid hct
    have HKB := Lib.hid (show Blk W1 n 77 #[Value.func (Fn.yield y) #[] #[]] ∧ Blk W1 b2 76 #[.map (some c)] ∧ Blk W1 b3 3 #[.int .i64 least] from ⟨q0, q2, q3⟩)
    have hkx : keepsX least ls x = decide (least ≤ (cntOf (seqOf ls) x.2.1 : Int)) := rfl
    cases hp : keepsX least ls x with
    | false =>
      have hno := filter_take_no _ _ i x hx' hp
      rw [hp] at hkx
      have hle : ¬ least ≤ (cntOf (seqOf ls) x.2.1 : Int) := of_decide_eq_false hkx.symm
      have HNO := Lib.hid hno
      have HJ := Lib.hid qJ
      obtain ⟨i', e⟩ := x
      obtain ⟨m, sc⟩ := e
      simp only at *
      generalize (cntOf (seqOf ls) m : Int) = cc at *
      clear hx' hno hct q0 q2 q3 qM qJ qe HSq k0 j2 j3 jM hJ1 hkx hp hzm hJ hJx hJ2 hJx2
      gi_wp2_with (
          gi_at_lookup
          refine wpListIn_look rfl _ _ 76 rfl 3 Tryd.underlying76 Tryd.underlying3 (Tryd.zeroValue3 _) (b := c) rfl HM.out m rfl hm ?_
          rw [HCT.out])
      refine ⟨fun _ h => (by cases h), ?_⟩
      gi_wp2
      obtain ⟨q0, q2, q3⟩ := HKB.out
      exact ⟨KeepsFrom.refl _ _, KeepC.refl _ _, q0, q2, q3, HM.out, by rw [HNO.out]; exact HJ.out⟩
    | true =>
      obtain ⟨hyes, hlen⟩ := filter_take_yes _ _ i x hx' hp
      rw [hp] at hkx
      have hle : least ≤ (cntOf (seqOf ls) x.2.1 : Int) := of_decide_eq_true hkx.symm
      obtain ⟨fn, tmps, assign, body, hy, hR⟩ := HY.out _ x W1 hyes qJ
      have HLEN := Lib.hid hlen
      have HRR := Lib.hid hR
      obtain ⟨i', e⟩ := x
      obtain ⟨m, sc⟩ := e
      unfold encP at hy
      simp only at *
      generalize (cntOf (seqOf ls) m : Int) = cc at *
      clear hx' hyes hlen hct q0 q2 q3 qM qJ qe HSq k0 j2 j3 jM hJ1 hkx hp hzm hJ hJx hJ2 hJx2 hR
      gi_wp2_with (
          gi_at_lookup
          refine wpListIn_look rfl _ _ 76 rfl 3 Tryd.underlying76 Tryd.underlying3 (Tryd.zeroValue3 _) (b := c) rfl HM.out m rfl hm ?_
          rw [HCT.out])
      refine (RoundIn.inRound (l' := l) (RoundIn.anyDepth (m' := 3) rfl HRR.out)).mono ?_
      rintro e W3 (⟨rfl, hJ3, hk3, hf3⟩ | ⟨rfl, hJx3, hf3⟩)
      · have HJ3 := Lib.hid hJ3
        have HK3 := Lib.hid hk3
        have HF3 := Lib.hid hf3
        clear hJ3 hk3 hf3 hy c0 c2 c3 d0 d1
        gi_wp2
        obtain ⟨q0, q2, q3⟩ := HKB.out
        exact ⟨keeps_up HF3.out (by omega), HK3.out, q0.keep HK3.out, q2.keep HK3.out, q3.keep HK3.out, HM.out.keep HK3.out hL, by rw [HLEN.out]; exact HJ3.out⟩
      · have HJ3 := Lib.hid hJx3
        have HF3 := Lib.hid hf3
        clear hJx3 hf3 hy c0 c2 c3 d0 d1
        gi_wp2
        exact ⟨keeps_up HF3.out (by omega), rfl, _, HJ3.out⟩
  case done =>
    rintro D W1 hD ⟨_, _, _, _, qJ⟩ hK
    have HK := Lib.hid hK
    rw [List.take_of_length_le (Nat.le_refl _)] at qJ
    have HJ := Lib.hid (show J (sharedS least ls).length (W1.putObj D (.deferred none)) from hJ.putObj _ qJ (by omega) hK rfl)
    clear hK qJ HSq k0 j2 j3 jM hJ1 hzm hJ hJx hJ2 hJx2
    simp only [Exit.inBlock]
    go_wp2
    exact leave rfl HK.out (results_none rfl _ _ _) ⟨⟨_, rfl⟩, .inl HJ.out⟩
  case stop =>
    rintro D k i W1 hD ⟨rfl, j, hj⟩ hK
    have HK := Lib.hid hK
    have HJ := Lib.hid (show Jx j (W1.putObj D (.deferred none)) from hJx.putObj _ hj (by omega) hK rfl)
    clear hK hj HSq k0 j2 j3 jM hJ1 hzm hJ hJx hJ2 hJx2
    refine wpIn_wide.2 ?_
    go_wp2
    exact leave rfl HK.out (results_none rfl _ _ _) ⟨⟨_, rfl⟩, .inr ⟨_, HJ.out⟩⟩
end Go.Proofs.YtjilfgkoibbcnaaDoor
