/- Step: slots are moved, one by one. -/
import Derived.Test.YtifbambalfifaaaMove
namespace Go.Proofs.Ytifbambalfifaaa
open Go.RowKit Go.Shelf
attribute [local go_sem] Oper.semAt_some

/-- How many slots are left to move. -/
def Dc.left (D : Dc) : Nat := if D.b = [] then 0 else D.a.length - D.place
def Dc.run : Nat → Dc → Dc
  | 0, D => D
  | k + 1, D => (Dc.run k D).move1
def Dc.step (n : Nat) (D : Dc) : Dc := Dc.run (min n D.left) D

theorem putL_ne {rows : List (List Nd)} (h : rows ≠ []) (xs : List Nd) : putL rows xs ≠ [] := fun e => by
  have := congrArg List.length e
  rw [putL_len] at this
  exact h (List.eq_nil_of_length_eq_zero (by simpa using this))
theorem flatten_set_nil (rows : List (List Nd)) : ∀ i, (rows.set i []).flatten.length + (rows.getD i []).length = rows.flatten.length := by
  induction rows with
  | nil => intro i; simp
  | cons y rows ih =>
    intro i
    cases i with
    | zero => simp; omega
    | succ i => have := ih i; simp at this ⊢; omega
theorem putR_fine {T : Ty} (rows : List (List Nd)) (x : Nd) (hx : x.fine T) (h : ∀ r ∈ rows, ∀ y ∈ r, y.fine T) : ∀ r ∈ putR rows x, ∀ y ∈ r, y.fine T := by
  intro r hr y hy
  unfold putR at hr
  rcases List.mem_or_eq_of_mem_set hr with h1 | rfl
  · exact h r h1 y hy
  · rcases List.mem_append.1 hy with h1 | h1
    · rw [List.getD_eq_getElem?_getD] at h1
      cases hg : rows[x.sum % rows.length]? with
      | none => rw [hg] at h1; simp at h1
      | some r0 => rw [hg] at h1; exact h r0 (List.mem_of_getElem? hg) y h1
    · simp at h1; subst h1; exact hx
theorem putL_fine {T : Ty} (xs : List Nd) : ∀ rows : List (List Nd), (∀ x ∈ xs, x.fine T) → (∀ r ∈ rows, ∀ y ∈ r, y.fine T) → ∀ r ∈ putL rows xs, ∀ y ∈ r, y.fine T := by
  induction xs with
  | nil => intro rows _ h; exact h
  | cons x xs ih => intro rows hx h; exact ih (putR rows x) (fun y hy => hx y (List.mem_cons_of_mem _ hy)) (putR_fine rows x (hx x (List.mem_cons_self ..)) h)
theorem getD_mem {rows : List (List Nd)} {i : Nat} {x : Nd} (h : x ∈ rows.getD i []) : ∃ r ∈ rows, x ∈ r := by
  rw [List.getD_eq_getElem?_getD] at h
  cases hg : rows[i]? with
  | none => rw [hg] at h; simp at h
  | some r0 => rw [hg] at h; exact ⟨r0, List.mem_of_getElem? hg, h⟩
theorem flatten_nils (rows : List (List Nd)) (h : ∀ i, i < rows.length → rows.getD i [] = []) : rows.flatten.length = 0 := by
  induction rows with
  | nil => rfl
  | cons y rows ih =>
    have h0 := h 0 (by simp)
    have h1 := ih fun i hi => by have := h (i + 1) (by simp; omega); simpa using this
    simp at h0 h1 ⊢
    exact ⟨h0, h1⟩
theorem getD_set_ne (rows : List (List Nd)) (i j : Nat) (r : List Nd) (h : j ≠ i) : (rows.set i r).getD j [] = rows.getD j [] := by
  rw [List.getD_eq_getElem?_getD, List.getD_eq_getElem?_getD, List.getElem?_set_ne (fun e => h e.symm)]
theorem getD_set_nil (rows : List (List Nd)) (i : Nat) : (rows.set i []).getD i [] = [] := by
  rw [List.getD_eq_getElem?_getD, List.getElem?_set, if_pos rfl]
  split <;> rfl
theorem Dc.Ok.move1 {T : Ty} {D : Dc} (h : D.Ok T) (hb : D.b ≠ []) : D.move1.Ok T := by
  have hp := h.place hb
  have hf : ∀ x ∈ D.a.getD D.place [], x.fine T := fun x hx => by obtain ⟨r, hr, hx⟩ := getD_mem hx; exact h.fine r (.inl hr) x hx
  have hput := putL_fine _ D.b hf (fun r hr => h.fine r (.inr hr))
  have hlen := putL_len (D.a.getD D.place []) D.b
  have hbl := isS_pos (h.b hb)
  have htot := putL_total (D.a.getD D.place []) D.b (by omega)
  have hset := flatten_set_nil D.a D.place
  unfold Dc.move1
  split
  · rename_i hl
    refine ⟨by rw [hlen]; exact h.b hb, fun e => absurd rfl e, fun e => absurd rfl e, fun _ => rfl, fun i hi => absurd hi (Nat.not_lt_zero _), ?_, ?_⟩
    · simp only [List.flatten_nil, List.length_nil]
      have := h.n
      have h0 := flatten_nils (D.a.set D.place []) (fun i hi => by
        rw [List.length_set] at hi
        by_cases e : i = D.place
        · subst e; exact getD_set_nil _ _
        · rw [getD_set_ne _ _ _ _ e]; exact h.past i (by omega))
      omega
    · intro r hr x hx
      rcases hr with hr | hr
      · exact hput r hr x hx
      · simp at hr
  · rename_i hl
    refine ⟨by rw [List.length_set]; exact h.a, fun _ => by rw [hlen]; exact h.b hb, fun _ => by rw [List.length_set]; show D.place + 1 < _; omega, fun e => absurd e (putL_ne hb _), fun i hi => ?_, ?_, ?_⟩
    · have hi' : i < D.place + 1 := hi
      show (D.a.set D.place []).getD i [] = []
      by_cases e : i = D.place
      · subst e; exact getD_set_nil _ _
      · rw [getD_set_ne _ _ _ _ e]; exact h.past i (by omega)
    · show D.n = (D.a.set D.place []).flatten.length + (putL D.b _).flatten.length
      have := h.n
      omega
    · intro r hr x hx
      rcases hr with hr | hr
      · rcases List.mem_or_eq_of_mem_set hr with h1 | rfl
        · exact h.fine r (.inl h1) x hx
        · simp at hx
      · exact hput r hr x hx
theorem left_move1 {T : Ty} {D : Dc} (h : D.Ok T) (hb : D.b ≠ []) : D.move1.left = D.left - 1 ∧ 0 < D.left ∧ (1 < D.left → D.move1.b ≠ [] ∧ D.move1.place = D.place + 1) := by
  have hp := h.place hb
  have hl : D.left = D.a.length - D.place := by unfold Dc.left; rw [if_neg hb]
  unfold Dc.move1
  split
  · rename_i e
    refine ⟨?_, by omega, fun h1 => by omega⟩
    rw [hl]
    unfold Dc.left
    rw [if_pos rfl]
    omega
  · rename_i e
    refine ⟨?_, by omega, fun h1 => ⟨putL_ne hb _, rfl⟩⟩
    rw [hl]
    unfold Dc.left
    rw [if_neg (putL_ne hb _)]
    simp only [List.length_set]
    omega
theorem move1_n (D : Dc) : D.move1.n = D.n := by unfold Dc.move1; split <;> rfl
/-- Behind some slots, while there are more. -/
theorem run_facts {T : Ty} {D : Dc} (h : D.Ok T) : ∀ k, k ≤ D.left → (Dc.run k D).Ok T ∧ (Dc.run k D).left = D.left - k ∧ (Dc.run k D).n = D.n ∧ (k < D.left → (Dc.run k D).b ≠ [] ∧ (Dc.run k D).place = D.place + k) := by
  intro k
  induction k with
  | zero =>
    intro _
    refine ⟨h, rfl, rfl, fun h0 => ⟨fun e => ?_, rfl⟩⟩
    have h1 : 0 < D.left := h0
    unfold Dc.left at h1
    rw [if_pos (show D.b = [] from e)] at h1
    exact absurd h1 (Nat.lt_irrefl 0)
  | succ k ih =>
    intro hk
    obtain ⟨h1, h2, h3, h4⟩ := ih (by omega)
    obtain ⟨h5, h6⟩ := h4 (by omega)
    obtain ⟨h7, h8, h9⟩ := left_move1 h1 h5
    refine ⟨h1.move1 h5, ?_, (move1_n _).trans h3, fun hlt => ?_⟩
    · show (Dc.run k D).move1.left = _
      omega
    · obtain ⟨h10, h11⟩ := h9 (by omega)
      refine ⟨h10, ?_⟩
      show (Dc.run k D).move1.place = _
      omega

def encI (_ : Nat) (x : Nat) : Array Value := #[.int .i64 x]

section
variable {S : Nat → Prop} {p seed : Nat} {D : Dc} {w : World}

set_option maxRecDepth 100000 in
set_option maxHeartbeats 4000000 in
theorem unmoved_any (h : Rep tyI w p S seed D) (ok : D.Ok tyI) (L : List Nat) : SeqF Try.prog 45 #[.pointer (some ⟨p, 0, none⟩)] #[] encI (List.range' D.place D.left) L w := by
  intro l J Jx W hW hJ hJx hY hJ0
  have hR := h.later hW
  have hmv := moving_any hR
  refine callsIn_of_wp Try.func45 rfl trivial ?_ rfl
  simp only [Try.ntmps45, List.size_toArray, List.length_cons, List.length_nil, Nat.reduceAdd, Nat.reduceSub, Array.replicate_succ, Array.replicate_zero, List.push_toArray, List.append_toArray, List.nil_append, List.cons_append, List.append_nil]
  have HY := Lib.hid hY
  clear hY
  obtain ⟨g0, g1, A1, va, vb, hm, _, _⟩ := hR
  obtain ⟨c0, c1, c2, c3, c4, f0, f1, f3, f4⟩ := dict_facts hm
  cases hb : D.moving with
  | false =>
    have hl : D.left = 0 := by unfold Dc.left; rw [if_pos ((moving_iff D).1 hb)]
    rw [hb] at hmv
    have HM := Lib.hid hmv
    have HL := Lib.hid hl
    clear hmv hm hb hl h ok
    gi_wp2_with fail
    refine ⟨trivial, ?_⟩
    refine callsIn_wide.2 (Calls.mono HM.out ?_)
    rintro e w1 ⟨rfl, rfl⟩
    gi_wp2
    go_returns
    exact ⟨⟨_, rfl⟩, .inl (by rw [HL.out]; exact hJ0)⟩
  | true =>
    have hbn := b_ne hb
    have hpl := ok.place hbn
    have hl : D.left = D.a.length - D.place := by unfold Dc.left; rw [if_neg hbn]
    have hal := (isS_pos ok.a).2
    rw [hb] at hmv
    have HM := Lib.hid hmv
    clear hmv hm hb h ok
    have hpl2 : (D.place : Int) < D.a.length := by omega
    gi_wp2_with fail
    refine ⟨trivial, ?_⟩
    refine callsIn_wide.2 (Calls.mono HM.out ?_)
    rintro e w1 ⟨rfl, rfl⟩
    gi_wp2
    gi_loopw [5] (fun s wr => ∃ (i : Nat), s = .int .i64 (D.place + i : Nat) ∧ i ≤ D.left ∧ J i wr) (fun s _ => D.a.length - (intOf s).toNat)
    case atStart => exact ⟨0, rfl, by omega, hJ0⟩
    case round =>
      clear c0 c1 c2 c3 c4 f0 f1 f3 f4
      obtain ⟨i, rfl, hi, hJi⟩ := hrel
      by_cases hlt : i < D.left
      · have hx : (List.range' D.place D.left)[i]? = some (D.place + i) := by rw [List.getElem?_range' hlt]; simp
        obtain ⟨fn, tmps, assign, body, hy, hRd⟩ := HY.out i _ wr hx hJi
        unfold encI at hy
        have hq : ((D.place + i : Nat) : Int) < D.a.length := by omega
        have hq2 : ((D.place + i : Nat) : Int) ≤ 65536 := by omega
        have HI := Lib.hid hi
        have HL := Lib.hid hl
        clear hl hx
        generalize hs : D.place + i = s at *
        have HS := Lib.hid hs
        clear hs
        gi_wp2_with fail
        (try refine ⟨fun _ => by decide, ?_⟩)
        refine hRd.mono ?_
        rintro e W3 (⟨rfl, hJ3, hk3⟩ | ⟨rfl, hJx3⟩)
        · clear hRd hy
          gi_wp2
          have := HS.out
          refine ⟨⟨i + 1, by congr 1; omega, hlt, hJ3⟩, ?_⟩
          simp only [intOf]
          omega
        · gi_wp2
          go_end0
          exact ⟨⟨_, rfl⟩, .inr ⟨_, hJx3⟩⟩
      · obtain rfl : i = D.left := by omega
        have hq : ¬ ((D.place + D.left : Nat) : Int) < D.a.length := by omega
        gi_wp2
        refine ⟨fun _ h => (by cases h), ?_⟩
        gi_wp2
        go_end0
        exact ⟨⟨_, rfl⟩, .inl (by rw [List.length_range']; exact hJi)⟩
theorem not_cell {T : Ty} {W : World} {k : Nat} {t : TypeId} {c : Array Value} (h : Blk W k t c) (ht : ¬ (t = T.d ∨ t = T.t ∨ t = T.r)) : ¬ CellB T W k := fun ⟨t', c', h1, h2⟩ => ht (by rw [h.ty h2]; exact h1)
theorem Went.blk {T : Ty} {S : Nat → Prop} {w W : World} {p seed : Nat} {D : Dc} (h : Went T S w p seed D W) {k : Nat} {t : TypeId} {c : Array Value} (hk : Blk w k t c) (hS : ∀ k, S k → CellB T w k) (ht : ¬ (t = T.d ∨ t = T.t ∨ t = T.r)) : Blk W k t c :=
  h.2.blk hk fun hs => not_cell hk ht (hS k hs)
theorem own_went {T : Ty} {β : Type} (B : Nat) {S : Nat → Prop} {w : World} (hB : w.heap.size ≤ B) (p seed : Nat) (D : β → Dc) : OwnFrom B (fun s W => Went T S w p seed (D s) W) := fun s X Y row hs hg hr => by
  have hf : Far (fun k => row = some k) X Y := Far.of_grown hg fun k e => .inl e
  have hR : Rep T Y p (grow T S w X) seed (D s) := hs.1.far hf fun k hk e => by
    obtain ⟨_, o, ho, hc⟩ := hr k e
    obtain ⟨t, c, _, hb⟩ := hk.2
    rw [show X.heap[k]? = _ from hb] at ho
    cases ho; cases hc
  exact ⟨hR.wide (fun k hk => ⟨hk.1, hR.cells k hk⟩) (fun _ hk => hk.2), hs.2.trans hf fun k e => .inr (by have := (hr k e).1; omega)⟩
theorem noItI : ¬ itT tyI.d ∧ ¬ itT tyI.t ∧ ¬ itT tyI.r := by unfold itT tyI; decide

set_option maxRecDepth 100000 in
set_option maxHeartbeats 4000000 in
theorem step_any (h : Rep tyI w p S seed D) (ok : D.Ok tyI) (hn : D.n ≤ 1000000) (n : Int) :
    Calls Try.prog 23 #[.pointer (some ⟨p, 0, none⟩), .int .i64 n] w fun e w' => e = .returned (.int .i64 (min n.toNat D.left : Nat)) ∧ Went tyI S w p seed (D.step n.toNat) w' := by
  refine (callsIn_wide (n := 6)).1 (callsIn_of_wp_marks Try.func23 rfl trivial ?_ rfl)
  refine wpIn_wide.2 ?_
  simp only [Try.ntmps23, List.size_toArray, List.length_cons, List.length_nil, Nat.reduceAdd, Nat.reduceSub, Array.replicate_succ, Array.replicate_zero, List.push_toArray, List.append_toArray, List.nil_append, List.cons_append]
  have hal := (isS_pos ok.a).2
  have hll : D.left ≤ 65536 := by unfold Dc.left; split <;> omega
  have hfacts := fun k hk => Lib.hid (run_facts ok k hk)
  go_wp2
  refine wp_scope_straight ?_
  go_wp2
  refine wp_label ?_
  go_wp2
  have k1 := ((Blk.new w 25 #[Value.pointer (some ⟨p, 0, none⟩)]).alloc (Obj.cells #[Value.int .i64 n] 3)).alloc (Obj.cells #[Value.int .i64 0] 3)
  have k2 := (Blk.new (w.alloc (Obj.cells #[Value.pointer (some ⟨p, 0, none⟩)] 25)) 3 #[Value.int .i64 n]).alloc (Obj.cells #[Value.int .i64 0] 3)
  have k3 := Blk.new ((w.alloc (Obj.cells #[Value.pointer (some ⟨p, 0, none⟩)] 25)).alloc (Obj.cells #[Value.int .i64 n] 3)) 3 #[Value.int .i64 0]
  simp only [World.size_alloc] at k2 k3
  have hB := (((Below.refl w.heap.size w).alloc (Nat.le_refl _) (Obj.cells #[Value.pointer (some ⟨p, 0, none⟩)] 25)).alloc (by simp) (Obj.cells #[Value.int .i64 n] 3)).alloc (by simp; omega) (Obj.cells #[Value.int .i64 0] 3)
  have hsz : (((w.alloc (Obj.cells #[Value.pointer (some ⟨p, 0, none⟩)] 25)).alloc (Obj.cells #[Value.int .i64 n] 3)).alloc (Obj.cells #[Value.int .i64 0] 3)).heap.size = w.heap.size + 3 := by simp
  generalize (((w.alloc (Obj.cells #[Value.pointer (some ⟨p, 0, none⟩)] 25)).alloc (Obj.cells #[Value.int .i64 n] 3)).alloc (Obj.cells #[Value.int .i64 0] 3)) = w1 at *
  refine (wpIn_wide (n := 6)).1 (range_f (gf := 45) (fb := #[.pointer (some ⟨p, 0, none⟩)]) (lb := #[]) (encs := encI) (xs := List.range' D.place D.left) (L := [w.heap.size + 2]) rfl (enters_of Try.func45 (by kernel_rfl) rfl) (unmoved_any (h.later hB) ok _) (fun _ _ => rfl)
    (fun i W => (i : Int) ≤ n.toNat ∧ i ≤ D.left ∧ Went tyI S w p seed (Dc.run i D) W ∧ Blk W w.heap.size 25 #[.pointer (some ⟨p, 0, none⟩)] ∧ Blk W (w.heap.size + 1) 3 #[.int .i64 n] ∧ Blk W (w.heap.size + 2) 3 #[Value.int IntKind.i64 i])
    (fun c _ W => match c with
      | .exit id => id = 0 ∧ n.toNat ≤ D.left ∧ Went tyI S w p seed (Dc.run n.toNat D) W ∧ Blk W (w.heap.size + 2) 3 #[.int .i64 n.toNat]
      | _ => False)
    ?hI ?hIx ?h0 (fun i x a' W => a' = { tmps := #[Value.pointer (some ⟨p, 0, none⟩), Value.int IntKind.i64 n, Value.pointer (some { block := w.heap.size, off := 0 }), Value.pointer (some { block := w.heap.size + 1, off := 0 }),
          Value.int IntKind.i64 0, Value.pointer (some { block := w.heap.size + 2, off := 0 }), Value.int IntKind.i64 x, Value.pointer (some ⟨p, 0, none⟩), Value.func (Fn.func 45) #[Value.pointer (some ⟨p, 0, none⟩)] #[], Value.int IntKind.i64 x,
          undef, undef, undef, undef, undef, undef, undef, undef, undef], defers := [] })
    (fun _ _ _ => own_pure _ _) ?assign ?body ?done ?stop)
  case hI => exact (own_pure _ _).and ((own_pure _ _).and ((own_went _ (by omega) _ _ _).and ((own_blk _ _ _ _).and ((own_blk _ _ _ _).and (own_blk _ _ _ _)))))
  case hIx =>
    intro c
    cases c with
    | exit id => exact (own_pure _ _).and ((own_pure _ _).and ((own_went _ (by omega) _ _ (fun _ => _)).and (own_blk _ _ _ _)))
    | _ => exact own_pure _ _
  case h0 => exact ⟨by omega, by omega, (Went.start h).later hB, k1, k2, k3⟩
  case assign =>
    rintro l i x W K hx' ⟨hi, hi2, q0, q1, q2, q3⟩ hK
    unfold encI
    gi_wp2
    exact hK _ _ (KeepsFrom.refl _ _) (KeepC.refl _ _) ⟨hi, hi2, q0, q1, q2, q3⟩ rfl
  case body =>
    rintro l i x a' W hx' ⟨hi, hi2, q0, q1, q2, q3⟩ rfl
    obtain ⟨hlt, hxe⟩ := List.getElem?_eq_some_iff.1 hx'
    rw [List.length_range'] at hlt
    rw [List.getElem_range'] at hxe
    obtain rfl : x = D.place + i := by omega
    obtain ⟨ok1, _, hn1, hfi⟩ := (hfacts i hi2).out
    obtain ⟨hbi, hpi⟩ := hfi hlt
    obtain ⟨c1, d1⟩ := facts1 q1
    obtain ⟨c2, d2⟩ := facts1 q2
    obtain ⟨c3, d3⟩ := facts1 q3
    have hMV := move_any q0.1 ok1 hbi (by omega)
    rw [hpi] at hMV
    have HMV := Lib.hid hMV
    have Q0 := Lib.hid q0
    have Q1 := Lib.hid q1
    have Q2 := Lib.hid q2
    have Q3 := Lib.hid q3
    clear hMV hxe k1 k2 k3 q0 q1 q2 q3 hpi hx' hn1
    have hi3 : (i : Int) ≤ 65536 := by omega
    by_cases hni : n ≤ (i : Int)
    · have hin : n.toNat = i := by omega
      gi_wp2
      refine ⟨KeepsFrom.refl _ _, rfl, by omega, ?_, ?_⟩
      · rw [hin]; exact Q0.out
      · rw [hin]; exact Q3.out
    · have hni2 : (i : Int) < n := by omega
      clear hni
      gi_wp2_with fail
      (try refine ⟨trivial, ?_⟩)
      refine (CallsIn.inRound l (callsIn_wide.2 HMV.out)).mono ?_
      rintro e W2 ⟨rfl, hw⟩
      have q1' := hw.blk Q1.out (fun k hk => hk.2) (by decide)
      have q2' := hw.blk Q2.out (fun k hk => hk.2) (by decide)
      have q3' := hw.blk Q3.out (fun k hk => hk.2) (by decide)
      obtain ⟨e3, g3⟩ := facts1 q3'
      have hkf := hw.2.keeps (fun k hk => hk.2) w1.heap.size
      have hkc := hw.2.keepc (fun k hk => hk.2) noItI [w.heap.size + 2]
      have HW := Lib.hid (Q0.out.trans hw)
      have P1 := Lib.hid q1'
      have P2 := Lib.hid q2'
      have P3 := Lib.hid q3'
      clear hw q1' q2' q3'
      gi_wp2
      refine ⟨hkf.trans ((KeepsOthers.setCell _ _ _).from _), hkc.trans (KeepC.set _ _ _ _ (by simp)), by omega, hlt, ?_, ?_, ?_, ?_⟩
      · have hz := HW.out.2.size
        have := (HW.out.1.far (S1 := fun k => k = w.heap.size + 2) (W' := W2.setCell ⟨w.heap.size + 2, 0, none⟩ (.int .i64 ((i : Int) + 1))) ((Far.refl _ _).set _ _ (.inl rfl)) (fun k hk e => by subst e; exact not_cell P3.out (by decide) hk.2))
        exact ⟨this.wide (fun k hk => ⟨hk.1, this.cells k hk⟩) (fun _ hk => hk.2), HW.out.2.set _ _ (.inr (by simp))⟩
      · exact P1.out.setOther 0 _ (by omega)
      · exact P2.out.setOther 0 _ (by omega)
      · exact P3.out.set 0 _
  case done =>
    rintro Dd W hD ⟨hi, hi2, q0, q1, q2, q3⟩ hK
    rw [List.length_range'] at *
    obtain ⟨c3, d3⟩ := facts1 q3
    have HK := Lib.hid hK
    have Q0 := Lib.hid q0
    clear hK q0 q1 q2 q3 k1 k2 k3
    have hmin : min n.toNat D.left = D.left := by omega
    simp only [Exit.inBlock, Exit.then]
    go_wp2
    refine leave (v := .int .i64 D.left) rfl HK.out (by simp [results, Try.results23, go_sem]) ⟨by rw [hmin], ?_⟩
    unfold Dc.step
    rw [hmin]
    exact (own_went (β := Unit) w.heap.size (Nat.le_refl _) p seed (fun _ => _)).putObj (s := ()) _ Q0.out (by omega) HK.out rfl
  case stop =>
    rintro Dd c j W hD hI hK
    cases c with
    | exit id =>
      obtain ⟨rfl, hi2, q0, q3⟩ := hI
      obtain ⟨c3, d3⟩ := facts1 q3
      have HK := Lib.hid hK
      have Q0 := Lib.hid q0
      clear hK q0 q3 k1 k2 k3
      have hmin : min n.toNat D.left = n.toNat := by omega
      refine wpIn_wide.2 ?_
      go_wp2
      refine leave (v := .int .i64 (n.toNat : Nat)) rfl HK.out (by simp [results, Try.results23, go_sem]) ⟨by rw [hmin], ?_⟩
      unfold Dc.step
      rw [hmin]
      exact (own_went (β := Unit) w.heap.size (Nat.le_refl _) p seed (fun _ => _)).putObj (s := ()) _ Q0.out (by omega) HK.out rfl
    | _ => exact hI.elim
end
end Go.Proofs.Ytifbambalfifaaa
