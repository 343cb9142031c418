/- Texts of one kind in one: Rng, Levels, DoneAny. -/
import Derived.Test.YtidiaomeahoapaaQ09
import Derived.Laws.OwnMore
import Derived.Test.YtidiaomeahoapaaQ08
/- Range and Back of a list; the reference's Same. -/
namespace Go.Proofs.Ytidiaomeahoapaa
open Go.RowKit Go.Shelf
attribute [local go_sem] Oper.semAt_some

def en (x : Nd) : Ent := (x.m, x.s)
/-- The entries of places. -/
def sub (E : List Ent) (f t : Int) : List Ent := (E.drop (from0 f)).take (to0 t E.length - from0 f)

theorem entsF_range (p : Nat) (L : List Nd) (a k : Nat) (h : a + k ≤ L.length) : entsF (hd p :: L) (List.range' (a + 1) k) = ((L.map en).drop a).take k := by
  unfold entsF
  apply List.ext_getElem?
  intro i
  rw [List.getElem?_map, List.getElem?_take]
  by_cases hi : i < k
  · rw [if_pos hi, List.getElem?_drop, List.getElem?_map]
    have h1 : (List.range' (a + 1) k)[i]? = some (a + 1 + i) := by
      rw [List.getElem?_eq_getElem (by simpa using hi)]; simp
    have h2 : L[a + i]? = some L[a + i] := List.getElem?_eq_getElem (by omega)
    rw [h1, h2]
    simp only [Option.map_some]
    rw [show a + 1 + i = (a + i) + 1 by omega, List.getElem?_cons_succ, h2]
    rfl
  · rw [if_neg hi, List.getElem?_eq_none (by simpa using hi)]; rfl
theorem downs_eq : ∀ b, downs b = (List.range' 1 b).reverse
  | 0 => rfl
  | b + 1 => by rw [List.range'_concat, List.reverse_append, ← downs_eq b]; simp [downs]; omega
theorem entsF_downs (p : Nat) (L : List Nd) (a b : Nat) (hab : a ≤ b) (h : b ≤ L.length) : entsF (hd p :: L) ((downs b).take (b - a)) = (((L.map en).drop a).take (b - a)).reverse := by
  rw [← entsF_range p L a (b - a) (by omega)]
  unfold entsF
  rw [← List.map_reverse, downs_eq, List.take_reverse]
  congr 2
  rw [List.length_range', List.drop_range', show 1 + (b - (b - a)) * 1 = a + 1 by omega, show b - (b - (b - a)) = b - a by omega]

variable {w : World} {p : Nat} {L : List Nd}
theorem range_ls (h : Ls w p L) (hN : L.length ≤ 100000) (f t : Int) : Calls Try.prog 18 #[.pointer (some ⟨p, 0, none⟩), .int .i64 f, .int .i64 t] w fun e w' => ∃ r, e = .returned r ∧ Own32 w' w.heap.size r (sub (L.map en) f t) ∧ Below w.heap.size w w' := by
  unfold sub
  rw [List.length_map]
  by_cases hab : from0 f < to0 t L.length
  · have := range_any p L rfl w h.sk (by simp; omega) rfl f t (from0 f) (to0 t L.length) (by unfold from0; omega) (by unfold from0 to0 at *; omega) hab
    have hle : from0 f + (to0 t L.length - from0 f) ≤ L.length := by unfold to0 at *; omega
    rwa [entsF_range p L _ _ hle] at this
  · refine (range_none p L rfl w h.sk f t (by unfold from0 to0 at hab; omega)).mono ?_
    rintro e w' ⟨rfl, hb⟩
    refine ⟨_, rfl, ?_, hb⟩
    rw [show to0 t L.length - from0 f = 0 by omega, List.take_zero]
    exact World.ownsRow_nil _ _ _ _
theorem back_ls (h : Ls w p L) (hN : L.length ≤ 100000) (f t : Int) : Calls Try.prog 26 #[.pointer (some ⟨p, 0, none⟩), .int .i64 f, .int .i64 t] w fun e w' => ∃ r, e = .returned r ∧ Own32 w' w.heap.size r (sub (L.map en) f t).reverse ∧ Below w.heap.size w w' := by
  unfold sub
  rw [List.length_map]
  by_cases hab : from0 f < to0 t L.length
  · have := back_any p L rfl w h.sk (by simp; omega) rfl f t (from0 f) (to0 t L.length) (by unfold from0; omega) (by unfold from0 to0 at *; omega) hab
    rwa [entsF_downs p L _ _ (by omega) (by unfold to0; omega)] at this
  · refine (back_none p L rfl w h.sk f t (by unfold from0 to0 at hab; omega)).mono ?_
    rintro e w' ⟨rfl, hb⟩
    refine ⟨_, rfl, ?_, hb⟩
    rw [show to0 t L.length - from0 f = 0 by omega, List.take_zero]
    exact World.ownsRow_nil _ _ _ _

/-- A list of entries that is read. -/
structure EntsAt (W : World) (v : Value) (l : List Ent) : Prop where
  form : ∃ a cap, v = .slice a l.length cap
  at' : ∀ i e, l[i]? = some e → ∃ g cap, v = .slice (some ⟨g, 0, none⟩) l.length cap ∧ W.cell? ⟨g, i * 2, none⟩ = some (.string e.1) ∧ W.cell? ⟨g, i * 2 + 1, none⟩ = some (.int .i64 e.2)
theorem cellsE_at : ∀ (l : List Ent) (i : Nat) (e : Ent), l[i]? = some e → (cellsE l)[i * 2]? = some (.string e.1) ∧ (cellsE l)[i * 2 + 1]? = some (.int .i64 e.2) := by
  intro l
  induction l with
  | nil => intro i e h; simp at h
  | cons x l ih =>
    intro i e h
    cases i with
    | zero => simp at h; subst h; exact ⟨rfl, rfl⟩
    | succ i =>
      have := ih i e (by simpa using h)
      rw [show cellsE (x :: l) = [.string x.1, .int .i64 x.2] ++ cellsE l from rfl, show (i + 1) * 2 = i * 2 + 2 by omega]
      exact this
theorem Own32.ents {W : World} {n0 : Nat} {v : Value} {l : List Ent} (h : Own32 W n0 v l) : EntsAt W v l := by
  rcases h.2 with ⟨rfl, h0⟩ | ⟨g, cap, cur, rfl, h1, h2, h3⟩
  · have hl : l = [] := List.eq_nil_of_length_eq_zero h0
    subst hl
    exact ⟨⟨none, 0, rfl⟩, fun i e h => by simp at h⟩
  · refine ⟨⟨_, _, rfl⟩, fun i e he => ?_⟩
    have hi := (List.getElem?_eq_some_iff.1 he).1
    obtain ⟨c0, c1⟩ := cellsE_at l i e he
    exact ⟨g, cap, rfl, (h.cellAt (i * 2) (by omega)).trans c0, (h.cellAt (i * 2 + 1) (by omega)).trans c1⟩
theorem EntsAt.later {W W' : World} {v : Value} {l : List Ent} (h : EntsAt W v l) (hb : Below W.heap.size W W') : EntsAt W' v l :=
  ⟨h.form, fun i e he => by
    obtain ⟨g, cap, h1, h2, h3⟩ := h.at' i e he
    exact ⟨g, cap, h1, (hb.cell (World.block_lt_of_cell? W _ h2)).trans h2, (hb.cell (World.block_lt_of_cell? W _ h3)).trans h3⟩⟩
theorem EntsAt.far {W W' : World} {S : Nat → Prop} {n0 : Nat} {v : Value} {l : List Ent} (h : Own32 W n0 v l) (hf : Far S W W') (hS : ∀ k, v.ownBlock = some k → ¬ S k) : EntsAt W' v l := by
  have he := h.ents
  refine ⟨he.form, fun i e hi => ?_⟩
  obtain ⟨g, cap, h1, h2, h3⟩ := he.at' i e hi
  have hg : ¬ S g := hS g (by rw [h1]; rfl)
  have hb := hf.block g (World.block_lt_of_cell? W _ h2) hg
  exact ⟨g, cap, h1, by rw [← h2]; unfold World.cell?; simp only [hb], by rw [← h3]; unfold World.cell?; simp only [hb]⟩

theorem neq_ent (m m' : ByteArray) (s s' : Int) (b : Bool) (h : decide (m = m' ∧ s = s') = b) (W : World) :
    (binOp .neq 32 (.agg #[.string m, .int .i64 s]) (.agg #[.string m', .int .i64 s'])).run Try.prog W = .ok (.bool (!b)) W := by
  by_cases h1 : s = s'
  · by_cases h2 : m = m'
    · rw [h1, h2] at h
      simp at h
      subst h
      rw [h1, h2]
      simp [go_sem]
    · have h3 : ¬ m.toList = m'.toList := fun e => h2 (beq_toList e)
      simp [h1, h2] at h
      subst h
      rw [h1]
      simp [go_sem, h3]
  · simp [h1] at h
    subst h
    simp [go_sem, h1]

set_option maxRecDepth 100000 in
set_option maxHeartbeats 2000000 in
theorem same_any (v1 v2 : Value) (l : List Ent) (hl : l.length ≤ 1000000) (w : World) (h1 : EntsAt w v1 l) (h2 : EntsAt w v2 l) : Calls Try.prog 17 #[v1, v2] w fun e w' => e = .returned (.bool true) ∧ Below w.heap.size w w' := by
  obtain ⟨a1, c1, rfl⟩ := h1.form
  obtain ⟨a2, c2, rfl⟩ := h2.form
  have H1 := Lib.hid h1
  have H2 := Lib.hid h2
  clear h1 h2
  go_enter Try.func17, Try.ntmps17
  go_wp2
  go_loopw [5] (fun i wr => ∃ (k : Nat), i = .int .i64 k ∧ k ≤ l.length ∧ Below w.heap.size w wr) (fun i _ => l.length - (intOf i).toNat)
  case atStart => exact ⟨0, rfl, by omega, Below.refl _ _⟩
  case round =>
    obtain ⟨k, rfl, hk, hbr⟩ := hrel
    by_cases hlt : k < l.length
    · have hx : l[k]? = some l[k] := List.getElem?_eq_getElem hlt
      generalize l[k] = x at *
      obtain ⟨g1, d1, e1, p1, q1⟩ := (H1.out.later hbr).at' k x hx
      obtain ⟨g2, d2, e2, p2, q2⟩ := (H2.out.later hbr).at' k x hx
      cases e1
      cases e2
      have hk2 : (k : Int) < l.length := by omega
      have hne := neq_ent x.1 x.1 x.2 x.2 true (by simp)
      have HBR := Lib.hid hbr
      clear hx hbr H1 H2
      go_wp2_with fail
      go_quiet (fail)
      go_wp2_with fail
      exact ⟨⟨k + 1, by go_num, hlt, HBR.out.trans ((drewB wr _).mono HBR.out.size)⟩, by simp [intOf]; omega⟩
    · obtain rfl : k = l.length := by omega
      go_wp2
      go_returns
      exact ⟨rfl, hbr⟩
end Go.Proofs.Ytidiaomeahoapaa
/- Levels. -/
namespace Go.Proofs.Ytidiaomeahoapaa
open Go.RowKit Go.Shelf
attribute [local go_sem] Oper.semAt_some

/-- The greatest level. -/
def lvs : List Nd → Nat
  | [] => 0
  | x :: L => max x.l (lvs L)
theorem lvs_le {L : List Nd} {k : Nat} : lvs L ≤ k ↔ ∀ x ∈ L, x.l ≤ k := by
  induction L with
  | nil => simp [lvs]
  | cons x L ih => simp [lvs, Nat.max_le, ih]
theorem steps_nil {p : Nat} {L : List Nd} {k : Nat} : steps (hd p :: L) k 0 = [] ↔ lvs L ≤ k := by
  rw [lvs_le, List.eq_nil_iff_forall_not_mem]
  constructor
  · intro h x hx
    obtain ⟨i, hi⟩ := List.mem_iff_getElem?.1 hx
    have hil := (List.getElem?_eq_some_iff.1 hi).1
    have := h (i + 1)
    rw [mem_steps, lev_some (show (hd p :: L)[i + 1]? = some x by simpa using hi)] at this
    simp at this
    omega
  · intro h i hi
    rw [mem_steps] at hi
    obtain ⟨h1, h2, h3⟩ := hi
    obtain ⟨j, rfl⟩ : ∃ j, i = j + 1 := ⟨i - 1, by omega⟩
    have h2' : j < L.length := by simpa using h2
    have hx : L[j]? = some L[j] := List.getElem?_eq_getElem h2'
    rw [lev_some (show (hd p :: L)[j + 1]? = some L[j] by rw [List.getElem?_cons_succ]; exact hx)] at h3
    have := h _ (List.mem_of_getElem? hx)
    omega
theorem nxt_len {p : Nat} {L : List Nd} {k : Nat} : nxt (hd p :: L) k 0 = (hd p :: L).length ↔ lvs L ≤ k := by
  rw [← steps_nil (p := p)]
  obtain ⟨n1, n2, n3, n4, n5⟩ := nxt_spec (hd p :: L) k 0 (by simp)
  rw [n5]
  split
  · rename_i h
    exact ⟨fun e => absurd (e ▸ h) (Nat.lt_irrefl _), fun e => by cases e⟩
  · rename_i h
    exact ⟨fun _ => rfl, fun _ => by omega⟩

variable {w : World} {p : Nat} {L : List Nd}
theorem lvs_32 (h : Ls w p L) : lvs L ≤ 32 := lvs_le.2 fun x hx => by
  obtain ⟨i, hi⟩ := List.mem_iff_getElem?.1 hx
  exact (h.sk.lev (i + 1) x (by simpa using hi)).2
set_option maxRecDepth 100000 in
set_option maxHeartbeats 2000000 in
theorem levels_ls (h : Ls w p L) : Calls Try.prog 15 #[.pointer (some ⟨p, 0, none⟩)] w fun e w' => e = .returned (.int .i64 (lvs L)) ∧ w' = w := by
  have h32 := lvs_32 h
  obtain ⟨A, hA, hN⟩ := h.sk.node 0 (hd p) rfl
  have hc : ∀ k, k < 32 → ∃ o, w.cell? ⟨p, 3 + k * 2, none⟩ = some (.pointer o) ∧ (o = none ↔ lvs L ≤ k) := fun k hk => by
    refine ⟨_, (hA.cell _).trans (hN.link k hk).1, ?_⟩
    rw [← nxt_len (p := p)]
    have n2 := (nxt_spec (hd p :: L) k 0 (by simp)).2.1
    simp only [Option.map_eq_none_iff, List.getElem?_eq_none_iff]
    omega
  have HC := Lib.hid hc
  clear hA hN hc h
  go_enter Try.func15, Try.ntmps15
  go_wp2
  go_loopw [3] (fun i wr => ∃ (k : Nat), i = .int .i64 k ∧ lvs L ≤ k ∧ k ≤ 32 ∧ wr = w) (fun i _ => (intOf i).toNat)
  case atStart => exact ⟨32, rfl, h32, Nat.le_refl _, rfl⟩
  case round =>
    obtain ⟨k, rfl, hk, hk2, rfl⟩ := hrel
    by_cases hk0 : k = 0
    · subst hk0
      have he : lvs L = 0 := by omega
      have HE := Lib.hid he
      clear hk h32 he
      go_wp2
      go_returns
      exact ⟨by rw [HE.out]; rfl, rfl⟩
    · obtain ⟨j, rfl⟩ : ∃ j, k = j + 1 := ⟨k - 1, by omega⟩
      obtain ⟨o, c0, ho⟩ := HC.out j (by omega)
      have hj : ((j + 1 : Nat) : Int) - 1 = j := by omega
      have hj32 : (j : Int) < 32 := by omega
      by_cases hle : lvs L ≤ j
      · rw [ho.2 hle] at c0
        clear ho hk0
        go_wp2
        exact ⟨⟨j, by go_num, hle, by omega, trivial⟩, by simp [intOf]⟩
      · obtain ⟨q, rfl⟩ : ∃ q, o = some q := by
          cases o with
          | none => exact absurd (ho.1 rfl) hle
          | some q => exact ⟨q, rfl⟩
        have he : lvs L = j + 1 := by omega
        have HE := Lib.hid he
        clear ho hk0 hk h32 he hle
        go_wp2
        go_returns
        exact ⟨by rw [HE.out]; rfl, rfl⟩
end Go.Proofs.Ytidiaomeahoapaa
/- done: an act, by the program alone. -/
namespace Go.Proofs.Ytidiaomeahoapaa
open Go.RowKit Go.Shelf
attribute [local go_sem] Oper.semAt_some

variable {w : World} {p : Nat} {L : List Nd}
theorem kd_lt (x : Ac) : kd x < 8 := by unfold kd; omega
theorem kd_wrap (x : Ac) : (IntKind.u64.wrap x.d).tmod 8 = (kd x : Int) := by
  have h1 : IntKind.u64.wrap x.d = x.d % 18446744073709551616 := rfl
  unfold kd
  rw [h1, Int.tmod_eq_emod_of_nonneg (by omega)]
  omega

set_option maxRecDepth 100000 in
set_option maxHeartbeats 8000000 in
theorem done_any (h : Ls w p L) (hN : L.length ≤ 100000) (x : Ac) (hx : x.Fit) (l : Nat) (hl : 0 < l ∧ l ≤ 32) :
    Calls Try.prog 23 #[.pointer (some ⟨p, 0, none⟩), x.val, .int .i64 l] w fun e w' => e = .returned (.int .i64 (resM x (L.map er))) ∧ Act1 w w' p L (effM x l (L.map er)) := by
  have hk := kd_wrap x
  have hk8 := kd_lt x
  have hm := hx.m
  unfold Ac.val resM effM
  obtain ⟨d, m, s, lv, f, t⟩ := x
  simp only at *
  generalize kd ⟨d, m, s, lv, f, t⟩ = K at *
  have HF := fun w => Lib.hid (few_any m hm s w)
  have hcs := cut12_size m
  have HI := fun w' (hb : Below w.heap.size w w') => Lib.hid (insert_act (h.later hb) hN (cut12 m) hcs s l hl)
  have HD := fun w' (hb : Below w.heap.size w w') => Lib.hid (delete_act (h.later hb) hN (cut12 m) s)
  have HS := fun w' (hb : Below w.heap.size w w') => Lib.hid (seek_act (h.later hb) hN (cut12 m) s)
  have HC := fun w' (hb : Below w.heap.size w w') => Lib.hid (cut_act (h.later hb) hN f t)
  have kA := Blk.new w 34 #[.int .i64 d, .string m, .int .i64 s, .int .i64 lv, .int .i64 f, .int .i64 t]
  have hbA : Below w.heap.size w (w.alloc (.cells #[.int .i64 d, .string m, .int .i64 s, .int .i64 lv, .int .i64 f, .int .i64 t] 34)) := (Below.refl _ _).alloc (Nat.le_refl _) _
  have HA := Lib.hid kA
  have HB := Lib.hid hbA
  clear hx hm hcs hl kA hbA
  generalize cut12 m = c at *
  generalize hD' : L.map er = M at *
  clear hD' h hN
  have hcases : K = 0 ∨ K = 1 ∨ K = 2 ∨ K = 3 ∨ K = 4 ∨ K = 5 ∨ K = 6 ∨ K = 7 := by omega
  clear hk8
  rcases hcases with rfl | rfl | rfl | rfl | rfl | rfl | rfl | rfl
  · simp only [show (0 < 4) = True by simp, show (0 < 6) = True by simp, show (0 = 6) = False by simp, if_true, if_false]
    clear HD HS HC
    generalize (if hasM M c s = true then (90 : Int) else 0) = R at *
    generalize (if hasM M c s = true then M else insM M c s l) = M2 at *
    replace hk : (IntKind.u64.wrap d).tmod 8 = 0 := hk
    go_enter Try.func23, Try.ntmps23
    go_wp2_with fail
    refine (HF _).out.mono ?_
    rintro e w1 ⟨rfl, hb⟩
    have hz1 := (HA.out.later hb).lt
    obtain ⟨e0, e1, e2, e3, e4, e5⟩ := facts6 (HA.out.later hb)
    have hbw := HB.out.trans (hb.mono HB.out.size)
    have hbx := hbw.trans (((Below.refl w1.heap.size w1).alloc (Nat.le_refl _) (Obj.cells #[.string c, .int .i64 s] 32)).mono hbw.size)
    have HI2 := HI _ hbx
    have HBX := Lib.hid hbx
    clear hb hbw hbx HI HF
    go_wp2_with fail
    refine HI2.out.mono ?_
    rintro e w2 ⟨rfl, ha⟩
    have HACT := Lib.hid (ha.before HBX.out)
    clear ha
    go_wp2_with fail
    go_returns
    exact ⟨rfl, HACT.out⟩
  · simp only [show (1 < 4) = True by simp, show (1 < 6) = True by simp, show (1 = 6) = False by simp, if_true, if_false]
    clear HD HS HC
    generalize (if hasM M c s = true then (90 : Int) else 0) = R at *
    generalize (if hasM M c s = true then M else insM M c s l) = M2 at *
    replace hk : (IntKind.u64.wrap d).tmod 8 = 1 := hk
    go_enter Try.func23, Try.ntmps23
    go_wp2_with fail
    refine (HF _).out.mono ?_
    rintro e w1 ⟨rfl, hb⟩
    have hz1 := (HA.out.later hb).lt
    obtain ⟨e0, e1, e2, e3, e4, e5⟩ := facts6 (HA.out.later hb)
    have hbw := HB.out.trans (hb.mono HB.out.size)
    have hbx := hbw.trans (((Below.refl w1.heap.size w1).alloc (Nat.le_refl _) (Obj.cells #[.string c, .int .i64 s] 32)).mono hbw.size)
    have HI2 := HI _ hbx
    have HBX := Lib.hid hbx
    clear hb hbw hbx HI HF
    go_wp2_with fail
    refine HI2.out.mono ?_
    rintro e w2 ⟨rfl, ha⟩
    have HACT := Lib.hid (ha.before HBX.out)
    clear ha
    go_wp2_with fail
    go_returns
    exact ⟨rfl, HACT.out⟩
  · simp only [show (2 < 4) = True by simp, show (2 < 6) = True by simp, show (2 = 6) = False by simp, if_true, if_false]
    clear HD HS HC
    generalize (if hasM M c s = true then (90 : Int) else 0) = R at *
    generalize (if hasM M c s = true then M else insM M c s l) = M2 at *
    replace hk : (IntKind.u64.wrap d).tmod 8 = 2 := hk
    go_enter Try.func23, Try.ntmps23
    go_wp2_with fail
    refine (HF _).out.mono ?_
    rintro e w1 ⟨rfl, hb⟩
    have hz1 := (HA.out.later hb).lt
    obtain ⟨e0, e1, e2, e3, e4, e5⟩ := facts6 (HA.out.later hb)
    have hbw := HB.out.trans (hb.mono HB.out.size)
    have hbx := hbw.trans (((Below.refl w1.heap.size w1).alloc (Nat.le_refl _) (Obj.cells #[.string c, .int .i64 s] 32)).mono hbw.size)
    have HI2 := HI _ hbx
    have HBX := Lib.hid hbx
    clear hb hbw hbx HI HF
    go_wp2_with fail
    refine HI2.out.mono ?_
    rintro e w2 ⟨rfl, ha⟩
    have HACT := Lib.hid (ha.before HBX.out)
    clear ha
    go_wp2_with fail
    go_returns
    exact ⟨rfl, HACT.out⟩
  · simp only [show (3 < 4) = True by simp, show (3 < 6) = True by simp, show (3 = 6) = False by simp, if_true, if_false]
    clear HD HS HC
    generalize (if hasM M c s = true then (90 : Int) else 0) = R at *
    generalize (if hasM M c s = true then M else insM M c s l) = M2 at *
    replace hk : (IntKind.u64.wrap d).tmod 8 = 3 := hk
    go_enter Try.func23, Try.ntmps23
    go_wp2_with fail
    refine (HF _).out.mono ?_
    rintro e w1 ⟨rfl, hb⟩
    have hz1 := (HA.out.later hb).lt
    obtain ⟨e0, e1, e2, e3, e4, e5⟩ := facts6 (HA.out.later hb)
    have hbw := HB.out.trans (hb.mono HB.out.size)
    have hbx := hbw.trans (((Below.refl w1.heap.size w1).alloc (Nat.le_refl _) (Obj.cells #[.string c, .int .i64 s] 32)).mono hbw.size)
    have HI2 := HI _ hbx
    have HBX := Lib.hid hbx
    clear hb hbw hbx HI HF
    go_wp2_with fail
    refine HI2.out.mono ?_
    rintro e w2 ⟨rfl, ha⟩
    have HACT := Lib.hid (ha.before HBX.out)
    clear ha
    go_wp2_with fail
    go_returns
    exact ⟨rfl, HACT.out⟩
  · simp only [show (4 < 4) = False by simp, show (4 < 6) = True by simp, show (4 = 6) = False by simp, if_true, if_false]
    clear HI HS HC
    generalize (if hasM M c s = true then cutM M (posM M c s) (posM M c s + 1) else M) = M2 at *
    generalize hasM M c s = bb at *
    replace hk : (IntKind.u64.wrap d).tmod 8 = 4 := hk
    go_enter Try.func23, Try.ntmps23
    go_wp2_with fail
    refine (HF _).out.mono ?_
    rintro e w1 ⟨rfl, hb⟩
    have hz1 := (HA.out.later hb).lt
    obtain ⟨e0, e1, e2, e3, e4, e5⟩ := facts6 (HA.out.later hb)
    have hbw := HB.out.trans (hb.mono HB.out.size)
    have hbx := hbw.trans (((Below.refl w1.heap.size w1).alloc (Nat.le_refl _) (Obj.cells #[.string c, .int .i64 s] 32)).mono hbw.size)
    have HI2 := HD _ hbx
    have HBX := Lib.hid hbx
    clear hb hbw hbx HD HF
    go_wp2_with fail
    refine HI2.out.mono ?_
    rintro e w2 ⟨rfl, ha⟩
    have HACT := Lib.hid (ha.before HBX.out)
    clear ha
    cases bb with
    | true =>
      go_wp2_with fail
      go_returns
      exact ⟨rfl, HACT.out⟩
    | false =>
      go_wp2_with fail
      go_returns
      exact ⟨rfl, HACT.out⟩
  · simp only [show (5 < 4) = False by simp, show (5 < 6) = True by simp, show (5 = 6) = False by simp, if_true, if_false]
    clear HI HS HC
    generalize (if hasM M c s = true then cutM M (posM M c s) (posM M c s + 1) else M) = M2 at *
    generalize hasM M c s = bb at *
    replace hk : (IntKind.u64.wrap d).tmod 8 = 5 := hk
    go_enter Try.func23, Try.ntmps23
    go_wp2_with fail
    refine (HF _).out.mono ?_
    rintro e w1 ⟨rfl, hb⟩
    have hz1 := (HA.out.later hb).lt
    obtain ⟨e0, e1, e2, e3, e4, e5⟩ := facts6 (HA.out.later hb)
    have hbw := HB.out.trans (hb.mono HB.out.size)
    have hbx := hbw.trans (((Below.refl w1.heap.size w1).alloc (Nat.le_refl _) (Obj.cells #[.string c, .int .i64 s] 32)).mono hbw.size)
    have HI2 := HD _ hbx
    have HBX := Lib.hid hbx
    clear hb hbw hbx HD HF
    go_wp2_with fail
    refine HI2.out.mono ?_
    rintro e w2 ⟨rfl, ha⟩
    have HACT := Lib.hid (ha.before HBX.out)
    clear ha
    cases bb with
    | true =>
      go_wp2_with fail
      go_returns
      exact ⟨rfl, HACT.out⟩
    | false =>
      go_wp2_with fail
      go_returns
      exact ⟨rfl, HACT.out⟩
  · simp only [show (6 < 4) = False by simp, show (6 < 6) = False by simp, if_true, if_false]
    clear HI HD HC
    generalize (posM M c s : Int) = R at *
    generalize hasM M c s = bb at *
    replace hk : (IntKind.u64.wrap d).tmod 8 = 6 := hk
    go_enter Try.func23, Try.ntmps23
    go_wp2_with fail
    refine (HF _).out.mono ?_
    rintro e w1 ⟨rfl, hb⟩
    have hz1 := (HA.out.later hb).lt
    obtain ⟨e0, e1, e2, e3, e4, e5⟩ := facts6 (HA.out.later hb)
    have hbw := HB.out.trans (hb.mono HB.out.size)
    have hbx := hbw.trans (((Below.refl w1.heap.size w1).alloc (Nat.le_refl _) (Obj.cells #[.string c, .int .i64 s] 32)).mono hbw.size)
    have HI2 := HS _ hbx
    have HBX := Lib.hid hbx
    clear hb hbw hbx HS HF
    go_wp2_with fail
    refine HI2.out.mono ?_
    rintro e w2 ⟨rfl, ha⟩
    have HACT := Lib.hid (ha.before HBX.out)
    clear ha
    go_wp2_with fail
    go_returns
    exact ⟨rfl, HACT.out⟩
  · simp only [show (7 < 4) = False by simp, show (7 < 6) = False by simp, show (7 = 6) = False by simp, if_false]
    clear HI HD HS
    generalize (if from0 f < to0 t M.length then (to0 t M.length : Int) - from0 f else 0) = R at *
    generalize (if from0 f < to0 t M.length then cutM M (from0 f) (to0 t M.length) else M) = M2 at *
    replace hk : (IntKind.u64.wrap d).tmod 8 = 7 := hk
    go_enter Try.func23, Try.ntmps23
    go_wp2_with fail
    refine (HF _).out.mono ?_
    rintro e w1 ⟨rfl, hb⟩
    have hz1 := (HA.out.later hb).lt
    obtain ⟨e0, e1, e2, e3, e4, e5⟩ := facts6 (HA.out.later hb)
    have hbw := HB.out.trans (hb.mono HB.out.size)
    have hbx := hbw.trans (((Below.refl w1.heap.size w1).alloc (Nat.le_refl _) (Obj.cells #[.string c, .int .i64 s] 32)).mono hbw.size)
    have HI2 := HC _ hbx
    have HBX := Lib.hid hbx
    clear hb hbw hbx HC HF
    go_wp2_with fail
    refine HI2.out.mono ?_
    rintro e w2 ⟨rfl, ha⟩
    have HACT := Lib.hid (ha.before HBX.out)
    clear ha
    go_wp2_with fail
    go_returns
    exact ⟨rfl, HACT.out⟩
end Go.Proofs.Ytidiaomeahoapaa
