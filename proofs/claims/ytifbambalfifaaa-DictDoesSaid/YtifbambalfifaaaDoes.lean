/- What Set, Get and Delete do with a key's node. -/
import Derived.Test.YtifbambalfifaaaUpd
namespace Go.Proofs.Ytifbambalfifaaa
open Go.RowKit Go.Shelf
attribute [local go_sem] Oper.semAt_some

/-- A node's thing becomes another one. -/
def setV (i : Nat) (v : Value) (r : List Nd) : List Nd := match r[i]? with | some y => r.set i { y with v := v } | none => r
theorem flat_setV (r : List Nd) : ∀ (i : Nat) (v : Value) (y : Nd), r[i]? = some y → flat (setV i v r) = (flat r).set (i * 3 + 2) v := by
  induction r with
  | nil => intro i v y h; simp at h
  | cons z r ih =>
    intro i v y h
    cases i with
    | zero => simp at h; subst h; rfl
    | succ i =>
      have h2 : r[i]? = some y := by simpa using h
      have := ih i v y h2
      unfold setV at this ⊢
      rw [h2] at this
      rw [h]
      simp only at this ⊢
      rw [List.set_cons_succ, flat_cons, this, flat_cons, List.set_append_right _ _ (by simp [Nd.cells]; omega)]
      congr 2
      simp [Nd.cells]; omega
theorem setV_len (i : Nat) (v : Value) (r : List Nd) : (setV i v r).length = r.length := by unfold setV; split <;> simp

section
variable {S : Nat → Prop} {p seed : Nat} {D1 : Dc} {w : World}

theorem foot_in {W : World} {g0 g1 : Nat} {va vb : List Value} (hf : Foot (grow tyI S w W) p g0 g1 va vb D1) {s j : Nat} {x : Nat × Nat} (hx : (D1.slots g0 g1 s)[j]? = some x) : S x.1 ∨ w.heap.size ≤ x.1 := by
  unfold Dc.slots at hx
  match j, hx with
  | 0, hx => simp at hx; subst hx; exact hf.g0.1
  | 1, hx =>
    by_cases hb : D1.b = []
    · rw [if_pos hb] at hx; simp at hx
    · rw [if_neg hb] at hx; simp at hx; subst hx; exact (hf.g1 hb).1
  | j + 2, hx =>
    by_cases hb : D1.b = []
    · rw [if_pos hb] at hx; simp at hx
    · rw [if_neg hb] at hx; simp at hx
theorem row_in {W : World} {g0 g1 : Nat} {va vb : List Value} (hf : Foot (grow tyI S w W) p g0 g1 va vb D1) {A1 : Option Addr} (hm : Mem tyI W p g0 g1 A1 va vb seed D1) (ok : D1.Ok tyI) {s j : Nat} {x : Nat × Nat} (hx : (D1.slots g0 g1 s)[j]? = some x) {v : Value}
    (hc : W.cell? ⟨x.1, x.2, none⟩ = some v) (k : Nat) (hk : v.ownBlock = some k) : S k ∨ w.heap.size ≤ k := by
  have hal := isS_pos ok.a
  unfold Dc.slots at hx
  match j, hx with
  | 0, hx =>
    simp at hx; subst hx
    have hv : va[s % D1.a.length]? = some v := by
      have := hm.ta.blk.cell (s % D1.a.length)
      rw [hc] at this
      simpa using this.symm
    exact (hf.row v (List.mem_append_left _ (List.mem_of_getElem? hv)) k hk).1
  | 1, hx =>
    by_cases hb : D1.b = []
    · rw [if_pos hb] at hx; simp at hx
    · rw [if_neg hb] at hx; simp at hx; subst hx
      rcases hm.tb with ⟨h1, _⟩ | ⟨h1, h2, h3, h4⟩
      · exact absurd h1 hb
      have hv : vb[s % D1.b.length]? = some v := by
        have := h4.blk.cell (s % D1.b.length)
        rw [hc] at this
        simpa using this.symm
      exact (hf.row v (List.mem_append_right _ (List.mem_of_getElem? hv)) k hk).1
  | j + 2, hx =>
    by_cases hb : D1.b = []
    · rw [if_pos hb] at hx; simp at hx
    · rw [if_neg hb] at hx; simp at hx

/-- Behind a change of one row. -/
theorem went_upd {W W' : World} {g0 g1 : Nat} {A1 : Option Addr} {va vb : List Value} (hm : Mem tyI W p g0 g1 A1 va vb seed D1) (hf : Foot (grow tyI S w W) p g0 g1 va vb D1) (hF : Far S w W) (ok : D1.Ok tyI) {s j : Nat} {x : Nat × Nat} (hx : (D1.slots g0 g1 s)[j]? = some x)
    {v v' : Value} {f : List Nd → List Nd} (hc : W.cell? ⟨x.1, x.2, none⟩ = some v) (fr : Far (fun b => v.ownBlock = some b ∨ b = x.1) W W') (hown : ∀ k, v'.ownBlock = some k → v.ownBlock = some k)
    (hb : ∀ vs : List Value, Blk W x.1 67 vs.toArray → vs[x.2]? = some v → Blk W' x.1 67 (vs.set x.2 v').toArray) (hr : ∀ r, (D1.rowsOf s)[j]? = some r → RowAt tyI W' v' (f r)) : Went tyI S w p seed (D1.upd s j f) W' := by
  obtain ⟨va', vb', hm', hin⟩ := hm.upd apartI ok s j x hx hc fr hown hb hr
  have hbn : (D1.upd s j f).b ≠ [] → D1.b ≠ [] := fun h e => h (by unfold Dc.upd; split; exact e; simp [e])
  refine Went.mk' hm' (hF.trans fr fun k hk => ?_) hf.p.1 hf.g0.1 (fun h => (hf.g1 (hbn h)).1) fun u hu k hk => ?_
  · rcases hk with h | rfl
    · exact row_in hf hm ok hx hc k h
    · exact foot_in hf hx
  · obtain ⟨u0, h1, h2⟩ := hin u hu k hk
    exact (hf.row u0 h1 k h2).1
theorem blk_slot {W : World} {g0 g1 : Nat} {A1 : Option Addr} {va vb : List Value} (hm : Mem tyI W p g0 g1 A1 va vb seed D1) {s j : Nat} {x : Nat × Nat} (hx : (D1.slots g0 g1 s)[j]? = some x) : ∃ vs : List Value, Blk W x.1 67 vs.toArray := by
  unfold Dc.slots at hx
  match j, hx with
  | 0, hx => simp at hx; subst hx; exact ⟨va, hm.ta.blk⟩
  | 1, hx =>
    by_cases hb : D1.b = []
    · rw [if_pos hb] at hx; simp at hx
    · rw [if_neg hb] at hx; simp at hx; subst hx
      rcases hm.tb with ⟨h1, _⟩ | ⟨h1, h2, h3, h4⟩
      · exact absurd h1 hb
      · exact ⟨vb, h4.blk⟩
  | j + 2, hx =>
    by_cases hb : D1.b = []
    · rw [if_pos hb] at hx; simp at hx
    · rw [if_neg hb] at hx; simp at hx

set_option maxRecDepth 100000 in
set_option maxHeartbeats 1000000 in
theorem set_does (ok : D1.Ok tyI) (hS : ∀ k, S k → CellB tyI w k) {s j i : Nat} {r0 : List Nd} {y : Nd} (hr0 : (D1.rowsOf s)[j]? = some r0) (hy : r0[i]? = some y) (hl : r0.length ≤ 1000000) (vbx : Nat) (nv : Int) (hvb : Blk w vbx 3 #[.int .i64 nv]) :
    Does w S p seed D1 s j i 35 #[.pointer (some ⟨vbx, 0, none⟩)] (fun W' => Went tyI S w p seed (D1.upd s j (setV i (.int .i64 nv))) W') := by
  refine ⟨enters_of Try.func35 (by kernel_rfl) rfl, own_went _ (Nat.le_refl _) _ _ (fun _ => _), ?_, ?_⟩
  · intro W b v c hb hk hW
    have := (hW.1.far (S1 := fun k => k = b) (W' := W.setCell ⟨b, 0, none⟩ v) ((Far.refl _ _).set _ _ (.inl rfl)) (fun k hk2 e => by subst e; exact not_cell hk (by decide) hk2.2))
    exact ⟨this.wide (fun k hk => ⟨hk.1, this.cells k hk⟩) (fun _ hk => hk.2), hW.2.set _ _ (.inr hb)⟩
  · intro W g0 g1 A1 va vb x hm hf hF hx
    obtain ⟨v, r, hr, c0, d0, hR⟩ := slot_at hm ok s j x hx
    rw [hr0] at hr
    cases hr
    have hvW := hF.blk hvb (fun h => not_cell hvb (by decide) (hS _ h))
    obtain ⟨e0, e1⟩ := facts1 hvW
    obtain ⟨A, cap, rfl, hcap, hmax, hat⟩ := hR.form
    obtain ⟨g, rfl, hob, n0, n1, n2, fz⟩ := hat i y hy
    have hil := (List.getElem?_eq_some_iff.1 hy).1
    have hil2 : (i : Int) < r0.length := by omega
    have hil3 : (i : Int) ≤ 1000000 := by omega
    have fz2 := fz (i * 3 + 2)
    have hWE : ∀ nq, Hid (KeepsFrom w.heap.size W ((W.drewN nq).setCell ⟨g, i * 3 + 2, none⟩ (.int .i64 nv)) ∧ (∀ b c, Blk W b 4 c → Blk ((W.drewN nq).setCell ⟨g, i * 3 + 2, none⟩ (.int .i64 nv)) b 4 c) ∧ Went tyI S w p seed (D1.upd s j (setV i (.int .i64 nv))) ((W.drewN nq).setCell ⟨g, i * 3 + 2, none⟩ (.int .i64 nv))) := fun nq => Lib.hid (by
      obtain ⟨vs0, hvs0⟩ := blk_slot hm hx
      obtain ⟨cg, hcg⟩ := hR.blk hob
      have hgx : x.1 ≠ g := fun e => by rw [e] at hvs0; exact absurd (hvs0.ty hcg) (by decide)
      have hRd : RowAt tyI (W.drewN nq) (.slice (some ⟨g, 0, none⟩) r0.length cap) r0 := hR.far (S := fun _ => False) (Far.of_below (drewB _ nq)) fun _ _ h => h
      have hst := World.ownsRow.stored (w := W.drewN nq) (base := 0) (e := 75) (size := 3) (g := g) (n := r0.length) (cap := cap) (xs := flat r0) hRd (i * 3 + 2) (.int .i64 nv)
      refine ⟨(drewB W nq : Below w.heap.size W _) |> fun _ => ⟨by simp [World.setCell, World.drewN], fun k o hk ho hc => (KeepsOthers.setCell (W.drewN nq) ⟨g, i * 3 + 2, none⟩ (.int .i64 nv)).same k o ho hc⟩, fun b c hb => ?_, ?_⟩
      · exact (show Blk (W.drewN nq) b 4 c from hb).setOther _ _ (fun e => by subst e; exact absurd (hb.ty hcg) (by decide))
      · refine went_upd hm hf hF ok hx c0 ((Far.of_below (drewB W nq)).trans (S1 := fun b => b = g) ((Far.refl _ _).set _ _ (.inl rfl)) fun k hk => .inl (.inl (by rw [hk]; exact hob))) (fun k hk => hk) (fun vs hb hv => ?_) (fun r hr2 => ?_)
        · have : vs.set x.2 (.slice (some ⟨g, 0, none⟩) r0.length cap) = vs := by
            apply List.ext_getElem?
            intro q
            by_cases e : q = x.2
            · subst e; rw [List.getElem?_set_self (List.getElem?_eq_some_iff.1 hv).1, hv]
            · rw [List.getElem?_set_ne (fun h => e h.symm)]
          rw [this]
          exact (show Blk (W.drewN nq) x.1 67 vs.toArray from hb).setOther _ _ hgx
        · rw [hr0] at hr2
          cases hr2
          have := hst.1
          rw [← flat_setV r0 i (.int .i64 nv) y hy] at this
          unfold RowAt
          rw [setV_len]
          exact this)
    clear hm hf hF hR hat fz hvW
    go_enter Try.func35, Try.ntmps35
    go_wp2
    go_still_tail 7, (by kernel_rfl)
    change wpList _ _ _ _ _ W.drew
    go_wp2
    go_returns
    exact ⟨rfl, (hWE 1).out⟩

/-- What Get leaves: the thing in its box. -/
def Got (S : Nat → Prop) (p seed : Nat) (D1 : Dc) (w : World) (vbx : Nat) (nv : Int) (W' : World) : Prop :=
  Rep tyI W' p (grow tyI S w W') seed D1 ∧ Far (fun k => S k ∨ k = vbx) w W' ∧ Blk W' vbx 3 #[.int .i64 nv]
theorem own_got (B vbx : Nat) (hB : w.heap.size ≤ B) (nv : Int) : OwnFrom B (fun (_ : Unit) W => Got S p seed D1 w vbx nv W) := fun s X Y row hs hg hr => by
  have hf : Far (fun k => row = some k) X Y := Far.of_grown hg fun k e => .inl e
  have hR : Rep tyI Y p (grow tyI S w X) seed D1 := hs.1.far hf fun k hk e => by
    obtain ⟨_, o, ho, hc⟩ := hr k e
    obtain ⟨t, c, _, hb⟩ := hk.2
    rw [show X.heap[k]? = _ from hb] at ho
    cases ho; cases hc
  exact ⟨hR.wide (fun k hk => ⟨hk.1, hR.cells k hk⟩) (fun _ hk => hk.2), hs.2.1.trans hf fun k e => .inr (by have := (hr k e).1; omega), own_blk B vbx 3 (fun _ : Unit => #[.int .i64 nv]) () X Y row hs.2.2 hg hr⟩

set_option maxRecDepth 100000 in
set_option maxHeartbeats 1000000 in
theorem get_does (ok : D1.Ok tyI) (hS : ∀ k, S k → CellB tyI w k) {s j i : Nat} {r0 : List Nd} {y : Nd} (hr0 : (D1.rowsOf s)[j]? = some r0) (hy : r0[i]? = some y) (hl : r0.length ≤ 1000000) (vbx : Nat) (nv : Int) (hnv : y.v = .int .i64 nv) (z : Value) (hvb : Blk w vbx 3 #[z]) :
    Does w S p seed D1 s j i 44 #[.pointer (some ⟨vbx, 0, none⟩)] (Got S p seed D1 w vbx nv) := by
  refine ⟨enters_of Try.func44 (by kernel_rfl) rfl, own_got _ vbx (Nat.le_refl _) nv, ?_, ?_⟩
  · intro W b v c hb hk hW
    have := (hW.1.far (S1 := fun k => k = b) (W' := W.setCell ⟨b, 0, none⟩ v) ((Far.refl _ _).set _ _ (.inl rfl)) (fun k hk2 e => by subst e; exact not_cell hk (by decide) hk2.2))
    exact ⟨this.wide (fun k hk => ⟨hk.1, this.cells k hk⟩) (fun _ hk => hk.2), hW.2.1.set _ _ (.inr hb), hW.2.2.setOther _ _ (fun e => by subst e; exact absurd (hk.ty hW.2.2) (by decide))⟩
  · intro W g0 g1 A1 va vb x hm hf hF hx
    obtain ⟨v, r, hr, c0, d0, hR⟩ := slot_at hm ok s j x hx
    rw [hr0] at hr
    cases hr
    have hvW := hF.blk hvb (fun h => not_cell hvb (by decide) (hS _ h))
    obtain ⟨e0, e1⟩ := facts1 hvW
    obtain ⟨A, cap, rfl, hcap, hmax, hat⟩ := hR.form
    obtain ⟨g, rfl, hob, n0, n1, n2, fz⟩ := hat i y hy
    rw [hnv] at n2
    have hil := (List.getElem?_eq_some_iff.1 hy).1
    have hil2 : (i : Int) < r0.length := by omega
    have hil3 : (i : Int) ≤ 1000000 := by omega
    have hWE : Hid (KeepsFrom w.heap.size W (W.setCell ⟨vbx, 0, none⟩ (.int .i64 nv)) ∧ (∀ b c, Blk W b 4 c → Blk (W.setCell ⟨vbx, 0, none⟩ (.int .i64 nv)) b 4 c) ∧ Got S p seed D1 w vbx nv (W.setCell ⟨vbx, 0, none⟩ (.int .i64 nv))) := Lib.hid (by
      have hnc : ¬ CellB tyI W vbx := not_cell hvW (by decide)
      have f : Far (fun k => k = vbx) W (W.setCell ⟨vbx, 0, none⟩ (.int .i64 nv)) := (Far.refl _ _).set _ _ (.inl rfl)
      have hne : ∀ {k}, grow tyI S w W k → ¬ k = vbx := fun hk e => by subst e; exact hnc hk.2
      have hm' := hm.far f (hne hf.p) (hne hf.g0) (fun h => hne (hf.g1 h)) (fun u hu k hk => hne (hf.row u hu k hk))
      have hwent := Went.mk' (T := tyI) (S := fun k => S k ∨ k = vbx) hm' ((hF.mono (S1 := fun k => S k ∨ k = vbx) (fun k hk => .inl hk)).trans f fun k hk => .inl (.inr hk)) (hf.p.1.imp .inl id) (hf.g0.1.imp .inl id) (fun h => (hf.g1 h).1.imp .inl id) (fun u hu k hk => (hf.row u hu k hk).1.imp .inl id)
      refine ⟨(KeepsOthers.setCell _ _ _).from _, fun b c hb => hb.setOther _ _ (fun e => by subst e; exact absurd (hb.ty hvW) (by decide)), hwent.1.wide (fun k hk => ⟨?_, hk.2⟩) (fun _ hk => hk.2), hwent.2, hvW.set 0 _⟩
      rcases hk.1 with (h1 | h1) | h1
      · exact .inl h1
      · subst h1
        exact absurd hk.2 (not_cell (hvW.set 0 (.int .i64 nv)) (by decide))
      · exact .inr h1)
    clear hm hf hF hR hat hvW
    go_enter Try.func44, Try.ntmps44
    go_wp2
    go_returns
    exact ⟨rfl, hWE.out⟩

set_option maxRecDepth 100000 in
set_option maxHeartbeats 1000000 in
theorem del_does (ok : D1.Ok tyI) {s j i : Nat} {r0 : List Nd} {y : Nd} (hr0 : (D1.rowsOf s)[j]? = some r0) (hy : r0[i]? = some y) (hl : r0.length ≤ 1000000) (h1c : ∀ x ∈ r0, x.v.oneCell' = true) :
    Does w S p seed D1 s j i 41 #[] (fun W' => Went tyI S w p seed (D1.upd s j (·.eraseIdx i)) W') := by
  refine ⟨enters_of Try.func41 (by kernel_rfl) rfl, own_went _ (Nat.le_refl _) _ _ (fun _ => _), ?_, ?_⟩
  · intro W b v c hb hk hW
    have := (hW.1.far (S1 := fun k => k = b) (W' := W.setCell ⟨b, 0, none⟩ v) ((Far.refl _ _).set _ _ (.inl rfl)) (fun k hk2 e => by subst e; exact not_cell hk (by decide) hk2.2))
    exact ⟨this.wide (fun k hk => ⟨hk.1, this.cells k hk⟩) (fun _ hk => hk.2), hW.2.set _ _ (.inr hb)⟩
  · intro W g0 g1 A1 va vb x hm hf hF hx
    obtain ⟨v, r, hr, c0, d0, hR⟩ := slot_at hm ok s j x hx
    rw [hr0] at hr
    cases hr
    obtain ⟨A, cap, rfl, hcap, hmax, hat⟩ := hR.form
    obtain ⟨g, rfl, hob, n0, n1, n2, fz⟩ := hat i y hy
    have hil := (List.getElem?_eq_some_iff.1 hy).1
    have hil2 : (i : Int) < r0.length := by omega
    have hil3 : (i : Int) ≤ 1000000 := by omega
    obtain ⟨vs0, hvs0⟩ := blk_slot hm hx
    obtain ⟨cg, hcg⟩ := hR.blk hob
    have hgx : x.1 ≠ g := fun e => by rw [e] at hvs0; exact absurd (hvs0.ty hcg) (by decide)
    have hel : (r0.eraseIdx i).length = r0.length - 1 := by rw [List.length_eraseIdx, if_pos hil]
    have HSD := Lib.hid (sdel_any g cap r0 i hil h1c hl W hR)
    have hWE : ∀ W2, RowAt tyI W2 (.slice (some ⟨g, 0, none⟩) (r0.length - 1 : Nat) cap) (r0.eraseIdx i) → Far (fun b => b = g) W W2 →
        Hid ((W2.cell? ⟨x.1, x.2, none⟩ = some (.slice (some ⟨g, 0, none⟩) r0.length cap) ∧ W2.frozen? ⟨x.1, x.2, none⟩ = false) ∧ KeepsFrom w.heap.size W (W2.setCell ⟨x.1, x.2, none⟩ (.slice (some ⟨g, 0, none⟩) (r0.length - 1 : Nat) cap)) ∧ (∀ b c, Blk W b 4 c → Blk (W2.setCell ⟨x.1, x.2, none⟩ (.slice (some ⟨g, 0, none⟩) (r0.length - 1 : Nat) cap)) b 4 c) ∧
          Went tyI S w p seed (D1.upd s j (·.eraseIdx i)) (W2.setCell ⟨x.1, x.2, none⟩ (.slice (some ⟨g, 0, none⟩) (r0.length - 1 : Nat) cap))) := fun W2 hR2 hF2 => Lib.hid (by
      have hv2 := hF2.blk hvs0 hgx
      have hfx : Far (fun b => b = x.1) W2 (W2.setCell ⟨x.1, x.2, none⟩ (.slice (some ⟨g, 0, none⟩) (r0.length - 1 : Nat) cap)) := (Far.refl _ _).set _ _ (.inl rfl)
      refine ⟨⟨?_, hv2.free _⟩, ?_, fun b c hb => ?_, ?_⟩
      · rw [hv2.cell, ← hvs0.cell]; exact c0
      · refine KeepsFrom.trans ⟨hF2.size, fun k o _ hk ho => (hF2.block k (Array.getElem?_eq_some_iff.1 hk).1 (fun e => by
          subst e; rw [show W.heap[k]? = _ from hcg] at hk; cases hk; cases ho)).trans hk⟩ ((KeepsOthers.setCell _ _ _).from _)
      · exact (hF2.blk hb (fun e => by subst e; exact absurd (hb.ty hcg) (by decide))).setOther _ _ (fun e => by subst e; exact absurd (hb.ty hvs0) (by decide))
      · refine went_upd (v' := .slice (some ⟨g, 0, none⟩) (r0.length - 1 : Nat) cap) hm hf hF ok hx c0 ((hF2.mono (S1 := fun b => (Value.slice (some ⟨g, 0, none⟩) r0.length cap).ownBlock = some b ∨ b = x.1) (fun b hb => .inl (by rw [hb]; exact hob))).trans hfx fun k hk => .inl (.inr hk)) (fun k hk => hk) (fun vs hb hv => ?_) (fun r hr2 => ?_)
        · have := (hF2.blk hb hgx).set x.2 (.slice (some ⟨g, 0, none⟩) (r0.length - 1 : Nat) cap)
          rwa [List.setIfInBounds_toArray] at this
        · rw [hr0] at hr2
          cases hr2
          refine hR2.far hfx fun k hk e => ?_
          simp [Value.ownBlock] at hk
          omega)
    clear hm hf hF hR hat fz
    go_enter Try.func41, Try.ntmps41
    go_wp2_with fail
    refine HSD.out.mono ?_
    rintro e W2 ⟨rfl, h2, h3⟩
    obtain ⟨⟨q0, q1⟩, h4⟩ := (hWE W2 h2 h3).out
    have H4 := Lib.hid h4
    clear h2 h3 h4
    go_wp2
    go_returns
    exact ⟨rfl, H4.out⟩
end
end Go.Proofs.Ytifbambalfifaaa
