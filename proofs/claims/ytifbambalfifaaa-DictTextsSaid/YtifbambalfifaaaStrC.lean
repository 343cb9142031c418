/- The same of a dict of texts. -/
import Derived.Test.YtifbambalfifaaaStrB
namespace Go.Proofs.Ytifbambalfifaaa.Str
open Go.RowKit Go.Shelf
attribute [local go_sem] Oper.semAt_some

section
variable {S : Nat → Prop} {p seed : Nat} {D D1 : Dc} {w : World}

theorem run_clear_node (w : World) (ty : TypeId) (b o c : Nat) (hc : ∀ j, j < 3 → (w.cell? ⟨b, o + j, none⟩).isSome = true) (hf : ∀ j, j < 3 → w.frozen? ⟨b, o + j, none⟩ = false) :
    (Builtin.clear_ #[92] ty #[.slice (some ⟨b, o, none⟩) 1 c]).run Try.prog w = .ok (.tuple #[]) (w.setCells b o [.int .u32 0, .string ⟨#[]⟩, .string ⟨#[]⟩]) := by
  have hst := run_storeCells_cells (P := Try.prog) b o [.int .u32 0, .string ⟨#[]⟩, .string ⟨#[]⟩] 0 w (by simpa using hc) (by simpa using hf) (by intro v hv; simp at hv; rcases hv with rfl | rfl | rfl <;> rfl)
  simp only [Nat.add_zero] at hst
  have hzc : (Builtin.zeroCells (Value.agg #[.int .u32 0, .string ⟨#[]⟩, .string ⟨#[]⟩]).cells 1).toList = [.int .u32 0, .string ⟨#[]⟩, .string ⟨#[]⟩] := by kernel_rfl
  simp [Builtin.clear_, run_underlying Try.underlying92, Try.zeroValue91, hzc, hst]

set_option maxRecDepth 100000 in
set_option maxHeartbeats 4000000 in
theorem sdel_any (g cap : Nat) (r : List Nd) (i : Nat) (hi : i < r.length) (hr : ∀ x ∈ r, x.v.oneCell' = true) (hl : r.length ≤ 1000000) (w : World) (hR : RowAt tyS w (.slice (some ⟨g, 0, none⟩) r.length cap) r) :
    Calls Try.prog 54 #[.slice (some ⟨g, 0, none⟩) r.length cap, .int .i64 i, .int .i64 ((i : Int) + 1)] w fun e w' =>
      e = .returned (.slice (some ⟨g, 0, none⟩) (r.length - 1 : Nat) cap) ∧ RowAt tyS w' (.slice (some ⟨g, 0, none⟩) (r.length - 1 : Nat) cap) (r.eraseIdx i) ∧ Far (fun b => b = g) w w' := by
  obtain ⟨i0, hi0, hz0, hz1, hz2⟩ := info_parts info91
  have hdr : Below w.heap.size w w.drew := (Below.refl _ _).drew
  have hRd : RowAt tyS w.drew (.slice (some ⟨g, 0, none⟩) r.length cap) r := hR.far (S := fun _ => False) (Far.of_below hdr) fun _ _ h => h
  obtain ⟨A', cap', he, hcap, hmax, _⟩ := hR.form
  cases he
  have hmm : cap ≤ 9223372036854775807 := by unfold maxLen at hmax; omega
  obtain ⟨news, hnews⟩ : ∃ news, news = flat (r.drop (i + 1)) := ⟨_, rfl⟩
  have hlen : news.length = (r.length - (i + 1)) * 3 := by rw [hnews, flat_len, List.length_drop]
  obtain ⟨A, hA, hsrc⟩ : ∃ A : Addr, (if cap = i + 1 then some (⟨g, 0, none⟩ : Addr) else some ⟨g, (i + 1) * 3, none⟩) = some A ∧ (∀ t u, news[t]? = some u → w.drew.cell? (A.add t) = some u) := by
    by_cases h : cap = i + 1
    · refine ⟨⟨g, 0, none⟩, by simp [h], fun t u hu => ?_⟩
      have h0 : news.length = 0 := by rw [hlen]; omega
      rw [List.length_eq_zero_iff.1 h0] at hu
      simp at hu
    · refine ⟨⟨g, (i + 1) * 3, none⟩, by simp [h], fun t u hu => ?_⟩
      have ht : t < (r.length - (i + 1)) * 3 := by
        have := (List.getElem?_eq_some_iff.1 hu).1
        rwa [hlen] at this
      have hadd : (⟨g, (i + 1) * 3, none⟩ : Addr).add t = ⟨g, (i + 1) * 3 + t, none⟩ := by
        unfold Addr.add
        split
        · rename_i h; subst h; rfl
        · rfl
      rw [hadd, World.ownsRow.cellAt (base := 0) (e := 91) (size := 3) (xs := flat r) hRd _ (by omega), ← hu, hnews]
      have h1 : flat r = flat (r.take (i + 1)) ++ flat (r.drop (i + 1)) := by rw [← flat_append, List.take_append_drop]
      have h2 : (flat (r.take (i + 1))).length = (i + 1) * 3 := by rw [flat_len, List.length_take]; omega
      rw [h1, List.getElem?_append_right (by omega), h2]
      congr 1
      omega
  obtain ⟨W1, hrun, hown1, hgrow⟩ := run_append_fits (P := Try.prog) w.drew 0 92 92 91 i0 3 Try.underlying92 hi0 hz1 g i cap _ (hRd.head i (by omega)) A (r.length - (i + 1)) (cap - (i + 1)) news hlen hsrc
    (fun u hu => flat_one (r := r.drop (i + 1)) (fun x hx => hr x (List.mem_of_mem_drop hx)) u (by rw [← hnews]; exact hu)) (by omega)
  have hera : r.eraseIdx i = r.take i ++ r.drop (i + 1) := List.eraseIdx_eq_take_drop_succ r i
  have hel : (r.eraseIdx i).length = r.length - 1 := by rw [List.length_eraseIdx, if_pos hi]
  have hR1 : RowAt tyS W1 (.slice (some ⟨g, 0, none⟩) (r.eraseIdx i).length cap) (r.eraseIdx i) := by
    unfold RowAt
    rw [hel, hera, flat_append, ← hnews]
    have : i + (r.length - (i + 1)) = r.length - 1 := by omega
    rw [this] at hown1
    exact hown1
  obtain ⟨c1, hblk1, hcs1⟩ : ∃ c1, Blk W1 g 91 c1 ∧ r.length * 3 ≤ c1.size := by
    rcases hR1.2 with ⟨h', _⟩ | ⟨g', cap', cur, h', hb, hg, hnc, hcm, hcs, htake⟩
    · simp at h'
    · simp only [Value.slice.injEq, Option.some.injEq, Addr.mk.injEq, and_true, true_and] at h'
      obtain ⟨rfl, rfl⟩ := h'
      exact ⟨cur, hg, by rw [hcs]; exact Nat.mul_le_mul_right 3 hcap⟩
  have hcl := fun ty => run_clear_node W1 ty g ((r.length - 1) * 3) (cap - (r.length - 1)) (fun j hj => by rw [hblk1.cell, Array.getElem?_eq_getElem (by omega)]; rfl) (fun j _ => hblk1.free _)
  have HEND : Hid (RowAt tyS (W1.setCells g ((r.length - 1) * 3) [.int .u32 0, .string ⟨#[]⟩, .string ⟨#[]⟩]) (.slice (some ⟨g, 0, none⟩) (r.length - 1 : Nat) cap) (r.eraseIdx i) ∧ Far (fun b => b = g) w (W1.setCells g ((r.length - 1) * 3) [.int .u32 0, .string ⟨#[]⟩, .string ⟨#[]⟩])) := Lib.hid (by
    refine ⟨?_, ((Far.of_below hdr).trans (S1 := fun b => b = g) (Far.of_grown hgrow fun k e => .inl (by cases e; rfl)) fun k hk => .inl hk).trans (setCells_far (S := fun b => b = g) g rfl _ _ _) fun k hk => .inl hk⟩
    have := hR1.tail [.int .u32 0, .string ⟨#[]⟩, .string ⟨#[]⟩] ((r.length - 1) * 3) (by rw [hel]; exact Nat.le_refl _)
    rw [hel] at this
    exact this)
  have h1 : (i : Int) < r.length := by omega
  have h2 : (i : Int) + 1 ≤ r.length := by omega
  have h3 : (r.length : Int) ≤ 1000000 := by omega
  have h4 : (r.length : Int) ≤ cap := by omega
  have h5 : (cap : Int) ≤ 9223372036854775807 := by omega
  have h6 : i + (r.length - (i + 1)) = r.length - 1 := by omega
  rw [h6] at hrun
  clear hown1 hgrow hblk1 hcs1 hR1 hera hel hsrc hlen hnews hRd hR hi0 hz0 hz1 hz2 hr h6
  have h0 : (0 : Int) ≤ (i : Int) + 1 := by omega
  have h7 : r.length - (r.length - 1) = 1 := by omega
  have hic : i ≤ cap := by omega
  have hjc : i + 1 ≤ cap := by omega
  go_enter Try.func54, Try.ntmps54
  go_wp2
  go_region_law (refine step_append_ran rfl (.tmp 22) (.tmp 25) 92 92 (by rfl) (by rfl) (by rfl) hrun ?_)
  all_goals go_wp2
  all_goals go_returns
  all_goals exact ⟨rfl, HEND.out⟩
theorem foot_in {W : World} {g0 g1 : Nat} {va vb : List Value} (hf : Foot (grow tyS S w W) p g0 g1 va vb D1) {s j : Nat} {x : Nat × Nat} (hx : (D1.slots g0 g1 s)[j]? = some x) : S x.1 ∨ w.heap.size ≤ x.1 := by
  unfold Dc.slots at hx
  match j, hx with
  | 0, hx => simp at hx; subst hx; exact hf.g0.1
  | 1, hx =>
    by_cases hb : D1.b = []
    · rw [if_pos hb] at hx; simp at hx
    · rw [if_neg hb] at hx; simp at hx; subst hx; exact (hf.g1 hb).1
  | j + 2, hx =>
    by_cases hb : D1.b = []
    · rw [if_pos hb] at hx; simp at hx
    · rw [if_neg hb] at hx; simp at hx
theorem row_in {W : World} {g0 g1 : Nat} {va vb : List Value} (hf : Foot (grow tyS S w W) p g0 g1 va vb D1) {A1 : Option Addr} (hm : Mem tyS W p g0 g1 A1 va vb seed D1) (ok : D1.Ok tyS) {s j : Nat} {x : Nat × Nat} (hx : (D1.slots g0 g1 s)[j]? = some x) {v : Value}
    (hc : W.cell? ⟨x.1, x.2, none⟩ = some v) (k : Nat) (hk : v.ownBlock = some k) : S k ∨ w.heap.size ≤ k := by
  have hal := isS_pos ok.a
  unfold Dc.slots at hx
  match j, hx with
  | 0, hx =>
    simp at hx; subst hx
    have hv : va[s % D1.a.length]? = some v := by
      have := hm.ta.blk.cell (s % D1.a.length)
      rw [hc] at this
      simpa using this.symm
    exact (hf.row v (List.mem_append_left _ (List.mem_of_getElem? hv)) k hk).1
  | 1, hx =>
    by_cases hb : D1.b = []
    · rw [if_pos hb] at hx; simp at hx
    · rw [if_neg hb] at hx; simp at hx; subst hx
      rcases hm.tb with ⟨h1, _⟩ | ⟨h1, h2, h3, h4⟩
      · exact absurd h1 hb
      have hv : vb[s % D1.b.length]? = some v := by
        have := h4.blk.cell (s % D1.b.length)
        rw [hc] at this
        simpa using this.symm
      exact (hf.row v (List.mem_append_right _ (List.mem_of_getElem? hv)) k hk).1
  | j + 2, hx =>
    by_cases hb : D1.b = []
    · rw [if_pos hb] at hx; simp at hx
    · rw [if_neg hb] at hx; simp at hx

/-- Behind a change of one row. -/
theorem went_upd {W W' : World} {g0 g1 : Nat} {A1 : Option Addr} {va vb : List Value} (hm : Mem tyS W p g0 g1 A1 va vb seed D1) (hf : Foot (grow tyS S w W) p g0 g1 va vb D1) (hF : Far S w W) (ok : D1.Ok tyS) {s j : Nat} {x : Nat × Nat} (hx : (D1.slots g0 g1 s)[j]? = some x)
    {v v' : Value} {f : List Nd → List Nd} (hc : W.cell? ⟨x.1, x.2, none⟩ = some v) (fr : Far (fun b => v.ownBlock = some b ∨ b = x.1) W W') (hown : ∀ k, v'.ownBlock = some k → v.ownBlock = some k)
    (hb : ∀ vs : List Value, Blk W x.1 92 vs.toArray → vs[x.2]? = some v → Blk W' x.1 92 (vs.set x.2 v').toArray) (hr : ∀ r, (D1.rowsOf s)[j]? = some r → RowAt tyS W' v' (f r)) : Went tyS S w p seed (D1.upd s j f) W' := by
  obtain ⟨va', vb', hm', hin⟩ := hm.upd apartS ok s j x hx hc fr hown hb hr
  have hbn : (D1.upd s j f).b ≠ [] → D1.b ≠ [] := fun h e => h (by unfold Dc.upd; split; exact e; simp [e])
  refine Went.mk' hm' (hF.trans fr fun k hk => ?_) hf.p.1 hf.g0.1 (fun h => (hf.g1 (hbn h)).1) fun u hu k hk => ?_
  · rcases hk with h | rfl
    · exact row_in hf hm ok hx hc k h
    · exact foot_in hf hx
  · obtain ⟨u0, h1, h2⟩ := hin u hu k hk
    exact (hf.row u0 h1 k h2).1
theorem blk_slot {W : World} {g0 g1 : Nat} {A1 : Option Addr} {va vb : List Value} (hm : Mem tyS W p g0 g1 A1 va vb seed D1) {s j : Nat} {x : Nat × Nat} (hx : (D1.slots g0 g1 s)[j]? = some x) : ∃ vs : List Value, Blk W x.1 92 vs.toArray := by
  unfold Dc.slots at hx
  match j, hx with
  | 0, hx => simp at hx; subst hx; exact ⟨va, hm.ta.blk⟩
  | 1, hx =>
    by_cases hb : D1.b = []
    · rw [if_pos hb] at hx; simp at hx
    · rw [if_neg hb] at hx; simp at hx; subst hx
      rcases hm.tb with ⟨h1, _⟩ | ⟨h1, h2, h3, h4⟩
      · exact absurd h1 hb
      · exact ⟨vb, h4.blk⟩
  | j + 2, hx =>
    by_cases hb : D1.b = []
    · rw [if_pos hb] at hx; simp at hx
    · rw [if_neg hb] at hx; simp at hx

set_option maxRecDepth 100000 in
set_option maxHeartbeats 1000000 in
theorem set_does (ok : D1.Ok tyS) (hS : ∀ k, S k → CellB tyS w k) {s j i : Nat} {r0 : List Nd} {y : Nd} (hr0 : (D1.rowsOf s)[j]? = some r0) (hy : r0[i]? = some y) (hl : r0.length ≤ 1000000) (vbx : Nat) (nv : ByteArray) (hvb : Blk w vbx 9 #[.string nv]) :
    Does w S p seed D1 s j i 48 #[.pointer (some ⟨vbx, 0, none⟩)] (fun W' => Went tyS S w p seed (D1.upd s j (setV i (.string nv))) W') := by
  refine ⟨enters_of Try.func48 (by kernel_rfl) rfl, own_went _ (Nat.le_refl _) _ _ (fun _ => _), ?_, ?_⟩
  · intro W b v c hb hk hW
    have := (hW.1.far (S1 := fun k => k = b) (W' := W.setCell ⟨b, 0, none⟩ v) ((Far.refl _ _).set _ _ (.inl rfl)) (fun k hk2 e => by subst e; exact not_cell hk (by decide) hk2.2))
    exact ⟨this.wide (fun k hk => ⟨hk.1, this.cells k hk⟩) (fun _ hk => hk.2), hW.2.set _ _ (.inr hb)⟩
  · intro W g0 g1 A1 va vb x hm hf hF hx
    obtain ⟨v, r, hr, c0, d0, hR⟩ := slot_at hm ok s j x hx
    rw [hr0] at hr
    cases hr
    have hvW := hF.blk hvb (fun h => not_cell hvb (by decide) (hS _ h))
    obtain ⟨e0, e1⟩ := facts1 hvW
    obtain ⟨A, cap, rfl, hcap, hmax, hat⟩ := hR.form
    obtain ⟨g, rfl, hob, n0, n1, n2, fz⟩ := hat i y hy
    have hil := (List.getElem?_eq_some_iff.1 hy).1
    have hil2 : (i : Int) < r0.length := by omega
    have hil3 : (i : Int) ≤ 1000000 := by omega
    have fz2 := fz (i * 3 + 2)
    have hWE : ∀ nq, Hid (KeepsFrom w.heap.size W ((W.drewN nq).setCell ⟨g, i * 3 + 2, none⟩ (.string nv)) ∧ (∀ b c, Blk W b 4 c → Blk ((W.drewN nq).setCell ⟨g, i * 3 + 2, none⟩ (.string nv)) b 4 c) ∧ Went tyS S w p seed (D1.upd s j (setV i (.string nv))) ((W.drewN nq).setCell ⟨g, i * 3 + 2, none⟩ (.string nv))) := fun nq => Lib.hid (by
      obtain ⟨vs0, hvs0⟩ := blk_slot hm hx
      obtain ⟨cg, hcg⟩ := hR.blk hob
      have hgx : x.1 ≠ g := fun e => by rw [e] at hvs0; exact absurd (hvs0.ty hcg) (by decide)
      have hRd : RowAt tyS (W.drewN nq) (.slice (some ⟨g, 0, none⟩) r0.length cap) r0 := hR.far (S := fun _ => False) (Far.of_below (drewB _ nq)) fun _ _ h => h
      have hst := World.ownsRow.stored (w := W.drewN nq) (base := 0) (e := 91) (size := 3) (g := g) (n := r0.length) (cap := cap) (xs := flat r0) hRd (i * 3 + 2) (.string nv)
      refine ⟨(drewB W nq : Below w.heap.size W _) |> fun _ => ⟨by simp [World.setCell, World.drewN], fun k o hk ho hc => (KeepsOthers.setCell (W.drewN nq) ⟨g, i * 3 + 2, none⟩ (.string nv)).same k o ho hc⟩, fun b c hb => ?_, ?_⟩
      · exact (show Blk (W.drewN nq) b 4 c from hb).setOther _ _ (fun e => by subst e; exact absurd (hb.ty hcg) (by decide))
      · refine went_upd hm hf hF ok hx c0 ((Far.of_below (drewB W nq)).trans (S1 := fun b => b = g) ((Far.refl _ _).set _ _ (.inl rfl)) fun k hk => .inl (.inl (by rw [hk]; exact hob))) (fun k hk => hk) (fun vs hb hv => ?_) (fun r hr2 => ?_)
        · have : vs.set x.2 (.slice (some ⟨g, 0, none⟩) r0.length cap) = vs := by
            apply List.ext_getElem?
            intro q
            by_cases e : q = x.2
            · subst e; rw [List.getElem?_set_self (List.getElem?_eq_some_iff.1 hv).1, hv]
            · rw [List.getElem?_set_ne (fun h => e h.symm)]
          rw [this]
          exact (show Blk (W.drewN nq) x.1 92 vs.toArray from hb).setOther _ _ hgx
        · rw [hr0] at hr2
          cases hr2
          have := hst.1
          rw [← flat_setV r0 i (.string nv) y hy] at this
          unfold RowAt
          rw [setV_len]
          exact this)
    clear hm hf hF hR hat fz hvW
    go_enter Try.func48, Try.ntmps48
    go_wp2
    go_still_tail 7, (by kernel_rfl)
    change wpList _ _ _ _ _ W.drew
    go_wp2
    go_returns
    exact ⟨rfl, (hWE 1).out⟩

/-- What Get leaves: the thing in its box. -/
def Got (S : Nat → Prop) (p seed : Nat) (D1 : Dc) (w : World) (vbx : Nat) (nv : ByteArray) (W' : World) : Prop :=
  Rep tyS W' p (grow tyS S w W') seed D1 ∧ Far (fun k => S k ∨ k = vbx) w W' ∧ Blk W' vbx 9 #[.string nv]
theorem own_got (B vbx : Nat) (hB : w.heap.size ≤ B) (nv : ByteArray) : OwnFrom B (fun (_ : Unit) W => Got S p seed D1 w vbx nv W) := fun s X Y row hs hg hr => by
  have hf : Far (fun k => row = some k) X Y := Far.of_grown hg fun k e => .inl e
  have hR : Rep tyS Y p (grow tyS S w X) seed D1 := hs.1.far hf fun k hk e => by
    obtain ⟨_, o, ho, hc⟩ := hr k e
    obtain ⟨t, c, _, hb⟩ := hk.2
    rw [show X.heap[k]? = _ from hb] at ho
    cases ho; cases hc
  exact ⟨hR.wide (fun k hk => ⟨hk.1, hR.cells k hk⟩) (fun _ hk => hk.2), hs.2.1.trans hf fun k e => .inr (by have := (hr k e).1; omega), own_blk B vbx 9 (fun _ : Unit => #[.string nv]) () X Y row hs.2.2 hg hr⟩

set_option maxRecDepth 100000 in
set_option maxHeartbeats 1000000 in
theorem get_does (ok : D1.Ok tyS) (hS : ∀ k, S k → CellB tyS w k) {s j i : Nat} {r0 : List Nd} {y : Nd} (hr0 : (D1.rowsOf s)[j]? = some r0) (hy : r0[i]? = some y) (hl : r0.length ≤ 1000000) (vbx : Nat) (nv : ByteArray) (hnv : y.v = .string nv) (z : Value) (hvb : Blk w vbx 9 #[z]) :
    Does w S p seed D1 s j i 56 #[.pointer (some ⟨vbx, 0, none⟩)] (Got S p seed D1 w vbx nv) := by
  refine ⟨enters_of Try.func56 (by kernel_rfl) rfl, own_got _ vbx (Nat.le_refl _) nv, ?_, ?_⟩
  · intro W b v c hb hk hW
    have := (hW.1.far (S1 := fun k => k = b) (W' := W.setCell ⟨b, 0, none⟩ v) ((Far.refl _ _).set _ _ (.inl rfl)) (fun k hk2 e => by subst e; exact not_cell hk (by decide) hk2.2))
    exact ⟨this.wide (fun k hk => ⟨hk.1, this.cells k hk⟩) (fun _ hk => hk.2), hW.2.1.set _ _ (.inr hb), hW.2.2.setOther _ _ (fun e => by subst e; exact absurd (hk.ty hW.2.2) (by decide))⟩
  · intro W g0 g1 A1 va vb x hm hf hF hx
    obtain ⟨v, r, hr, c0, d0, hR⟩ := slot_at hm ok s j x hx
    rw [hr0] at hr
    cases hr
    have hvW := hF.blk hvb (fun h => not_cell hvb (by decide) (hS _ h))
    obtain ⟨e0, e1⟩ := facts1 hvW
    obtain ⟨A, cap, rfl, hcap, hmax, hat⟩ := hR.form
    obtain ⟨g, rfl, hob, n0, n1, n2, fz⟩ := hat i y hy
    rw [hnv] at n2
    have hil := (List.getElem?_eq_some_iff.1 hy).1
    have hil2 : (i : Int) < r0.length := by omega
    have hil3 : (i : Int) ≤ 1000000 := by omega
    have hWE : Hid (KeepsFrom w.heap.size W (W.setCell ⟨vbx, 0, none⟩ (.string nv)) ∧ (∀ b c, Blk W b 4 c → Blk (W.setCell ⟨vbx, 0, none⟩ (.string nv)) b 4 c) ∧ Got S p seed D1 w vbx nv (W.setCell ⟨vbx, 0, none⟩ (.string nv))) := Lib.hid (by
      have hnc : ¬ CellB tyS W vbx := not_cell hvW (by decide)
      have f : Far (fun k => k = vbx) W (W.setCell ⟨vbx, 0, none⟩ (.string nv)) := (Far.refl _ _).set _ _ (.inl rfl)
      have hne : ∀ {k}, grow tyS S w W k → ¬ k = vbx := fun hk e => by subst e; exact hnc hk.2
      have hm' := hm.far f (hne hf.p) (hne hf.g0) (fun h => hne (hf.g1 h)) (fun u hu k hk => hne (hf.row u hu k hk))
      have hwent := Went.mk' (T := tyS) (S := fun k => S k ∨ k = vbx) hm' ((hF.mono (S1 := fun k => S k ∨ k = vbx) (fun k hk => .inl hk)).trans f fun k hk => .inl (.inr hk)) (hf.p.1.imp .inl id) (hf.g0.1.imp .inl id) (fun h => (hf.g1 h).1.imp .inl id) (fun u hu k hk => (hf.row u hu k hk).1.imp .inl id)
      refine ⟨(KeepsOthers.setCell _ _ _).from _, fun b c hb => hb.setOther _ _ (fun e => by subst e; exact absurd (hb.ty hvW) (by decide)), hwent.1.wide (fun k hk => ⟨?_, hk.2⟩) (fun _ hk => hk.2), hwent.2, hvW.set 0 _⟩
      rcases hk.1 with (h1 | h1) | h1
      · exact .inl h1
      · subst h1
        exact absurd hk.2 (not_cell (hvW.set 0 (.string nv)) (by decide))
      · exact .inr h1)
    clear hm hf hF hR hat hvW
    go_enter Try.func56, Try.ntmps56
    go_wp2
    go_returns
    exact ⟨rfl, hWE.out⟩

set_option maxRecDepth 100000 in
set_option maxHeartbeats 1000000 in
theorem del_does (ok : D1.Ok tyS) {s j i : Nat} {r0 : List Nd} {y : Nd} (hr0 : (D1.rowsOf s)[j]? = some r0) (hy : r0[i]? = some y) (hl : r0.length ≤ 1000000) (h1c : ∀ x ∈ r0, x.v.oneCell' = true) :
    Does w S p seed D1 s j i 53 #[] (fun W' => Went tyS S w p seed (D1.upd s j (·.eraseIdx i)) W') := by
  refine ⟨enters_of Try.func53 (by kernel_rfl) rfl, own_went _ (Nat.le_refl _) _ _ (fun _ => _), ?_, ?_⟩
  · intro W b v c hb hk hW
    have := (hW.1.far (S1 := fun k => k = b) (W' := W.setCell ⟨b, 0, none⟩ v) ((Far.refl _ _).set _ _ (.inl rfl)) (fun k hk2 e => by subst e; exact not_cell hk (by decide) hk2.2))
    exact ⟨this.wide (fun k hk => ⟨hk.1, this.cells k hk⟩) (fun _ hk => hk.2), hW.2.set _ _ (.inr hb)⟩
  · intro W g0 g1 A1 va vb x hm hf hF hx
    obtain ⟨v, r, hr, c0, d0, hR⟩ := slot_at hm ok s j x hx
    rw [hr0] at hr
    cases hr
    obtain ⟨A, cap, rfl, hcap, hmax, hat⟩ := hR.form
    obtain ⟨g, rfl, hob, n0, n1, n2, fz⟩ := hat i y hy
    have hil := (List.getElem?_eq_some_iff.1 hy).1
    have hil2 : (i : Int) < r0.length := by omega
    have hil3 : (i : Int) ≤ 1000000 := by omega
    obtain ⟨vs0, hvs0⟩ := blk_slot hm hx
    obtain ⟨cg, hcg⟩ := hR.blk hob
    have hgx : x.1 ≠ g := fun e => by rw [e] at hvs0; exact absurd (hvs0.ty hcg) (by decide)
    have hel : (r0.eraseIdx i).length = r0.length - 1 := by rw [List.length_eraseIdx, if_pos hil]
    have HSD := Lib.hid (sdel_any g cap r0 i hil h1c hl W hR)
    have hWE : ∀ W2, RowAt tyS W2 (.slice (some ⟨g, 0, none⟩) (r0.length - 1 : Nat) cap) (r0.eraseIdx i) → Far (fun b => b = g) W W2 →
        Hid ((W2.cell? ⟨x.1, x.2, none⟩ = some (.slice (some ⟨g, 0, none⟩) r0.length cap) ∧ W2.frozen? ⟨x.1, x.2, none⟩ = false) ∧ KeepsFrom w.heap.size W (W2.setCell ⟨x.1, x.2, none⟩ (.slice (some ⟨g, 0, none⟩) (r0.length - 1 : Nat) cap)) ∧ (∀ b c, Blk W b 4 c → Blk (W2.setCell ⟨x.1, x.2, none⟩ (.slice (some ⟨g, 0, none⟩) (r0.length - 1 : Nat) cap)) b 4 c) ∧
          Went tyS S w p seed (D1.upd s j (·.eraseIdx i)) (W2.setCell ⟨x.1, x.2, none⟩ (.slice (some ⟨g, 0, none⟩) (r0.length - 1 : Nat) cap))) := fun W2 hR2 hF2 => Lib.hid (by
      have hv2 := hF2.blk hvs0 hgx
      have hfx : Far (fun b => b = x.1) W2 (W2.setCell ⟨x.1, x.2, none⟩ (.slice (some ⟨g, 0, none⟩) (r0.length - 1 : Nat) cap)) := (Far.refl _ _).set _ _ (.inl rfl)
      refine ⟨⟨?_, hv2.free _⟩, ?_, fun b c hb => ?_, ?_⟩
      · rw [hv2.cell, ← hvs0.cell]; exact c0
      · refine KeepsFrom.trans ⟨hF2.size, fun k o _ hk ho => (hF2.block k (Array.getElem?_eq_some_iff.1 hk).1 (fun e => by
          subst e; rw [show W.heap[k]? = _ from hcg] at hk; cases hk; cases ho)).trans hk⟩ ((KeepsOthers.setCell _ _ _).from _)
      · exact (hF2.blk hb (fun e => by subst e; exact absurd (hb.ty hcg) (by decide))).setOther _ _ (fun e => by subst e; exact absurd (hb.ty hvs0) (by decide))
      · refine went_upd (v' := .slice (some ⟨g, 0, none⟩) (r0.length - 1 : Nat) cap) hm hf hF ok hx c0 ((hF2.mono (S1 := fun b => (Value.slice (some ⟨g, 0, none⟩) r0.length cap).ownBlock = some b ∨ b = x.1) (fun b hb => .inl (by rw [hb]; exact hob))).trans hfx fun k hk => .inl (.inr hk)) (fun k hk => hk) (fun vs hb hv => ?_) (fun r hr2 => ?_)
        · have := (hF2.blk hb hgx).set x.2 (.slice (some ⟨g, 0, none⟩) (r0.length - 1 : Nat) cap)
          rwa [List.setIfInBounds_toArray] at this
        · rw [hr0] at hr2
          cases hr2
          refine hR2.far hfx fun k hk e => ?_
          simp [Value.ownBlock] at hk
          omega)
    clear hm hf hF hR hat fz
    go_enter Try.func53, Try.ntmps53
    go_wp2_with fail
    refine HSD.out.mono ?_
    rintro e W2 ⟨rfl, h2, h3⟩
    obtain ⟨⟨q0, q1⟩, h4⟩ := (hWE W2 h2 h3).out
    have H4 := Lib.hid h4
    clear h2 h3 h4
    go_wp2
    go_returns
    exact ⟨rfl, H4.out⟩
def strV : Option Nd → Value
  | some y => y.v
  | none => .string ⟨#[]⟩

set_option maxHeartbeats 1000000 in
theorem get_any (hsd : seed < 4294967296) (h : Rep tyS w p S seed D) (ok : D.Ok tyS) (hn : D.n ≤ 1000000) (key : ByteArray) (hk : key.size ≤ 281474976710656) :
    Calls Try.prog 27 #[.pointer (some ⟨p, 0, none⟩), .string key] w fun e w' =>
      e = .returned (.tuple #[strV ((D.step 1).node (sumN seed key.data.toList) key), .bool ((D.step 1).hit (sumN seed key.data.toList) key).isSome]) ∧ Went tyS S w p seed (D.step 1) w' := by
  have hb0 : Below w.heap.size w (w.alloc (Obj.cells #[.string ⟨#[]⟩] 9)) := (Below.refl _ _).alloc (Nat.le_refl _) _
  have k0 := Blk.new w 9 #[.string ⟨#[]⟩]
  have hw := h.later hb0
  obtain ⟨ok1, hn1⟩ := step_ok ok 1
  cases hh : (D.step 1).hit (sumN seed key.data.toList) key with
  | none =>
    have hnd : (D.step 1).node (sumN seed key.data.toList) key = none := by unfold Dc.node; rw [hh]
    have hF := find_any hsd hw ok hn key hk 56 #[.pointer (some ⟨w.heap.size, 0, none⟩)] none (fun j i h => by cases h) (fun _ => hit_none hh) (fun _ => False) (fun j i h => by cases h)
    have HF := Lib.hid hF
    have HK := Lib.hid k0
    have HN := Lib.hid hnd
    have HC := Lib.hid hw.cells
    clear hF hh k0 hnd
    have hmf : ∀ (fn : Fn) (first cap : Array Value) (w : World), (Instr.makeFunc fn first cap).run Try.prog w = .ok (.func fn first cap) w := fun _ _ _ _ => rfl
    go_enter Try.func27, Try.ntmps27
    go_wp2_with fail
    refine HF.out.mono ?_
    rintro e w1 ⟨rfl, hw1, _⟩
    have hq := (hw1 trivial).blk HK.out HC.out (by decide)
    obtain ⟨c0, d0⟩ := facts1 hq
    have HW := Lib.hid (hw1 trivial)
    clear hw1 hq
    go_wp2
    go_ret2
    rw [HN.out]
    exact ⟨rfl, Went.since hb0 HW.out⟩
  | some ji =>
    obtain ⟨j, i⟩ := ji
    obtain ⟨r, y, h1, h2, h3⟩ := node_of hh
    obtain ⟨⟨_, nv, hnv⟩, hfr⟩ := mem_row h1 h2 ok1
    have hrl : r.length ≤ 1000000 := by
      have h4 := rows_len (D := D.step 1) _ j r h1
      have h5 := ok1.n
      omega
    have hF := find_any hsd hw ok hn key hk 56 #[.pointer (some ⟨w.heap.size, 0, none⟩)] (some (j, i)) (fun j' i' h => by cases h; exact hit_some hh) (fun h => by cases h) (Got S p seed (D.step 1) (w.alloc (Obj.cells #[.string ⟨#[]⟩] 9)) w.heap.size nv)
      (fun j' i' h => by cases h; exact get_does ok1 hw.cells h1 h2 hrl w.heap.size nv hnv _ k0)
    have HF := Lib.hid hF
    have HN := Lib.hid h3
    have HV := Lib.hid hnv
    clear hF hh k0 h3 hnv h1 h2 hfr
    have hmf : ∀ (fn : Fn) (first cap : Array Value) (w : World), (Instr.makeFunc fn first cap).run Try.prog w = .ok (.func fn first cap) w := fun _ _ _ _ => rfl
    go_enter Try.func27, Try.ntmps27
    go_wp2_with fail
    refine HF.out.mono ?_
    rintro e w1 ⟨rfl, _, hw1⟩
    obtain ⟨g1, g2, g3⟩ := hw1 rfl
    obtain ⟨c0, d0⟩ := facts1 g3
    have G1 := Lib.hid g1
    have G2 := Lib.hid g2
    clear hw1 g1 g2 g3
    go_wp2
    go_ret2
    rw [HN.out]
    refine ⟨by simp only [strV]; rw [HV.out]; rfl, G1.out.wide (fun k hk => ⟨?_, hk.2⟩) (fun _ hk => hk.2), (Far.of_below hb0).trans G2.out fun k hk => ?_⟩
    · rcases hk.1 with h1 | h1
      · exact .inl h1
      · exact .inr (Nat.le_trans hb0.size h1)
    · rcases hk with h1 | h1
      · exact .inl h1
      · exact .inr (by omega)

/-- The count changes. -/
theorem went_n {W : World} (h : Went tyS S w p seed D W) (m : Nat) : Went tyS S w p seed { D with n := m } (W.setCell ⟨p, 4, none⟩ (.int .i64 m)) := by
  obtain ⟨g0, g1, A1, va, vb, hm, hf, hc⟩ := h.1
  have f : Far (fun k => k = p) W (W.setCell ⟨p, 4, none⟩ (.int .i64 m)) := (Far.refl _ _).set _ _ (.inl rfl)
  refine Went.mk' (g0 := g0) (g1 := g1) (A1 := A1) (va := va) (vb := vb) ⟨?_, hm.ta.past apartS f hm.dict, ?_, hm.sep⟩ (h.2.trans f fun k hk => by subst hk; exact hf.p.1) hf.p.1 hf.g0.1 (fun h => (hf.g1 h).1) (fun v hv k hk => (hf.row v hv k hk).1)
  · have := hm.dict.set 4 (.int .i64 m)
    simpa using this
  · rcases hm.tb with h1 | ⟨h1, h2, h3, h4⟩
    · exact .inl h1
    · exact .inr ⟨h1, h2, h3, h4.past apartS f hm.dict⟩
theorem count_facts {W : World} (h : Went tyS S w p seed D W) : W.cell? ⟨p, 4, none⟩ = some (.int .i64 D.n) ∧ W.frozen? ⟨p, 4, none⟩ = false := by
  obtain ⟨g0, g1, A1, va, vb, hm, hf, hc⟩ := h.1
  exact ⟨hm.dict.cell 4, hm.dict.free 4⟩
theorem n_pos {s j i : Nat} {r : List Nd} {y : Nd} (ok : D.Ok tyS) (h1 : (D.rowsOf s)[j]? = some r) (h2 : r[i]? = some y) : 0 < D.n := by
  have h3 := rows_len s j r h1
  have h4 := (List.getElem?_eq_some_iff.1 h2).1
  have h5 := ok.n
  omega

set_option maxHeartbeats 1000000 in
theorem del_any (hsd : seed < 4294967296) (h : Rep tyS w p S seed D) (ok : D.Ok tyS) (hn : D.n ≤ 1000000) (key : ByteArray) (hk : key.size ≤ 281474976710656) :
    Calls Try.prog 26 #[.pointer (some ⟨p, 0, none⟩), .string key] w fun e w' =>
      e = .returned (.bool ((D.step 1).hit (sumN seed key.data.toList) key).isSome) ∧ Went tyS S w p seed (D.delS (sumN seed key.data.toList) key) w' := by
  obtain ⟨ok1, hn1⟩ := step_ok ok 1
  cases hh : (D.step 1).hit (sumN seed key.data.toList) key with
  | none =>
    have hd : D.delS (sumN seed key.data.toList) key = D.step 1 := by unfold Dc.delS; rw [hh]
    rw [hd]
    have hF := find_any hsd h ok hn key hk 53 #[] none (fun j i h => by cases h) (fun _ => hit_none hh) (fun _ => False) (fun j i h => by cases h)
    have HF := Lib.hid hF
    clear hF hh hd
    go_enter Try.func26, Try.ntmps26
    go_wp2_with fail
    refine HF.out.mono ?_
    rintro e w1 ⟨rfl, hw1, _⟩
    have HW := Lib.hid (hw1 trivial)
    clear hw1
    go_wp2
    go_ret
    exact ⟨rfl, HW.out⟩
  | some ji =>
    obtain ⟨j, i⟩ := ji
    have hd : D.delS (sumN seed key.data.toList) key = (((D.step 1).upd (sumN seed key.data.toList) j (·.eraseIdx i)).less).shrunk := by unfold Dc.delS; rw [hh]
    rw [hd]
    obtain ⟨r, y, h1, h2, h3⟩ := node_of hh
    obtain ⟨_, hfr⟩ := mem_row h1 h2 ok1
    have hrl : r.length ≤ 1000000 := by
      have h4 := rows_len (D := D.step 1) _ j r h1
      have h5 := ok1.n
      omega
    have hnp := n_pos ok1 h1 h2
    have hun : ((D.step 1).upd (sumN seed key.data.toList) j (·.eraseIdx i)).n = (D.step 1).n := by unfold Dc.upd; split <;> rfl
    have hF := find_any hsd h ok hn key hk 53 #[] (some (j, i)) (fun j' i' h => by cases h; exact hit_some hh) (fun h => by cases h) (fun W' => Went tyS S w p seed ((D.step 1).upd (sumN seed key.data.toList) j (·.eraseIdx i)) W')
      (fun j' i' h => by cases h; exact del_does ok1 h1 h2 hrl (fun x hx => one_str (hfr x hx).2))
    have HF := Lib.hid hF
    generalize (D.step 1).upd (sumN seed key.data.toList) j (·.eraseIdx i) = D2 at *
    have hn2 : 0 < D2.n ∧ D2.n ≤ 1000000 := by omega
    have hcast : (((D2.n - 1 : Nat) : Int)) = (D2.n : Int) - 1 := by omega
    clear hF hh h3 h1 h2 hfr hun hd
    go_enter Try.func26, Try.ntmps26
    go_wp2_with fail
    refine HF.out.mono ?_
    rintro e w1 ⟨rfl, _, hw1⟩
    have hW := hw1 rfl
    obtain ⟨c0, d0⟩ := count_facts hW
    have hless := went_n hW (D2.n - 1)
    rw [hcast] at hless
    have hsh := shrink_any (D := D2.less) hless.1 (by show D2.n - 1 ≤ 1000000; omega)
    have HSH := Lib.hid hsh
    have HL := Lib.hid hless
    have hnn : (1 : Int) ≤ D2.n := by omega
    have hnn2 : (D2.n : Int) ≤ 1000000 := by omega
    clear hW hw1 hless hsh hcast
    go_wp2_with fail
    refine HSH.out.mono ?_
    rintro e w2 ⟨rfl, hw2⟩
    have HW2 := Lib.hid (HL.out.trans hw2)
    clear hw2
    go_wp2
    go_ret
    exact ⟨rfl, HW2.out⟩
theorem out_tab {W : World} {g g' : Nat} {vs us : List Value} {rows rows' : List (List Nd)} (h : TabAt tyS W g vs rows) (h' : TabAt tyS W g' us rows') (hg : g ≠ g') (hs : ∀ v ∈ vs, ∀ u ∈ us, ∀ k, v.ownBlock = some k → u.ownBlock ≠ some k) : ∀ k, InTab g vs k → ¬ InTab g' us k := by
  rintro k (rfl | ⟨v, hv, hk⟩) (h2 | ⟨u, hu, hk2⟩)
  · exact hg h2
  · obtain ⟨r, hr⟩ := h'.mem hu
    obtain ⟨c, hc⟩ := hr.blk hk2
    exact absurd (h.blk.ty hc) (by decide)
  · subst h2
    obtain ⟨r, hr⟩ := h.mem hv
    obtain ⟨c, hc⟩ := hr.blk hk
    exact absurd (h'.blk.ty hc) (by decide)
  · exact hs v hv u hu k hk hk2
theorem out_dict {W : World} {g : Nat} {vs : List Value} {rows : List (List Nd)} {c : Array Value} (h : TabAt tyS W g vs rows) (hp : Blk W p tyS.d c) : ¬ InTab g vs p := by
  rintro (rfl | ⟨v, hv, hk⟩)
  · exact absurd (hp.ty h.blk) (by decide)
  · obtain ⟨r, hr⟩ := h.mem hv
    obtain ⟨c, hc⟩ := hr.blk hk
    exact absurd (hp.ty hc) (by decide)

/-- Behind put onto the newest table. -/
theorem went_put {W W1 W' : World} {g0 g1 : Nat} {A1 : Option Addr} {va vb : List Value} (hm : Mem tyS W p g0 g1 A1 va vb seed D) (hf : Foot (grow tyS S w W) p g0 g1 va vb D) (hF : Far S w W) (hb1 : Below W.heap.size W W1) (x : Nd)
    (hP : PutI W1 (if D.b = [] then g0 else g1) (if D.b = [] then va else vb) (if D.b = [] then D.a else D.b) [x] 1 W') :
    Went tyS S w p seed (if D.b = [] then { D with a := putR D.a x } else { D with b := putR D.b x }) W' := by
  obtain ⟨vs', hT, hS, hI, hFP⟩ := hP
  have hm1 := hm.later hb1
  by_cases hb : D.b = []
  · simp only [hb, if_true] at hT hI hFP ⊢
    have hvb : vb = [] := by
      rcases hm.tb with ⟨_, h, _⟩ | ⟨h, _⟩
      · exact h
      · exact absurd hb h
    have hA : A1 = none := by
      rcases hm.tb with ⟨_, _, h⟩ | ⟨h, _⟩
      · exact h
      · exact absurd hb h
    subst hvb hA
    refine Went.mk' (g0 := g0) (g1 := g1) (A1 := none) (va := vs') (vb := []) ⟨?_, hT, .inl ⟨rfl, rfl, rfl⟩, by rw [List.append_nil]; exact hS⟩ (((hF.then_below hb1).trans hFP fun k hk => ?_)) hf.p.1 hf.g0.1 (fun h => absurd rfl h) fun v hv k hk => ?_
    · have := hFP.blk hm1.dict (out_dict hm1.ta hm1.dict)
      simp only [hb] at this
      simpa [hb, putR_len] using this
    · rcases hk with rfl | ⟨v, hv, hk⟩
      · exact hf.g0.1
      · exact (hf.row v (List.mem_append_left _ hv) k hk).1
    · rw [List.append_nil] at hv
      rcases hI v hv k hk with ⟨u0, h1, h2⟩ | h1
      · exact (hf.row u0 (List.mem_append_left _ h1) k h2).1
      · exact .inr (Nat.le_trans hF.size (Nat.le_trans hb1.size h1))
  · simp only [hb, if_false] at hT hI hFP ⊢
    rcases hm1.tb with ⟨h, _⟩ | ⟨_, hA, hg, htb⟩
    · exact absurd h hb
    have hne : putR D.b x ≠ [] := fun e => hb (List.eq_nil_of_length_eq_zero (by have := congrArg List.length e; rw [putR_len] at this; simpa using this))
    have hsa := fun v (hv : v ∈ va) u (hu : u ∈ vb) k hk => Sep.apart hm.sep hv hu (k := k) hk
    refine Went.mk' (g0 := g0) (g1 := g1) (A1 := A1) (va := va) (vb := vs') ⟨?_, hm1.ta.far hFP (out_tab hm1.ta htb (fun e => hg e.symm) hsa), .inr ⟨hne, hA, hg, hT⟩, ?_⟩ (((hF.then_below hb1).trans hFP fun k hk => ?_)) hf.p.1 hf.g0.1 (fun _ => (hf.g1 hb).1) fun v hv k hk => ?_
    · have := hFP.blk hm1.dict (out_dict htb hm1.dict)
      simpa [putR_len] using this
    · refine hm.sep.left.join hS fun v hv u hu k hk hk2 => ?_
      rcases hI u hu k hk2 with ⟨u0, h1, h2⟩ | h1
      · exact hsa v hv u0 h1 k hk h2
      · obtain ⟨r, hr⟩ := hm1.ta.mem hv
        have := hr.lt hk
        omega
    · rcases hk with rfl | ⟨v, hv, hk⟩
      · exact (hf.g1 hb).1
      · exact (hf.row v (List.mem_append_right _ hv) k hk).1
    · rcases List.mem_append.1 hv with h | h
      · exact (hf.row v (List.mem_append_left _ h) k hk).1
      · rcases hI v h k hk with ⟨u0, h1, h2⟩ | h1
        · exact (hf.row u0 (List.mem_append_right _ h1) k h2).1
        · exact .inr (Nat.le_trans hF.size (Nat.le_trans hb1.size h1))

theorem put_at {w2 : World} (h2 : Went tyS S w p seed D w2) (ok : D.Ok tyS) (hn : D.n + 1 ≤ 1000000) (x : Nd) (hx : x.fine tyS) :
    ∃ tv : Value, (∃ A n, tv = .slice A n n) ∧ (∀ W, Below w2.heap.size w2 W → Hid (Calls Try.prog 50 #[.pointer (some ⟨p, 0, none⟩)] W fun e w' => e = .returned tv ∧ w' = W)) ∧
      (∀ W, Below w2.heap.size w2 W → Hid (Calls Try.prog 51 #[tv, .slice (some ⟨W.heap.size, 0, none⟩) 1 1] (W.alloc (.cells x.cells.toArray 91)) fun e W' => e = .returned (.tuple #[]) ∧ Went tyS S w p seed (D.ins x) W')) := by
  obtain ⟨g0, g1, A1, va, vb, hm, hf, hc⟩ := h2.1
  refine ⟨if D.b = [] then .slice (some ⟨g0, 0, none⟩) D.a.length D.a.length else .slice A1 D.b.length D.b.length, ?_, fun W hW => ?_, fun W hW => ?_⟩
  · split
    · exact ⟨_, _, rfl⟩
    · exact ⟨_, _, rfl⟩
  · have hN := newest_any (S := grow tyS S w w2) (hm.later hW) hf (fun k hk => (hc k hk).same (hW.block k (hc k hk).lt))
    have e : (bif D.moving then Value.slice A1 D.b.length D.b.length else .slice (some ⟨g0, 0, none⟩) D.a.length D.a.length) = (if D.b = [] then .slice (some ⟨g0, 0, none⟩) D.a.length D.a.length else .slice A1 D.b.length D.b.length) := by
      cases hmv : D.moving with
      | false => rw [if_pos ((moving_iff D).1 hmv)]; rfl
      | true => rw [if_neg (b_ne hmv)]; rfl
    rw [e] at hN
    exact Lib.hid hN
  · have hb1 : Below w2.heap.size w2 (W.alloc (.cells x.cells.toArray 91)) := hW.alloc hW.size _
    have hm1 := hm.later hb1
    have hrow : RowAt tyS (W.alloc (.cells x.cells.toArray 91)) (.slice (some ⟨W.heap.size, 0, none⟩) 1 1) [x] := by
      have := World.ownsRow_lit (base := 0) (e := 91) (size := 3) W x.cells.toArray 1 (Nat.zero_le _) (by unfold maxLen; omega) rfl
      simpa [RowAt, flat, tyS] using this
    have hfl := ok.n
    by_cases hb : D.b = []
    · have hP := put_any g0 va D.a _ [x] _ hm1.ta hm1.sep.left ok.a hrow (fun u hu k hk h => by
        obtain ⟨r, hr⟩ := hm.ta.mem hu
        have h1 := hr.lt hk
        have h2 := hW.size
        simp [Value.ownBlock] at h
        omega) (fun y hy => by simp at hy; subst hy; exact hx) (by simp only [List.length_singleton]; omega)
      refine Lib.hid ?_
      rw [if_pos hb]
      refine hP.mono fun e W' ⟨he, hPI⟩ => ⟨he, ?_⟩
      exact went_put hm hf h2.2 hb1 x (by simpa only [hb, if_true, List.length_singleton] using hPI)
    · rcases hm1.tb with ⟨h, _⟩ | ⟨_, hA, hg, htb⟩
      · exact absurd h hb
      have hP := put_any g1 vb D.b _ [x] _ htb hm1.sep.right (ok.b hb) hrow (fun u hu k hk h => by
        rcases hm.tb with ⟨h5, _⟩ | ⟨_, _, _, htb0⟩
        · exact absurd h5 hb
        obtain ⟨r, hr⟩ := htb0.mem hu
        have h1 := hr.lt hk
        have h2 := hW.size
        simp [Value.ownBlock] at h
        omega) (fun y hy => by simp at hy; subst hy; exact hx) (by simp only [List.length_singleton]; omega)
      refine Lib.hid ?_
      rw [if_neg hb, hA]
      refine hP.mono fun e W' ⟨he, hPI⟩ => ⟨he, ?_⟩
      exact went_put hm hf h2.2 hb1 x (by simpa only [hb, if_false, List.length_singleton] using hPI)

set_option maxRecDepth 100000 in
set_option maxHeartbeats 4000000 in
theorem set_any (hsd : seed < 4294967296) (h : Rep tyS w p S seed D) (ok : D.Ok tyS) (hn : D.n + 1 ≤ 1000000) (key : ByteArray) (hk : key.size ≤ 281474976710656) (nv : ByteArray) :
    Calls Try.prog 25 #[.pointer (some ⟨p, 0, none⟩), .string key, .string nv] w fun e w' =>
      e = .returned (.bool (!((D.step 1).hit (sumN seed key.data.toList) key).isSome)) ∧ Went tyS S w p seed (D.setS (sumN seed key.data.toList) key (.string nv)) w' := by
  have hb0 : Below w.heap.size w (w.alloc (Obj.cells #[.string nv] 9)) := (Below.refl _ _).alloc (Nat.le_refl _) _
  have k0 := Blk.new w 9 #[.string nv]
  have hw := h.later hb0
  obtain ⟨ok1, hn1⟩ := step_ok ok 1
  have hmf : ∀ (fn : Fn) (first cap : Array Value) (w : World), (Instr.makeFunc fn first cap).run Try.prog w = .ok (.func fn first cap) w := fun _ _ _ _ => rfl
  have hsl := sumN_lt seed key.data.toList
  cases hh : (D.step 1).hit (sumN seed key.data.toList) key with
  | some ji =>
    obtain ⟨j, i⟩ := ji
    have hd : D.setS (sumN seed key.data.toList) key (.string nv) = (D.step 1).upd (sumN seed key.data.toList) j (setV i (.string nv)) := by unfold Dc.setS; rw [hh]
    rw [hd]
    obtain ⟨r, y, h1, h2, h3⟩ := node_of hh
    have hrl : r.length ≤ 1000000 := by
      have h4 := rows_len (D := D.step 1) _ j r h1
      have h5 := ok1.n
      omega
    have hF := find_any hsd hw ok (by omega) key hk 48 #[.pointer (some ⟨w.heap.size, 0, none⟩)] (some (j, i)) (fun j' i' h => by cases h; exact hit_some hh) (fun h => by cases h) (fun W' => Went tyS S (w.alloc (Obj.cells #[.string nv] 9)) p seed ((D.step 1).upd (sumN seed key.data.toList) j (setV i (.string nv))) W')
      (fun j' i' h => by cases h; exact set_does ok1 hw.cells h1 h2 hrl w.heap.size nv k0)
    have HF := Lib.hid hF
    clear hF hh k0 h3 h1 h2 hd
    go_enter Try.func25, Try.ntmps25
    go_wp2_with fail
    refine HF.out.mono ?_
    rintro e w1 ⟨rfl, _, hw1⟩
    have HW := Lib.hid (hw1 rfl)
    clear hw1
    go_wp2
    go_ret
    exact ⟨rfl, Went.since hb0 HW.out⟩
  | none =>
    have hd : D.setS (sumN seed key.data.toList) key (.string nv) = ((D.step 1).grown).add ⟨sumN seed key.data.toList, key, .string nv⟩ := by unfold Dc.setS; rw [hh]
    rw [hd]
    obtain ⟨ok2, hn2⟩ := grown_ok ok1
    have hF := find_any hsd hw ok (by omega) key hk 48 #[.pointer (some ⟨w.heap.size, 0, none⟩)] none (fun j i h => by cases h) (fun _ => hit_none hh) (fun _ => False) (fun j i h => by cases h)
    have HF := Lib.hid hF
    have HK := Lib.hid k0
    have HC := Lib.hid hw.cells
    clear hF hh k0 hd
    have HNM := fun W (hR : Rep tyS W p (grow tyS S (w.alloc (Obj.cells #[.string nv] 9)) W) seed (D.step 1).grown) => Lib.hid (named_any hsd hR key hk)
    generalize sumN seed key.data.toList = s at *
    go_enter Try.func25, Try.ntmps25
    go_wp2_with fail
    refine HF.out.mono ?_
    rintro e w1 ⟨rfl, hw1, _⟩
    have hW1 := hw1 trivial
    have hG := grow_any hW1.1 (by omega)
    have HW1 := Lib.hid hW1
    have HG := Lib.hid hG
    clear hw1 hW1 hG
    go_wp2_with fail
    refine HG.out.mono ?_
    rintro e w2 ⟨rfl, hw2⟩
    have hW2 := HW1.out.trans hw2
    obtain ⟨tv, ⟨At, nt, rfl⟩, HNEW, HPUT⟩ := put_at hW2 ok2 (by omega) ⟨s, key, .string nv⟩ ⟨hsl, nv, rfl⟩
    have hvb := hW2.blk HK.out HC.out (by decide)
    have HVB := Lib.hid hvb
    have B0 : Below w2.heap.size w2 w2.drew := (Below.refl _ _).drew
    have HW2 := Lib.hid hW2
    obtain ⟨v0, v1⟩ := facts1 hvb
    have HCL := fun W => Lib.hid (clone_any key hk W)
    clear hw2 hW2 hvb
    unfold Nd.cells at HPUT
    go_wp2
    go_region_law (go_simp; first
      | (go_at_call 40; refine (HCL _).out.mono ?_; rintro e w3 ⟨rfl, hb3⟩; have B3 : Below w2.heap.size w2 w3 := ofDrew hb3; obtain ⟨v3, x3⟩ := facts1 (HVB.out.later B3))
      | (go_at_call 52; refine (HNM _ (HW2.out.later B3).1).out.mono ?_; rintro e w4 ⟨rfl, hb4⟩; have B4 : Below w2.heap.size w2 w4 := B3.trans (hb4.mono B3.size); obtain ⟨v4, x4⟩ := facts1 (HVB.out.later B4))
      | (go_at_call 50; refine (HNEW _ (by first | exact B0 | exact B3 | exact B4 | exact B4.alloc B4.size _)).out.mono ?_; rintro e w5 ⟨rfl, rfl⟩)
      | (go_at_call 51; refine (HPUT _ B4).out.mono ?_; rintro e w6 ⟨rfl, hW6⟩))
    all_goals (
      obtain ⟨q0, q1⟩ := count_facts hW6
      rw [ins_n] at q0
      have hN := went_n hW6 ((D.step 1).grown.n + 1)
      rw [ins_add] at hN
      have HN := Lib.hid hN
      have hb1 : ((D.step 1).grown.n : Int) + 1 ≤ 1000000 := by omega
      clear hN hW6
      go_wp2
      go_ret
      refine ⟨rfl, Went.since hb0 ?_⟩
      have := HN.out
      rwa [show (((D.step 1).grown.n + 1 : Nat) : Int) = (D.n : Int) + 1 by omega] at this)

set_option maxRecDepth 100000 in
theorem new_any (sd : Nat) (w : World) : Calls Try.prog 24 #[.int .u32 sd] w fun e w' => ∃ q, e = .returned (.pointer (some ⟨q, 0, none⟩)) ∧ Rep tyS w' q (fresh tyS w w') sd newD ∧ Below w.heap.size w w' := by
  obtain ⟨i0, hi0, hz0, hz1, hz2⟩ := info_parts info92
  have hmk := fun W => run_make (P := Try.prog) W 84 92 i0 _ Try.underlying84 hi0 hz0 .i64 .i64 4 4 (by omega) (Int.le_refl _) (by rw [hz2]; omega) (by omega)
  rw [hz1] at hmk
  simp only [Int.reduceToNat, Nat.mul_one] at hmk
  go_enter Try.func24, Try.ntmps24
  go_wp2
  go_returns
  refine ⟨_, rfl, ?_, ((Below.refl _ _).alloc (Nat.le_refl _) _).alloc (by simp) _⟩
  have h1 := (Blk.new w 92 (madeCells #[Value.slice none 0 0] 4)).alloc (Obj.cells #[Value.slice (some { block := w.heap.size, off := 0 }) 4 4, Value.slice none 0 0, Value.int IntKind.u32 ↑sd, Value.int IntKind.i64 0, Value.int IntKind.i64 0] 87)
  have h2 := Blk.new (w.alloc (Obj.cells (madeCells #[Value.slice none 0 0] 4) 92)) 87 #[Value.slice (some { block := w.heap.size, off := 0 }) 4 4, Value.slice none 0 0, Value.int IntKind.u32 ↑sd, Value.int IntKind.i64 0, Value.int IntKind.i64 0]
  rw [World.size_alloc] at h2
  have hmc : madeCells #[Value.slice none 0 0] 4 = (List.replicate 4 (Value.slice none 0 0)).toArray := by
    rw [← toList_madeCells_one]
  have hW := Went.mk' (T := tyS) (S := fun _ => False) (W := w) (g0 := w.heap.size) (g1 := 0) (A1 := none) (va := List.replicate 4 (.slice none 0 0)) (vb := []) (D := newD) (seed := sd) ⟨h2, ⟨by rw [← hmc]; exact h1, rfl, fun i v r hv hr => ?_⟩, .inl ⟨rfl, rfl, rfl⟩, ?_⟩
    (Far.of_below (((Below.refl _ _).alloc (Nat.le_refl _) _).alloc (by simp) _)) (.inr (by simp)) (.inr (Nat.le_refl _)) (fun h => absurd rfl h) (fun v hv k hk => ?_)
  · exact hW.1
  · obtain ⟨hi, rfl⟩ := List.getElem?_eq_some_iff.1 hv
    obtain ⟨hi2, rfl⟩ := List.getElem?_eq_some_iff.1 hr
    simp only [newD, List.getElem_replicate]
    exact RowAt.nil _ _
  · refine Sep.none fun v hv => ?_
    rw [List.append_nil] at hv
    rw [List.eq_of_mem_replicate hv]; rfl
  · rw [List.append_nil] at hv
    rw [List.eq_of_mem_replicate hv] at hk
    simp [Value.ownBlock] at hk
end
end Go.Proofs.Ytifbambalfifaaa.Str
