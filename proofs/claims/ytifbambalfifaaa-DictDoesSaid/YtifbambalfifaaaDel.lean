/- slices.Delete of one node. -/
import Derived.Test.YtifbambalfifaaaFind
import Derived.Lib.SliceRun
namespace Go.Proofs.Ytifbambalfifaaa
open Go.RowKit Go.Shelf
attribute [local go_sem] Oper.semAt_some

/-- Cells written in a block of a row. -/
theorem setCells_far {S : Nat → Prop} (b : Nat) (hb : S b) : ∀ (vs : List Value) (o : Nat) (w : World), Far S w (w.setCells b o vs)
  | [], _, w => Far.refl _ _
  | v :: vs, o, w => by
    rw [World.setCells]
    exact ((Far.refl S w).set ⟨b, o, none⟩ v (.inl hb)).trans (setCells_far b hb vs (o + 1) _) fun k hk => .inl hk
theorem setCells_blk (b : Nat) (t : TypeId) : ∀ (vs : List Value) (o : Nat) (w : World) (c : Array Value), Blk w b t c → ∃ c', Blk (w.setCells b o vs) b t c' ∧ c'.size = c.size ∧ ∀ j, j < o → c'[j]? = c[j]?
  | [], _, w, c, h => ⟨c, h, rfl, fun _ _ => rfl⟩
  | v :: vs, o, w, c, h => by
    rw [World.setCells]
    obtain ⟨c', h1, h2, h3⟩ := setCells_blk b t vs (o + 1) _ _ (h.set o v)
    refine ⟨c', h1, by rw [h2]; simp, fun j hj => ?_⟩
    rw [h3 j (by omega), Array.getElem?_setIfInBounds]
    rw [if_neg (by omega)]
/-- What lies behind a row's end does not matter. -/
theorem RowAt.tail {T : Ty} {W : World} {g cap : Nat} {r : List Nd} (h : RowAt T W (.slice (some ⟨g, 0, none⟩) r.length cap) r) (vs : List Value) (o : Nat) (ho : r.length * 3 ≤ o) : RowAt T (W.setCells g o vs) (.slice (some ⟨g, 0, none⟩) r.length cap) r := by
  rcases h.2 with ⟨h', _⟩ | ⟨g', cap', cur, h', hb, hg, hnc, hcm, hcs, htake⟩
  · simp at h'
  · simp only [Value.slice.injEq, Option.some.injEq, Addr.mk.injEq, and_true, true_and] at h'
    obtain ⟨rfl, rfl⟩ := h'
    obtain ⟨c', h1, h2, h3⟩ := setCells_blk g T.r vs o W cur hg
    refine ⟨h.1, .inr ⟨g, cap, c', rfl, hb, h1, hnc, hcm, by rw [h2]; exact hcs, ?_⟩⟩
    rw [← htake]
    apply List.ext_getElem?
    intro j
    by_cases hj : j < r.length * 3
    · rw [List.getElem?_take, List.getElem?_take, if_pos hj, if_pos hj, Array.getElem?_toList, Array.getElem?_toList]
      exact h3 j (by omega)
    · rw [List.getElem?_take, List.getElem?_take, if_neg hj, if_neg hj]

/-- A row's beginning. -/
theorem RowAt.head {T : Ty} {W : World} {g cap : Nat} {r : List Nd} (h : RowAt T W (.slice (some ⟨g, 0, none⟩) r.length cap) r) (i : Nat) (hi : i ≤ r.length) : W.ownsRow 0 T.r 3 (.slice (some ⟨g, 0, none⟩) i cap) i (flat (r.take i)) := by
  rcases h.2 with ⟨h', _⟩ | ⟨g', cap', cur, h', hb, hg, hnc, hcm, hcs, htake⟩
  · simp at h'
  · simp only [Value.slice.injEq, Option.some.injEq, Addr.mk.injEq, and_true, true_and] at h'
    obtain ⟨rfl, rfl⟩ := h'
    have hl : (r.take i).length = i := by rw [List.length_take]; omega
    refine ⟨by rw [flat_len, hl], .inr ⟨g, cap, cur, rfl, hb, hg, by omega, hcm, hcs, ?_⟩⟩
    have h1 : flat r = flat (r.take i) ++ flat (r.drop i) := by rw [← flat_append, List.take_append_drop]
    have h2 : (flat (r.take i)).length = i * 3 := by rw [flat_len, hl]
    have h3 : (cur.toList.take (r.length * 3)).take (i * 3) = cur.toList.take (i * 3) := by rw [List.take_take]; congr 1; omega
    rw [← h3, htake, h1, List.take_left' h2]

theorem run_clear_node (w : World) (ty : TypeId) (b o c : Nat) (hc : ∀ j, j < 3 → (w.cell? ⟨b, o + j, none⟩).isSome = true) (hf : ∀ j, j < 3 → w.frozen? ⟨b, o + j, none⟩ = false) :
    (Builtin.clear_ #[67] ty #[.slice (some ⟨b, o, none⟩) 1 c]).run Try.prog w = .ok (.tuple #[]) (w.setCells b o [.int .u32 0, .string ⟨#[]⟩, .int .i64 0]) := by
  have hst := run_storeCells_cells (P := Try.prog) b o [.int .u32 0, .string ⟨#[]⟩, .int .i64 0] 0 w (by simpa using hc) (by simpa using hf) (by intro v hv; simp at hv; rcases hv with rfl | rfl | rfl <;> rfl)
  simp only [Nat.add_zero] at hst
  have hzc : (Builtin.zeroCells (Value.agg #[.int .u32 0, .string ⟨#[]⟩, .int .i64 0]).cells 1).toList = [.int .u32 0, .string ⟨#[]⟩, .int .i64 0] := by kernel_rfl
  simp [Builtin.clear_, run_underlying Try.underlying67, Try.zeroValue75, hzc, hst]

set_option maxRecDepth 100000 in
set_option maxHeartbeats 4000000 in
theorem sdel_any (g cap : Nat) (r : List Nd) (i : Nat) (hi : i < r.length) (hr : ∀ x ∈ r, x.v.oneCell' = true) (hl : r.length ≤ 1000000) (w : World) (hR : RowAt tyI w (.slice (some ⟨g, 0, none⟩) r.length cap) r) :
    Calls Try.prog 42 #[.slice (some ⟨g, 0, none⟩) r.length cap, .int .i64 i, .int .i64 ((i : Int) + 1)] w fun e w' =>
      e = .returned (.slice (some ⟨g, 0, none⟩) (r.length - 1 : Nat) cap) ∧ RowAt tyI w' (.slice (some ⟨g, 0, none⟩) (r.length - 1 : Nat) cap) (r.eraseIdx i) ∧ Far (fun b => b = g) w w' := by
  obtain ⟨i0, hi0, hz0, hz1, hz2⟩ := info_parts info75
  have hdr : Below w.heap.size w w.drew := (Below.refl _ _).drew
  have hRd : RowAt tyI w.drew (.slice (some ⟨g, 0, none⟩) r.length cap) r := hR.far (S := fun _ => False) (Far.of_below hdr) fun _ _ h => h
  obtain ⟨A', cap', he, hcap, hmax, _⟩ := hR.form
  cases he
  have hmm : cap ≤ 9223372036854775807 := by unfold maxLen at hmax; omega
  obtain ⟨news, hnews⟩ : ∃ news, news = flat (r.drop (i + 1)) := ⟨_, rfl⟩
  have hlen : news.length = (r.length - (i + 1)) * 3 := by rw [hnews, flat_len, List.length_drop]
  obtain ⟨A, hA, hsrc⟩ : ∃ A : Addr, (if cap = i + 1 then some (⟨g, 0, none⟩ : Addr) else some ⟨g, (i + 1) * 3, none⟩) = some A ∧ (∀ t u, news[t]? = some u → w.drew.cell? (A.add t) = some u) := by
    by_cases h : cap = i + 1
    · refine ⟨⟨g, 0, none⟩, by simp [h], fun t u hu => ?_⟩
      have h0 : news.length = 0 := by rw [hlen]; omega
      rw [List.length_eq_zero_iff.1 h0] at hu
      simp at hu
    · refine ⟨⟨g, (i + 1) * 3, none⟩, by simp [h], fun t u hu => ?_⟩
      have ht : t < (r.length - (i + 1)) * 3 := by
        have := (List.getElem?_eq_some_iff.1 hu).1
        rwa [hlen] at this
      have hadd : (⟨g, (i + 1) * 3, none⟩ : Addr).add t = ⟨g, (i + 1) * 3 + t, none⟩ := by
        unfold Addr.add
        split
        · rename_i h; subst h; rfl
        · rfl
      rw [hadd, World.ownsRow.cellAt (base := 0) (e := 75) (size := 3) (xs := flat r) hRd _ (by omega), ← hu, hnews]
      have h1 : flat r = flat (r.take (i + 1)) ++ flat (r.drop (i + 1)) := by rw [← flat_append, List.take_append_drop]
      have h2 : (flat (r.take (i + 1))).length = (i + 1) * 3 := by rw [flat_len, List.length_take]; omega
      rw [h1, List.getElem?_append_right (by omega), h2]
      congr 1
      omega
  obtain ⟨W1, hrun, hown1, hgrow⟩ := run_append_fits (P := Try.prog) w.drew 0 67 67 75 i0 3 Try.underlying67 hi0 hz1 g i cap _ (hRd.head i (by omega)) A (r.length - (i + 1)) (cap - (i + 1)) news hlen hsrc
    (fun u hu => flat_one (r := r.drop (i + 1)) (fun x hx => hr x (List.mem_of_mem_drop hx)) u (by rw [← hnews]; exact hu)) (by omega)
  have hera : r.eraseIdx i = r.take i ++ r.drop (i + 1) := List.eraseIdx_eq_take_drop_succ r i
  have hel : (r.eraseIdx i).length = r.length - 1 := by rw [List.length_eraseIdx, if_pos hi]
  have hR1 : RowAt tyI W1 (.slice (some ⟨g, 0, none⟩) (r.eraseIdx i).length cap) (r.eraseIdx i) := by
    unfold RowAt
    rw [hel, hera, flat_append, ← hnews]
    have : i + (r.length - (i + 1)) = r.length - 1 := by omega
    rw [this] at hown1
    exact hown1
  obtain ⟨c1, hblk1, hcs1⟩ : ∃ c1, Blk W1 g 75 c1 ∧ r.length * 3 ≤ c1.size := by
    rcases hR1.2 with ⟨h', _⟩ | ⟨g', cap', cur, h', hb, hg, hnc, hcm, hcs, htake⟩
    · simp at h'
    · simp only [Value.slice.injEq, Option.some.injEq, Addr.mk.injEq, and_true, true_and] at h'
      obtain ⟨rfl, rfl⟩ := h'
      exact ⟨cur, hg, by rw [hcs]; exact Nat.mul_le_mul_right 3 hcap⟩
  have hcl := fun ty => run_clear_node W1 ty g ((r.length - 1) * 3) (cap - (r.length - 1)) (fun j hj => by rw [hblk1.cell, Array.getElem?_eq_getElem (by omega)]; rfl) (fun j _ => hblk1.free _)
  have HEND : Hid (RowAt tyI (W1.setCells g ((r.length - 1) * 3) [.int .u32 0, .string ⟨#[]⟩, .int .i64 0]) (.slice (some ⟨g, 0, none⟩) (r.length - 1 : Nat) cap) (r.eraseIdx i) ∧ Far (fun b => b = g) w (W1.setCells g ((r.length - 1) * 3) [.int .u32 0, .string ⟨#[]⟩, .int .i64 0])) := Lib.hid (by
    refine ⟨?_, ((Far.of_below hdr).trans (S1 := fun b => b = g) (Far.of_grown hgrow fun k e => .inl (by cases e; rfl)) fun k hk => .inl hk).trans (setCells_far (S := fun b => b = g) g rfl _ _ _) fun k hk => .inl hk⟩
    have := hR1.tail [.int .u32 0, .string ⟨#[]⟩, .int .i64 0] ((r.length - 1) * 3) (by rw [hel]; exact Nat.le_refl _)
    rw [hel] at this
    exact this)
  have h1 : (i : Int) < r.length := by omega
  have h2 : (i : Int) + 1 ≤ r.length := by omega
  have h3 : (r.length : Int) ≤ 1000000 := by omega
  have h4 : (r.length : Int) ≤ cap := by omega
  have h5 : (cap : Int) ≤ 9223372036854775807 := by omega
  have h6 : i + (r.length - (i + 1)) = r.length - 1 := by omega
  rw [h6] at hrun
  clear hown1 hgrow hblk1 hcs1 hR1 hera hel hsrc hlen hnews hRd hR hi0 hz0 hz1 hz2 hr h6
  have h0 : (0 : Int) ≤ (i : Int) + 1 := by omega
  have h7 : r.length - (r.length - 1) = 1 := by omega
  have hic : i ≤ cap := by omega
  have hjc : i + 1 ≤ cap := by omega
  go_enter Try.func42, Try.ntmps42
  go_wp2
  go_region_law (refine step_append_ran rfl (.tmp 22) (.tmp 25) 67 67 (by rfl) (by rfl) (by rfl) hrun ?_)
  all_goals go_wp2
  all_goals go_returns
  all_goals exact ⟨rfl, HEND.out⟩
end Go.Proofs.Ytifbambalfifaaa
