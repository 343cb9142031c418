/- Texts of one kind in one: SpansLaw, RefMath, RefSmall. -/
import Derived.Test.YtidiaomeahoapaaQ10
import Derived.Test.YtidiaomeahoapaaQ11
import Derived.Test.YtidiaomeahoapaaQ14
/- The spans of a level. -/
namespace Go.Proofs.Ytidiaomeahoapaa
open Go.RowKit Go.Shelf
attribute [local go_sem] Oper.semAt_some

theorem diffs_pos : ∀ (l : List Nat) (q : Nat), (∀ x ∈ l, q < x) → l.Pairwise (· < ·) → ∀ d ∈ diffs q l, 1 ≤ d := by
  intro l
  induction l with
  | nil => intro q _ _ d h; simp [diffs] at h
  | cons x l ih =>
    intro q h1 h2 d hd
    rcases List.mem_cons.1 hd with rfl | hd
    · have := h1 x (List.mem_cons_self ..); omega
    · exact ih x (List.pairwise_cons.1 h2).1 (List.pairwise_cons.1 h2).2 d hd
theorem diffs_sum : ∀ (l : List Nat) (q N : Nat), (∀ x ∈ l, x ≤ N) → q ≤ N → (diffs q l).sum ≤ (N : Int) - q := by
  intro l
  induction l with
  | nil => intro q N _ h; simp [diffs]; omega
  | cons x l ih =>
    intro q N h1 h2
    have hx := h1 x (List.mem_cons_self ..)
    have := ih x N (fun y hy => h1 y (List.mem_cons_of_mem _ hy)) hx
    simp only [diffs, List.sum_cons]
    omega
theorem sum_nonneg : ∀ (l : List Int), (∀ d ∈ l, 1 ≤ d) → 0 ≤ l.sum := by
  intro l
  induction l with
  | nil => intro _; simp
  | cons x l ih =>
    intro h
    have := ih fun d hd => h d (List.mem_cons_of_mem _ hd)
    have := h x (List.mem_cons_self ..)
    simp only [List.sum_cons]
    omega
theorem len_sum : ∀ (l : List Int), (∀ d ∈ l, 1 ≤ d) → (l.length : Int) ≤ l.sum := by
  intro l
  induction l with
  | nil => intro _; simp
  | cons x l ih =>
    intro h
    have := ih fun d hd => h d (List.mem_cons_of_mem _ hd)
    have := h x (List.mem_cons_self ..)
    simp only [List.sum_cons, List.length_cons]
    omega
theorem diffs_tk : ∀ (l : List Nat) (q i : Nat), (diffs q l).take i = diffs q (l.take i) := by
  intro l
  induction l with
  | nil => intro q i; simp [diffs]
  | cons x l ih =>
    intro q i
    cases i with
    | zero => simp [diffs]
    | succ i => simp [diffs, ih]

/-- What Spans tells. -/
def spansOf (p : Nat) (L : List Nd) (v : Int) : List Int := if 1 ≤ v ∧ v ≤ 32 then diffs 0 (steps (hd p :: L) (v.toNat - 1) 0) else []
variable {w : World} {p : Nat} {L : List Nd}
theorem spans_ls (h : Ls w p L) (hN : L.length ≤ 100000) (v : Int) : Calls Try.prog 21 #[.pointer (some ⟨p, 0, none⟩), .int .i64 v] w fun e w' => ∃ r, e = .returned r ∧ Own3 w' w.heap.size r (spansOf p L v) ∧ Below w.heap.size w w' := by
  unfold spansOf
  by_cases hv : 1 ≤ v ∧ v ≤ 32
  · rw [if_pos hv]
    have := spans_any p L rfl w h.sk (by simp; omega) (v.toNat - 1) (by omega)
    rwa [show ((v.toNat - 1 : Nat) : Int) + 1 = v by omega] at this
  · rw [if_neg hv]
    refine (spans_out ⟨p, 0, none⟩ v (by omega) w).mono ?_
    rintro e w' ⟨rfl, rfl⟩
    exact ⟨_, rfl, World.ownsRow_nil _ _ _ _, Below.refl _ _⟩
theorem spans_pos (p : Nat) (L : List Nd) (v : Int) : ∀ d ∈ spansOf p L v, 1 ≤ d := by
  unfold spansOf
  split
  · refine diffs_pos _ _ (fun x hx => (mem_steps.1 hx).1) ?_
    unfold steps
    exact (List.pairwise_lt_range' ..).filter _
  · intro d hd; simp at hd
theorem spans_sum (p : Nat) (L : List Nd) (v : Int) (i : Nat) : 0 ≤ ((spansOf p L v).take i).sum ∧ ((spansOf p L v).take i).sum ≤ L.length := by
  refine ⟨sum_nonneg _ fun d hd => spans_pos p L v d (List.mem_of_mem_take hd), ?_⟩
  unfold spansOf
  split
  · rw [diffs_tk]
    have := diffs_sum ((steps (hd p :: L) (v.toNat - 1) 0).take i) 0 L.length (fun x hx => by
      have := (mem_steps.1 (List.mem_of_mem_take hx)).2.1
      simp at this; omega) (Nat.zero_le _)
    simpa using this
  · simp
theorem spans_len (p : Nat) (L : List Nd) (v : Int) : 0 < (spansOf p L v).length ↔ (1 ≤ v ∧ v ≤ 32) ∧ v ≤ lvs L := by
  unfold spansOf
  by_cases hv : 1 ≤ v ∧ v ≤ 32
  · rw [if_pos hv, diffs_len, List.length_pos_iff, ne_eq, steps_nil]
    omega
  · rw [if_neg hv]
    simp; omega
theorem spans_one (h : Ls w p L) : spansOf p L 1 = List.replicate L.length 1 := by
  unfold spansOf
  rw [if_pos (by decide)]
  have hp := lev_pos h.sk
  rw [show (1 : Int).toNat - 1 = 0 from rfl, steps_zero hp]
  have key : ∀ (n q : Nat), diffs q (List.range' (q + 1) n) = List.replicate n 1 := by
    intro n
    induction n with
    | zero => intro q; rfl
    | succ n ih =>
      intro q
      rw [List.range'_succ, List.replicate_succ]
      simp only [diffs]
      rw [ih]
      congr 1
      omega
  rw [key]
  simp

/-- A list of numbers that is read. -/
theorem Own3.form {W : World} {n0 : Nat} {v : Value} {l : List Int} (h : Own3 W n0 v l) : ∃ a cap, v = .slice a l.length cap := by
  rcases h.2 with ⟨rfl, h0⟩ | ⟨g, cap, cur, rfl, _⟩
  · rw [h0]; exact ⟨none, 0, rfl⟩
  · exact ⟨_, _, rfl⟩
theorem Own3.cell {W W' : World} {n0 : Nat} {v : Value} {l : List Int} (h : Own3 W n0 v l) (hb : Below W.heap.size W W') {i : Nat} {d : Int} (hi : l[i]? = some d) : ∃ g cap, v = .slice (some ⟨g, 0, none⟩) l.length cap ∧ W'.cell? ⟨g, i, none⟩ = some (.int .i64 d) := by
  have h' : Own3 W' n0 v l := own_later h hb
  have hl := (List.getElem?_eq_some_iff.1 hi).1
  rcases h'.2 with ⟨rfl, h0⟩ | ⟨g, cap, cur, rfl, _⟩
  · omega
  · refine ⟨g, cap, rfl, ?_⟩
    rw [h'.cellAt i (by omega)]
    unfold cellsI
    rw [List.getElem?_map, hi]; rfl

set_option maxRecDepth 100000 in
set_option maxHeartbeats 8000000 in
theorem spans_walk (a : Option Addr) (cap : Nat) (l : List Ac) (hn : l.length ≤ 9223372036854775807) (hu : ∀ x ∈ l, x.Fit) (v : Int) (w : World) (hA : Acts w a l) :
    Calls Try.prog 7 #[.slice a l.length cap, .int .i64 v] w fun e w' => e = .returned (.bool true) ∧ Below w.heap.size w w' := by
  have H10 := Lib.hid (shown_any w)
  have HM := fun w1 (hb : Below w.heap.size w w1) => Lib.hid (made_any a cap l hn hu w1 (hA.far (fun b o ho => (hb.block b (Array.getElem?_eq_some_iff.1 ho).1).trans ho)))
  clear hn hu hA
  go_enter Try.func7, Try.ntmps7
  go_wp2_with fail
  refine H10.out.mono ?_
  rintro e w1 ⟨rfl, hb1⟩
  have HM1 := HM w1 hb1
  have HB1 := Lib.hid hb1
  clear HM H10 hb1
  go_wp2_with fail
  refine HM1.out.mono ?_
  rintro e w2 ⟨q, rfl, hq, ⟨⟨L, hL, hls, hby, hlen⟩, hbl⟩⟩
  have hb2 := HB1.out.trans (hbl.mono HB1.out.size)
  have HB2 := Lib.hid hb2
  have HLS := Lib.hid hls
  have hlN : L.length ≤ 100000 := by omega
  have HS := Lib.hid (spans_ls hls hlN v)
  have HP := Lib.hid (spans_pos q L v)
  have HSM := Lib.hid (spans_sum q L v)
  have HLN := Lib.hid (spans_len q L v)
  have H1 := Lib.hid (spans_one hls)
  have hl120 : (L.length : Int) ≤ 120 := by omega
  clear HM1 HB1 hb2 hls hby hbl hL hq
  have HS1 := fun W (hb : Below w2.heap.size w2 W) => Lib.hid (spans_ls (HLS.out.later hb) hlN 1)
  simp only [H1.out] at HS1
  generalize spansOf q L v = D at *
  go_wp2_with fail
  refine HS.out.mono ?_
  rintro e w3 ⟨r1, rfl, ho1, hb3⟩
  obtain ⟨a1, c1, rfl⟩ := ho1.form
  have HO1 := Lib.hid ho1
  have HB3 := Lib.hid hb3
  clear HS ho1 hb3
  have hD120 : (D.length : Int) ≤ 120 := by
    have h1 := len_sum D HP.out
    have h2 := (HSM.out D.length).2
    rw [List.take_of_length_le (Nat.le_refl _)] at h2
    omega
  go_wp2_with fail
  go_loopw [7, 9] (fun s i wr => ∃ (k : Nat), i = .int .i64 k ∧ s = .int .i64 ((D.take k).sum) ∧ k ≤ D.length ∧ Below w3.heap.size w3 wr) (fun _ i _ => D.length - (intOf i).toNat)
  case atStart => exact ⟨0, rfl, rfl, by omega, Below.refl _ _⟩
  case round =>
    obtain ⟨k, rfl, rfl, hk, hbr⟩ := hrel
    by_cases hlt : k < D.length
    · have hx : D[k]? = some D[k] := List.getElem?_eq_getElem hlt
      obtain ⟨g, c, e1, p1⟩ := HO1.out.cell hbr hx
      cases e1
      have hpos := HP.out _ (List.getElem_mem hlt)
      have hs0 := HSM.out k
      have hs1 := HSM.out (k + 1)
      have hsum : (D.take (k + 1)).sum = (D.take k).sum + D[k] := by
        rw [List.take_succ_eq_append_getElem hlt, List.sum_append]; simp
      rw [hsum] at hs1
      have HSU := Lib.hid hsum
      generalize (D.take k).sum = S at *
      generalize D[k] = d at *
      have hk2 : (k : Int) < D.length := by omega
      obtain ⟨h11, h12⟩ := hs0
      obtain ⟨h13, h14⟩ := hs1
      have hw : IntKind.i64.wrap (S + d) = S + d := IntWalk.i64_in _ (by omega)
      have hd1 : ¬ d < 1 := by omega
      have HBR := Lib.hid hbr
      clear hx hbr HO1 hsum HS1
      go_wp2_with fail
      exact ⟨⟨k + 1, by go_num, by rw [HSU.out], hlt, HBR.out⟩, by simp [intOf]; omega⟩
    · obtain rfl : k = D.length := by omega
      have hbr2 := HB3.out.trans (hbr.mono HB3.out.size)
      have HS2 := HS1 wr hbr2
      have HBR := Lib.hid hbr2
      have hsl := HSM.out D.length
      rw [List.take_of_length_le (Nat.le_refl _)] at hsl
      rw [List.take_of_length_le (Nat.le_refl _)]
      clear hbr hbr2 HS1 HO1
      go_wp2_with fail
      refine HS2.out.mono ?_
      rintro e w4 ⟨r2, rfl, ho2, hb4⟩
      obtain ⟨a2, c2, e2⟩ := ho2.form
      rw [List.length_replicate] at e2
      subst e2
      have HO2 := Lib.hid ho2
      have HB4 := Lib.hid (HBR.out.trans (hb4.mono HBR.out.size))
      clear HS2 ho2 hb4 HBR
      go_wp2_with fail
      go_loopw [11] (fun i wr => ∃ (k : Nat), i = .int .i64 k ∧ k ≤ L.length ∧ Below w4.heap.size w4 wr) (fun i _ => L.length - (intOf i).toNat)
      case atStart => exact ⟨0, rfl, by omega, Below.refl _ _⟩
      case round =>
        obtain ⟨k, rfl, hk, hbr⟩ := hrel
        by_cases hlt : k < L.length
        · have hx : (List.replicate L.length (1 : Int))[k]? = some 1 := by rw [List.getElem?_replicate, if_pos hlt]
          obtain ⟨g, c, e1, p1⟩ := HO2.out.cell hbr hx
          rw [List.length_replicate] at e1
          cases e1
          have hk2 : (k : Int) < L.length := by omega
          have HBR := Lib.hid hbr
          clear hx hbr HO2
          go_wp2_with fail
          exact ⟨⟨k + 1, by go_num, hlt, HBR.out⟩, by simp [intOf]; omega⟩
        · obtain rfl : k = L.length := by omega
          have hbw := HB4.out.trans (hbr.mono HB4.out.size)
          have hLr := HLS.out.later hbw
          have HLe := Lib.hid (len_any q L rfl hLr.sk)
          have HLv := Lib.hid (levels_ls hLr)
          have HBW := Lib.hid (HB2.out.trans (hbw.mono HB2.out.size))
          have h32 := lvs_32 hLr
          have hle := HLN.out
          obtain ⟨hsl1, hsl2⟩ := hsl
          clear hLr hbw hbr HO2 HLN
          generalize lvs L = lm at *
          by_cases hA : v < 1
          · have hD0 : D.length = 0 := by omega
            clear hle
            go_wp2_with fail
            refine HLe.out.mono ?_
            rintro e w6 ⟨rfl, he⟩
            rw [he]
            clear he
            go_wp2_with fail
            refine HLe.out.mono ?_
            rintro e w7 ⟨rfl, he⟩
            rw [he]
            clear he
            go_wp2_with fail
            go_returns
            exact ⟨rfl, HBW.out⟩
          · by_cases hB : (lm : Int) < v
            · have hD0 : D.length = 0 := by omega
              have hB2 : ¬ v ≤ (lm : Int) := by omega
              clear hle
              go_wp2_with fail
              refine HLe.out.mono ?_
              rintro e w6 ⟨rfl, he⟩
              rw [he]
              clear he
              go_wp2_with fail
              refine HLe.out.mono ?_
              rintro e w7 ⟨rfl, he⟩
              rw [he]
              clear he
              go_wp2_with fail
              refine HLv.out.mono ?_
              rintro e w8 ⟨rfl, he⟩
              rw [he]
              clear he
              go_wp2_with fail
              refine HLv.out.mono ?_
              rintro e w9 ⟨rfl, he⟩
              rw [he]
              clear he
              go_wp2_with fail
              go_returns
              exact ⟨rfl, HBW.out⟩
            · have hD0 : 0 < D.length := by omega
              have hD1 : (0 : Int) < D.length := by omega
              clear hle
              go_wp2_with fail
              refine HLe.out.mono ?_
              rintro e w6 ⟨rfl, he⟩
              rw [he]
              clear he
              go_wp2_with fail
              refine HLe.out.mono ?_
              rintro e w7 ⟨rfl, he⟩
              rw [he]
              clear he
              go_wp2_with fail
              refine HLv.out.mono ?_
              rintro e w8 ⟨rfl, he⟩
              rw [he]
              clear he
              go_wp2_with fail
              refine HLv.out.mono ?_
              rintro e w9 ⟨rfl, he⟩
              rw [he]
              clear he
              go_wp2_with fail
              go_returns
              exact ⟨rfl, HBW.out⟩
end Go.Proofs.Ytidiaomeahoapaa
/- What the reference tells of levels, spans, ranges is what the list tells. -/
namespace Go.Proofs.Ytidiaomeahoapaa
open Go.RowKit Go.Shelf

theorem foldl_lvs : ∀ (L : List Nd) (a : Int), ((L.map er).map lI).foldl max a = max a (lvs L : Int) ∨ (L = [] ∧ ((L.map er).map lI).foldl max a = a)
  | [], a => .inr ⟨rfl, rfl⟩
  | x :: L, a => by
    left
    have h : ((List.map er (x :: L)).map lI).foldl max a = ((L.map er).map lI).foldl max (max a (x.l : Int)) := rfl
    rw [h]
    rcases foldl_lvs L (max a (x.l : Int)) with h2 | ⟨rfl, h2⟩
    · rw [h2]
      simp only [lvs]
      omega
    · rw [h2]
      simp only [lvs]
      omega
theorem maxI_lvs (L : List Nd) : maxI ((L.map er).map lI) = (lvs L : Int) := by
  unfold maxI
  rcases foldl_lvs L 0 with h | ⟨rfl, h⟩
  · rw [h]; omega
  · rw [h]; rfl
theorem sp_steps (p : Nat) (L : List Nd) (v : Int) (hv : 1 ≤ v) : spP ((L.map er).map lI) v ((L.map er).map lI).length = steps (hd p :: L) (v.toNat - 1) 0 := by
  unfold spP steps
  have hn : ((L.map er).map lI).length = L.length := by simp
  rw [hn]
  have h3 : (hd p :: L).length - (0 + 1) = L.length := by simp
  simp only [h3, Nat.zero_add]
  rw [List.range'_eq_map_range, List.filter_map]
  have h4 : (fun x : Nat => 1 + x) = (· + 1) := by funext x; omega
  rw [h4]
  congr 1
  apply List.filter_congr
  intro i hi
  have hi' := List.mem_range.1 hi
  have hx : L[i]? = some L[i] := List.getElem?_eq_getElem hi'
  have hl : lev (hd p :: L) (i + 1) = L[i].l := lev_some (show (hd p :: L)[i + 1]? = some L[i] by rw [List.getElem?_cons_succ]; exact hx)
  simp only [Function.comp, hl, List.getElem?_map, hx, Option.map_some, Option.getD_some]
  rw [decide_eq_decide]
  show v ≤ ((L[i].l : Nat) : Int) ↔ _
  omega
theorem range_sub (E : List Ent) (f t : Int) : (E.drop (frN f E.length)).take (toN f t E.length - frN f E.length) = sub E f t ∧ (toN f t E.length - frN f E.length) = (sub E f t).length := by
  rw [sub_len]
  unfold sub
  by_cases h : from0 f < to0 t E.length
  · have e1 : frN f E.length = from0 f := by unfold frN; unfold from0 to0 at *; omega
    have e3 : toN f t E.length = to0 t E.length := by unfold toN; rw [e1]; unfold from0 to0 at *; omega
    rw [e1, e3]
    exact ⟨rfl, rfl⟩
  · have e1 : toN f t E.length = frN f E.length := by unfold toN frN; unfold from0 to0 at *; omega
    rw [e1, Nat.sub_self, show to0 t E.length - from0 f = 0 by omega, List.take_zero, List.take_zero]
    exact ⟨rfl, rfl⟩
end Go.Proofs.Ytidiaomeahoapaa
/- Lists stay small. -/
namespace Go.Proofs.Ytidiaomeahoapaa

theorem cutM_small {M : List En} (h : Small M) (a b : Nat) : Small (cutM M a b) := fun y hy => by
  unfold cutM at hy
  rcases List.mem_append.1 hy with hy | hy
  · exact h y (List.mem_of_mem_take hy)
  · exact h y (List.mem_of_mem_drop hy)
theorem insE_small {M : List En} (h : Small M) (m : ByteArray) (hm : m.size ≤ 281474976710656) (s l : Int) : Small (insE M m s l) := by
  unfold insE
  split
  · exact h
  · split
    · exact h
    · intro y hy
      unfold insM at hy
      rcases List.mem_append.1 hy with hy | hy
      · exact h y (List.mem_of_mem_take hy)
      · rcases List.mem_cons.1 hy with rfl | hy
        · exact hm
        · exact h y (List.mem_of_mem_drop hy)
theorem delE_small {M : List En} (h : Small M) (m : ByteArray) (s : Int) : Small (delE M m s) := by
  unfold delE
  split
  · exact cutM_small h _ _
  · exact h
theorem cutE_small {M : List En} (h : Small M) (f t : Int) : Small (cutE M f t) := by
  unfold cutE
  split
  · exact cutM_small h _ _
  · exact h
theorem insE_len (M : List En) (m : ByteArray) (s l : Int) : (insE M m s l).length ≤ M.length + 1 := by
  unfold insE
  split
  · omega
  · split
    · omega
    · rw [insM_len]; omega
theorem delE_len (M : List En) (m : ByteArray) (s : Int) : (delE M m s).length ≤ M.length := by
  unfold delE
  split
  · exact cutM_len _ _ _ (by omega)
  · omega
theorem cutE_len (M : List En) (f t : Int) : (cutE M f t).length ≤ M.length := by
  unfold cutE
  split
  · exact cutM_len _ _ _ (by omega)
  · omega
end Go.Proofs.Ytidiaomeahoapaa
