/- Range and Back of a list; the reference's Same. -/
import Derived.Test.YtidiaomeahoapaaBack2
import Derived.Laws.OwnMore
namespace Go.Proofs.Ytidiaomeahoapaa
open Go.RowKit Go.Shelf
attribute [local go_sem] Oper.semAt_some

def en (x : Nd) : Ent := (x.m, x.s)
/-- The entries of places. -/
def sub (E : List Ent) (f t : Int) : List Ent := (E.drop (from0 f)).take (to0 t E.length - from0 f)

theorem entsF_range (p : Nat) (L : List Nd) (a k : Nat) (h : a + k ≤ L.length) : entsF (hd p :: L) (List.range' (a + 1) k) = ((L.map en).drop a).take k := by
  unfold entsF
  apply List.ext_getElem?
  intro i
  rw [List.getElem?_map, List.getElem?_take]
  by_cases hi : i < k
  · rw [if_pos hi, List.getElem?_drop, List.getElem?_map]
    have h1 : (List.range' (a + 1) k)[i]? = some (a + 1 + i) := by
      rw [List.getElem?_eq_getElem (by simpa using hi)]; simp
    have h2 : L[a + i]? = some L[a + i] := List.getElem?_eq_getElem (by omega)
    rw [h1, h2]
    simp only [Option.map_some]
    rw [show a + 1 + i = (a + i) + 1 by omega, List.getElem?_cons_succ, h2]
    rfl
  · rw [if_neg hi, List.getElem?_eq_none (by simpa using hi)]; rfl
theorem downs_eq : ∀ b, downs b = (List.range' 1 b).reverse
  | 0 => rfl
  | b + 1 => by rw [List.range'_concat, List.reverse_append, ← downs_eq b]; simp [downs]; omega
theorem entsF_downs (p : Nat) (L : List Nd) (a b : Nat) (hab : a ≤ b) (h : b ≤ L.length) : entsF (hd p :: L) ((downs b).take (b - a)) = (((L.map en).drop a).take (b - a)).reverse := by
  rw [← entsF_range p L a (b - a) (by omega)]
  unfold entsF
  rw [← List.map_reverse, downs_eq, List.take_reverse]
  congr 2
  rw [List.length_range', List.drop_range', show 1 + (b - (b - a)) * 1 = a + 1 by omega, show b - (b - (b - a)) = b - a by omega]

variable {w : World} {p : Nat} {L : List Nd}
theorem range_ls (h : Ls w p L) (hN : L.length ≤ 100000) (f t : Int) : Calls Try.prog 18 #[.pointer (some ⟨p, 0, none⟩), .int .i64 f, .int .i64 t] w fun e w' => ∃ r, e = .returned r ∧ Own32 w' w.heap.size r (sub (L.map en) f t) ∧ Below w.heap.size w w' := by
  unfold sub
  rw [List.length_map]
  by_cases hab : from0 f < to0 t L.length
  · have := range_any p L rfl w h.sk (by simp; omega) rfl f t (from0 f) (to0 t L.length) (by unfold from0; omega) (by unfold from0 to0 at *; omega) hab
    have hle : from0 f + (to0 t L.length - from0 f) ≤ L.length := by unfold to0 at *; omega
    rwa [entsF_range p L _ _ hle] at this
  · refine (range_none p L rfl w h.sk f t (by unfold from0 to0 at hab; omega)).mono ?_
    rintro e w' ⟨rfl, hb⟩
    refine ⟨_, rfl, ?_, hb⟩
    rw [show to0 t L.length - from0 f = 0 by omega, List.take_zero]
    exact World.ownsRow_nil _ _ _ _
theorem back_ls (h : Ls w p L) (hN : L.length ≤ 100000) (f t : Int) : Calls Try.prog 26 #[.pointer (some ⟨p, 0, none⟩), .int .i64 f, .int .i64 t] w fun e w' => ∃ r, e = .returned r ∧ Own32 w' w.heap.size r (sub (L.map en) f t).reverse ∧ Below w.heap.size w w' := by
  unfold sub
  rw [List.length_map]
  by_cases hab : from0 f < to0 t L.length
  · have := back_any p L rfl w h.sk (by simp; omega) rfl f t (from0 f) (to0 t L.length) (by unfold from0; omega) (by unfold from0 to0 at *; omega) hab
    rwa [entsF_downs p L _ _ (by omega) (by unfold to0; omega)] at this
  · refine (back_none p L rfl w h.sk f t (by unfold from0 to0 at hab; omega)).mono ?_
    rintro e w' ⟨rfl, hb⟩
    refine ⟨_, rfl, ?_, hb⟩
    rw [show to0 t L.length - from0 f = 0 by omega, List.take_zero]
    exact World.ownsRow_nil _ _ _ _

/-- A list of entries that is read. -/
structure EntsAt (W : World) (v : Value) (l : List Ent) : Prop where
  form : ∃ a cap, v = .slice a l.length cap
  at' : ∀ i e, l[i]? = some e → ∃ g cap, v = .slice (some ⟨g, 0, none⟩) l.length cap ∧ W.cell? ⟨g, i * 2, none⟩ = some (.string e.1) ∧ W.cell? ⟨g, i * 2 + 1, none⟩ = some (.int .i64 e.2)
theorem cellsE_at : ∀ (l : List Ent) (i : Nat) (e : Ent), l[i]? = some e → (cellsE l)[i * 2]? = some (.string e.1) ∧ (cellsE l)[i * 2 + 1]? = some (.int .i64 e.2) := by
  intro l
  induction l with
  | nil => intro i e h; simp at h
  | cons x l ih =>
    intro i e h
    cases i with
    | zero => simp at h; subst h; exact ⟨rfl, rfl⟩
    | succ i =>
      have := ih i e (by simpa using h)
      rw [show cellsE (x :: l) = [.string x.1, .int .i64 x.2] ++ cellsE l from rfl, show (i + 1) * 2 = i * 2 + 2 by omega]
      exact this
theorem Own32.ents {W : World} {n0 : Nat} {v : Value} {l : List Ent} (h : Own32 W n0 v l) : EntsAt W v l := by
  rcases h.2 with ⟨rfl, h0⟩ | ⟨g, cap, cur, rfl, h1, h2, h3⟩
  · have hl : l = [] := List.eq_nil_of_length_eq_zero h0
    subst hl
    exact ⟨⟨none, 0, rfl⟩, fun i e h => by simp at h⟩
  · refine ⟨⟨_, _, rfl⟩, fun i e he => ?_⟩
    have hi := (List.getElem?_eq_some_iff.1 he).1
    obtain ⟨c0, c1⟩ := cellsE_at l i e he
    exact ⟨g, cap, rfl, (h.cellAt (i * 2) (by omega)).trans c0, (h.cellAt (i * 2 + 1) (by omega)).trans c1⟩
theorem EntsAt.later {W W' : World} {v : Value} {l : List Ent} (h : EntsAt W v l) (hb : Below W.heap.size W W') : EntsAt W' v l :=
  ⟨h.form, fun i e he => by
    obtain ⟨g, cap, h1, h2, h3⟩ := h.at' i e he
    exact ⟨g, cap, h1, (hb.cell (World.block_lt_of_cell? W _ h2)).trans h2, (hb.cell (World.block_lt_of_cell? W _ h3)).trans h3⟩⟩
theorem EntsAt.far {W W' : World} {S : Nat → Prop} {n0 : Nat} {v : Value} {l : List Ent} (h : Own32 W n0 v l) (hf : Far S W W') (hS : ∀ k, v.ownBlock = some k → ¬ S k) : EntsAt W' v l := by
  have he := h.ents
  refine ⟨he.form, fun i e hi => ?_⟩
  obtain ⟨g, cap, h1, h2, h3⟩ := he.at' i e hi
  have hg : ¬ S g := hS g (by rw [h1]; rfl)
  have hb := hf.block g (World.block_lt_of_cell? W _ h2) hg
  exact ⟨g, cap, h1, by rw [← h2]; unfold World.cell?; simp only [hb], by rw [← h3]; unfold World.cell?; simp only [hb]⟩

theorem neq_ent (m m' : ByteArray) (s s' : Int) (b : Bool) (h : decide (m = m' ∧ s = s') = b) (W : World) :
    (binOp .neq 32 (.agg #[.string m, .int .i64 s]) (.agg #[.string m', .int .i64 s'])).run Try.prog W = .ok (.bool (!b)) W := by
  by_cases h1 : s = s'
  · by_cases h2 : m = m'
    · rw [h1, h2] at h
      simp at h
      subst h
      rw [h1, h2]
      simp [go_sem]
    · have h3 : ¬ m.toList = m'.toList := fun e => h2 (beq_toList e)
      simp [h1, h2] at h
      subst h
      rw [h1]
      simp [go_sem, h3]
  · simp [h1] at h
    subst h
    simp [go_sem, h1]

set_option maxRecDepth 100000 in
set_option maxHeartbeats 2000000 in
theorem same_any (v1 v2 : Value) (l : List Ent) (hl : l.length ≤ 1000000) (w : World) (h1 : EntsAt w v1 l) (h2 : EntsAt w v2 l) : Calls Try.prog 17 #[v1, v2] w fun e w' => e = .returned (.bool true) ∧ Below w.heap.size w w' := by
  obtain ⟨a1, c1, rfl⟩ := h1.form
  obtain ⟨a2, c2, rfl⟩ := h2.form
  have H1 := Lib.hid h1
  have H2 := Lib.hid h2
  clear h1 h2
  go_enter Try.func17, Try.ntmps17
  go_wp2
  go_loopw [5] (fun i wr => ∃ (k : Nat), i = .int .i64 k ∧ k ≤ l.length ∧ Below w.heap.size w wr) (fun i _ => l.length - (intOf i).toNat)
  case atStart => exact ⟨0, rfl, by omega, Below.refl _ _⟩
  case round =>
    obtain ⟨k, rfl, hk, hbr⟩ := hrel
    by_cases hlt : k < l.length
    · have hx : l[k]? = some l[k] := List.getElem?_eq_getElem hlt
      generalize l[k] = x at *
      obtain ⟨g1, d1, e1, p1, q1⟩ := (H1.out.later hbr).at' k x hx
      obtain ⟨g2, d2, e2, p2, q2⟩ := (H2.out.later hbr).at' k x hx
      cases e1
      cases e2
      have hk2 : (k : Int) < l.length := by omega
      have hne := neq_ent x.1 x.1 x.2 x.2 true (by simp)
      have HBR := Lib.hid hbr
      clear hx hbr H1 H2
      go_wp2_with fail
      go_quiet (fail)
      go_wp2_with fail
      exact ⟨⟨k + 1, by go_num, hlt, HBR.out.trans ((drewB wr _).mono HBR.out.size)⟩, by simp [intOf]; omega⟩
    · obtain rfl : k = l.length := by omega
      go_wp2
      go_returns
      exact ⟨rfl, hbr⟩
end Go.Proofs.Ytidiaomeahoapaa
