/- One row of a dict changes; what Set, Get, Delete do with a key's node. -/
import Derived.Test.YtifbambalfifaaaDel
namespace Go.Proofs.Ytifbambalfifaaa
open Go.RowKit Go.Shelf
attribute [local go_sem] Oper.semAt_some

/-- The row of a hash in one of the tables becomes another one. -/
def Dc.upd (D : Dc) (s j : Nat) (f : List Nd → List Nd) : Dc :=
  if j = 0 then { D with a := D.a.set (s % D.a.length) (f (D.a.getD (s % D.a.length) [])) } else { D with b := D.b.set (s % D.b.length) (f (D.b.getD (s % D.b.length) [])) }

theorem TabAt.upd {T : Ty} (hT : T.Apart) {W W' : World} {g k : Nat} {vs : List Value} {rows : List (List Nd)} {v v' : Value} {r' : List Nd} (h : TabAt T W g vs rows) (hS : Sep vs) (hv : vs[k]? = some v) (f : Far (fun b => v.ownBlock = some b ∨ b = g) W W')
    (hb : Blk W' g T.t (vs.set k v').toArray) (hr : RowAt T W' v' r') : TabAt T W' g (vs.set k v') (rows.set k r') := by
  refine ⟨hb, by rw [List.length_set, List.length_set]; exact h.len, fun i u r hu hr2 => ?_⟩
  by_cases e : i = k
  · subst e
    rw [List.getElem?_set_self (List.getElem?_eq_some_iff.1 hv).1] at hu
    rw [List.getElem?_set_self (by have := (List.getElem?_eq_some_iff.1 hr2).1; simpa using this)] at hr2
    cases hu; cases hr2
    exact hr
  · rw [List.getElem?_set_ne (fun h => e h.symm)] at hu hr2
    refine (h.row i u r hu hr2).far f ?_
    rintro b hb2 (h1 | rfl)
    · exact e (hS i k u v b hu hv hb2 h1)
    · obtain ⟨c, hc⟩ := (h.row i u r hu hr2).blk hb2
      exact hT.2.2 (h.blk.ty hc)

section
variable {T : Ty} {S : Nat → Prop} {p seed : Nat} {D : Dc} {w : World}

/-- A row was changed within its block; its slot holds v' now. -/
theorem Mem.upd (hT : T.Apart) {W W' : World} {g0 g1 : Nat} {A1 : Option Addr} {va vb : List Value} (h : Mem T W p g0 g1 A1 va vb seed D) (ok : D.Ok T) (s j : Nat) (x : Nat × Nat) (hx : (D.slots g0 g1 s)[j]? = some x) {v v' : Value} {f : List Nd → List Nd}
    (hc : W.cell? ⟨x.1, x.2, none⟩ = some v) (fr : Far (fun b => v.ownBlock = some b ∨ b = x.1) W W') (hown : ∀ k, v'.ownBlock = some k → v.ownBlock = some k)
    (hb : ∀ vs : List Value, Blk W x.1 T.t vs.toArray → vs[x.2]? = some v → Blk W' x.1 T.t (vs.set x.2 v').toArray) (hr : ∀ r, (D.rowsOf s)[j]? = some r → RowAt T W' v' (f r)) :
    ∃ va' vb', Mem T W' p g0 g1 A1 va' vb' seed (D.upd s j f) ∧ (∀ u ∈ va' ++ vb', ∀ k, u.ownBlock = some k → ∃ u0 ∈ va ++ vb, u0.ownBlock = some k) := by
  have hal := isS_pos ok.a
  have hmem : ∀ (vs : List Value) (k : Nat), vs[k]? = some v → ∀ u ∈ vs.set k v', ∀ b, u.ownBlock = some b → ∃ u0 ∈ vs, u0.ownBlock = some b := fun vs k hv u hu b hb' => by
    rcases List.mem_or_eq_of_mem_set hu with h1 | rfl
    · exact ⟨u, h1, hb'⟩
    · exact ⟨v, List.mem_of_getElem? hv, hown b hb'⟩
  have hp : ∀ t, t = T.t ∨ t = T.r → ∀ c k, Blk W k t c → p ≠ k := fun t ht c k hk e => by
    subst e
    rcases ht with rfl | rfl
    · exact hT.1 (h.dict.ty hk)
    · exact hT.2.1 (h.dict.ty hk)
  unfold Dc.slots at hx
  unfold Dc.upd
  match j, hx with
  | 0, hx =>
    simp at hx
    subst hx
    have hlt : s % D.a.length < va.length := by rw [h.ta.len]; exact Nat.mod_lt _ (by omega)
    have hv : va[s % D.a.length]? = some v := by
      have := h.ta.blk.cell (s % D.a.length)
      rw [hc] at this
      simpa using this.symm
    obtain ⟨r0, _, hrow⟩ := h.ta.rows hv
    have hpn : ¬ (v.ownBlock = some p ∨ p = g0) := by
      rintro (h1 | h1)
      · obtain ⟨c, hc⟩ := hrow.blk h1; exact hp _ (.inr rfl) _ _ hc rfl
      · exact hp _ (.inl rfl) _ _ h.ta.blk h1
    refine ⟨va.set (s % D.a.length) v', vb, ⟨?_, ?_, ?_, ?_⟩, ?_⟩
    · have := fr.blk h.dict hpn
      simpa using this
    · exact h.ta.upd hT h.sep.left hv fr (hb va h.ta.blk hv) (hr _ rfl)
    · rcases h.tb with h1 | ⟨h1, h2, h3, h4⟩
      · exact .inl h1
      · refine .inr ⟨h1, h2, h3, h4.far fr ?_⟩
        rintro k (rfl | ⟨u, hu, hk⟩) (h5 | h5)
        · obtain ⟨c, hc⟩ := hrow.blk h5; exact hT.2.2 (h4.blk.ty hc)
        · exact h3 h5
        · exact Sep.apart h.sep (List.mem_of_getElem? hv) hu h5 hk
        · subst h5
          obtain ⟨r, hr⟩ := h4.mem hu
          obtain ⟨c, hc⟩ := hr.blk hk
          exact hT.2.2 (h.ta.blk.ty hc)
    · refine Sep.join (h.sep.left.set hv fun k hk => .inl (hown k hk)) h.sep.right fun u hu u2 hu2 k hk hk2 => ?_
      obtain ⟨u0, h1, h2⟩ := hmem va _ hv u hu k hk
      exact Sep.apart h.sep h1 hu2 h2 hk2
    · intro u hu k hk
      rcases List.mem_append.1 hu with h1 | h1
      · obtain ⟨u0, h2, h3⟩ := hmem va _ hv u h1 k hk
        exact ⟨u0, List.mem_append_left _ h2, h3⟩
      · exact ⟨u, List.mem_append_right _ h1, hk⟩
  | 1, hx =>
    by_cases hb0 : D.b = []
    · rw [if_pos hb0] at hx; simp at hx
    rw [if_neg hb0] at hx
    simp at hx
    subst hx
    rcases h.tb with ⟨h1, _⟩ | ⟨h1, h2, h3, h4⟩
    · exact absurd h1 hb0
    have hbl := isS_pos (ok.b hb0)
    have hlt : s % D.b.length < vb.length := by rw [h4.len]; exact Nat.mod_lt _ (by omega)
    have hv : vb[s % D.b.length]? = some v := by
      have := h4.blk.cell (s % D.b.length)
      rw [hc] at this
      simpa using this.symm
    obtain ⟨r0, _, hrow⟩ := h4.rows hv
    have hpn : ¬ (v.ownBlock = some p ∨ p = g1) := by
      rintro (h5 | h5)
      · obtain ⟨c, hc⟩ := hrow.blk h5; exact hp _ (.inr rfl) _ _ hc rfl
      · exact hp _ (.inl rfl) _ _ h4.blk h5
    have hro : (D.rowsOf s)[1]? = some (D.b.getD (s % D.b.length) []) := by unfold Dc.rowsOf; rw [if_neg hb0]; rfl
    refine ⟨va, vb.set (s % D.b.length) v', ⟨?_, ?_, .inr ⟨?_, h2, h3, ?_⟩, ?_⟩, ?_⟩
    · have := fr.blk h.dict hpn
      simpa using this
    · refine h.ta.far fr ?_
      rintro k (rfl | ⟨u, hu, hk⟩) (h5 | h5)
      · obtain ⟨c, hc⟩ := hrow.blk h5; exact hT.2.2 (h.ta.blk.ty hc)
      · exact h3 h5.symm
      · exact Sep.apart h.sep hu (List.mem_of_getElem? hv) hk h5
      · subst h5
        obtain ⟨r, hr⟩ := h.ta.mem hu
        obtain ⟨c, hc⟩ := hr.blk hk
        exact hT.2.2 (h4.blk.ty hc)
    · intro e
      have := congrArg List.length e
      simp at this
      exact hb0 this
    · exact h4.upd hT h.sep.right hv fr (hb vb h4.blk hv) (hr _ hro)
    · refine Sep.join h.sep.left (h.sep.right.set hv fun k hk => .inl (hown k hk)) fun u hu u2 hu2 k hk hk2 => ?_
      obtain ⟨u0, h5, h6⟩ := hmem vb _ hv u2 hu2 k hk2
      exact Sep.apart h.sep hu h5 hk h6
    · intro u hu k hk
      rcases List.mem_append.1 hu with h5 | h5
      · exact ⟨u, List.mem_append_left _ h5, hk⟩
      · obtain ⟨u0, h6, h7⟩ := hmem vb _ hv u h5 k hk
        exact ⟨u0, List.mem_append_right _ h6, h7⟩
  | j + 2, hx =>
    by_cases hb0 : D.b = []
    · rw [if_pos hb0] at hx; simp at hx
    · rw [if_neg hb0] at hx; simp at hx
end
end Go.Proofs.Ytifbambalfifaaa
