/- What a dict holds: its nodes, whatever is moved; what setting and deleting change of them. -/
import Derived.Test.YtifbambalfifaaaSet
namespace Go.Proofs.Ytifbambalfifaaa
open Go.RowKit Go.Shelf

def Dc.nodes (D : Dc) : List Nd := D.a.flatten ++ D.b.flatten
/-- Each node in its slot, each key once. -/
structure Inv (T : Ty) (seed : Nat) (D : Dc) : Prop where
  ok : D.Ok T
  sum : ∀ x ∈ D.nodes, x.sum = sumN seed x.key.data.toList
  pa : ∀ (i : Nat) r, D.a[i]? = some r → ∀ x ∈ r, x.sum % D.a.length = i
  pb : ∀ (i : Nat) r, D.b[i]? = some r → ∀ x ∈ r, x.sum % D.b.length = i
  uniq : (D.nodes.map Nd.key).Nodup

theorem set_perm (rows : List (List Nd)) : ∀ (i : Nat) (r' : List Nd), i < rows.length → (rows.set i r').flatten.Perm (r' ++ (rows.set i []).flatten) := by
  induction rows with
  | nil => intro i r' h; simp at h
  | cons y rows ih =>
    intro i r' h
    cases i with
    | zero => simp
    | succ i =>
      have := ih i r' (by simpa using h)
      simp only [List.set_cons_succ, List.flatten_cons]
      refine (this.append_left y).trans ?_
      rw [← List.append_assoc, ← List.append_assoc]
      exact List.perm_append_comm.append_right _
theorem self_perm (rows : List (List Nd)) (i : Nat) (h : i < rows.length) : rows.flatten.Perm (rows.getD i [] ++ (rows.set i []).flatten) := by
  have := set_perm rows i (rows.getD i []) h
  rwa [show rows.set i (rows.getD i []) = rows by
    rw [List.getD_eq_getElem?_getD, List.getElem?_eq_getElem h]
    exact List.set_getElem_self h] at this
theorem putR_perm (rows : List (List Nd)) (x : Nd) (h : 0 < rows.length) : (putR rows x).flatten.Perm (x :: rows.flatten) := by
  have hlt : x.sum % rows.length < rows.length := Nat.mod_lt _ h
  unfold putR
  refine (set_perm rows _ _ hlt).trans ?_
  refine List.Perm.trans ?_ ((self_perm rows _ hlt).symm.cons x)
  rw [List.append_assoc]
  exact List.perm_middle
theorem putL_perm (xs : List Nd) : ∀ rows : List (List Nd), 0 < rows.length → (putL rows xs).flatten.Perm (xs ++ rows.flatten) := by
  induction xs with
  | nil => intro rows _; exact List.Perm.refl _
  | cons x xs ih =>
    intro rows h
    refine (ih (putR rows x) (by rw [putR_len]; exact h)).trans ?_
    refine ((putR_perm rows x h).append_left xs).trans ?_
    exact List.perm_middle
theorem putR_placed (rows : List (List Nd)) (x : Nd) (hp : ∀ (i : Nat) r, rows[i]? = some r → ∀ y ∈ r, y.sum % rows.length = i) : ∀ (i : Nat) r, (putR rows x)[i]? = some r → ∀ y ∈ r, y.sum % (putR rows x).length = i := by
  intro i r hr y hy
  rw [putR_len]
  unfold putR at hr
  rw [List.getElem?_set] at hr
  split at hr
  · rename_i e
    split at hr
    · cases hr
      rcases List.mem_append.1 hy with h | h
      · rw [List.getD_eq_getElem?_getD] at h
        cases hg : rows[x.sum % rows.length]? with
        | none => rw [hg] at h; simp at h
        | some r0 => rw [hg] at h; rw [← e]; exact hp _ r0 hg y h
      · simp at h; subst h; exact e
    · cases hr
  · exact hp i r hr y hy
theorem putL_placed (xs : List Nd) : ∀ rows : List (List Nd), (∀ (i : Nat) r, rows[i]? = some r → ∀ y ∈ r, y.sum % rows.length = i) → ∀ (i : Nat) r, (putL rows xs)[i]? = some r → ∀ y ∈ r, y.sum % (putL rows xs).length = i := by
  induction xs with
  | nil => intro rows h; exact h
  | cons x xs ih => intro rows h; exact ih (putR rows x) (putR_placed rows x h)

theorem nils_perm (rows : List (List Nd)) (h : ∀ i, i < rows.length → rows.getD i [] = []) : rows.flatten = [] := List.eq_nil_of_length_eq_zero (flatten_nils rows h)

section
variable {T : Ty} {seed : Nat} {D : Dc}

theorem move1_perm (ok : D.Ok T) (hb : D.b ≠ []) : D.move1.nodes.Perm D.nodes := by
  have hp := ok.place hb
  have hbl := isS_pos (ok.b hb)
  have h1 := putL_perm (D.a.getD D.place []) D.b (by omega)
  have h2 := self_perm D.a D.place hp
  unfold Dc.move1 Dc.nodes
  split
  · rename_i hl
    have h0 : (D.a.set D.place []).flatten = [] := nils_perm _ fun i hi => by
      rw [List.length_set] at hi
      by_cases e : i = D.place
      · subst e; exact getD_set_nil _ _
      · rw [getD_set_ne _ _ _ _ e]; exact ok.past i (by omega)
    rw [h0, List.append_nil] at h2
    simp only [List.flatten_nil, List.append_nil]
    exact h1.trans (h2.symm.append_right _)
  · show ((D.a.set D.place []).flatten ++ (putL D.b (D.a.getD D.place [])).flatten).Perm (D.a.flatten ++ D.b.flatten)
    refine (h1.append_left _).trans ?_
    rw [← List.append_assoc]
    exact (List.perm_append_comm.trans h2.symm).append_right _

theorem Inv.of_perm {D' : Dc} (h : Inv T seed D) (hp : D'.nodes.Perm D.nodes) (ok : D'.Ok T) (pa : ∀ (i : Nat) r, D'.a[i]? = some r → ∀ x ∈ r, x.sum % D'.a.length = i) (pb : ∀ (i : Nat) r, D'.b[i]? = some r → ∀ x ∈ r, x.sum % D'.b.length = i) : Inv T seed D' :=
  ⟨ok, fun x hx => h.sum x (hp.mem_iff.1 hx), pa, pb, (hp.map Nd.key).nodup_iff.2 h.uniq⟩

theorem Inv.move1 (h : Inv T seed D) (hb : D.b ≠ []) : Inv T seed D.move1 := by
  refine h.of_perm (move1_perm h.ok hb) (h.ok.move1 hb) ?_ ?_
  · unfold Dc.move1
    split
    · exact putL_placed _ _ h.pb
    · intro i r hr x hx
      simp only [List.length_set]
      simp only [List.getElem?_set] at hr
      split at hr
      · split at hr
        · cases hr; simp at hx
        · cases hr
      · exact h.pa i r hr x hx
  · unfold Dc.move1
    split
    · intro i r hr; simp at hr
    · exact putL_placed _ _ h.pb
theorem Inv.run (h : Inv T seed D) : ∀ k, k ≤ D.left → Inv T seed (Dc.run k D) ∧ (Dc.run k D).nodes.Perm D.nodes := by
  intro k
  induction k with
  | zero => intro _; exact ⟨h, List.Perm.refl _⟩
  | succ k ih =>
    intro hk
    obtain ⟨h1, h2⟩ := ih (by omega)
    obtain ⟨_, _, _, h3⟩ := run_facts h.ok k (by omega)
    obtain ⟨h4, _⟩ := h3 (by omega)
    exact ⟨h1.move1 h4, (move1_perm h1.ok h4).trans h2⟩
theorem Inv.step (h : Inv T seed D) (n : Nat) : Inv T seed (D.step n) ∧ (D.step n).nodes.Perm D.nodes := h.run _ (Nat.min_le_right _ _)
theorem begin_nodes (hb : D.b = []) (m : Nat) : (D.begin m).nodes = D.nodes := by
  unfold Dc.nodes Dc.begin
  rw [hb]
  simp
theorem grown_nodes : D.grown.nodes = D.nodes := by
  unfold Dc.grown
  split
  · rename_i h; exact begin_nodes h.1 _
  · rfl
theorem shrunk_nodes : D.shrunk.nodes = D.nodes := by
  unfold Dc.shrunk
  split
  · rename_i h; exact begin_nodes h.1 _
  · rfl
theorem begin_pb (m : Nat) : ∀ (i : Nat) r, (D.begin m).b[i]? = some r → ∀ x ∈ r, x.sum % (D.begin m).b.length = i := by
  intro i r hr x hx
  rw [List.eq_of_mem_replicate (List.mem_of_getElem? hr)] at hx
  simp at hx
theorem begin_ok (ok : D.Ok T) (hb : D.b = []) (m : Nat) : (D.begin m).Ok T := by
  have h1 := isS_pos (isS_size (m : Nat))
  have hne : (D.begin m).b ≠ [] := fun e => by
    have h2 : (List.replicate (sizeS m) ([] : List Nd)).length = 0 := by
      rw [show List.replicate (sizeS m) ([] : List Nd) = [] from e]; rfl
    rw [List.length_replicate] at h2
    omega
  have hs := ok.still hb
  refine ⟨ok.a, fun _ => by simp [Dc.begin]; exact isS_size _, fun _ => ?_, fun e => absurd e hne, fun i hi => ?_, ?_, fun r hr x hx => ?_⟩
  · show D.place < D.a.length
    have := isS_pos ok.a
    omega
  · have hi' : i < D.place := hi
    omega
  · have := ok.n
    rw [hb] at this
    show D.n = D.a.flatten.length + (List.replicate (sizeS m) ([] : List Nd)).flatten.length
    simpa using this
  · rcases hr with hr | hr
    · exact ok.fine r (.inl hr) x hx
    · rw [List.eq_of_mem_replicate hr] at hx; simp at hx
theorem Inv.begin (h : Inv T seed D) (hb : D.b = []) (m : Nat) : Inv T seed (D.begin m) :=
  h.of_perm (by rw [begin_nodes hb]) (begin_ok h.ok hb m) h.pa (begin_pb m)
theorem Inv.grown (h : Inv T seed D) : Inv T seed D.grown := by
  unfold Dc.grown
  split
  · rename_i e; exact h.begin e.1 _
  · exact h
theorem Inv.shrunk (h : Inv T seed D) : Inv T seed D.shrunk := by
  unfold Dc.shrunk
  split
  · rename_i e; exact h.begin e.1 _
  · exact h

theorem nodes_a {i : Nat} {r : List Nd} {x : Nd} (hr : D.a[i]? = some r) (hx : x ∈ r) : x ∈ D.nodes := List.mem_append_left _ (List.mem_flatten.2 ⟨r, List.mem_of_getElem? hr, hx⟩)
theorem nodes_b {i : Nat} {r : List Nd} {x : Nd} (hr : D.b[i]? = some r) (hx : x ∈ r) : x ∈ D.nodes := List.mem_append_right _ (List.mem_flatten.2 ⟨r, List.mem_of_getElem? hr, hx⟩)
/-- A node stands in one of the rows of its hash. -/
theorem Inv.in_rows (h : Inv T seed D) {x : Nd} (hx : x ∈ D.nodes) : ∃ j r, j < 2 ∧ (D.rowsOf x.sum)[j]? = some r ∧ x ∈ r := by
  rcases List.mem_append.1 hx with h1 | h1
  · obtain ⟨r, hr, hx⟩ := List.mem_flatten.1 h1
    obtain ⟨i, hi⟩ := List.getElem?_of_mem hr
    have := h.pa i r hi x hx
    refine ⟨0, r, by omega, ?_, hx⟩
    unfold Dc.rowsOf
    rw [this, List.getD_eq_getElem?_getD, hi]
    rfl
  · obtain ⟨r, hr, hx⟩ := List.mem_flatten.1 h1
    obtain ⟨i, hi⟩ := List.getElem?_of_mem hr
    have := h.pb i r hi x hx
    have hb : D.b ≠ [] := fun e => by rw [e] at hr; simp at hr
    refine ⟨1, r, by omega, ?_, hx⟩
    unfold Dc.rowsOf
    rw [if_neg hb, this]
    show some (D.b.getD i []) = some r
    rw [List.getD_eq_getElem?_getD, hi]
    rfl
theorem rows_nodes {s j : Nat} {r : List Nd} (hr : (D.rowsOf s)[j]? = some r) {x : Nd} (hx : x ∈ r) : x ∈ D.nodes := by
  have hm := List.mem_of_getElem? hr
  unfold Dc.rowsOf at hm
  have key : ∀ (rows : List (List Nd)) i, x ∈ rows.getD i [] → x ∈ rows.flatten := fun rows i h => by
    obtain ⟨r0, h1, h2⟩ := getD_mem h
    exact List.mem_flatten.2 ⟨r0, h1, h2⟩
  rcases List.mem_cons.1 hm with rfl | h1
  · exact List.mem_append_left _ (key _ _ hx)
  · by_cases hb : D.b = []
    · rw [if_pos hb] at h1; simp at h1
    · rw [if_neg hb, List.mem_singleton] at h1
      subst h1
      exact List.mem_append_right _ (key _ _ hx)
theorem is_iff {s : Nat} {key : ByteArray} {x : Nd} : Nd.is s key x = true ↔ x.sum = s ∧ x.key = key := by unfold Nd.is; simp
theorem Inv.hit_none (h : Inv T seed D) {key : ByteArray} (hh : D.hit (sumN seed key.data.toList) key = none) : ∀ x ∈ D.nodes, x.key ≠ key := by
  intro x hx e
  obtain ⟨j, r, hj, hr, hxr⟩ := h.in_rows hx
  have hs := h.sum x hx
  rw [e] at hs
  rw [hs] at hr
  have h1 := Go.Proofs.Ytifbambalfifaaa.hit_none hh j r hj hr x hxr
  have h2 : Nd.is (sumN seed key.data.toList) key x = true := is_iff.2 ⟨hs, e⟩
  rw [h2] at h1
  cases h1
theorem hit_node {key : ByteArray} {s j i : Nat} (hh : D.hit s key = some (j, i)) : ∃ r y, (D.rowsOf s)[j]? = some r ∧ r[i]? = some y ∧ D.node s key = some y ∧ y ∈ D.nodes ∧ y.key = key ∧ y.sum = s := by
  obtain ⟨r, y, h1, h2, h3⟩ := node_of hh
  obtain ⟨r', y', h4, h5, h6, _⟩ := hit_some hh
  rw [h1] at h4
  cases h4
  rw [h2] at h5
  cases h5
  obtain ⟨h7, h8⟩ := is_iff.1 h6
  exact ⟨r, y, h1, h2, h3, rows_nodes h1 (List.mem_of_getElem? h2), h8, h7⟩
theorem nodup_inj (l : List Nd) (h : (l.map Nd.key).Nodup) : ∀ x ∈ l, ∀ y ∈ l, x.key = y.key → x = y := by
  induction l with
  | nil => intro x hx; simp at hx
  | cons z l ih =>
    rw [List.map_cons, List.nodup_cons] at h
    intro x hx y hy e
    rcases List.mem_cons.1 hx with h1 | h1 <;> rcases List.mem_cons.1 hy with h2 | h2
    · rw [h1, h2]
    · exact absurd (List.mem_map.2 ⟨y, h2, by rw [← e, h1]⟩) h.1
    · exact absurd (List.mem_map.2 ⟨x, h1, by rw [e, h2]⟩) h.1
    · exact ih h.2 x h1 y h2 e
/-- A key's node is the only one of its key. -/
theorem Inv.one (h : Inv T seed D) {x y : Nd} (hx : x ∈ D.nodes) (hy : y ∈ D.nodes) (e : x.key = y.key) : x = y := by
  exact nodup_inj _ h.uniq x hx y hy e

theorem upd_n (D : Dc) (s j : Nat) (f : List Nd → List Nd) : (D.upd s j f).n = D.n := by unfold Dc.upd; split <;> rfl
theorem set_placed (rows : List (List Nd)) (k : Nat) (r r' : List Nd) (hk : rows[k]? = some r) (hs : ∀ x ∈ r', ∃ y ∈ r, x.sum = y.sum) (hp : ∀ (i : Nat) r, rows[i]? = some r → ∀ y ∈ r, y.sum % rows.length = i) :
    ∀ (i : Nat) r0, (rows.set k r')[i]? = some r0 → ∀ y ∈ r0, y.sum % (rows.set k r').length = i := by
  intro i r0 hr y hy
  rw [List.length_set]
  rw [List.getElem?_set] at hr
  split at hr
  · rename_i e
    split at hr
    · cases hr
      obtain ⟨z, h1, h2⟩ := hs y hy
      rw [h2, ← e]
      exact hp k r hk z h1
    · cases hr
  · exact hp i r0 hr y hy
theorem total_perm {a b : List Nd} (h : a.Perm b) : a.length = b.length := h.length_eq

/-- One row of a dict becomes another one, of the same keys or fewer. -/
theorem Inv.upd (h : Inv T seed D) {s j : Nat} {r : List Nd} (hr : (D.rowsOf s)[j]? = some r) (hne : r ≠ []) (f : List Nd → List Nd) (hf : ∀ x ∈ f r, (∃ y ∈ r, x.sum = y.sum ∧ x.key = y.key) ∧ T.ok x.v) (hu : ((f r).map Nd.key).Sublist (r.map Nd.key))
    (m : Nat) (hm : m + r.length = D.n + (f r).length) : Inv T seed { D.upd s j f with n := m } ∧ ∃ rest, D.nodes.Perm (r ++ rest) ∧ (D.upd s j f).nodes.Perm (f r ++ rest) := by
  have hal := isS_pos h.ok.a
  have hfine : ∀ x ∈ f r, (∀ y ∈ r, y.fine T) → x.fine T := fun x hx hy => by
    obtain ⟨⟨y, h1, h2, _⟩, h3⟩ := hf x hx
    exact ⟨by rw [h2]; exact (hy y h1).1, h3⟩
  have hsums : ∀ x ∈ f r, ∃ y ∈ r, x.sum = y.sum := fun x hx => by
    obtain ⟨⟨y, h1, h2, _⟩, _⟩ := hf x hx
    exact ⟨y, h1, h2⟩
  have fin : ∀ (D' : Dc) (rest : List Nd), D'.n = m → D.nodes.Perm (r ++ rest) → D'.nodes.Perm (f r ++ rest) → (D'.n = D'.a.flatten.length + D'.b.flatten.length → D'.Ok T) →
      (∀ (i : Nat) r, D'.a[i]? = some r → ∀ x ∈ r, x.sum % D'.a.length = i) → (∀ (i : Nat) r, D'.b[i]? = some r → ∀ x ∈ r, x.sum % D'.b.length = i) → Inv T seed D' := fun D' rest hn h1 h2 hok pa pb => by
    refine ⟨hok ?_, fun x hx => ?_, pa, pb, ?_⟩
    · have h3 := total_perm h1
      have h4 := total_perm h2
      have h5 := h.ok.n
      have e1 : D.nodes.length = D.a.flatten.length + D.b.flatten.length := by unfold Dc.nodes; rw [List.length_append]
      have e2 : D'.nodes.length = D'.a.flatten.length + D'.b.flatten.length := by unfold Dc.nodes; rw [List.length_append]
      rw [List.length_append] at h3 h4
      omega
    · rcases List.mem_append.1 (h2.mem_iff.1 hx) with h3 | h3
      · obtain ⟨⟨y, h4, h5, h6⟩, _⟩ := hf x h3
        rw [h5, h6]
        exact h.sum y (h1.mem_iff.2 (List.mem_append_left _ h4))
      · exact h.sum x (h1.mem_iff.2 (List.mem_append_right _ h3))
    · refine (h2.map Nd.key).nodup_iff.2 ?_
      have h3 := (h1.map Nd.key).nodup_iff.1 h.uniq
      rw [List.map_append] at h3 ⊢
      exact h3.sublist (hu.append_right _)
  by_cases hj : j = 0
  · subst hj
    have hre : r = D.a.getD (s % D.a.length) [] := by unfold Dc.rowsOf at hr; simpa using hr.symm
    have hlt : s % D.a.length < D.a.length := Nat.mod_lt _ (by omega)
    have hk : D.a[s % D.a.length]? = some r := by rw [hre, List.getD_eq_getElem?_getD, List.getElem?_eq_getElem hlt]; rfl
    have hrm : r ∈ D.a := List.mem_of_getElem? hk
    have p1 := self_perm D.a _ hlt
    rw [← hre] at p1
    have p2 := set_perm D.a _ (f r) hlt
    have hd : D.upd s 0 f = { D with a := D.a.set (s % D.a.length) (f r) } := by unfold Dc.upd; rw [if_pos rfl, ← hre]
    have q1 : D.nodes.Perm (r ++ ((D.a.set (s % D.a.length) []).flatten ++ D.b.flatten)) := by
      unfold Dc.nodes
      rw [← List.append_assoc]
      exact p1.append_right _
    have q2 : (D.upd s 0 f).nodes.Perm (f r ++ ((D.a.set (s % D.a.length) []).flatten ++ D.b.flatten)) := by
      rw [hd]
      unfold Dc.nodes
      rw [← List.append_assoc]
      exact p2.append_right _
    refine ⟨fin _ _ rfl q1 q2 (fun hn => ?_) ?_ ?_, _, q1, q2⟩
    · rw [hd] at hn ⊢
      refine ⟨by simp only [List.length_set]; exact h.ok.a, h.ok.b, fun e => by simp only [List.length_set]; exact h.ok.place e, h.ok.still, fun i hi => ?_, hn, fun r0 hr0 x hx => ?_⟩
      · have hi' : i < D.place := hi
        have h1 := h.ok.past i hi'
        show (D.a.set (s % D.a.length) (f r)).getD i [] = []
        by_cases e : i = s % D.a.length
        · subst e; rw [← hre] at h1; exact absurd h1 hne
        · rw [getD_set_ne _ _ _ _ e]; exact h1
      · rcases hr0 with hr0 | hr0
        · rcases List.mem_or_eq_of_mem_set hr0 with h1 | rfl
          · exact h.ok.fine r0 (.inl h1) x hx
          · exact hfine x hx fun y hy => h.ok.fine r (.inl hrm) y hy
        · exact h.ok.fine r0 (.inr hr0) x hx
    · rw [hd]; exact set_placed D.a _ r (f r) hk hsums h.pa
    · rw [hd]; exact h.pb
  · have hb : D.b ≠ [] := fun e => by
      unfold Dc.rowsOf at hr
      rw [if_pos e] at hr
      match j, hj, hr with
      | j + 1, _, hr => simp at hr
    have hre : r = D.b.getD (s % D.b.length) [] := by
      unfold Dc.rowsOf at hr
      rw [if_neg hb] at hr
      match j, hj, hr with
      | 1, _, hr => simpa using hr.symm
      | j + 2, _, hr => simp at hr
    have hbl := isS_pos (h.ok.b hb)
    have hlt : s % D.b.length < D.b.length := Nat.mod_lt _ (by omega)
    have hk : D.b[s % D.b.length]? = some r := by rw [hre, List.getD_eq_getElem?_getD, List.getElem?_eq_getElem hlt]; rfl
    have hrm : r ∈ D.b := List.mem_of_getElem? hk
    have p1 := self_perm D.b _ hlt
    rw [← hre] at p1
    have p2 := set_perm D.b _ (f r) hlt
    have hd : D.upd s j f = { D with b := D.b.set (s % D.b.length) (f r) } := by unfold Dc.upd; rw [if_neg hj, ← hre]
    have q0 : ∀ (x y z : List Nd), (x ++ (y ++ z)).Perm (y ++ (x ++ z)) := fun x y z => by
      rw [← List.append_assoc, ← List.append_assoc]
      exact List.perm_append_comm.append_right _
    have q1 : D.nodes.Perm (r ++ (D.a.flatten ++ (D.b.set (s % D.b.length) []).flatten)) := by
      unfold Dc.nodes
      exact (p1.append_left _).trans (q0 _ _ _)
    have q2 : (D.upd s j f).nodes.Perm (f r ++ (D.a.flatten ++ (D.b.set (s % D.b.length) []).flatten)) := by
      rw [hd]
      unfold Dc.nodes
      exact (p2.append_left _).trans (q0 _ _ _)
    have hne2 : ∀ q, D.b.set (s % D.b.length) q ≠ [] := fun q e => hb (List.eq_nil_of_length_eq_zero (by have := congrArg List.length e; simpa using this))
    refine ⟨fin _ _ rfl q1 q2 (fun hn => ?_) ?_ ?_, _, q1, q2⟩
    · rw [hd] at hn ⊢
      refine ⟨h.ok.a, fun _ => by simp only [List.length_set]; exact h.ok.b hb, fun _ => h.ok.place hb, fun e => absurd e (hne2 _), h.ok.past, hn, fun r0 hr0 x hx => ?_⟩
      rcases hr0 with hr0 | hr0
      · exact h.ok.fine r0 (.inl hr0) x hx
      · rcases List.mem_or_eq_of_mem_set hr0 with h1 | rfl
        · exact h.ok.fine r0 (.inr h1) x hx
        · exact hfine x hx fun y hy => h.ok.fine r (.inr hrm) y hy
    · rw [hd]; exact h.pa
    · rw [hd]; exact set_placed D.b _ r (f r) hk hsums h.pb
end
end Go.Proofs.Ytifbambalfifaaa
