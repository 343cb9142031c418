/- A dict is like a map: setting, getting, deleting. -/
import Derived.Test.YtifbambalfifaaaMap
namespace Go.Proofs.Ytifbambalfifaaa
open Go.RowKit Go.Shelf

section
variable {T : Ty} {seed : Nat} {D : Dc}

theorem split_row {r : List Nd} {i : Nat} {y : Nd} (h : r[i]? = some y) : r = r.take i ++ y :: r.drop (i + 1) := by
  obtain ⟨hi, rfl⟩ := List.getElem?_eq_some_iff.1 h
  rw [← List.drop_eq_getElem_cons hi, List.take_append_drop]
theorem setV_row {r : List Nd} {i : Nat} {y : Nd} (v : Value) (h : r[i]? = some y) : setV i v r = r.take i ++ { y with v := v } :: r.drop (i + 1) := by
  unfold setV
  rw [h]
  simp only
  exact List.set_eq_take_append_cons_drop.trans (by rw [if_pos (List.getElem?_eq_some_iff.1 h).1])

theorem Inv.add (h : Inv T seed D) (x : Nd) (hx : x.fine T) (hs : x.sum = sumN seed x.key.data.toList) (hn : ∀ y ∈ D.nodes, y.key ≠ x.key) : Inv T seed (D.add x) ∧ (D.add x).nodes.Perm (x :: D.nodes) ∧ (D.add x).n = D.n + 1 := by
  have hal := isS_pos h.ok.a
  have fin : ∀ D' : Dc, D'.nodes.Perm (x :: D.nodes) → D'.Ok T → (∀ (i : Nat) r, D'.a[i]? = some r → ∀ x ∈ r, x.sum % D'.a.length = i) → (∀ (i : Nat) r, D'.b[i]? = some r → ∀ x ∈ r, x.sum % D'.b.length = i) → Inv T seed D' := fun D' h1 ok pa pb => by
    refine ⟨ok, fun y hy => ?_, pa, pb, (h1.map Nd.key).nodup_iff.2 ?_⟩
    · rcases List.mem_cons.1 (h1.mem_iff.1 hy) with rfl | h2
      · exact hs
      · exact h.sum y h2
    · rw [List.map_cons, List.nodup_cons]
      refine ⟨fun h2 => ?_, h.uniq⟩
      obtain ⟨y, h3, h4⟩ := List.mem_map.1 h2
      exact hn y h3 h4
  by_cases hb : D.b = []
  · have hd : D.add x = { D with a := putR D.a x, n := D.n + 1 } := by unfold Dc.add; rw [if_pos hb]
    have hp : (D.add x).nodes.Perm (x :: D.nodes) := by
      rw [hd]
      unfold Dc.nodes
      exact (putR_perm D.a x (by omega)).append_right _
    refine ⟨fin _ hp ?_ ?_ ?_, hp, by rw [hd]⟩
    · rw [hd]
      have ht := putR_total D.a x (by omega)
      have hn := h.ok.n
      refine ⟨by rw [putR_len]; exact h.ok.a, h.ok.b, fun e => by simp only [putR_len]; exact h.ok.place e, h.ok.still, fun i hi => ?_, ?_, fun r hr y hy => ?_⟩
      · have hi' : i < D.place := hi
        rw [h.ok.still hb] at hi'
        omega
      · show D.n + 1 = (putR D.a x).flatten.length + D.b.flatten.length
        omega
      · rcases hr with hr | hr
        · exact putR_fine D.a x hx (fun r hr => h.ok.fine r (.inl hr)) r hr y hy
        · exact h.ok.fine r (.inr hr) y hy
    · rw [hd]; exact putR_placed D.a x h.pa
    · rw [hd]; exact h.pb
  · have hd : D.add x = { D with b := putR D.b x, n := D.n + 1 } := by unfold Dc.add; rw [if_neg hb]
    have hbl := isS_pos (h.ok.b hb)
    have hne : putR D.b x ≠ [] := fun e => hb (List.eq_nil_of_length_eq_zero (by have := congrArg List.length e; rw [putR_len] at this; simpa using this))
    have hp : (D.add x).nodes.Perm (x :: D.nodes) := by
      rw [hd]
      unfold Dc.nodes
      exact ((putR_perm D.b x (by omega)).append_left _).trans List.perm_middle
    refine ⟨fin _ hp ?_ ?_ ?_, hp, by rw [hd]⟩
    · rw [hd]
      have ht := putR_total D.b x (by omega)
      have hn := h.ok.n
      refine ⟨h.ok.a, fun _ => by rw [putR_len]; exact h.ok.b hb, fun _ => h.ok.place hb, fun e => absurd e hne, h.ok.past, ?_, fun r hr y hy => ?_⟩
      · show D.n + 1 = D.a.flatten.length + (putR D.b x).flatten.length
        omega
      · rcases hr with hr | hr
        · exact h.ok.fine r (.inl hr) y hy
        · exact putR_fine D.b x hx (fun r hr => h.ok.fine r (.inr hr)) r hr y hy
    · rw [hd]; exact h.pa
    · rw [hd]; exact putR_placed D.b x h.pb

/-- What setting changes. -/
theorem Inv.set (h : Inv T seed D) (key : ByteArray) (v : Value) (hv : T.ok v) :
    Inv T seed (D.setS (sumN seed key.data.toList) key v) ∧
      (((D.step 1).hit (sumN seed key.data.toList) key = none ∧ (∀ x ∈ D.nodes, x.key ≠ key) ∧ (D.setS (sumN seed key.data.toList) key v).nodes.Perm (⟨sumN seed key.data.toList, key, v⟩ :: D.nodes) ∧ (D.setS (sumN seed key.data.toList) key v).n = D.n + 1) ∨
       (∃ ji y rest, (D.step 1).hit (sumN seed key.data.toList) key = some ji ∧ y.key = key ∧ D.nodes.Perm (y :: rest) ∧ (D.setS (sumN seed key.data.toList) key v).nodes.Perm ({ y with v := v } :: rest) ∧ (D.setS (sumN seed key.data.toList) key v).n = D.n)) := by
  obtain ⟨h1, p1⟩ := h.step 1
  have hn1 := (step_ok h.ok 1).2
  unfold Dc.setS
  cases hh : (D.step 1).hit (sumN seed key.data.toList) key with
  | none =>
    simp only
    have hno := h1.hit_none hh
    have h2 := h1.grown
    have hg := grown_ok h1.ok
    have hnd : (D.step 1).grown.nodes = (D.step 1).nodes := grown_nodes
    obtain ⟨h3, p3, n3⟩ := h2.add ⟨sumN seed key.data.toList, key, v⟩ ⟨sumN_lt _ _, hv⟩ rfl (fun y hy => hno y (by rw [← hnd]; exact hy))
    refine ⟨h3, .inl ⟨trivial, fun x hx => hno x (p1.mem_iff.2 hx), ?_, by rw [n3, hg.2, hn1]⟩⟩
    rw [hnd] at p3
    exact p3.trans (p1.cons _)
  | some ji =>
    obtain ⟨j, i⟩ := ji
    simp only
    obtain ⟨r, y, hr, hi, _, _, hk, hs⟩ := hit_node hh
    have hrow := split_row hi
    have hsv := setV_row v hi
    have hne : r ≠ [] := fun e => by rw [e] at hi; simp at hi
    have hfr : ∀ x ∈ r, x.fine T := (mem_row hr hi h1.ok).2
    have hmem : ∀ x ∈ r.take i, x ∈ r := fun x hx => List.mem_of_mem_take hx
    have hmem2 : ∀ x ∈ r.drop (i + 1), x ∈ r := fun x hx => List.mem_of_mem_drop hx
    obtain ⟨h2, rest, q1, q2⟩ := h1.upd hr hne (setV i v) (fun x hx => by
      rw [hsv] at hx
      rcases List.mem_append.1 hx with h3 | h3
      · exact ⟨⟨x, hmem x h3, rfl, rfl⟩, (hfr x (hmem x h3)).2⟩
      · rcases List.mem_cons.1 h3 with rfl | h4
        · exact ⟨⟨y, List.mem_of_getElem? hi, rfl, rfl⟩, hv⟩
        · exact ⟨⟨x, hmem2 x h4, rfl, rfl⟩, (hfr x (hmem2 x h4)).2⟩) (by
      have : (setV i v r).map Nd.key = r.map Nd.key := by
        rw [hsv]
        conv => rhs; rw [hrow]
        simp
      rw [this]
      exact List.Sublist.refl _) (D.step 1).n (by rw [setV_len])
    have hd : ({ (D.step 1).upd (sumN seed key.data.toList) j (setV i v) with n := (D.step 1).n } : Dc) = (D.step 1).upd (sumN seed key.data.toList) j (setV i v) := by unfold Dc.upd; split <;> rfl
    rw [hd] at h2
    refine ⟨h2, .inr ⟨(j, i), y, r.take i ++ r.drop (i + 1) ++ rest, rfl, hk, ?_, ?_, by rw [upd_n, hn1]⟩⟩
    · refine (p1.symm.trans q1).trans ?_
      rw [hrow]
      rw [List.append_assoc, List.append_assoc, List.cons_append]
      have e1 : List.take i (List.take i r ++ y :: List.drop (i + 1) r) = List.take i r := by rw [← hrow]
      have e2 : List.drop (i + 1) (List.take i r ++ y :: List.drop (i + 1) r) = List.drop (i + 1) r := by rw [← hrow]
      rw [e1, e2]
      exact List.perm_middle
    · refine q2.trans ?_
      rw [hsv, List.append_assoc, List.append_assoc, List.cons_append]
      exact List.perm_middle

/-- What deleting changes. -/
theorem Inv.del (h : Inv T seed D) (key : ByteArray) :
    Inv T seed (D.delS (sumN seed key.data.toList) key) ∧
      (((D.step 1).hit (sumN seed key.data.toList) key = none ∧ (∀ x ∈ D.nodes, x.key ≠ key) ∧ (D.delS (sumN seed key.data.toList) key).nodes.Perm D.nodes ∧ (D.delS (sumN seed key.data.toList) key).n = D.n) ∨
       (∃ ji y rest, (D.step 1).hit (sumN seed key.data.toList) key = some ji ∧ y.key = key ∧ D.nodes.Perm (y :: rest) ∧ (D.delS (sumN seed key.data.toList) key).nodes.Perm rest ∧ (D.delS (sumN seed key.data.toList) key).n + 1 = D.n)) := by
  obtain ⟨h1, p1⟩ := h.step 1
  have hn1 := (step_ok h.ok 1).2
  unfold Dc.delS
  cases hh : (D.step 1).hit (sumN seed key.data.toList) key with
  | none =>
    have hno := h1.hit_none hh
    exact ⟨h1, .inl ⟨rfl, fun x hx => hno x (p1.mem_iff.2 hx), p1, hn1⟩⟩
  | some ji =>
    obtain ⟨j, i⟩ := ji
    simp only
    obtain ⟨r, y, hr, hi, _, _, hk, hs⟩ := hit_node hh
    have hrow := split_row hi
    have hsv := List.eraseIdx_eq_take_drop_succ r i
    have hil := (List.getElem?_eq_some_iff.1 hi).1
    have hne : r ≠ [] := fun e => by rw [e] at hi; simp at hi
    have hfr : ∀ x ∈ r, x.fine T := (mem_row hr hi h1.ok).2
    have hel : (r.eraseIdx i).length = r.length - 1 := by rw [List.length_eraseIdx, if_pos hil]
    have hpos : 0 < (D.step 1).n := by
      have h3 := rows_len (D := D.step 1) _ j r hr
      have h5 := h1.ok.n
      omega
    obtain ⟨h2, rest, q1, q2⟩ := h1.upd hr hne (·.eraseIdx i) (fun x hx => by
      have hx' : x ∈ r := (List.eraseIdx_sublist r i).subset hx
      exact ⟨⟨x, hx', rfl, rfl⟩, (hfr x hx').2⟩) ((List.eraseIdx_sublist r i).map Nd.key) ((D.step 1).n - 1) (by simp only [hel]; omega)
    have hd : ({ (D.step 1).upd (sumN seed key.data.toList) j (·.eraseIdx i) with n := (D.step 1).n - 1 } : Dc) = ((D.step 1).upd (sumN seed key.data.toList) j (·.eraseIdx i)).less := by unfold Dc.less; rw [upd_n]
    rw [hd] at h2
    have hsn : ∀ D' : Dc, D'.shrunk.n = D'.n := fun D' => by unfold Dc.shrunk; split <;> rfl
    refine ⟨h2.shrunk, .inr ⟨(j, i), y, r.take i ++ r.drop (i + 1) ++ rest, rfl, hk, ?_, ?_, ?_⟩⟩
    · refine (p1.symm.trans q1).trans ?_
      have e1 : r ++ rest = r.take i ++ (y :: (r.drop (i + 1) ++ rest)) := by
        conv => lhs; rw [hrow]
        simp
      rw [e1, List.append_assoc]
      exact List.perm_middle
    · rw [shrunk_nodes]
      have : (((D.step 1).upd (sumN seed key.data.toList) j (·.eraseIdx i)).less).nodes = ((D.step 1).upd (sumN seed key.data.toList) j (·.eraseIdx i)).nodes := rfl
      rw [this, ← hsv]
      exact q2
    · rw [hsn]
      show (((D.step 1).upd (sumN seed key.data.toList) j (·.eraseIdx i)).n - 1) + 1 = D.n
      rw [upd_n]
      omega

/-- A dict is like a map. -/
def Like (T : Ty) (seed : Nat) (D : Dc) (m : ByteArray → Option Value) : Prop := Inv T seed D ∧ ∀ k v, (∃ x ∈ D.nodes, x.key = k ∧ x.v = v) ↔ m k = some v
def putM (m : ByteArray → Option Value) (key : ByteArray) (v : Value) : ByteArray → Option Value := fun k => if k = key then some v else m k
def remM (m : ByteArray → Option Value) (key : ByteArray) : ByteArray → Option Value := fun k => if k = key then none else m k

theorem Like.of_perm {D' : Dc} {m : ByteArray → Option Value} (h : Like T seed D m) (h' : Inv T seed D') (hp : D'.nodes.Perm D.nodes) : Like T seed D' m :=
  ⟨h', fun k v => (by rw [← h.2 k v]; exact ⟨fun ⟨x, h1, h2⟩ => ⟨x, hp.mem_iff.1 h1, h2⟩, fun ⟨x, h1, h2⟩ => ⟨x, hp.mem_iff.2 h1, h2⟩⟩)⟩
theorem Like.step {m : ByteArray → Option Value} (h : Like T seed D m) (n : Nat) : Like T seed (D.step n) m := h.of_perm (h.1.step n).1 (h.1.step n).2
theorem Like.hit {m : ByteArray → Option Value} (h : Like T seed D m) (key : ByteArray) : (D.hit (sumN seed key.data.toList) key).isSome = (m key).isSome ∧ (∀ y, D.node (sumN seed key.data.toList) key = some y → m key = some y.v) ∧ ((m key) = none → D.node (sumN seed key.data.toList) key = none) ∧ ((m key).isSome = true → ∃ y, D.node (sumN seed key.data.toList) key = some y) := by
  cases hh : D.hit (sumN seed key.data.toList) key with
  | none =>
    have hno := h.1.hit_none hh
    have hm : m key = none := by
      cases hm : m key with
      | none => rfl
      | some v =>
        obtain ⟨x, h1, h2, _⟩ := (h.2 key v).2 hm
        exact absurd h2 (hno x h1)
    have hnd : D.node (sumN seed key.data.toList) key = none := by unfold Dc.node; rw [hh]
    rw [hm, hnd]
    refine ⟨rfl, ?_, ?_, ?_⟩
    · intro y e; cases e
    · intro _; rfl
    · intro e; cases e
  | some ji =>
    obtain ⟨j, i⟩ := ji
    obtain ⟨r, y, _, _, hnd, hy, hk, _⟩ := hit_node hh
    have hm := (h.2 key y.v).1 ⟨y, hy, hk, rfl⟩
    rw [hm, hnd]
    refine ⟨rfl, ?_, ?_, ?_⟩
    · intro y' e; cases e; rfl
    · intro e; cases e
    · intro _; exact ⟨y, rfl⟩
theorem Like.set {m : ByteArray → Option Value} (h : Like T seed D m) (key : ByteArray) (v : Value) (hv : T.ok v) : Like T seed (D.setS (sumN seed key.data.toList) key v) (putM m key v) ∧ (D.setS (sumN seed key.data.toList) key v).n = if (m key).isSome then D.n else D.n + 1 := by
  obtain ⟨h1, h2⟩ := h.1.set key v hv
  have h3 := ((h.step 1).hit key).1
  rcases h2 with ⟨e1, hno, hp, hn⟩ | ⟨ji, y, rest, e1, hk, p1, p2, hn⟩
  · rw [e1] at h3
    refine ⟨⟨h1, fun k v' => ?_⟩, by rw [hn, ← h3]; rfl⟩
    unfold putM
    by_cases hkk : k = key
    · rw [if_pos hkk]
      subst hkk
      constructor
      · rintro ⟨x, hx, hx2, hx3⟩
        rcases List.mem_cons.1 (hp.mem_iff.1 hx) with rfl | h4
        · rw [← hx3]
        · exact absurd hx2 (hno x h4)
      · intro e
        cases e
        exact ⟨_, hp.mem_iff.2 (List.mem_cons_self ..), rfl, rfl⟩
    · rw [if_neg hkk, ← h.2 k v']
      constructor
      · rintro ⟨x, hx, hx2, hx3⟩
        rcases List.mem_cons.1 (hp.mem_iff.1 hx) with rfl | h4
        · exact absurd hx2.symm hkk
        · exact ⟨x, h4, hx2, hx3⟩
      · rintro ⟨x, hx, hx2⟩
        exact ⟨x, hp.mem_iff.2 (List.mem_cons_of_mem _ hx), hx2⟩
  · rw [e1] at h3
    refine ⟨⟨h1, fun k v' => ?_⟩, by rw [hn, ← h3]; rfl⟩
    have hu := (p1.map Nd.key).nodup_iff.1 h.1.uniq
    rw [List.map_cons, List.nodup_cons] at hu
    have hrest : ∀ x ∈ rest, x.key ≠ key := fun x hx e => hu.1 (by rw [hk, ← e]; exact List.mem_map.2 ⟨x, hx, rfl⟩)
    unfold putM
    by_cases hkk : k = key
    · rw [if_pos hkk]
      subst hkk
      constructor
      · rintro ⟨x, hx, hx2, hx3⟩
        rcases List.mem_cons.1 (p2.mem_iff.1 hx) with rfl | h4
        · rw [← hx3]
        · exact absurd hx2 (hrest x h4)
      · intro e
        cases e
        exact ⟨_, p2.mem_iff.2 (List.mem_cons_self ..), hk, rfl⟩
    · rw [if_neg hkk, ← h.2 k v']
      constructor
      · rintro ⟨x, hx, hx2, hx3⟩
        rcases List.mem_cons.1 (p2.mem_iff.1 hx) with rfl | h4
        · exact absurd (hx2.symm.trans hk) hkk
        · exact ⟨x, p1.mem_iff.2 (List.mem_cons_of_mem _ h4), hx2, hx3⟩
      · rintro ⟨x, hx, hx2, hx3⟩
        rcases List.mem_cons.1 (p1.mem_iff.1 hx) with rfl | h4
        · exact absurd (hx2.symm.trans hk) hkk
        · exact ⟨x, p2.mem_iff.2 (List.mem_cons_of_mem _ h4), hx2, hx3⟩
theorem Like.del {m : ByteArray → Option Value} (h : Like T seed D m) (key : ByteArray) : Like T seed (D.delS (sumN seed key.data.toList) key) (remM m key) ∧ (D.delS (sumN seed key.data.toList) key).n = (if (m key).isSome then D.n - 1 else D.n) ∧ ((m key).isSome = true → 0 < D.n) := by
  obtain ⟨h1, h2⟩ := h.1.del key
  have h3 := ((h.step 1).hit key).1
  rcases h2 with ⟨e1, hno, hp, hn⟩ | ⟨ji, y, rest, e1, hk, p1, p2, hn⟩
  · rw [e1] at h3
    have h3' : (m key).isSome = false := h3.symm
    refine ⟨⟨h1, fun k v' => ?_⟩, by rw [hn, h3']; rfl, fun e => by rw [h3'] at e; cases e⟩
    unfold remM
    by_cases hkk : k = key
    · rw [if_pos hkk]
      subst hkk
      constructor
      · rintro ⟨x, hx, hx2, hx3⟩
        exact absurd hx2 (hno x (hp.mem_iff.1 hx))
      · intro e; cases e
    · rw [if_neg hkk, ← h.2 k v']
      exact ⟨fun ⟨x, h1, h2⟩ => ⟨x, hp.mem_iff.1 h1, h2⟩, fun ⟨x, h1, h2⟩ => ⟨x, hp.mem_iff.2 h1, h2⟩⟩
  · rw [e1] at h3
    have h3' : (m key).isSome = true := h3.symm
    refine ⟨⟨h1, fun k v' => ?_⟩, by rw [h3', if_pos rfl]; omega, fun _ => by omega⟩
    have hu := (p1.map Nd.key).nodup_iff.1 h.1.uniq
    rw [List.map_cons, List.nodup_cons] at hu
    have hrest : ∀ x ∈ rest, x.key ≠ key := fun x hx e => hu.1 (by rw [hk, ← e]; exact List.mem_map.2 ⟨x, hx, rfl⟩)
    unfold remM
    by_cases hkk : k = key
    · rw [if_pos hkk]
      subst hkk
      constructor
      · rintro ⟨x, hx, hx2, hx3⟩
        exact absurd hx2 (hrest x (p2.mem_iff.1 hx))
      · intro e; cases e
    · rw [if_neg hkk, ← h.2 k v']
      constructor
      · rintro ⟨x, hx, hx2⟩
        exact ⟨x, p1.mem_iff.2 (List.mem_cons_of_mem _ (p2.mem_iff.1 hx)), hx2⟩
      · rintro ⟨x, hx, hx2, hx3⟩
        rcases List.mem_cons.1 (p1.mem_iff.1 hx) with rfl | h4
        · exact absurd (hx2.symm.trans hk) hkk
        · exact ⟨x, p2.mem_iff.2 h4, hx2, hx3⟩
theorem Like.new (T : Ty) (seed : Nat) : Like T seed newD (fun _ => none) := by
  have hn : newD.nodes = [] := by decide
  refine ⟨⟨newD_ok T, fun x hx => ?_, fun i r hr x hx => ?_, fun i r hr x hx => ?_, ?_⟩, fun k v => ⟨fun ⟨x, hx, _⟩ => ?_, fun e => by cases e⟩⟩
  · rw [hn] at hx; simp at hx
  · have := List.mem_of_getElem? hr
    rw [List.eq_of_mem_replicate this] at hx; simp at hx
  · simp [newD] at hr
  · rw [hn]; simp
  · rw [hn] at hx; simp at hx
end
end Go.Proofs.Ytifbambalfifaaa
