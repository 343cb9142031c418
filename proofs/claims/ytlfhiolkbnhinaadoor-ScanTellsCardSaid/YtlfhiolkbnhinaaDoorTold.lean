/- What a scan tells, by positions. -/
import Derived.Test.YtlfhiolkbnhinaaDoorScan
import Derived.Test.YtlfhiolkbnhinaaDoorLaw
namespace Go.Proofs.YtlfhiolkbnhinaaDoor
open Go.RowKit Go.Shelf Go.Sort
attribute [local go_sem] Oper.semAt_some

/-- A key's position. -/
def posN (seed : Nat) (k : List UInt8) : Nat := turnN (sumN seed k)
theorem posN_lt (seed : Nat) (k : List UInt8) : posN seed k < 4294967296 := turn_lt _ (sumN_lt _ _)

/-- Rows of a table of size s: each node in its slot. -/
structure Placed (seed s : Nat) (rows : List (List Nd)) : Prop where
  size : isS (s : Int) = true
  len : rows.length = s
  at_ : ∀ (i : Nat) r, rows[i]? = some r → ∀ x ∈ r, x.sum % s = i
  sum : ∀ x ∈ rows.flatten, x.sum = sumN seed (bytesK x)

theorem Placed.row {seed s : Nat} {rows : List (List Nd)} (h : Placed seed s rows) {j : Nat} (hj : j < s) (x : Nd) : x ∈ rows.getD j [] ↔ x ∈ rows.flatten ∧ x.sum % s = j := by
  have hl : j < rows.length := by rw [h.len]; exact hj
  rw [List.getD_eq_getElem?_getD, List.getElem?_eq_getElem hl]
  show x ∈ rows[j] ↔ _
  constructor
  · intro hx
    exact ⟨List.mem_flatten.2 ⟨_, List.getElem_mem hl, hx⟩, h.at_ j _ (List.getElem?_eq_getElem hl) x hx⟩
  · rintro ⟨hx, he⟩
    obtain ⟨r, hr, hxr⟩ := List.mem_flatten.1 hx
    obtain ⟨i, hi⟩ := List.getElem?_of_mem hr
    have := h.at_ i r hi x hxr
    rw [he] at this
    subst this
    rw [List.getElem?_eq_getElem hl] at hi
    cases hi
    exact hxr
theorem Placed.pos {seed s : Nat} {rows : List (List Nd)} (h : Placed seed s rows) {x : Nd} (hx : x ∈ rows.flatten) : x.sum % s = curN s (posN seed (bytesK x) / unitN s) ∧ posN seed (bytesK x) / unitN s < s := by
  rw [h.sum x hx]
  exact ⟨cur_of s _ h.size (sumN_lt _ _), part_lt s _ h.size (sumN_lt _ _)⟩
theorem Placed.mem {seed s : Nat} {rows : List (List Nd)} (h : Placed seed s rows) (q : Nat) (k : List UInt8) : ∀ n, q + n ≤ s →
    (k ∈ keysR rows s q n ↔ ∃ x ∈ rows.flatten, bytesK x = k ∧ q ≤ posN seed k / unitN s ∧ posN seed k / unitN s < q + n)
  | 0, _ => by
    simp only [keysR, List.not_mem_nil, false_iff]
    rintro ⟨x, _, _, h1, h2⟩
    omega
  | n + 1, hn => by
    have hcl := cur_slot s (q + n) h.size (by omega)
    rw [keysR, List.mem_append, h.mem q k n (by omega), (sortK_perm _).mem_iff, List.mem_map]
    constructor
    · rintro (⟨x, h1, h2, h3, h4⟩ | ⟨x, h1, rfl⟩)
      · exact ⟨x, h1, h2, h3, by omega⟩
      · obtain ⟨h3, h4⟩ := (h.row hcl x).1 h1
        obtain ⟨h5, h6⟩ := h.pos h3
        have := cur_inj s _ _ h.size h6 (by omega) (h5.symm.trans h4)
        exact ⟨x, h3, rfl, by omega, by omega⟩
    · rintro ⟨x, h1, rfl, h3, h4⟩
      obtain ⟨h5, h6⟩ := h.pos h1
      by_cases he : posN seed (bytesK x) / unitN s = q + n
      · exact .inr ⟨x, (h.row hcl x).2 ⟨h1, by rw [h5, he]⟩, rfl⟩
      · exact .inl ⟨x, h1, rfl, h3, by omega⟩
theorem Placed.nodup {seed s : Nat} {rows : List (List Nd)} (h : Placed seed s rows) (hu : (rows.flatten.map bytesK).Nodup) (q : Nat) : ∀ n, q + n ≤ s → (keysR rows s q n).Nodup
  | 0, _ => List.nodup_nil
  | n + 1, hn => by
    have hcl := cur_slot s (q + n) h.size (by omega)
    rw [keysR, List.nodup_append]
    refine ⟨h.nodup hu q n (by omega), (sortK_perm _).nodup_iff.2 ?_, ?_⟩
    · refine List.Nodup.sublist ?_ hu
      have hl : curN s (q + n) < rows.length := by rw [h.len]; exact hcl
      rw [List.getD_eq_getElem?_getD, List.getElem?_eq_getElem hl]
      exact (List.sublist_flatten_of_mem (List.getElem_mem hl)).map _
    · intro a ha b hb e
      subst e
      obtain ⟨x, h1, h2, h3, h4⟩ := (h.mem q a n (by omega)).1 ha
      obtain ⟨y, h5, h6⟩ := List.mem_map.1 ((sortK_perm _).mem_iff.1 hb)
      obtain ⟨h7, h8⟩ := (h.row hcl y).1 h5
      obtain ⟨h9, h10⟩ := h.pos h7
      rw [h6] at h9 h10
      have := cur_inj s _ _ h.size h10 (by omega) (h9.symm.trans h8)
      omega

section
variable {seed : Nat} {D : Dc}
theorem Inv.placed (h : Inv tyI seed D) (x : Nat × Nat) (hx : x = smallT D.a.length D.b.length ∨ x = greatT D.a.length D.b.length) (ha : D.a.length ≤ 1024) (hb : D.b.length ≤ 1024) : Placed seed x.2 (rowsT D x.1) := by
  obtain ⟨h1, h2, h3, _⟩ := tables_ok h.ok x hx ha hb
  refine ⟨h2, h3, ?_, ?_⟩
  · rw [← h3]
    rcases h1 with e | e
    · rw [e]; exact h.pa
    · rw [e]; exact h.pb
  · intro y hy
    refine h.sum y ?_
    rcases h1 with e | e
    · rw [e] at hy; exact List.mem_append_left _ hy
    · rw [e] at hy; exact List.mem_append_right _ hy
theorem Inv.uniqK (h : Inv tyI seed D) : (D.nodes.map bytesK).Nodup := by
  have h4 : D.nodes.map bytesK = (D.nodes.map Nd.key).map (fun k => k.data.toList) := by rw [List.map_map]; rfl
  rw [h4]
  exact List.Pairwise.map _ (fun a b hab e => hab (ByteArray.ext (Array.toList_inj.1 e))) h.uniq
theorem rows_sub (D : Dc) (t : Nat) (ht : t = 0 ∨ t = 1) : (rowsT D t).flatten.Sublist D.nodes := by
  rcases ht with rfl | rfl
  · exact List.sublist_append_left _ _
  · exact List.sublist_append_right _ _
/-- A node lies in the lesser table or in the greater one. -/
theorem in_tables (D : Dc) (x : Nd) : x ∈ D.nodes ↔ x ∈ (rowsT D (smallT D.a.length D.b.length).1).flatten ∨ (D.b ≠ [] ∧ x ∈ (rowsT D (greatT D.a.length D.b.length).1).flatten) := by
  have hb0 : D.b.length = 0 ↔ D.b = [] := List.length_eq_zero_iff
  unfold Dc.nodes smallT greatT
  rw [List.mem_append]
  by_cases h : D.b = []
  · have h0 := hb0.2 h
    rw [if_pos (.inl h0)]
    constructor
    · rintro (h1 | h1)
      · exact .inl h1
      · rw [h] at h1; simp at h1
    · rintro (h1 | ⟨h1, _⟩)
      · exact .inl h1
      · exact absurd h h1
  · have h0 : ¬ D.b.length = 0 := fun e => h (hb0.1 e)
    by_cases h1 : D.a.length ≤ D.b.length
    · rw [if_pos (.inr h1), if_neg (by omega)]
      constructor
      · rintro (h2 | h2)
        · exact .inl h2
        · exact .inr ⟨h, h2⟩
      · rintro (h2 | ⟨_, h2⟩)
        · exact .inl h2
        · exact .inr h2
    · rw [if_neg (by omega), if_pos (.inr (by omega))]
      constructor
      · rintro (h2 | h2)
        · exact .inr ⟨h, h2⟩
        · exact .inl h2
      · rintro (h2 | ⟨_, h2⟩)
        · exact .inr h2
        · exact .inl h2
theorem tables_apart (h : Inv tyI seed D) (hb : D.b ≠ []) (x y : Nd) (hx : x ∈ (rowsT D (smallT D.a.length D.b.length).1).flatten) (hy : y ∈ (rowsT D (greatT D.a.length D.b.length).1).flatten) : bytesK x ≠ bytesK y := by
  have hu := h.uniqK
  unfold Dc.nodes at hu
  rw [List.map_append, List.nodup_append] at hu
  have h0 : ¬ D.b.length = 0 := fun e => hb (List.length_eq_zero_iff.1 e)
  unfold smallT at hx
  unfold greatT at hy
  by_cases h1 : D.a.length ≤ D.b.length
  · rw [if_pos (.inr h1)] at hx
    rw [if_neg (by omega)] at hy
    exact hu.2.2 _ (List.mem_map_of_mem hx) _ (List.mem_map_of_mem hy)
  · rw [if_neg (by omega)] at hx
    rw [if_pos (.inr (by omega))] at hy
    exact fun e => hu.2.2 _ (List.mem_map_of_mem hy) _ (List.mem_map_of_mem hx) e.symm

theorem scan_told (h : Inv tyI seed D) (ha : D.a.length ≤ 1024) (hb : D.b.length ≤ 1024) (P : Nat) (hP : P < 4294967296) :
    (scanK D P).Nodup ∧ (∀ k ∈ scanK D P, (∃ x ∈ D.nodes, bytesK x = k) ∧ posN seed k / unitN D.least = P / unitN D.least) ∧
      ∀ x ∈ D.nodes, P ≤ posN seed (bytesK x) → posN seed (bytesK x) / unitN D.least = P / unitN D.least → bytesK x ∈ scanK D P := by
  have hs := h.placed _ (.inl rfl) ha hb
  have hg := h.placed _ (.inr rfl) ha hb
  have s1 := (tables_ok h.ok _ (.inl rfl) ha hb).1
  have g1 := (tables_ok h.ok _ (.inr rfl) ha hb).1
  have hle := tables_le D.a.length D.b.length
  obtain ⟨e1, e2, e3, e4, e5, e6, e7⟩ := great_facts _ _ hs.size hg.size hle P hP
  have hPs : P / unitN (smallT D.a.length D.b.length).2 < (smallT D.a.length D.b.length).2 := by
    have h2 := part_lt _ (turnN P) hs.size (turn_lt P hP)
    rwa [turn_turn P hP] at h2
  have ms := fun k => hs.mem (P / unitN D.least) k 1 (by show P / unitN (smallT D.a.length D.b.length).2 + 1 ≤ _; omega)
  have mg := fun k => hg.mem (P / unitN (greatT D.a.length D.b.length).2) k (restN (greatT D.a.length D.b.length).2 D.least (P / unitN (greatT D.a.length D.b.length).2) + 1) (by show _ + (restN (greatT D.a.length D.b.length).2 (smallT D.a.length D.b.length).2 (P / unitN (greatT D.a.length D.b.length).2) + 1) ≤ _; omega)
  have us := List.Nodup.sublist ((rows_sub D _ s1).map bytesK) h.uniqK
  have ug := List.Nodup.sublist ((rows_sub D _ g1).map bytesK) h.uniqK
  -- a position's part of the greater size, cut down to the lesser one's
  have cut : ∀ Q, Q < 4294967296 → (Q / unitN (greatT D.a.length D.b.length).2) / ratioN (greatT D.a.length D.b.length).2 D.least = Q / unitN D.least := fun Q hQ => (great_facts _ _ hs.size hg.size hle Q hQ).1
  have up : P / unitN (greatT D.a.length D.b.length).2 + restN (greatT D.a.length D.b.length).2 D.least (P / unitN (greatT D.a.length D.b.length).2) + 1 = (P / unitN D.least + 1) * ratioN (greatT D.a.length D.b.length).2 D.least := e7
  have rp : 0 < ratioN (greatT D.a.length D.b.length).2 D.least := e6
  clear e1 e2 e3 e4 e5 e6 e7
  by_cases hb0 : D.b = []
  · have hk : scanK D P = keysR (rowsT D (smallT D.a.length D.b.length).1) D.least (P / unitN D.least) 1 := by unfold scanK; rw [if_pos hb0, List.append_nil]
    rw [hk]
    refine ⟨hs.nodup us _ 1 (by show P / unitN (smallT D.a.length D.b.length).2 + 1 ≤ _; omega), fun k hk => ?_, fun x hx h1 h2 => ?_⟩
    · obtain ⟨x, h1, h2, h3, h4⟩ := (ms k).1 hk
      exact ⟨⟨x, (rows_sub D _ s1).mem h1, h2⟩, by have : unitN (smallT D.a.length D.b.length).2 = unitN D.least := rfl; rw [this] at h3 h4; omega⟩
    · rcases (in_tables D x).1 hx with h3 | ⟨h3, _⟩
      · refine (ms _).2 ⟨x, h3, rfl, ?_, ?_⟩
        · show _ ≤ posN seed (bytesK x) / unitN D.least; omega
        · show posN seed (bytesK x) / unitN D.least < _; omega
      · exact absurd hb0 h3
  · have hk : scanK D P = keysR (rowsT D (smallT D.a.length D.b.length).1) D.least (P / unitN D.least) 1 ++ keysR (rowsT D (greatT D.a.length D.b.length).1) (greatT D.a.length D.b.length).2 (P / unitN (greatT D.a.length D.b.length).2) (restN (greatT D.a.length D.b.length).2 D.least (P / unitN (greatT D.a.length D.b.length).2) + 1) := by unfold scanK; rw [if_neg hb0]
    rw [hk]
    refine ⟨?_, fun k hk => ?_, fun x hx h1 h2 => ?_⟩
    · rw [List.nodup_append]
      refine ⟨hs.nodup us _ 1 (by show P / unitN (smallT D.a.length D.b.length).2 + 1 ≤ _; omega), hg.nodup ug _ _ (by
        have h5 : (P / unitN D.least + 1) * ratioN (greatT D.a.length D.b.length).2 D.least ≤ D.least * ratioN (greatT D.a.length D.b.length).2 D.least := Nat.mul_le_mul_right _ hPs
        have h6 : D.least * ratioN (greatT D.a.length D.b.length).2 D.least ≤ (greatT D.a.length D.b.length).2 := Nat.mul_div_le _ _
        omega), ?_⟩
      intro a ha' b hb' e
      subst e
      obtain ⟨x, h1, h2, _⟩ := (ms a).1 ha'
      obtain ⟨y, h3, h4, _⟩ := (mg a).1 hb'
      exact tables_apart h hb0 x y h1 h3 (h2.trans h4.symm)
    · rcases List.mem_append.1 hk with hk | hk
      · obtain ⟨x, h1, h2, h3, h4⟩ := (ms k).1 hk
        exact ⟨⟨x, (rows_sub D _ s1).mem h1, h2⟩, by have : unitN (smallT D.a.length D.b.length).2 = unitN D.least := rfl; rw [this] at h3 h4; omega⟩
      · obtain ⟨x, h1, h2, h3, h4⟩ := (mg k).1 hk
        refine ⟨⟨x, (rows_sub D _ g1).mem h1, h2⟩, ?_⟩
        have c1 := cut P hP
        have c2 := cut (posN seed k) (posN_lt _ _)
        have c3 := Nat.div_le_div_right (c := ratioN (greatT D.a.length D.b.length).2 D.least) h3
        have c4 : posN seed k / unitN (greatT D.a.length D.b.length).2 < (P / unitN D.least + 1) * ratioN (greatT D.a.length D.b.length).2 D.least := by omega
        have c5 := (Nat.div_lt_iff_lt_mul rp).2 c4
        omega
    · rcases (in_tables D x).1 hx with h3 | ⟨_, h3⟩
      · refine List.mem_append_left _ ((ms _).2 ⟨x, h3, rfl, ?_, ?_⟩)
        · show _ ≤ posN seed (bytesK x) / unitN D.least; omega
        · show posN seed (bytesK x) / unitN D.least < _; omega
      · refine List.mem_append_right _ ((mg _).2 ⟨x, h3, rfl, Nat.div_le_div_right h1, ?_⟩)
        have c2 := cut (posN seed (bytesK x)) (posN_lt _ _)
        have c5 : posN seed (bytesK x) / unitN (greatT D.a.length D.b.length).2 / ratioN (greatT D.a.length D.b.length).2 D.least < P / unitN D.least + 1 := by omega
        have c6 := (Nat.div_lt_iff_lt_mul rp).1 c5
        omega
end
end Go.Proofs.YtlfhiolkbnhinaaDoor
