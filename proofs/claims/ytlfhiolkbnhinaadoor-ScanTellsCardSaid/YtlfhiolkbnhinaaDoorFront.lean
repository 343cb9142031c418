/- A scan of a dict that holds what a map tells; how far a scan has come. -/
import Derived.Test.YtlfhiolkbnhinaaDoorTold
import Derived.Test.YtlfhiolkbnhinaaDoorShown
namespace Go.Proofs.YtlfhiolkbnhinaaDoor
open Go.RowKit Go.Shelf Go.Sort
attribute [local go_sem] Oper.semAt_some

def Sh.least (h : Sh) : Nat := (smallT h.A h.B).2
def Sh.small (h : Sh) : Prop := h.A ≤ 1024 ∧ h.B ≤ 1024
def keyB (k : List UInt8) : ByteArray := ⟨k.toArray⟩
theorem keyB_list (k : List UInt8) : (keyB k).data.toList = k := by simp [keyB]
theorem keyB_back (k : ByteArray) : keyB k.data.toList = k := by unfold keyB; exact ByteArray.ext (by simp)

section
variable {w : World} {S : Nat → Prop} {p seed : Nat} {m : ByteArray → Option Int} {n : Sh}
theorem least_ok (h : Is w p S seed m n) (hs : n.small) : isS (n.least : Int) = true ∧ n.least ≤ 1024 := by
  obtain ⟨D, h1, h2, rfl⟩ := h
  have := tables_ok h2.1.ok _ (.inl rfl) hs.1 hs.2
  exact ⟨this.2.1, this.2.2.2⟩
theorem keys_is (h : Is w p S seed m n) : ∃ K : List (List UInt8), K.Nodup ∧ K.length = n.n ∧ ∀ k : ByteArray, k.data.toList ∈ K ↔ (m k).isSome = true := by
  obtain ⟨D, h1, h2, rfl⟩ := h
  refine ⟨D.nodes.map bytesK, h2.1.uniqK, ?_, fun k => ?_⟩
  · rw [List.length_map]
    unfold Dc.nodes
    rw [List.length_append]
    exact h2.1.ok.n.symm
  · constructor
    · intro hk
      obtain ⟨x, hx, hk⟩ := List.mem_map.1 hk
      have := (h2.2 k x.v).1 ⟨x, hx, ByteArray.ext (Array.toList_inj.1 hk), rfl⟩
      cases hm : m k with
      | none => simp [hm] at this
      | some v => rfl
    · intro hk
      obtain ⟨v, hv⟩ := Option.isSome_iff_exists.1 hk
      obtain ⟨x, hx, hk, _⟩ := (h2.2 k (.int .i64 v)).2 (by simp [hv])
      exact List.mem_map.2 ⟨x, hx, by unfold bytesK; rw [hk]⟩
/-- What one call of a scan at a cursor tells. -/
structure Tells (seed : Nat) (m : ByteArray → Option Int) (s P : Nat) (L : List (List UInt8)) : Prop where
  nodup : L.Nodup
  is : ∀ k ∈ L, (m (keyB k)).isSome = true ∧ posN seed k / unitN s = P / unitN s
  all : ∀ k, (m (keyB k)).isSome = true → P ≤ posN seed k → posN seed k / unitN s = P / unitN s → k ∈ L
theorem Tells.of {D : Dc} (hL : Like tyI seed D (fun k => (m k).map (Value.int .i64))) (hs : D.shape.small) (P : Nat) (hP : P < 4294967296) : Tells seed m D.least P (scanK D P) := by
  obtain ⟨a1, a2, a3⟩ := scan_told hL.1 hs.1 hs.2 P hP
  refine ⟨a1, fun k hk => ?_, fun k hk h1 h2 => ?_⟩
  · obtain ⟨⟨x, hx, rfl⟩, h3⟩ := a2 k hk
    refine ⟨?_, h3⟩
    have := (hL.2 x.key x.v).1 ⟨x, hx, rfl, rfl⟩
    unfold bytesK
    rw [keyB_back]
    cases hm : m x.key with
    | none => simp [hm] at this
    | some v => rfl
  · obtain ⟨v, hv⟩ := Option.isSome_iff_exists.1 hk
    obtain ⟨x, hx, hkx, _⟩ := (hL.2 (keyB k) (.int .i64 v)).2 (by simp [hv])
    have e : bytesK x = k := by unfold bytesK; rw [hkx, keyB_list]
    rw [← e] at h1 h2 ⊢
    exact a3 x hx h1 h2
theorem scan_is (h : Is w p S seed m n) (hn : n.n ≤ 500) (hs : n.small) (c : Nat) (hc : c < 4294967296) (hE : Env w) :
    Calls Tryd.prog 17 #[.pointer (some ⟨p, 0, none⟩), .int .u32 c] w fun e w' => ∃ u L, e = .returned (.tuple #[u, .int .u32 (nextN c n.least)]) ∧ Own9 w' w.heap.size u L ∧ Below w.heap.size w w' ∧ Tells seed m n.least (turnN c) L := by
  obtain ⟨D, h1, h2, rfl⟩ := h
  refine (scan_any h1 h2.1.ok hn hs.1 hs.2 c hc hE).mono ?_
  rintro e w' ⟨u, he, hO, hb⟩
  exact ⟨u, _, he, hO, hb, Tells.of h2 hs _ (turn_lt c hc)⟩
end

/-- The keys that were told are those whose positions lie below F. -/
structure Scanned (seed : Nat) (m : ByteArray → Option Int) (F : Nat) (L : List (List UInt8)) : Prop where
  nodup : L.Nodup
  is : ∀ k ∈ L, (m (keyB k)).isSome = true ∧ posN seed k < F
  all : ∀ k, (m (keyB k)).isSome = true → posN seed k < F → k ∈ L
theorem Scanned.start (seed : Nat) (m : ByteArray → Option Int) : Scanned seed m 0 [] := ⟨List.nodup_nil, fun k hk => by simp at hk, fun k _ h => by omega⟩
theorem unit_facts (s : Nat) (hs : isS (s : Int) = true) (hs2 : s ≤ 1024) : s * unitN s = 4294967296 ∧ 4194304 ≤ unitN s := by
  obtain ⟨k, hk, hk2, rfl⟩ := size_pow hs
  rw [unit_pow k (by omega)]
  have h1 : k ≤ 10 := (Nat.pow_le_pow_iff_right (a := 2) (by decide)).1 hs2
  refine ⟨by rw [← Nat.pow_add, show k + (32 - k) = 32 by omega], ?_⟩
  exact Nat.pow_le_pow_right (n := 2) (by decide) (show 22 ≤ 32 - k by omega)
theorem part_of {F u q : Nat} (hu : 0 < u) (hF : F % u = 0) : q / u = F / u ↔ F ≤ q ∧ q < F + u := by
  have h1 : F = u * (F / u) := by have := Nat.div_add_mod F u; omega
  have h2 := Nat.div_add_mod q u
  have h3 := Nat.mod_lt q hu
  constructor
  · intro h
    rw [h] at h2
    omega
  · rintro ⟨h4, h5⟩
    have h6 : F / u ≤ q / u := Nat.div_le_div_right h4
    have h7 : q / u < F / u + 1 := (Nat.div_lt_iff_lt_mul hu).2 (by rw [Nat.add_mul, Nat.one_mul, Nat.mul_comm]; omega)
    omega
theorem Scanned.next {seed : Nat} {m : ByteArray → Option Int} {F s : Nat} {L K : List (List UInt8)} (h : Scanned seed m F L) (hu : 0 < unitN s) (hF : F % unitN s = 0) (g : Tells seed m s F K) : Scanned seed m (F + unitN s) (L ++ K) := by
  have key := fun q => part_of (q := q) hu hF
  refine ⟨List.nodup_append.2 ⟨h.nodup, g.nodup, fun a ha b hb e => ?_⟩, fun k hk => ?_, fun k hk hp => ?_⟩
  · subst e
    have h1 := (h.is a ha).2
    have h2 := (key _).1 (g.is a hb).2
    omega
  · rcases List.mem_append.1 hk with h1 | h1
    · exact ⟨(h.is k h1).1, by have := (h.is k h1).2; omega⟩
    · exact ⟨(g.is k h1).1, ((key _).1 (g.is k h1).2).2⟩
  · rcases Nat.lt_or_ge (posN seed k) F with h1 | h1
    · exact List.mem_append_left _ (h.all k hk h1)
    · exact List.mem_append_right _ (g.all k hk h1 ((key _).2 ⟨h1, hp⟩))
theorem nodup_sub {L K : List (List UInt8)} (hL : L.Nodup) (h : ∀ k ∈ L, k ∈ K) : L.length ≤ K.length := by
  induction L generalizing K with
  | nil => simp
  | cons a L ih =>
    rw [List.nodup_cons] at hL
    have ha := h a (List.mem_cons_self ..)
    have h2 := ih (K := K.erase a) hL.2 (fun k hk => by
      have hne : k ≠ a := fun e => hL.1 (e ▸ hk)
      exact (List.mem_erase_of_ne hne).2 (h k (List.mem_cons_of_mem _ hk)))
    rw [List.length_erase_of_mem ha] at h2
    have : 0 < K.length := List.length_pos_of_mem ha
    simp only [List.length_cons]
    omega
theorem Scanned.len {w : World} {S : Nat → Prop} {p seed : Nat} {m : ByteArray → Option Int} {n : Sh} {F : Nat} {L : List (List UInt8)} (h : Scanned seed m F L) (g : Is w p S seed m n) : L.length ≤ n.n ∧ (F = 4294967296 → L.length = n.n) := by
  obtain ⟨K, k1, k2, k3⟩ := keys_is g
  have h1 : L.length ≤ K.length := nodup_sub h.nodup fun k hk => by
    have := (k3 (keyB k)).2 (h.is k hk).1
    rwa [keyB_list] at this
  refine ⟨by omega, fun hF => ?_⟩
  have h2 : K.length ≤ L.length := nodup_sub k1 fun k hk => by
    have h3 := (k3 (keyB k)).1 (by rw [keyB_list]; exact hk)
    exact h.all k h3 (by rw [hF]; exact posN_lt _ _)
  omega

/-- The cursor of a frontier, and the next one. -/
def frontC (F : Nat) : Nat := turnN (F % 4294967296)
theorem frontC_lt (F : Nat) : frontC F < 4294967296 := turn_lt _ (Nat.mod_lt _ (by decide))
theorem frontC_pos (F : Nat) (hF : F < 4294967296) : turnN (frontC F) = F := by
  unfold frontC
  rw [turn_turn _ (Nat.mod_lt _ (by decide)), Nat.mod_eq_of_lt hF]
theorem frontC_zero (F : Nat) (h : frontC F = 0) : F % 4294967296 = 0 := turn_eq_zero (Nat.mod_lt _ (by decide)) h
theorem frontC_next (s F : Nat) (hs : isS (s : Int) = true) (hF : F < 4294967296) (hu : F % unitN s = 0) : nextN (frontC F) s = frontC (F + unitN s) ∧ F + unitN s ≤ 4294967296 := by
  obtain ⟨u, hh, h1, h2⟩ := cur_facts s hs
  have h3 : F = u * (F / u) := by have := Nat.div_add_mod F u; rw [hh] at hu; omega
  have h4 : F / u < s := by rw [Nat.div_lt_iff_lt_mul h2, h1]; exact hF
  have h5 : (F / u + 1) * u ≤ s * u := Nat.mul_le_mul_right _ h4
  have h6 : (F / u + 1) * u = F + u := by rw [Nat.add_mul, Nat.one_mul, Nat.mul_comm]; omega
  refine ⟨?_, by rw [hh]; omega⟩
  unfold nextN upN frontC
  rw [turn_turn _ (Nat.mod_lt _ (by decide)), Nat.mod_eq_of_lt hF, hh, h6]
/-- A finer unit divides what a coarser one does. -/
theorem unit_finer {s t F : Nat} (hs : isS (s : Int) = true) (ht : isS (t : Int) = true) (h : s ≤ t) (hF : F % unitN s = 0) : F % unitN t = 0 := by
  obtain ⟨a, ha, ha2, rfl⟩ := size_pow hs
  obtain ⟨b, hb, hb2, rfl⟩ := size_pow ht
  have hab : a ≤ b := (Nat.pow_le_pow_iff_right (by decide)).1 h
  rw [unit_pow a (by omega)] at hF
  rw [unit_pow b (by omega)]
  exact Nat.mod_eq_zero_of_dvd (Nat.dvd_trans (Nat.pow_dvd_pow 2 (by omega)) (Nat.dvd_of_mod_eq_zero hF))
end Go.Proofs.YtlfhiolkbnhinaaDoor
