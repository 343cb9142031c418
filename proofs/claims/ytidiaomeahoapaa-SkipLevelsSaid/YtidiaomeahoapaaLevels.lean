/- Levels. -/
import Derived.Test.YtidiaomeahoapaaRng
namespace Go.Proofs.Ytidiaomeahoapaa
open Go.RowKit Go.Shelf
attribute [local go_sem] Oper.semAt_some

/-- The greatest level. -/
def lvs : List Nd → Nat
  | [] => 0
  | x :: L => max x.l (lvs L)
theorem lvs_le {L : List Nd} {k : Nat} : lvs L ≤ k ↔ ∀ x ∈ L, x.l ≤ k := by
  induction L with
  | nil => simp [lvs]
  | cons x L ih => simp [lvs, Nat.max_le, ih]
theorem steps_nil {p : Nat} {L : List Nd} {k : Nat} : steps (hd p :: L) k 0 = [] ↔ lvs L ≤ k := by
  rw [lvs_le, List.eq_nil_iff_forall_not_mem]
  constructor
  · intro h x hx
    obtain ⟨i, hi⟩ := List.mem_iff_getElem?.1 hx
    have hil := (List.getElem?_eq_some_iff.1 hi).1
    have := h (i + 1)
    rw [mem_steps, lev_some (show (hd p :: L)[i + 1]? = some x by simpa using hi)] at this
    simp at this
    omega
  · intro h i hi
    rw [mem_steps] at hi
    obtain ⟨h1, h2, h3⟩ := hi
    obtain ⟨j, rfl⟩ : ∃ j, i = j + 1 := ⟨i - 1, by omega⟩
    have h2' : j < L.length := by simpa using h2
    have hx : L[j]? = some L[j] := List.getElem?_eq_getElem h2'
    rw [lev_some (show (hd p :: L)[j + 1]? = some L[j] by rw [List.getElem?_cons_succ]; exact hx)] at h3
    have := h _ (List.mem_of_getElem? hx)
    omega
theorem nxt_len {p : Nat} {L : List Nd} {k : Nat} : nxt (hd p :: L) k 0 = (hd p :: L).length ↔ lvs L ≤ k := by
  rw [← steps_nil (p := p)]
  obtain ⟨n1, n2, n3, n4, n5⟩ := nxt_spec (hd p :: L) k 0 (by simp)
  rw [n5]
  split
  · rename_i h
    exact ⟨fun e => absurd (e ▸ h) (Nat.lt_irrefl _), fun e => by cases e⟩
  · rename_i h
    exact ⟨fun _ => rfl, fun _ => by omega⟩

variable {w : World} {p : Nat} {L : List Nd}
theorem lvs_32 (h : Ls w p L) : lvs L ≤ 32 := lvs_le.2 fun x hx => by
  obtain ⟨i, hi⟩ := List.mem_iff_getElem?.1 hx
  exact (h.sk.lev (i + 1) x (by simpa using hi)).2
set_option maxRecDepth 100000 in
set_option maxHeartbeats 2000000 in
theorem levels_ls (h : Ls w p L) : Calls Try.prog 15 #[.pointer (some ⟨p, 0, none⟩)] w fun e w' => e = .returned (.int .i64 (lvs L)) ∧ w' = w := by
  have h32 := lvs_32 h
  obtain ⟨A, hA, hN⟩ := h.sk.node 0 (hd p) rfl
  have hc : ∀ k, k < 32 → ∃ o, w.cell? ⟨p, 3 + k * 2, none⟩ = some (.pointer o) ∧ (o = none ↔ lvs L ≤ k) := fun k hk => by
    refine ⟨_, (hA.cell _).trans (hN.link k hk).1, ?_⟩
    rw [← nxt_len (p := p)]
    have n2 := (nxt_spec (hd p :: L) k 0 (by simp)).2.1
    simp only [Option.map_eq_none_iff, List.getElem?_eq_none_iff]
    omega
  have HC := Lib.hid hc
  clear hA hN hc h
  go_enter Try.func15, Try.ntmps15
  go_wp2
  go_loopw [3] (fun i wr => ∃ (k : Nat), i = .int .i64 k ∧ lvs L ≤ k ∧ k ≤ 32 ∧ wr = w) (fun i _ => (intOf i).toNat)
  case atStart => exact ⟨32, rfl, h32, Nat.le_refl _, rfl⟩
  case round =>
    obtain ⟨k, rfl, hk, hk2, rfl⟩ := hrel
    by_cases hk0 : k = 0
    · subst hk0
      have he : lvs L = 0 := by omega
      have HE := Lib.hid he
      clear hk h32 he
      go_wp2
      go_returns
      exact ⟨by rw [HE.out]; rfl, rfl⟩
    · obtain ⟨j, rfl⟩ : ∃ j, k = j + 1 := ⟨k - 1, by omega⟩
      obtain ⟨o, c0, ho⟩ := HC.out j (by omega)
      have hj : ((j + 1 : Nat) : Int) - 1 = j := by omega
      have hj32 : (j : Int) < 32 := by omega
      by_cases hle : lvs L ≤ j
      · rw [ho.2 hle] at c0
        clear ho hk0
        go_wp2
        exact ⟨⟨j, by go_num, hle, by omega, trivial⟩, by simp [intOf]⟩
      · obtain ⟨q, rfl⟩ : ∃ q, o = some q := by
          cases o with
          | none => exact absurd (ho.1 rfl) hle
          | some q => exact ⟨q, rfl⟩
        have he : lvs L = j + 1 := by omega
        have HE := Lib.hid he
        clear ho hk0 hk h32 he hle
        go_wp2
        go_returns
        exact ⟨by rw [HE.out]; rfl, rfl⟩
end Go.Proofs.Ytidiaomeahoapaa
