/- What is packed is a pack, of just these entries. -/
import Derived.Test.YtioidnfmpbdmhaaBytes
namespace Go.Proofs.Ytioidnfmpbdmhaa
open Go.RowKit Go.Shelf

def scoreOk (s : Int) : Prop := -9223372036854775808 ≤ s ∧ s ≤ 9223372036854775807

theorem drop_of {l a b : List UInt8} {k : Nat} (h : l.drop k = a ++ b) (n : Nat) (hn : a.length = n) : l.drop (k + n) = b := by
  rw [← List.drop_drop, h, ← hn, List.drop_left]

theorem begun_at {p : ByteArray} {k : Nat} {e : Ent} {rest : List UInt8} (hk : 2 ≤ k) (hd : p.data.toList.drop k = entB e ++ rest) (h64 : e.1.size ≤ 64) (hs : scoreOk e.2) :
    begunS p k = some ⟨e.1, e.2, k, k + e.1.size + 10⟩ ∧ byte p (k + e.1.size + 9) = e.1.size + 9 ∧ p.data.toList.drop (k + e.1.size + 10) = rest := by
  obtain ⟨m, s⟩ := e
  simp only at h64 hs ⊢
  have hl := size_list p
  have hml := size_list m
  have hlen := congrArg List.length hd
  rw [List.length_drop, List.length_append, entB_length] at hlen
  have hrest : p.data.toList.drop (k + (m.size + 10)) = rest := drop_of hd _ (entB_length _)
  have hkl : k < p.data.toList.length := by simp only at hlen; omega
  have hb : byte p k = m.size := by
    have h1 := hd
    rw [List.drop_eq_getElem_cons hkl, byte_get] at h1
    unfold entB at h1
    simp only [List.cons_append, List.cons.injEq] at h1
    have h2 := congrArg UInt8.toNat h1.1
    have := byte_lt p k
    simp at h2
    omega
  have d1 : p.data.toList.drop (k + 1) = m.data.toList ++ (score8 s ++ (UInt8.ofNat (m.size + 9) :: rest)) := by
    refine drop_of (a := [UInt8.ofNat m.size]) ?_ 1 rfl
    rw [hd]
    simp [entB]
  have d2 : p.data.toList.drop (k + 1 + m.size) = score8 s ++ (UInt8.ofNat (m.size + 9) :: rest) := drop_of d1 _ hml
  have d3 : p.data.toList.drop (k + 1 + m.size + 8) = UInt8.ofNat (m.size + 9) :: rest := drop_of d2 _ (score8_length s)
  refine ⟨?_, ?_, by rw [← hrest]; congr 1⟩
  · unfold begunS
    rw [if_neg (by omega), hb, if_neg (by simp only at hlen; omega)]
    have e1 : p.extract (k + 1) (k + 1 + m.size) = m := by
      apply ba_ext
      rw [ext_list, d1, ← hml, List.take_left]
    have e2 : scoreL ((p.data.toList.drop (k + 1 + m.size)).take 8) = s := by
      rw [d2, ← score8_length s, List.take_left, scoreL_score8 s hs]
    rw [e1, e2]
  · have hk9 : k + m.size + 9 < p.data.toList.length := by simp only at hlen; omega
    rw [show k + 1 + m.size + 8 = k + m.size + 9 by omega, List.drop_eq_getElem_cons hk9, byte_get] at d3
    simp only [List.cons.injEq] at d3
    have h2 := congrArg UInt8.toNat d3.1
    have := byte_lt p (k + m.size + 9)
    simp at h2
    omega

theorem goS_pack (p : ByteArray) : ∀ (l : List Ent) (k : Nat), 2 ≤ k → k ≤ p.size → p.data.toList.drop k = l.flatMap entB → (∀ e ∈ l, e.1.size ≤ 64 ∧ scoreOk e.2) → ∃ cs, goS p l.length k = some cs ∧ cs.map Cut.ent = l
  | [], k, _, hk2, hd, _ => by
    have hl := size_list p
    have := congrArg List.length hd
    simp only [List.length_drop, List.flatMap_nil, List.length_nil] at this
    refine ⟨[], ?_, rfl⟩
    unfold goS
    simp only [List.length_nil]
    rw [if_pos (by omega)]
  | e :: l, k, hk, hk2, hd, hv => by
    rw [List.flatMap_cons] at hd
    obtain ⟨h64, hs⟩ := hv e (List.mem_cons_self ..)
    obtain ⟨h1, h2, h3⟩ := begun_at hk hd h64 hs
    have hl := size_list p
    have hlen := congrArg List.length hd
    rw [List.length_drop, List.length_append, entB_length] at hlen
    obtain ⟨cs, hcs, hm⟩ := goS_pack p l (k + e.1.size + 10) (by omega) (by omega) h3 (fun e he => hv e (List.mem_cons_of_mem _ he))
    refine ⟨⟨e.1, e.2, k, k + e.1.size + 10⟩ :: cs, ?_, by rw [List.map_cons, hm]; rfl⟩
    rw [List.length_cons, goS.eq_def]
    simp only [h1]
    rw [show k + e.1.size + 10 - 1 = k + e.1.size + 9 by omega, if_pos h2, hcs]
    rfl

/-- The entries that may be packed. -/
structure Valid (l : List Ent) : Prop where
  many : l.length ≤ 200
  each : ∀ e ∈ l, e.1.size ≤ 64 ∧ scoreOk e.2

theorem packB_size (l : List Ent) : (packB l).size = 2 + (l.flatMap entB).length := by
  rw [← size_list, packB_list, packS]; simp; omega
theorem count_packB {l : List Ent} (h : l.length ≤ 200) : countS (packB l) = l.length := by
  have h0 : byte (packB l) 0 = (UInt8.ofNat (l.length / 256)).toNat := rfl
  have h1 : byte (packB l) 1 = (UInt8.ofNat l.length).toNat := rfl
  unfold countS
  rw [if_neg (by rw [packB_size]; omega), h0, h1]
  have e0 : (UInt8.ofNat (l.length / 256)).toNat = 0 := by simp; omega
  have e1 : (UInt8.ofNat l.length).toNat = l.length := by simp; omega
  rw [e0, e1, if_neg (by omega)]
  simp
theorem entriesS_packB {l : List Ent} (h : Valid l) : ∃ cs, entriesS (packB l) = some cs ∧ cs.map Cut.ent = l := by
  obtain ⟨cs, hcs, hm⟩ := goS_pack (packB l) l 2 (Nat.le_refl _) (by rw [packB_size]; omega) (by rw [packB_list]; rfl) h.each
  refine ⟨cs, ?_, hm⟩
  unfold entriesS
  rw [count_packB h.many, if_pos (by omega)]
  exact hcs
theorem right_packB {l : List Ent} (h : Valid l) : rightB (packB l) = true := by
  obtain ⟨cs, hcs, _⟩ := entriesS_packB h
  unfold rightB
  rw [hcs]; rfl
theorem ents_packB {l : List Ent} (h : Valid l) : entsOf (packB l) = l := by
  obtain ⟨cs, hcs, hm⟩ := entriesS_packB h
  unfold entsOf packOf
  rw [hcs]
  exact hm

/-- The entries of a pack may be packed. -/
theorem scoreL_ok (l : List UInt8) : scoreOk (scoreL l) := by
  unfold scoreOk
  have : ∀ n, -9223372036854775808 ≤ wrap64 n ∧ wrap64 n ≤ 9223372036854775807 := fun n => by unfold wrap64; omega
  rcases List.eq_nil_or_concat l with rfl | ⟨l, b, rfl⟩
  · exact ⟨by decide, by decide⟩
  · rw [List.concat_eq_append, scoreL_fold, List.foldl_append, List.foldl_cons, List.foldl_nil]
    exact this _
theorem valid_of {p : ByteArray} (h : rightB p = true) : Valid (entsOf p) := by
  have hk := isPack_of h
  refine ⟨by unfold entsOf; rw [List.length_map]; exact hk.many, fun e he => ?_⟩
  obtain ⟨c, hc, rfl⟩ := List.mem_map.1 he
  refine ⟨hk.short c hc, ?_⟩
  rw [show c.ent.2 = c.s from rfl, (begunS_some (begun_of_mem hk.chain hc)).2.2.2.2.2.2.2]
  exact scoreL_ok _
theorem pack_of_right {p : ByteArray} (h : rightB p = true) : p = packB (entsOf p) := pack_ents (isPack_of h)
end Go.Proofs.Ytioidnfmpbdmhaa
