/- What a change of a pack is, as a change of the list. -/
import Derived.Test.YtioidnfmpbdmhaaTurns
namespace Go.Proofs.Ytioidnfmpbdmhaa
open Go.RowKit Go.Shelf

theorem own35_full {W : World} {n0 : Nat} {v : Value} {l : List Ent} (h : Own35 W n0 v l) : ∃ a cap, v = .slice a l.length cap ∧ Ents W a l ∧ l.length ≤ cap := by
  obtain ⟨a, cap, rfl, hE⟩ := own35_form h
  refine ⟨a, cap, rfl, hE, ?_⟩
  rcases h.2 with ⟨h1, h0⟩ | ⟨g, cap', cur, h1, _, _, hc, _⟩
  · omega
  · cases h1; exact hc

theorem fit_valid {L : List Ent} (h : Valid L) : packR L = (packB L, 0) := by
  have hm := h.many
  have hf : fitS L = true := by
    unfold fitS
    rw [List.all_eq_true]
    intro e he
    simpa using (h.each e he).1
  unfold packR
  rw [if_neg (by omega), if_pos hf]

theorem ins_full {F : List Ent} (hv : Valid F) (at_ : Int) (x : Ent) (h : F.length = 200) : insR (packB F) at_ x = (⟨#[]⟩, 51) := by
  unfold insR
  rw [if_pos (right_packB hv), ents_packB hv, if_pos h]
theorem ins_bad {F : List Ent} (hv : Valid F) (at_ : Int) (x : Ent) (h : F.length ≠ 200) (hb : at_ < 0 ∨ (F.length : Int) < at_ ∨ 64 < x.1.size) : insR (packB F) at_ x = (⟨#[]⟩, 2) := by
  unfold insR
  rw [if_pos (right_packB hv), ents_packB hv, if_neg h, if_pos hb]
theorem ins_good {F : List Ent} (hv : Valid F) (k : Nat) (x : Ent) (h : F.length ≠ 200) (hk : k ≤ F.length) (hx : x.1.size ≤ 64) (hs : scoreOk x.2) : insR (packB F) k x = packR (F.take k ++ [x] ++ F.drop k) := by
  have hm := hv.many
  rw [fit_valid (valid_put hv hx hs (by omega) k)]
  unfold insR
  rw [if_pos (right_packB hv), ents_packB hv, if_neg h, if_neg (by omega), Int.toNat_natCast]
theorem del_bad {F : List Ent} (hv : Valid F) (at_ : Int) (hb : at_ < 0 ∨ (F.length : Int) ≤ at_) : delR (packB F) at_ = (⟨#[]⟩, 2) ∧ getS (packB F) at_ = ((⟨#[]⟩, 0), 2) := by
  unfold delR getS
  rw [if_pos (right_packB hv), if_pos (right_packB hv), ents_packB hv, if_pos hb, if_pos hb]
  exact ⟨rfl, rfl⟩
theorem del_good {F : List Ent} (hv : Valid F) (k : Nat) (hk : k < F.length) : delR (packB F) k = packR (F.take k ++ F.drop (k + 1)) ∧ getS (packB F) k = (F[k], 0) ∧ (packR (F.take k ++ F.drop (k + 1))).2 = 0 := by
  rw [fit_valid (valid_cut hv k)]
  unfold delR getS
  rw [if_pos (right_packB hv), if_pos (right_packB hv), ents_packB hv, if_neg (by omega), if_neg (by omega), Int.toNat_natCast]
  refine ⟨rfl, ?_, rfl⟩
  rw [List.getD_eq_getElem?_getD, List.getElem?_eq_getElem hk]
  rfl
theorem put_small {F : List Ent} (hv : Valid F) (k : Nat) (x : Ent) (hx : x.1.size ≤ 1000) : ∀ e ∈ F.take k ++ [x] ++ F.drop k, e.1.size ≤ 1000 := fun e he => by
  simp only [List.mem_append, List.mem_cons, List.not_mem_nil, or_false] at he
  rcases he with (he | rfl) | he
  · have := (hv.each e (List.mem_of_mem_take he)).1
    omega
  · exact hx
  · have := (hv.each e (List.mem_of_mem_drop he)).1
    omega
theorem ec_below {W W5 : World} {p q : Addr} {v u : Value} (h : Below W.heap.size W W5) (hc : W.cell? p = some v ∧ W.cell? q = some u) : W5.cell? p = some v ∧ W5.cell? q = some u :=
  ⟨(h.cell (World.block_lt_of_cell? W p hc.1)).trans hc.1, (h.cell (World.block_lt_of_cell? W q hc.2)).trans hc.2⟩
theorem ec_alloc {W : World} {p q : Addr} {v u : Value} {o : Obj} (hc : W.cell? p = some v ∧ W.cell? q = some u) : (W.alloc o).cell? p = some v ∧ (W.alloc o).cell? q = some u :=
  ec_below ((Below.refl _ _).alloc (Nat.le_refl _) _) hc
end Go.Proofs.Ytioidnfmpbdmhaa
