/- Two lists beside each other. -/
import Derived.Test.YtidiaomeahoapaaLevels
import Derived.Test.YtidiaomeahoapaaPlaces
namespace Go.Proofs.Ytidiaomeahoapaa
open Go.RowKit Go.Shelf
attribute [local go_sem] Oper.semAt_some

structure Pair2 (B : Nat) (W : World) (p : Nat) (L : List Nd) (q : Nat) (K : List Nd) : Prop where
  one : Ls W p L
  two : Ls W q K
  b1 : Beyond B p L
  b2 : Beyond B q K
  apart : ∀ k, isB (hd p :: L) k → ¬ isB (hd q :: K) k
theorem Pair2.swap {B : Nat} {W : World} {p q : Nat} {L K : List Nd} (h : Pair2 B W p L q K) : Pair2 B W q K p L := ⟨h.two, h.one, h.b2, h.b1, fun k h1 h2 => h.apart k h2 h1⟩
theorem Pair2.later {B : Nat} {W W' : World} {p q : Nat} {L K : List Nd} (h : Pair2 B W p L q K) (hb : Below W.heap.size W W') : Pair2 B W' p L q K := ⟨h.one.later hb, h.two.later hb, h.b1, h.b2, h.apart⟩
theorem Pair2.act {B : Nat} {W W' : World} {p q : Nat} {L K : List Nd} {M : List En} (h : Pair2 B W p L q K) (hB : B ≤ W.heap.size) (ha : Act1 W W' p L M) : ∃ L', L'.map er = M ∧ Pair2 B W' p L' q K := by
  obtain ⟨⟨L', h1, h2, h3⟩, hf⟩ := ha
  refine ⟨L', h1, h2, h.two.far hf (fun k hk hs => h.apart k hs hk), fun k hk => ?_, h.b2, fun k hk hk2 => ?_⟩
  · rcases h3 k hk with e | e
    · exact h.b1 k e
    · exact Nat.le_trans hB e
  · rcases h3 k hk with e | e
    · exact h.apart k e hk2
    · have := h.two.sk.lt hk2
      omega
theorem Pair2.far {B : Nat} {W W' : World} {p q : Nat} {L K : List Nd} {M : List En} (h : Pair2 B W p L q K) (hB : B ≤ W.heap.size) (ha : Act1 W W' p L M) : Below B W W' := ha.far.below h.b1 hB
theorem Own32.far {W W' : World} {S : Nat → Prop} {n0 : Nat} {v : Value} {l : List Ent} (h : Own32 W n0 v l) (hf : Far S W W') (hS : ∀ k c, Blk W k 32 c → ¬ S k) : Own32 W' n0 v l := by
  refine ⟨h.1, ?_⟩
  rcases h.2 with hn | ⟨g, cap, cur, rfl, h1, h2, h3⟩
  · exact .inl hn
  · exact .inr ⟨g, cap, cur, rfl, h1, (hf.block g (Array.getElem?_eq_some_iff.1 h2).1 (hS g cur h2)).trans h2, h3⟩
theorem Act1.own {W W' : World} {p : Nat} {L : List Nd} {M : List En} {n0 : Nat} {v : Value} {l : List Ent} (ha : Act1 W W' p L M) (h : Ls W p L) (ho : Own32 W n0 v l) : Own32 W' n0 v l :=
  ho.far ha.far fun _ _ hb => h.sk.not_ty hb fun q => (ty_ne q).2.2.2

theorem lvs_er {L K : List Nd} (h : L.map er = K.map er) : lvs L = lvs K := by
  have key : ∀ (L K : List Nd), L.map er = K.map er → lvs L ≤ lvs K := fun L K h => lvs_le.2 fun x hx => by
    have h1 : er x ∈ K.map er := h ▸ List.mem_map_of_mem hx
    obtain ⟨y, hy, he⟩ := List.mem_map.1 h1
    have h2 : y.l = x.l := congrArg (fun z : En => z.2.2) he
    have := lvs_le.1 (Nat.le_refl (lvs K)) y hy
    omega
  exact Nat.le_antisymm (key L K h) (key K L h.symm)
def e2 (y : En) : Ent := (y.1, y.2.1)
theorem en_er (L : List Nd) : L.map en = (L.map er).map e2 := by rw [List.map_map]; rfl
theorem sub_all (E : List Ent) : sub E 0 E.length = E := by
  unfold sub from0 to0
  rw [show (max (0 : Int) 0).toNat = 0 from rfl, show (min (E.length : Int) (E.length : Int)).toNat = E.length by simp]
  simp

/-- Both ranges of all are the same. -/
theorem all_ls {w : World} {p : Nat} {L : List Nd} (h : Ls w p L) (hN : L.length ≤ 100000) : Calls Try.prog 18 #[.pointer (some ⟨p, 0, none⟩), .int .i64 0, .int .i64 L.length] w fun e w' => ∃ r, e = .returned r ∧ Own32 w' w.heap.size r (L.map en) ∧ Below w.heap.size w w' := by
  have h1 := range_ls h hN 0 L.length
  have h2 := sub_all (L.map en)
  rw [List.length_map] at h2
  rwa [h2] at h1
end Go.Proofs.Ytidiaomeahoapaa
