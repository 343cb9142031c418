/- What Read answers, as a fold over the flags; six cells of a block set. -/
import Derived.Test.YtnkgkimlmceciaaNamed
namespace Go.Proofs.Ytnkgkimlmceciaa
open Go.RowKit Go.Shelf

def Fl.zero : Fl := ⟨false, false, false, false, false, false⟩
/-- The flags of kinds, one set behind the other. -/
def foldF (ks : List Nat) : Fl := ks.foldl Fl.set Fl.zero
theorem foldF_step (ks : List Nat) (i k : Nat) (h : ks[i]? = some k) : foldF (ks.take (i + 1)) = (foldF (ks.take i)).set k := by
  obtain ⟨hi, he⟩ := List.getElem?_eq_some_iff.1 h
  rw [List.take_succ_eq_append_getElem hi, he]
  unfold foldF
  rw [List.foldl_append, List.foldl_cons, List.foldl_nil]
def readF (l : List ByteArray) : Fl := foldF (kindsOf l)
/-- What Read answers. -/
def readT (l : List ByteArray) : Value := if (readF l).right then .tuple #[(readF l).v, .int .i64 (kindsOf l).length, .int .i64 0] else .tuple #[Fl.zero.v, .int .i64 0, .int .i64 110]

/-- Six cells of a block set, one behind the other. -/
abbrev set6 (W : World) (b : Nat) (v0 v1 v2 v3 v4 v5 : Value) : World := (((((W.setCell ⟨b, 0, none⟩ v0).setCell ⟨b, 1, none⟩ v1).setCell ⟨b, 2, none⟩ v2).setCell ⟨b, 3, none⟩ v3).setCell ⟨b, 4, none⟩ v4).setCell ⟨b, 5, none⟩ v5
theorem set6_blk {W : World} {b : Nat} {t : TypeId} {c0 c1 c2 c3 c4 c5 : Value} (h : Blk W b t #[c0, c1, c2, c3, c4, c5]) (v0 v1 v2 v3 v4 v5 : Value) : Blk (set6 W b v0 v1 v2 v3 v4 v5) b t #[v0, v1, v2, v3, v4, v5] :=
  (((((h.set 0 v0).set 1 v1).set 2 v2).set 3 v3).set 4 v4).set 5 v5
theorem set6_other {W : World} {b b' : Nat} {t : TypeId} {c : Array Value} (h : Blk W b' t c) (hne : b' ≠ b) (v0 v1 v2 v3 v4 v5 : Value) : Blk (set6 W b v0 v1 v2 v3 v4 v5) b' t c :=
  (((((h.setOther 0 v0 hne).setOther 1 v1 hne).setOther 2 v2 hne).setOther 3 v3 hne).setOther 4 v4 hne).setOther 5 v5 hne
theorem set6_below {w W : World} {n b : Nat} (h : Below n w W) (hn : n ≤ b) (v0 v1 v2 v3 v4 v5 : Value) : Below n w (set6 W b v0 v1 v2 v3 v4 v5) :=
  (((((h.setCell (p := ⟨b, 0, none⟩) hn v0).setCell (p := ⟨b, 1, none⟩) hn v1).setCell (p := ⟨b, 2, none⟩) hn v2).setCell (p := ⟨b, 3, none⟩) hn v3).setCell (p := ⟨b, 4, none⟩) hn v4).setCell (p := ⟨b, 5, none⟩) hn v5
theorem set6_keeps (B : Nat) (W : World) (b : Nat) (v0 v1 v2 v3 v4 v5 : Value) : KeepsFrom B W (set6 W b v0 v1 v2 v3 v4 v5) :=
  ((((((KeepsOthers.setCell _ _ _).from B).trans ((KeepsOthers.setCell _ _ _).from B)).trans ((KeepsOthers.setCell _ _ _).from B)).trans ((KeepsOthers.setCell _ _ _).from B)).trans ((KeepsOthers.setCell _ _ _).from B)).trans ((KeepsOthers.setCell _ _ _).from B)
theorem set6_keepc (L : List Nat) (W : World) (b : Nat) (hb : b ∈ L) (v0 v1 v2 v3 v4 v5 : Value) : KeepC L W (set6 W b v0 v1 v2 v3 v4 v5) :=
  (((((KeepC.set _ _ _ _ hb).trans (KeepC.set _ _ _ _ hb)).trans (KeepC.set _ _ _ _ hb)).trans (KeepC.set _ _ _ _ hb)).trans (KeepC.set _ _ _ _ hb)).trans (KeepC.set _ _ _ _ hb)

theorem set6_heap {W : World} {b k : Nat} (hne : k ≠ b) (v0 v1 v2 v3 v4 v5 : Value) : (set6 W b v0 v1 v2 v3 v4 v5).heap[k]? = W.heap[k]? := by
  unfold set6
  rw [Below.heap_setCell _ _ _ _ (show k ≠ b from hne), Below.heap_setCell _ _ _ _ (show k ≠ b from hne), Below.heap_setCell _ _ _ _ (show k ≠ b from hne), Below.heap_setCell _ _ _ _ (show k ≠ b from hne), Below.heap_setCell _ _ _ _ (show k ≠ b from hne), Below.heap_setCell _ _ _ _ (show k ≠ b from hne)]
end Go.Proofs.Ytnkgkimlmceciaa
