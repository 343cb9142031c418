/- A dict of texts that is like a map: what its calls tell. -/
import Derived.Test.YtifbambalfifaaaStrC
import Derived.Test.YtifbambalfifaaaOpen
namespace Go.Proofs.Ytifbambalfifaaa.Str
open Go.RowKit Go.Shelf
attribute [local go_sem] Oper.semAt_some

/-- In a world, in the blocks S, there is a dict that holds what m tells, of a shape. -/
def Is (W : World) (p : Nat) (S : Nat → Prop) (seed : Nat) (m : ByteArray → Option ByteArray) (n : Sh) : Prop :=
  ∃ D, Rep tyS W p S seed D ∧ Like tyS seed D (fun k => (m k).map (Value.string)) ∧ D.shape = n
def putT (m : ByteArray → Option ByteArray) (key : ByteArray) (v : ByteArray) : ByteArray → Option ByteArray := fun k => if k = key then some v else m k
def remT (m : ByteArray → Option ByteArray) (key : ByteArray) : ByteArray → Option ByteArray := fun k => if k = key then none else m k
/-- What a call leaves of a dict: it is such a one now; all else is as it was. -/
def IsNow (S : Nat → Prop) (W : World) (p seed : Nat) (m : ByteArray → Option ByteArray) (n : Sh) (W' : World) : Prop := Is W' p (grow tyS S W W') seed m n ∧ Far S W W'

theorem Is.far {S S1 : Nat → Prop} {W W' : World} {p seed : Nat} {n : Sh} {m : ByteArray → Option ByteArray} (h : Is W p S seed m n) (f : Far S1 W W') (hd : ∀ k, S k → ¬ S1 k) : Is W' p S seed m n := by
  obtain ⟨D, h1, h2, h3⟩ := h
  exact ⟨D, h1.far f hd, h2, h3⟩
theorem Is.later {S : Nat → Prop} {W W' : World} {p seed : Nat} {n : Sh} {m : ByteArray → Option ByteArray} (h : Is W p S seed m n) (hb : Below W.heap.size W W') : Is W' p S seed m n := h.far (S1 := fun _ => False) (Far.of_below hb) fun _ _ h => h
theorem Is.cells {S : Nat → Prop} {W : World} {p seed : Nat} {n : Sh} {m : ByteArray → Option ByteArray} (h : Is W p S seed m n) : ∀ k, S k → CellB tyS W k := by obtain ⟨D, h1, _⟩ := h; exact h1.cells
theorem Is.lt {S : Nat → Prop} {W : World} {p seed : Nat} {n : Sh} {m : ByteArray → Option ByteArray} (h : Is W p S seed m n) : ∀ k, S k → k < W.heap.size := fun k hk => (h.cells k hk).lt
theorem Is.wide {S S1 : Nat → Prop} {W : World} {p seed : Nat} {n : Sh} {m : ByteArray → Option ByteArray} (h : Is W p S seed m n) (hs : ∀ k, S k → S1 k) (hc : ∀ k, S1 k → CellB tyS W k) : Is W p S1 seed m n := by
  obtain ⟨D, h1, h2, h3⟩ := h
  exact ⟨D, h1.wide hs hc, h2, h3⟩
theorem IsNow.of {S : Nat → Prop} {W W' : World} {p seed : Nat} {n : Sh} {m : ByteArray → Option ByteArray} {D : Dc} (h : Went tyS S W p seed D W') (hl : Like tyS seed D (fun k => (m k).map (Value.string))) (hn : D.shape = n) : IsNow S W p seed m n W' := ⟨⟨D, h.1, hl, hn⟩, h.2⟩
theorem IsNow.start {S : Nat → Prop} {W : World} {p seed : Nat} {n : Sh} {m : ByteArray → Option ByteArray} (h : Is W p S seed m n) : IsNow S W p seed m n W := by
  obtain ⟨D, h1, h2, h3⟩ := h
  exact IsNow.of (Went.start h1) h2 h3
theorem IsNow.trans {S : Nat → Prop} {W W1 W2 : World} {p seed : Nat} {n n2 : Sh} {m m2 : ByteArray → Option ByteArray} (h : IsNow S W p seed m n W1) (g : IsNow (grow tyS S W W1) W1 p seed m2 n2 W2) : IsNow S W p seed m2 n2 W2 := by
  obtain ⟨D1, h1, h2, h3⟩ := h.1
  obtain ⟨D2, g1, g2, g3⟩ := g.1
  exact IsNow.of (Went.trans ⟨h1, h.2⟩ ⟨g1, g.2⟩) g2 g3
theorem IsNow.later {S : Nat → Prop} {W W1 W2 : World} {p seed : Nat} {n : Sh} {m : ByteArray → Option ByteArray} (h : IsNow S W p seed m n W1) (hb : Below W1.heap.size W1 W2) : IsNow S W p seed m n W2 := by
  obtain ⟨D1, h1, h2, h3⟩ := h.1
  exact IsNow.of (Went.later ⟨h1, h.2⟩ hb) h2 h3
theorem IsNow.since {S : Nat → Prop} {W W1 W2 : World} {p seed : Nat} {n : Sh} {m : ByteArray → Option ByteArray} (hb : Below W.heap.size W W1) (h : IsNow S W1 p seed m n W2) : IsNow S W p seed m n W2 := by
  obtain ⟨D1, h1, h2, h3⟩ := h.1
  exact IsNow.of (Went.since hb ⟨h1, h.2⟩) h2 h3

section
variable {S : Nat → Prop} {p seed : Nat} {n : Sh} {m : ByteArray → Option ByteArray} {w : World}

theorem map_put (m : ByteArray → Option ByteArray) (key : ByteArray) (v : ByteArray) : (fun k => (putT m key v k).map (Value.string)) = putM (fun k => (m k).map (Value.string)) key (.string v) := by
  funext k
  unfold putT putM
  split <;> rfl
theorem map_rem (m : ByteArray → Option ByteArray) (key : ByteArray) : (fun k => (remT m key k).map (Value.string)) = remM (fun k => (m k).map (Value.string)) key := by
  funext k
  unfold remT remM
  split <;> rfl

theorem new_is (sd : Nat) (w : World) : Calls Try.prog 24 #[.int .u32 sd] w fun e w' => ∃ q, e = .returned (.pointer (some ⟨q, 0, none⟩)) ∧ Is w' q (fresh tyS w w') sd (fun _ => none) ⟨4, 0, 0, 0⟩ ∧ Below w.heap.size w w' :=
  (new_any sd w).mono fun _ _ ⟨q, h1, h2, h3⟩ => ⟨q, h1, ⟨newD, h2, Like.new _ _, rfl⟩, h3⟩
theorem get_is (hsd : seed < 4294967296) (h : Is w p S seed m n) (hn : n.n ≤ 1000000) (key : ByteArray) (hk : key.size ≤ 281474976710656) :
    Calls Try.prog 27 #[.pointer (some ⟨p, 0, none⟩), .string key] w fun e w' => e = .returned (.tuple #[.string ((m key).getD ⟨#[]⟩), .bool (m key).isSome]) ∧ IsNow S w p seed m n.step1 w' := by
  obtain ⟨D, h1, h2, h3⟩ := h
  have hn' : D.n ≤ 1000000 := by rw [← h3] at hn; exact hn
  refine (get_any hsd h1 h2.1.ok hn' key hk).mono fun e w' ⟨he, hw⟩ => ?_
  obtain ⟨q1, q2, q3, q4⟩ := (h2.step 1).hit key
  refine ⟨?_, IsNow.of hw (h2.step 1) ((shape_step h2.1.ok 1).trans (by rw [h3]; rfl))⟩
  rw [he, q1]
  congr 2
  cases hm : m key with
  | none =>
    rw [q3 (by simp only [hm]; rfl)]
    rfl
  | some v =>
    obtain ⟨y, hy⟩ := q4 (by simp only [hm]; rfl)
    have := q2 y hy
    simp only [hm, Option.map_some, Option.some.injEq] at this
    rw [hy]
    simp only [strV, ← this]
    rfl
theorem set_is (hsd : seed < 4294967296) (h : Is w p S seed m n) (hn : n.n + 1 ≤ 1000000) (key : ByteArray) (hk : key.size ≤ 281474976710656) (v : ByteArray) :
    Calls Try.prog 25 #[.pointer (some ⟨p, 0, none⟩), .string key, .string v] w fun e w' => e = .returned (.bool (!(m key).isSome)) ∧ IsNow S w p seed (putT m key v) (n.set (m key).isSome) w' := by
  obtain ⟨D, h1, h2, h3⟩ := h
  have hn' : D.n + 1 ≤ 1000000 := by rw [← h3] at hn; exact hn
  refine (set_any hsd h1 h2.1.ok hn' key hk v).mono fun e w' ⟨he, hw⟩ => ?_
  obtain ⟨q1, _⟩ := (h2.step 1).hit key
  obtain ⟨g1, _⟩ := h2.set key (.string v) ⟨v, rfl⟩
  have g2 := shape_set h2.1.ok (sumN seed key.data.toList) key (.string v)
  rw [← map_put] at g1
  simp only [Option.isSome_map] at q1
  exact ⟨by rw [he, q1], IsNow.of hw g1 (by rw [g2, h3, q1])⟩
theorem del_is (hsd : seed < 4294967296) (h : Is w p S seed m n) (hn : n.n ≤ 1000000) (key : ByteArray) (hk : key.size ≤ 281474976710656) :
    Calls Try.prog 26 #[.pointer (some ⟨p, 0, none⟩), .string key] w fun e w' => e = .returned (.bool (m key).isSome) ∧ IsNow S w p seed (remT m key) (n.del (m key).isSome) w' ∧ ((m key).isSome = true → 0 < n.n) := by
  obtain ⟨D, h1, h2, h3⟩ := h
  have hn' : D.n ≤ 1000000 := by rw [← h3] at hn; exact hn
  refine (del_any hsd h1 h2.1.ok hn' key hk).mono fun e w' ⟨he, hw⟩ => ?_
  obtain ⟨q1, _⟩ := (h2.step 1).hit key
  obtain ⟨g1, _, g3⟩ := h2.del key
  have g2 := shape_del h2.1.ok (sumN seed key.data.toList) key
  rw [← map_rem] at g1
  simp only [Option.isSome_map] at q1 g3
  exact ⟨by rw [he, q1], IsNow.of hw g1 (by rw [g2, h3, q1]), fun e => by rw [← h3]; exact g3 e⟩
end
end Go.Proofs.Ytifbambalfifaaa.Str
