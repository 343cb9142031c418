/- A dict of numbers that is like a map: what its calls tell. -/
import Derived.Test.YtifbambalfifaaaLike
namespace Go.Proofs.Ytifbambalfifaaa
open Go.RowKit Go.Shelf
attribute [local go_sem] Oper.semAt_some

/-- The sizes of the tables, the place, how many keys: what Sizes and Len tell. -/
structure Sh where
  A : Nat
  B : Nat
  At : Nat
  n : Nat
def Dc.shape (D : Dc) : Sh := ⟨D.a.length, D.b.length, D.place, D.n⟩
/-- A slot moves, if there is one to move. -/
def Sh.step1 (h : Sh) : Sh := if h.B = 0 then h else if h.At + 1 = h.A then ⟨h.B, 0, 0, h.n⟩ else ⟨h.A, h.B, h.At + 1, h.n⟩
def Sh.steps : Nat → Sh → Sh
  | 0, h => h
  | k + 1, h => (Sh.steps k h).step1
def Sh.left (h : Sh) : Nat := if h.B = 0 then 0 else h.A - h.At
def Sh.grown (h : Sh) : Sh := if h.B = 0 ∧ h.A ≤ h.n ∧ h.A < 65536 then ⟨h.A, sizeS (2 * h.n : Nat), h.At, h.n⟩ else h
def Sh.shrunk (h : Sh) : Sh := if h.B = 0 ∧ 4 < h.A ∧ 8 * h.n < h.A then ⟨h.A, sizeS h.n, h.At, h.n⟩ else h
def Sh.more (h : Sh) : Sh := ⟨h.A, h.B, h.At, h.n + 1⟩
def Sh.fewer (h : Sh) : Sh := ⟨h.A, h.B, h.At, h.n - 1⟩
def Sh.set (h : Sh) (is : Bool) : Sh := bif is then h.step1 else h.step1.grown.more
def Sh.del (h : Sh) (is : Bool) : Sh := bif is then h.step1.fewer.shrunk else h.step1
theorem b_len (D : Dc) : D.b = [] ↔ D.b.length = 0 := ⟨fun e => by rw [e]; rfl, List.eq_nil_of_length_eq_zero⟩
theorem shape_move1 {D : Dc} (hb : D.b ≠ []) : D.move1.shape = D.shape.step1 := by
  have h0 : ¬ D.b.length = 0 := fun e => hb ((b_len D).2 e)
  unfold Dc.move1 Sh.step1 Dc.shape
  rw [if_neg h0]
  by_cases h1 : D.place + 1 = D.a.length
  · rw [if_pos h1, if_pos h1, putL_len]; rfl
  · rw [if_neg h1, if_neg h1, List.length_set, putL_len]
theorem steps_still {h : Sh} (hb : h.B = 0) : ∀ k, Sh.steps k h = h
  | 0 => rfl
  | k + 1 => by rw [Sh.steps, steps_still hb k, Sh.step1, if_pos hb]
theorem shape_left (D : Dc) : D.shape.left = D.left := by
  unfold Sh.left Dc.left Dc.shape
  by_cases hb : D.b = []
  · rw [if_pos hb, if_pos ((b_len D).1 hb)]
  · rw [if_neg hb, if_neg (fun e => hb ((b_len D).2 e))]
theorem shape_run {T : Ty} {D : Dc} (ok : D.Ok T) : ∀ k, k ≤ D.left → (Dc.run k D).shape = Sh.steps k D.shape
  | 0, _ => rfl
  | k + 1, hk => by
    obtain ⟨_, _, _, h4⟩ := run_facts ok k (by omega)
    obtain ⟨h5, _⟩ := h4 (by omega)
    show (Dc.run k D).move1.shape = _
    rw [shape_move1 h5, shape_run ok k (by omega)]
    rfl
theorem steps_add (h : Sh) (k : Nat) : ∀ j, Sh.steps (k + j) h = Sh.steps j (Sh.steps k h)
  | 0 => rfl
  | j + 1 => by rw [← Nat.add_assoc, Sh.steps, steps_add h k j]; rfl
theorem shape_step {T : Ty} {D : Dc} (ok : D.Ok T) (n : Nat) : (D.step n).shape = Sh.steps n D.shape := by
  unfold Dc.step
  rcases Nat.le_total n D.left with h | h
  · rw [Nat.min_eq_left h]; exact shape_run ok n h
  · rw [Nat.min_eq_right h, shape_run ok _ (Nat.le_refl _)]
    obtain ⟨j, rfl⟩ : ∃ j, n = D.left + j := ⟨n - D.left, by omega⟩
    rw [steps_add]
    refine (steps_still ?_ j).symm
    rw [← shape_run ok _ (Nat.le_refl _)]
    obtain ⟨ok1, h2, _⟩ := run_facts ok _ (Nat.le_refl _)
    have h3 : (Dc.run D.left D).left = 0 := by omega
    show (Dc.run D.left D).b.length = 0
    generalize Dc.run D.left D = D' at *
    by_cases hb : D'.b = []
    · rw [hb]; rfl
    · have := ok1.place hb
      have h4 : D'.left = D'.a.length - D'.place := by unfold Dc.left; rw [if_neg hb]
      omega
theorem shape_grown (D : Dc) : D.grown.shape = D.shape.grown := by
  unfold Dc.grown Sh.grown Dc.shape
  by_cases h : D.b = [] ∧ D.a.length ≤ D.n ∧ D.a.length < 65536
  · rw [if_pos h, if_pos ⟨(b_len D).1 h.1, h.2⟩]
    simp [Dc.begin]
  · rw [if_neg h, if_neg (fun e => h ⟨(b_len D).2 e.1, e.2⟩)]
theorem shape_shrunk (D : Dc) : D.shrunk.shape = D.shape.shrunk := by
  unfold Dc.shrunk Sh.shrunk Dc.shape
  by_cases h : D.b = [] ∧ 4 < D.a.length ∧ 8 * D.n < D.a.length
  · rw [if_pos h, if_pos ⟨(b_len D).1 h.1, h.2⟩]
    simp [Dc.begin]
  · rw [if_neg h, if_neg (fun e => h ⟨(b_len D).2 e.1, e.2⟩)]
theorem shape_upd (D : Dc) (s j : Nat) (f : List Nd → List Nd) : (D.upd s j f).shape = D.shape := by
  unfold Dc.upd Dc.shape
  split <;> simp
theorem shape_add (D : Dc) (x : Nd) : (D.add x).shape = D.shape.more := by
  unfold Dc.add Dc.shape Sh.more
  split <;> simp [putR_len]
theorem shape_set {T : Ty} {D : Dc} (ok : D.Ok T) (s : Nat) (key : ByteArray) (v : Value) : (D.setS s key v).shape = D.shape.set ((D.step 1).hit s key).isSome := by
  have h1 := shape_step ok 1
  have h2 : (D.step 1).shape = D.shape.step1 := h1
  unfold Dc.setS
  cases (D.step 1).hit s key with
  | none => simp only [shape_add, shape_grown, h2]; rfl
  | some ji => simp only [shape_upd, h2]; rfl
theorem shape_del {T : Ty} {D : Dc} (ok : D.Ok T) (s : Nat) (key : ByteArray) : (D.delS s key).shape = D.shape.del ((D.step 1).hit s key).isSome := by
  have h1 := shape_step ok 1
  have h2 : (D.step 1).shape = D.shape.step1 := h1
  unfold Dc.delS
  cases (D.step 1).hit s key with
  | none => simp only [h2]; rfl
  | some ji =>
    simp only [shape_shrunk]
    have : (((D.step 1).upd s ji.1 (·.eraseIdx ji.2)).less).shape = (D.step 1).shape.fewer := by
      have h3 := shape_upd (D.step 1) s ji.1 (·.eraseIdx ji.2)
      unfold Dc.shape at h3
      unfold Dc.less Dc.shape Sh.fewer
      injection h3 with e1 e2 e3 e4
      simp only [e1, e2, e3, e4]
    rw [this, h2]
    rfl
theorem step1_n (h : Sh) : h.step1.n = h.n := by unfold Sh.step1; split; rfl; split <;> rfl
theorem steps_n (h : Sh) : ∀ k, (Sh.steps k h).n = h.n
  | 0 => rfl
  | k + 1 => by rw [Sh.steps, step1_n, steps_n h k]
theorem shgrown_n (h : Sh) : h.grown.n = h.n := by unfold Sh.grown; split <;> rfl
theorem shshrunk_n (h : Sh) : h.shrunk.n = h.n := by unfold Sh.shrunk; split <;> rfl
theorem shset_n (h : Sh) (is : Bool) : (h.set is).n = bif is then h.n else h.n + 1 := by
  cases is with
  | true => exact step1_n h
  | false => show h.step1.grown.n + 1 = h.n + 1; rw [shgrown_n, step1_n]
theorem shdel_n (h : Sh) (is : Bool) : (h.del is).n = bif is then h.n - 1 else h.n := by
  cases is with
  | true => show h.step1.fewer.shrunk.n = h.n - 1; rw [shshrunk_n]; show h.step1.n - 1 = _; rw [step1_n]
  | false => exact step1_n h

/-- In a world, in the blocks S, there is a dict that holds what m tells, of a shape. -/
def Is (W : World) (p : Nat) (S : Nat → Prop) (seed : Nat) (m : ByteArray → Option Int) (n : Sh) : Prop :=
  ∃ D, Rep tyI W p S seed D ∧ Like tyI seed D (fun k => (m k).map (Value.int .i64)) ∧ D.shape = n
def putI (m : ByteArray → Option Int) (key : ByteArray) (v : Int) : ByteArray → Option Int := fun k => if k = key then some v else m k
def remI (m : ByteArray → Option Int) (key : ByteArray) : ByteArray → Option Int := fun k => if k = key then none else m k
/-- What a call leaves of a dict: it is such a one now; all else is as it was. -/
def IsNow (S : Nat → Prop) (W : World) (p seed : Nat) (m : ByteArray → Option Int) (n : Sh) (W' : World) : Prop := Is W' p (grow tyI S W W') seed m n ∧ Far S W W'

theorem Is.far {S S1 : Nat → Prop} {W W' : World} {p seed : Nat} {n : Sh} {m : ByteArray → Option Int} (h : Is W p S seed m n) (f : Far S1 W W') (hd : ∀ k, S k → ¬ S1 k) : Is W' p S seed m n := by
  obtain ⟨D, h1, h2, h3⟩ := h
  exact ⟨D, h1.far f hd, h2, h3⟩
theorem Is.later {S : Nat → Prop} {W W' : World} {p seed : Nat} {n : Sh} {m : ByteArray → Option Int} (h : Is W p S seed m n) (hb : Below W.heap.size W W') : Is W' p S seed m n := h.far (S1 := fun _ => False) (Far.of_below hb) fun _ _ h => h
theorem Is.cells {S : Nat → Prop} {W : World} {p seed : Nat} {n : Sh} {m : ByteArray → Option Int} (h : Is W p S seed m n) : ∀ k, S k → CellB tyI W k := by obtain ⟨D, h1, _⟩ := h; exact h1.cells
theorem Is.lt {S : Nat → Prop} {W : World} {p seed : Nat} {n : Sh} {m : ByteArray → Option Int} (h : Is W p S seed m n) : ∀ k, S k → k < W.heap.size := fun k hk => (h.cells k hk).lt
theorem Is.wide {S S1 : Nat → Prop} {W : World} {p seed : Nat} {n : Sh} {m : ByteArray → Option Int} (h : Is W p S seed m n) (hs : ∀ k, S k → S1 k) (hc : ∀ k, S1 k → CellB tyI W k) : Is W p S1 seed m n := by
  obtain ⟨D, h1, h2, h3⟩ := h
  exact ⟨D, h1.wide hs hc, h2, h3⟩
theorem IsNow.of {S : Nat → Prop} {W W' : World} {p seed : Nat} {n : Sh} {m : ByteArray → Option Int} {D : Dc} (h : Went tyI S W p seed D W') (hl : Like tyI seed D (fun k => (m k).map (Value.int .i64))) (hn : D.shape = n) : IsNow S W p seed m n W' := ⟨⟨D, h.1, hl, hn⟩, h.2⟩
theorem IsNow.start {S : Nat → Prop} {W : World} {p seed : Nat} {n : Sh} {m : ByteArray → Option Int} (h : Is W p S seed m n) : IsNow S W p seed m n W := by
  obtain ⟨D, h1, h2, h3⟩ := h
  exact IsNow.of (Went.start h1) h2 h3
theorem IsNow.trans {S : Nat → Prop} {W W1 W2 : World} {p seed : Nat} {n n2 : Sh} {m m2 : ByteArray → Option Int} (h : IsNow S W p seed m n W1) (g : IsNow (grow tyI S W W1) W1 p seed m2 n2 W2) : IsNow S W p seed m2 n2 W2 := by
  obtain ⟨D1, h1, h2, h3⟩ := h.1
  obtain ⟨D2, g1, g2, g3⟩ := g.1
  exact IsNow.of (Went.trans ⟨h1, h.2⟩ ⟨g1, g.2⟩) g2 g3
theorem IsNow.later {S : Nat → Prop} {W W1 W2 : World} {p seed : Nat} {n : Sh} {m : ByteArray → Option Int} (h : IsNow S W p seed m n W1) (hb : Below W1.heap.size W1 W2) : IsNow S W p seed m n W2 := by
  obtain ⟨D1, h1, h2, h3⟩ := h.1
  exact IsNow.of (Went.later ⟨h1, h.2⟩ hb) h2 h3
theorem IsNow.since {S : Nat → Prop} {W W1 W2 : World} {p seed : Nat} {n : Sh} {m : ByteArray → Option Int} (hb : Below W.heap.size W W1) (h : IsNow S W1 p seed m n W2) : IsNow S W p seed m n W2 := by
  obtain ⟨D1, h1, h2, h3⟩ := h.1
  exact IsNow.of (Went.since hb ⟨h1, h.2⟩) h2 h3

section
variable {S : Nat → Prop} {p seed : Nat} {n : Sh} {m : ByteArray → Option Int} {w : World}

theorem map_put (m : ByteArray → Option Int) (key : ByteArray) (v : Int) : (fun k => (putI m key v k).map (Value.int .i64)) = putM (fun k => (m k).map (Value.int .i64)) key (.int .i64 v) := by
  funext k
  unfold putI putM
  split <;> rfl
theorem map_rem (m : ByteArray → Option Int) (key : ByteArray) : (fun k => (remI m key k).map (Value.int .i64)) = remM (fun k => (m k).map (Value.int .i64)) key := by
  funext k
  unfold remI remM
  split <;> rfl

theorem new_is (sd : Nat) (w : World) : Calls Try.prog 10 #[.int .u32 sd] w fun e w' => ∃ q, e = .returned (.pointer (some ⟨q, 0, none⟩)) ∧ Is w' q (fresh tyI w w') sd (fun _ => none) ⟨4, 0, 0, 0⟩ ∧ Below w.heap.size w w' :=
  (new_any sd w).mono fun _ _ ⟨q, h1, h2, h3⟩ => ⟨q, h1, ⟨newD, h2, Like.new _ _, rfl⟩, h3⟩
theorem get_is (hsd : seed < 4294967296) (h : Is w p S seed m n) (hn : n.n ≤ 1000000) (key : ByteArray) (hk : key.size ≤ 281474976710656) :
    Calls Try.prog 22 #[.pointer (some ⟨p, 0, none⟩), .string key] w fun e w' => e = .returned (.tuple #[.int .i64 ((m key).getD 0), .bool (m key).isSome]) ∧ IsNow S w p seed m n.step1 w' := by
  obtain ⟨D, h1, h2, h3⟩ := h
  have hn' : D.n ≤ 1000000 := by rw [← h3] at hn; exact hn
  refine (get_any hsd h1 h2.1.ok hn' key hk).mono fun e w' ⟨he, hw⟩ => ?_
  obtain ⟨q1, q2, q3, q4⟩ := (h2.step 1).hit key
  refine ⟨?_, IsNow.of hw (h2.step 1) ((shape_step h2.1.ok 1).trans (by rw [h3]; rfl))⟩
  rw [he, q1]
  congr 2
  cases hm : m key with
  | none =>
    rw [q3 (by simp only [hm]; rfl)]
    rfl
  | some v =>
    obtain ⟨y, hy⟩ := q4 (by simp only [hm]; rfl)
    have := q2 y hy
    simp only [hm, Option.map_some, Option.some.injEq] at this
    rw [hy]
    simp only [intV, ← this]
    rfl
theorem set_is (hsd : seed < 4294967296) (h : Is w p S seed m n) (hn : n.n + 1 ≤ 1000000) (key : ByteArray) (hk : key.size ≤ 281474976710656) (v : Int) :
    Calls Try.prog 19 #[.pointer (some ⟨p, 0, none⟩), .string key, .int .i64 v] w fun e w' => e = .returned (.bool (!(m key).isSome)) ∧ IsNow S w p seed (putI m key v) (n.set (m key).isSome) w' := by
  obtain ⟨D, h1, h2, h3⟩ := h
  have hn' : D.n + 1 ≤ 1000000 := by rw [← h3] at hn; exact hn
  refine (set_any hsd h1 h2.1.ok hn' key hk v).mono fun e w' ⟨he, hw⟩ => ?_
  obtain ⟨q1, _⟩ := (h2.step 1).hit key
  obtain ⟨g1, _⟩ := h2.set key (.int .i64 v) ⟨v, rfl⟩
  have g2 := shape_set h2.1.ok (sumN seed key.data.toList) key (.int .i64 v)
  rw [← map_put] at g1
  simp only [Option.isSome_map] at q1
  exact ⟨by rw [he, q1], IsNow.of hw g1 (by rw [g2, h3, q1])⟩
theorem del_is (hsd : seed < 4294967296) (h : Is w p S seed m n) (hn : n.n ≤ 1000000) (key : ByteArray) (hk : key.size ≤ 281474976710656) :
    Calls Try.prog 20 #[.pointer (some ⟨p, 0, none⟩), .string key] w fun e w' => e = .returned (.bool (m key).isSome) ∧ IsNow S w p seed (remI m key) (n.del (m key).isSome) w' ∧ ((m key).isSome = true → 0 < n.n) := by
  obtain ⟨D, h1, h2, h3⟩ := h
  have hn' : D.n ≤ 1000000 := by rw [← h3] at hn; exact hn
  refine (del_any hsd h1 h2.1.ok hn' key hk).mono fun e w' ⟨he, hw⟩ => ?_
  obtain ⟨q1, _⟩ := (h2.step 1).hit key
  obtain ⟨g1, _, g3⟩ := h2.del key
  have g2 := shape_del h2.1.ok (sumN seed key.data.toList) key
  rw [← map_rem] at g1
  simp only [Option.isSome_map] at q1 g3
  exact ⟨by rw [he, q1], IsNow.of hw g1 (by rw [g2, h3, q1]), fun e => by rw [← h3]; exact g3 e⟩
theorem len_is (h : Is w p S seed m n) : Calls Try.prog 14 #[.pointer (some ⟨p, 0, none⟩)] w fun e w' => e = .returned (.int .i64 n.n) ∧ w' = w := by
  obtain ⟨D, h1, h2, h3⟩ := h
  rw [← h3]
  exact len_any h1
theorem sizes_is (h : Is w p S seed m n) : Calls Try.prog 13 #[.pointer (some ⟨p, 0, none⟩)] w fun e w' => e = .returned (.tuple #[.int .i64 n.A, .int .i64 n.B, .int .i64 n.At]) ∧ Below w.heap.size w w' := by
  obtain ⟨D, h1, h2, h3⟩ := h
  rw [← h3]
  exact sizes_of h1
theorem step_is (h : Is w p S seed m n) (hn : n.n ≤ 1000000) (q : Int) : Calls Try.prog 23 #[.pointer (some ⟨p, 0, none⟩), .int .i64 q] w fun e w' => e = .returned (.int .i64 (min q.toNat n.left : Nat)) ∧ IsNow S w p seed m (Sh.steps q.toNat n) w' := by
  obtain ⟨D, h1, h2, h3⟩ := h
  have hn' : D.n ≤ 1000000 := by rw [← h3] at hn; exact hn
  refine (step_any h1 h2.1.ok hn' q).mono fun e w' ⟨he, hw⟩ => ⟨by rw [he, ← h3, shape_left], IsNow.of hw (h2.step _) ((shape_step h2.1.ok _).trans (by rw [h3]))⟩
end
end Go.Proofs.Ytifbambalfifaaa
