/- A dict in memory: its two tables, its numbers; the functions that read it. -/
import Derived.Test.YtifbambalfifaaaPut
namespace Go.Proofs.Ytifbambalfifaaa
open Go.RowKit Go.Shelf
attribute [local go_sem] Oper.semAt_some

/-- A dict: its tables (the second one empty, if it is not moving), the place, how many keys. -/
structure Dc where
  a : List (List Nd)
  b : List (List Nd)
  place : Nat
  n : Nat

def CellB (T : Ty) (W : World) (k : Nat) : Prop := ∃ t c, (t = T.d ∨ t = T.t ∨ t = T.r) ∧ Blk W k t c

structure Mem (T : Ty) (W : World) (p g0 g1 : Nat) (A1 : Option Addr) (va vb : List Value) (seed : Nat) (D : Dc) : Prop where
  dict : Blk W p T.d #[.slice (some ⟨g0, 0, none⟩) D.a.length D.a.length, .slice A1 D.b.length D.b.length, .int .u32 seed, .int .i64 D.place, .int .i64 D.n]
  ta : TabAt T W g0 va D.a
  tb : (D.b = [] ∧ vb = [] ∧ A1 = none) ∨ (D.b ≠ [] ∧ A1 = some ⟨g1, 0, none⟩ ∧ g1 ≠ g0 ∧ TabAt T W g1 vb D.b)
  sep : Sep (va ++ vb)

/-- The blocks of a dict lie in S. -/
structure Foot (S : Nat → Prop) (p g0 g1 : Nat) (va vb : List Value) (D : Dc) : Prop where
  p : S p
  g0 : S g0
  g1 : D.b ≠ [] → S g1
  row : ∀ v ∈ va ++ vb, ∀ k, v.ownBlock = some k → S k

def Rep (T : Ty) (W : World) (p : Nat) (S : Nat → Prop) (seed : Nat) (D : Dc) : Prop :=
  ∃ g0 g1 A1 va vb, Mem T W p g0 g1 A1 va vb seed D ∧ Foot S p g0 g1 va vb D ∧ ∀ k, S k → CellB T W k

theorem CellB.lt {T : Ty} {W : World} {k : Nat} (h : CellB T W k) : k < W.heap.size := by obtain ⟨t, c, _, hb⟩ := h; exact hb.lt
theorem CellB.same {T : Ty} {W W' : World} {k : Nat} (h : CellB T W k) (e : W'.heap[k]? = W.heap[k]?) : CellB T W' k := by obtain ⟨t, c, ht, hb⟩ := h; exact ⟨t, c, ht, e.trans hb⟩
theorem Far.keeps {T : Ty} {S : Nat → Prop} {a b : World} (h : Far S a b) (hS : ∀ k, S k → CellB T a k) (B : Nat) : KeepsFrom B a b :=
  ⟨h.size, fun k o _ hk ho => (h.block k (Array.getElem?_eq_some_iff.1 hk).1 (fun hs => by
    obtain ⟨t, c, _, hb⟩ := hS k hs
    rw [show a.heap[k]? = _ from hb] at hk
    cases hk; cases ho)).trans hk⟩
theorem Far.keepc {T : Ty} {S : Nat → Prop} {a b : World} (h : Far S a b) (hS : ∀ k, S k → CellB T a k) (hT : ¬ itT T.d ∧ ¬ itT T.t ∧ ¬ itT T.r) (L : List Nat) : KeepC L a b :=
  ⟨h.size, fun k c t _ ht hk => (h.block k (Array.getElem?_eq_some_iff.1 hk).1 (fun hs => by
    obtain ⟨t', c', ht', hb⟩ := hS k hs
    rw [Blk.ty hk hb] at ht
    rcases ht' with rfl | rfl | rfl
    · exact hT.1 ht
    · exact hT.2.1 ht
    · exact hT.2.2 ht)).trans hk⟩

/-- Where a dict may lie behind a call. -/
def grow (T : Ty) (S : Nat → Prop) (W W' : World) (k : Nat) : Prop := (S k ∨ W.heap.size ≤ k) ∧ CellB T W' k
/-- What a call leaves: the dict is D now; all else is as it was. -/
def Went (T : Ty) (S : Nat → Prop) (W : World) (p seed : Nat) (D : Dc) (W' : World) : Prop := Rep T W' p (grow T S W W') seed D ∧ Far S W W'

theorem Mem.far {T : Ty} {S : Nat → Prop} {W W' : World} {p g0 g1 : Nat} {A1 : Option Addr} {va vb : List Value} {seed : Nat} {D : Dc} (h : Mem T W p g0 g1 A1 va vb seed D) (f : Far S W W')
    (hp : ¬ S p) (h0 : ¬ S g0) (h1 : D.b ≠ [] → ¬ S g1) (hr : ∀ v ∈ va ++ vb, ∀ k, v.ownBlock = some k → ¬ S k) : Mem T W' p g0 g1 A1 va vb seed D :=
  ⟨f.blk h.dict hp, h.ta.far f (fun k hk => by
    rcases hk with rfl | ⟨v, hv, hk⟩
    · exact h0
    · exact hr v (List.mem_append_left _ hv) k hk), by
    rcases h.tb with h2 | ⟨h2, h3, h4, h5⟩
    · exact .inl h2
    · refine .inr ⟨h2, h3, h4, h5.far f fun k hk => ?_⟩
      rcases hk with rfl | ⟨v, hv, hk⟩
      · exact h1 h2
      · exact hr v (List.mem_append_right _ hv) k hk, h.sep⟩
theorem Mem.later {T : Ty} {W W' : World} {p g0 g1 : Nat} {A1 : Option Addr} {va vb : List Value} {seed : Nat} {D : Dc} (h : Mem T W p g0 g1 A1 va vb seed D) (hb : Below W.heap.size W W') : Mem T W' p g0 g1 A1 va vb seed D :=
  h.far (S := fun _ => False) (Far.of_below hb) (fun h => h) (fun h => h) (fun _ h => h) (fun _ _ _ _ h => h)
/-- A dict whose blocks a call leaves alone. -/
theorem Rep.far {T : Ty} {S S1 : Nat → Prop} {W W' : World} {p seed : Nat} {D : Dc} (h : Rep T W p S seed D) (f : Far S1 W W') (hd : ∀ k, S k → ¬ S1 k) : Rep T W' p S seed D := by
  obtain ⟨g0, g1, A1, va, vb, hm, hf, hc⟩ := h
  exact ⟨g0, g1, A1, va, vb, hm.far f (hd _ hf.p) (hd _ hf.g0) (fun h => hd _ (hf.g1 h)) (fun v hv k hk => hd _ (hf.row v hv k hk)), hf, fun k hk => (hc k hk).same (f.block k (hc k hk).lt (hd k hk))⟩
theorem Rep.later {T : Ty} {S : Nat → Prop} {W W' : World} {p seed : Nat} {D : Dc} (h : Rep T W p S seed D) (hb : Below W.heap.size W W') : Rep T W' p S seed D :=
  h.far (S1 := fun _ => False) (Far.of_below hb) fun _ _ h => h
theorem Rep.cells {T : Ty} {S : Nat → Prop} {W : World} {p seed : Nat} {D : Dc} (h : Rep T W p S seed D) : ∀ k, S k → CellB T W k := by obtain ⟨_, _, _, _, _, _, _, hc⟩ := h; exact hc
theorem Rep.wide {T : Ty} {S S1 : Nat → Prop} {W : World} {p seed : Nat} {D : Dc} (h : Rep T W p S seed D) (hs : ∀ k, S k → S1 k) (hc : ∀ k, S1 k → CellB T W k) : Rep T W p S1 seed D := by
  obtain ⟨g0, g1, A1, va, vb, hm, hf, _⟩ := h
  exact ⟨g0, g1, A1, va, vb, hm, ⟨hs _ hf.p, hs _ hf.g0, fun h => hs _ (hf.g1 h), fun v hv k hk => hs _ (hf.row v hv k hk)⟩, hc⟩
theorem Went.start {T : Ty} {S : Nat → Prop} {W : World} {p seed : Nat} {D : Dc} (h : Rep T W p S seed D) : Went T S W p seed D W :=
  ⟨h.wide (fun k hk => ⟨.inl hk, h.cells k hk⟩) (fun _ hk => hk.2), Far.refl _ _⟩
theorem Went.trans {T : Ty} {S : Nat → Prop} {W W1 W2 : World} {p seed : Nat} {D D2 : Dc} (h : Went T S W p seed D W1) (g : Went T (grow T S W W1) W1 p seed D2 W2) : Went T S W p seed D2 W2 :=
  ⟨g.1.wide (fun k hk => ⟨by
    rcases hk.1 with h1 | h1
    · exact h1.1
    · exact .inr (Nat.le_trans h.2.size h1), hk.2⟩) (fun _ hk => hk.2), h.2.trans g.2 fun k hk => hk.1⟩
theorem Went.later {T : Ty} {S : Nat → Prop} {W W1 W2 : World} {p seed : Nat} {D : Dc} (h : Went T S W p seed D W1) (hb : Below W1.heap.size W1 W2) : Went T S W p seed D W2 :=
  ⟨(h.1.later hb).wide (fun k hk => ⟨hk.1, hk.2.same (hb.block k hk.2.lt)⟩) (fun _ hk => hk.2), h.2.then_below hb⟩
/-- From an earlier world on, in which the dict was, too. -/
theorem Went.since {T : Ty} {S : Nat → Prop} {W W1 W2 : World} {p seed : Nat} {D : Dc} (hb : Below W.heap.size W W1) (h : Went T S W1 p seed D W2) : Went T S W p seed D W2 :=
  ⟨h.1.wide (fun k hk => ⟨by
    rcases hk.1 with h1 | h1
    · exact .inl h1
    · exact .inr (Nat.le_trans hb.size h1), hk.2⟩) (fun _ hk => hk.2), (Far.of_below hb).trans h.2 fun k hk => .inl hk⟩
/-- The dict's blocks are in S again, and all that was changed lies in S. -/
theorem Went.mk' {T : Ty} {S : Nat → Prop} {W W' : World} {p g0 g1 : Nat} {A1 : Option Addr} {va vb : List Value} {seed : Nat} {D : Dc} (hm : Mem T W' p g0 g1 A1 va vb seed D) (hf : Far S W W')
    (hp : S p ∨ W.heap.size ≤ p) (h0 : S g0 ∨ W.heap.size ≤ g0) (h1 : D.b ≠ [] → S g1 ∨ W.heap.size ≤ g1) (hr : ∀ v ∈ va ++ vb, ∀ k, v.ownBlock = some k → S k ∨ W.heap.size ≤ k) : Went T S W p seed D W' := by
  refine ⟨⟨g0, g1, A1, va, vb, hm, ⟨⟨hp, ?_⟩, ⟨h0, ?_⟩, fun h => ⟨h1 h, ?_⟩, fun v hv k hk => ⟨hr v hv k hk, ?_⟩⟩, fun _ hk => hk.2⟩, hf⟩
  · exact ⟨_, _, .inl rfl, hm.dict⟩
  · exact ⟨_, _, .inr (.inl rfl), hm.ta.blk⟩
  · rcases hm.tb with ⟨h2, _⟩ | ⟨_, _, _, h2⟩
    · exact absurd h2 h
    · exact ⟨_, _, .inr (.inl rfl), h2.blk⟩
  · rcases List.mem_append.1 hv with h | h
    · obtain ⟨r, hr⟩ := hm.ta.mem h
      obtain ⟨c, hc⟩ := hr.blk hk
      exact ⟨_, c, .inr (.inr rfl), hc⟩
    · rcases hm.tb with ⟨_, h2, _⟩ | ⟨_, _, _, h2⟩
      · rw [h2] at h; simp at h
      · obtain ⟨r, hr⟩ := h2.mem h
        obtain ⟨c, hc⟩ := hr.blk hk
        exact ⟨_, c, .inr (.inr rfl), hc⟩

/-- The dict's five cells. -/
theorem dict_facts {T : Ty} {W : World} {p g0 g1 : Nat} {A1 : Option Addr} {va vb : List Value} {seed : Nat} {D : Dc} (h : Mem T W p g0 g1 A1 va vb seed D) :
    W.cell? ⟨p, 0, none⟩ = some (.slice (some ⟨g0, 0, none⟩) D.a.length D.a.length) ∧ W.cell? ⟨p, 1, none⟩ = some (.slice A1 D.b.length D.b.length) ∧ W.cell? ⟨p, 2, none⟩ = some (.int .u32 seed) ∧
    W.cell? ⟨p, 3, none⟩ = some (.int .i64 D.place) ∧ W.cell? ⟨p, 4, none⟩ = some (.int .i64 D.n) ∧ W.frozen? ⟨p, 0, none⟩ = false ∧ W.frozen? ⟨p, 1, none⟩ = false ∧ W.frozen? ⟨p, 3, none⟩ = false ∧ W.frozen? ⟨p, 4, none⟩ = false :=
  ⟨h.dict.cell 0, h.dict.cell 1, h.dict.cell 2, h.dict.cell 3, h.dict.cell 4, h.dict.free 0, h.dict.free 1, h.dict.free 3, h.dict.free 4⟩

/-- What every dict of the program keeps. -/
structure Dc.Ok (T : Ty) (D : Dc) : Prop where
  a : isS (D.a.length : Int) = true
  b : D.b ≠ [] → isS (D.b.length : Int) = true
  place : D.b ≠ [] → D.place < D.a.length
  still : D.b = [] → D.place = 0
  past : ∀ i, i < D.place → D.a.getD i [] = []
  n : D.n = D.a.flatten.length + D.b.flatten.length
  fine : ∀ r, r ∈ D.a ∨ r ∈ D.b → ∀ x ∈ r, x.fine T

def Dc.moving (D : Dc) : Bool := decide (0 < D.b.length)

section
variable {S : Nat → Prop} {p seed : Nat} {D : Dc} {w : World}

theorem moving_any (h : Rep tyI w p S seed D) : Calls Try.prog 62 #[.pointer (some ⟨p, 0, none⟩)] w fun e w' => e = .returned (.bool D.moving) ∧ w' = w := by
  obtain ⟨g0, g1, A1, va, vb, hm, hf, hc⟩ := h
  obtain ⟨c0, c1, c2, c3, c4, f0, f1, f3, f4⟩ := dict_facts hm
  unfold Dc.moving
  go_enter Try.func62, Try.ntmps62
  go_wp2
  go_ret
  exact ⟨by simp, rfl⟩
theorem len_any (h : Rep tyI w p S seed D) : Calls Try.prog 14 #[.pointer (some ⟨p, 0, none⟩)] w fun e w' => e = .returned (.int .i64 D.n) ∧ w' = w := by
  obtain ⟨g0, g1, A1, va, vb, hm, hf, hc⟩ := h
  obtain ⟨c0, c1, c2, c3, c4, f0, f1, f3, f4⟩ := dict_facts hm
  go_enter Try.func14, Try.ntmps14
  go_wp2
  go_ret
  exact ⟨rfl, rfl⟩
theorem sizes_of (h : Rep tyI w p S seed D) : Calls Try.prog 13 #[.pointer (some ⟨p, 0, none⟩)] w fun e w' => e = .returned (.tuple #[.int .i64 D.a.length, .int .i64 D.b.length, .int .i64 D.place]) ∧ Below w.heap.size w w' := by
  obtain ⟨g0, g1, A1, va, vb, hm, hf, hc⟩ := h
  obtain ⟨c0, c1, c2, c3, c4, f0, f1, f3, f4⟩ := dict_facts hm
  go_enter Try.func13, Try.ntmps13
  go_wp2
  go_quiet (fail)
  go_wp2
  go_returns
  exact ⟨rfl, by first | exact (Below.refl _ _).drew | exact ⟨rfl, rfl, rfl, Nat.le_refl _, fun _ _ => rfl⟩⟩
theorem newest_any {g0 g1 : Nat} {A1 : Option Addr} {va vb : List Value} (h : Mem tyI w p g0 g1 A1 va vb seed D) (hf : Foot S p g0 g1 va vb D) (hc : ∀ k, S k → CellB tyI w k) :
    Calls Try.prog 37 #[.pointer (some ⟨p, 0, none⟩)] w fun e w' => e = .returned (bif D.moving then .slice A1 D.b.length D.b.length else .slice (some ⟨g0, 0, none⟩) D.a.length D.a.length) ∧ w' = w := by
  have hm := moving_any (w := w) ⟨g0, g1, A1, va, vb, h, hf, hc⟩
  obtain ⟨c0, c1, c2, c3, c4, f0, f1, f3, f4⟩ := dict_facts h
  cases hmv : D.moving with
  | false =>
    rw [hmv] at hm
    have HM := Lib.hid hm
    clear hm hmv
    go_enter Try.func37, Try.ntmps37
    go_wp2_with fail
    refine HM.out.mono ?_
    rintro e w' ⟨rfl, rfl⟩
    go_wp2
    go_ret
    exact ⟨rfl, rfl⟩
  | true =>
    rw [hmv] at hm
    have HM := Lib.hid hm
    clear hm hmv
    go_enter Try.func37, Try.ntmps37
    go_wp2_with fail
    refine HM.out.mono ?_
    rintro e w' ⟨rfl, rfl⟩
    go_wp2
    go_ret
    exact ⟨rfl, rfl⟩

/-- The node of a key, without its thing. -/
theorem named_any (hsd : seed < 4294967296) (h : Rep tyI w p S seed D) (key : ByteArray) (hk : key.size ≤ 281474976710656) :
    Calls Try.prog 39 #[.pointer (some ⟨p, 0, none⟩), .string key] w fun e w' => e = .returned (.agg #[.int .u32 (sumN seed key.data.toList), .string key]) ∧ Below w.heap.size w w' := by
  obtain ⟨g0, g1, A1, va, vb, hm, hf, hc⟩ := h
  obtain ⟨c0, c1, c2, c3, c4, f0, f1, f3, f4⟩ := dict_facts hm
  have hpl := hm.dict.lt
  have HS := fun w => Lib.hid (sum_any seed hsd key hk w)
  generalize sumN seed key.data.toList = sm at *
  clear hm hf hc
  go_enter Try.func39, Try.ntmps39
  go_wp2_with fail
  refine (HS _).out.mono ?_
  rintro e w1 ⟨rfl, hb1⟩
  have hB := (Blk.new w 73 #[Value.int IntKind.u32 0, Value.string { data := #[] }]).later hb1
  have e0 := hB.cell 0
  have e1 := hB.cell 1
  have z0 := hB.free 0
  have z1 := hB.free 1
  have HH := Lib.hid hB
  have HL := Lib.hid hb1
  clear hB hb1
  go_wp2
  have g1 := (HH.out.set 0 (.int .u32 sm)).set 1 (.string key)
  have q0 := g1.cell 0
  have q1 := g1.cell 1
  refine bodyPost_ret (v := .agg #[.int .u32 sm, .string key]) ?_ rfl ⟨rfl, ?_⟩
  · simp [results, Try.results39, go_sem, q0, q1]
  · exact (((((Below.refl _ _).alloc (Nat.le_refl _) _)).trans (HL.out.mono (by simp))).setCell (p := ⟨w.heap.size, 0, none⟩) (Nat.le_refl _) _).setCell (p := ⟨w.heap.size, 1, none⟩) (Nat.le_refl _) _

theorem ofDrew {w w1 : World} (h : Below w.drew.heap.size w.drew w1) : Below w.heap.size w w1 := ⟨h.os, h.tape, h.output, h.size, h.block⟩
theorem info67 : (Try.prog.info? 67).map (fun i => (i.zero, i.size, i.bytes)) = some (some (.slice none 0 0), 1, 24) := by kernel_rfl
theorem fit_mem (n : Int) : sizeS n ∈ sizeL := by
  unfold sizeS fit
  cases h : sizeL.find? (fun (x : Nat) => decide (n ≤ (x : Int))) with
  | none => simp [sizeL]
  | some x => exact List.mem_of_find?_eq_some h
theorem isS_size (n : Int) : isS (sizeS n : Int) = true := (isS_iff _).2 ⟨_, fit_mem n, rfl⟩
/-- It begins to move. -/
def Dc.begin (D : Dc) (m : Nat) : Dc := { D with b := List.replicate (sizeS m) [] }
set_option maxRecDepth 100000 in
theorem begin_any (h : Rep tyI w p S seed D) (m : Nat) (hb : D.b = []) :
    Calls Try.prog 63 #[.pointer (some ⟨p, 0, none⟩), .int .i64 m] w fun e w' => e = .returned (.tuple #[]) ∧ Went tyI S w p seed (D.begin m) w' := by
  obtain ⟨g0, g1, A1, va, vb, hm, hf, hc⟩ := h
  obtain ⟨c0, c1, c2, c3, c4, f0, f1, f3, f4⟩ := dict_facts hm
  have HS := fun w => Lib.hid (sizeFor_any m w)
  have hpl := hm.dict.lt
  have HM := Lib.hid hm
  have hs4 := isS_pos (isS_size m)
  clear hm
  obtain ⟨i0, hi0, hz0, hz1, hz2⟩ := info_parts info67
  have hmk := fun W => run_make (P := Try.prog) W 62 67 i0 _ Try.underlying62 hi0 hz0 .i64 .i64 (sizeS m) (sizeS m) (by omega) (Int.le_refl _) (by rw [hz2]; omega) (by omega)
  rw [hz1] at hmk
  simp only [Int.toNat_natCast, Nat.mul_one] at hmk
  have HCP : ∀ W, Below w.heap.size w W → Hid (W.cell? ⟨p, 1, none⟩ = some (.slice A1 D.b.length D.b.length) ∧ W.frozen? ⟨p, 1, none⟩ = false) := fun W hW => Lib.hid ⟨(HM.out.dict.later hW).cell 1, (HM.out.dict.later hW).free 1⟩
  have HEND : ∀ w1, Below w.heap.size w w1 → Hid (Went tyI S w p seed (D.begin m) ((w1.alloc (Obj.cells (madeCells #[Value.slice none 0 0] (sizeS m)) 67)).setCell ⟨p, 1, none⟩ (Value.slice (some ⟨w1.heap.size, 0, none⟩) (sizeS m) (sizeS m)))) := fun w1 hb1 => Lib.hid (by
    have hm1 := HM.out.later hb1
    have hz1 := hb1.size
    have hvb : vb = [] := by
      rcases HM.out.tb with ⟨_, h, _⟩ | ⟨h, _⟩
      · exact h
      · exact absurd hb h
    subst hvb
    have hs := hm1.sep
    rw [List.append_nil] at hs
    have hd := ((hm1.dict.alloc (Obj.cells (madeCells #[Value.slice none 0 0] (sizeS m)) 67)).set 1 (Value.slice (some ⟨w1.heap.size, 0, none⟩) (sizeS m) (sizeS m)))
    have hfr : Far S w ((w1.alloc (Obj.cells (madeCells #[Value.slice none 0 0] (sizeS m)) 67)).setCell ⟨p, 1, none⟩ (Value.slice (some ⟨w1.heap.size, 0, none⟩) (sizeS m) (sizeS m))) :=
      ((Far.of_below hb1).then_below ((Below.refl _ _).alloc (Nat.le_refl _) _)).set _ _ (.inl hf.p)
    have hnew : Blk ((w1.alloc (Obj.cells (madeCells #[Value.slice none 0 0] (sizeS m)) 67)).setCell ⟨p, 1, none⟩ (Value.slice (some ⟨w1.heap.size, 0, none⟩) (sizeS m) (sizeS m))) w1.heap.size 67 (madeCells #[Value.slice none 0 0] (sizeS m)) :=
      (Blk.new w1 67 _).setOther 1 _ (by omega)
    have hmc : madeCells #[Value.slice none 0 0] (sizeS m) = (List.replicate (sizeS m) (Value.slice none 0 0)).toArray := by
      rw [← toList_madeCells_one]
    refine Went.mk' (g0 := g0) (g1 := w1.heap.size) (A1 := some ⟨w1.heap.size, 0, none⟩) (va := va) (vb := List.replicate (sizeS m) (.slice none 0 0)) ⟨?_, ?_, .inr ⟨?_, rfl, ?_, ⟨?_, ?_, ?_⟩⟩, ?_⟩ hfr (.inl hf.p) (.inl hf.g0) (fun _ => .inr (by omega)) ?_
    · simpa [Dc.begin] using hd
    · refine (hm1.ta.later (W' := (w1.alloc (Obj.cells (madeCells #[Value.slice none 0 0] (sizeS m)) 67))) ((Below.refl _ _).alloc (Nat.le_refl _) _)).far (S := fun k => k = p) ((Far.refl _ _).set _ _ (.inl rfl)) ?_
      rintro k (rfl | ⟨v, hv, hk⟩) rfl
      · exact absurd (hm1.ta.blk.ty hm1.dict) (by decide)
      · obtain ⟨r, hr⟩ := hm1.ta.mem hv
        obtain ⟨c, hc⟩ := hr.blk hk
        exact absurd (hc.ty hm1.dict) (by decide)
    · simp [Dc.begin]; omega
    · have := hm1.ta.blk.lt; omega
    · rw [← hmc]; exact hnew
    · simp [Dc.begin]
    · intro i v r hv hr
      obtain ⟨hi, rfl⟩ := List.getElem?_eq_some_iff.1 hv
      obtain ⟨hi2, rfl⟩ := List.getElem?_eq_some_iff.1 hr
      simp only [List.getElem_replicate, Dc.begin]
      exact RowAt.nil _ _
    · refine hs.join (Sep.none fun v hv => ?_) (fun v hv u hu k hk => ?_)
      · rw [List.eq_of_mem_replicate hv]; rfl
      · rw [List.eq_of_mem_replicate hu]; simp [Value.ownBlock]
    · intro v hv k hk
      rcases List.mem_append.1 hv with h | h
      · exact .inl (hf.row v (List.mem_append_left _ h) k hk)
      · rw [List.eq_of_mem_replicate h] at hk; simp [Value.ownBlock] at hk)
  generalize sizeS m = s at *
  clear hf hc hi0 hz0 hz1 hz2
  go_enter Try.func63, Try.ntmps63
  go_wp2
  go_region_law ((go_simp; go_at_call 74; refine (HS _).out.mono ?_; rintro e w1 ⟨rfl, hb1⟩; obtain ⟨q1, z1⟩ := (HCP _ ((ofDrew hb1).alloc hb1.size (Obj.cells (madeCells #[Value.slice none 0 0] s) 67))).out))
  all_goals go_wp2
  all_goals go_returns
  all_goals exact ⟨rfl, (HEND w1 (ofDrew hb1)).out⟩
end
end Go.Proofs.Ytifbambalfifaaa
