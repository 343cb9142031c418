/- A dict and the reference's beside it, both of a law's own blocks: what an act makes of them, what both tell. -/
import Derived.Test.YtifbambalfifaaaRboth
import Derived.Test.YtifbambalfifaaaRbin
import Derived.Test.YtifbambalfifaaaLaw
import Derived.Test.YtifbambalfifaaaBucket
namespace Go.Proofs.Ytifbambalfifaaa.Both
open Go.RowKit Go.Shelf

def kindN (d : Int) : Int := (IntKind.u64.wrap d).tmod 8
/-- What an act makes of a dict. -/
def effD (seed : Nat) (D : Dc) (d : Int) (key : ByteArray) (v : Int) : Dc :=
  if kindN d < 4 then D.setS (sumN seed key.data.toList) key (.int .i64 v) else if kindN d = 4 then D.step 1 else if kindN d < 7 then D.delS (sumN seed key.data.toList) key else D.step (min v 100).toNat
theorem effD_set {seed : Nat} {D : Dc} {d : Int} (key : ByteArray) (v : Int) (h : kindN d = 0 ∨ kindN d = 1 ∨ kindN d = 2 ∨ kindN d = 3) : effD seed D d key v = D.setS (sumN seed key.data.toList) key (.int .i64 v) := by
  unfold effD; rw [if_pos (by omega)]
theorem effD_get {seed : Nat} {D : Dc} {d : Int} (key : ByteArray) (v : Int) (h : kindN d = 4) : effD seed D d key v = D.step 1 := by
  unfold effD; rw [if_neg (by omega), if_pos h]
theorem effD_del {seed : Nat} {D : Dc} {d : Int} (key : ByteArray) (v : Int) (h : kindN d = 5 ∨ kindN d = 6) : effD seed D d key v = D.delS (sumN seed key.data.toList) key := by
  unfold effD; rw [if_neg (by omega), if_neg (by omega), if_pos (by omega)]
theorem effD_step {seed : Nat} {D : Dc} {d : Int} (key : ByteArray) (v : Int) (h : kindN d = 7) : effD seed D d key v = D.step (min v 100).toNat := by
  unfold effD; rw [if_neg (by omega), if_neg (by omega), if_neg (by omega)]

/-- An act keeps a dict's promises, and its keys are the act's or were there. -/
theorem effD_inv {seed : Nat} {D : Dc} (inv : Inv tyI seed D) (d : Int) (key : ByteArray) (v : Int) :
    Inv tyI seed (effD seed D d key v) ∧ (∀ y ∈ (effD seed D d key v).nodes, y.key = key ∨ ∃ x ∈ D.nodes, x.key = y.key) ∧ (effD seed D d key v).nodes.length ≤ D.nodes.length + 1 := by
  unfold effD
  split
  · obtain ⟨h1, h2⟩ := inv.set key (.int .i64 v) ⟨v, rfl⟩
    rcases h2 with ⟨_, _, hp, _⟩ | ⟨ji, y, rest, _, hk, p1, p2, _⟩
    · refine ⟨h1, fun z hz => ?_, by rw [hp.length_eq]; simp⟩
      rcases List.mem_cons.1 (hp.mem_iff.1 hz) with rfl | hz
      · exact .inl rfl
      · exact .inr ⟨z, hz, rfl⟩
    · refine ⟨h1, fun z hz => ?_, by rw [p2.length_eq, p1.length_eq]; simp⟩
      rcases List.mem_cons.1 (p2.mem_iff.1 hz) with rfl | hz
      · exact .inl hk
      · exact .inr ⟨z, p1.mem_iff.2 (List.mem_cons_of_mem _ hz), rfl⟩
  · split
    · obtain ⟨h1, h2⟩ := inv.step 1
      exact ⟨h1, fun z hz => .inr ⟨z, h2.mem_iff.1 hz, rfl⟩, by rw [h2.length_eq]; omega⟩
    · split
      · obtain ⟨h1, h2⟩ := inv.del key
        rcases h2 with ⟨_, _, hp, _⟩ | ⟨ji, y, rest, _, _, p1, p2, _⟩
        · exact ⟨h1, fun z hz => .inr ⟨z, hp.mem_iff.1 hz, rfl⟩, by rw [hp.length_eq]; omega⟩
        · exact ⟨h1, fun z hz => .inr ⟨z, p1.mem_iff.2 (List.mem_cons_of_mem _ (p2.mem_iff.1 hz)), rfl⟩, by rw [p2.length_eq, p1.length_eq]; simp; omega⟩
      · obtain ⟨h1, h2⟩ := inv.step (min v 100).toNat
        exact ⟨h1, fun z hz => .inr ⟨z, h2.mem_iff.1 hz, rfl⟩, by rw [h2.length_eq]; omega⟩
theorem cells_apart {W : World} {k : Nat} (h1 : CellB tyI W k) (h2 : CellB tyR W k) : False := by
  obtain ⟨t, c, ht, hb⟩ := h1
  obtain ⟨t2, c2, ht2, hb2⟩ := h2
  have := Blk.ty hb hb2
  subst this
  unfold tyI at ht
  unfold tyR at ht2
  simp only at ht ht2
  rcases ht with rfl | rfl | rfl <;> rcases ht2 with h | h | h <;> exact absurd h (by decide)
structure Pair (w : World) (p q seed k : Nat) (D : Dc) (R : Rd) (W : World) : Prop where
  a : Rep tyI W p (fresh tyI w W) seed D
  b : RRep W q (fresh tyR w W) seed R
  below : Below w.heap.size w W
  inv : Inv tyI seed D
  like : Alike D R
  n : D.nodes.length ≤ k
  short : ∀ x ∈ D.nodes, x.key.size ≤ 12
section
variable {w W : World} {p q seed k : Nat} {D : Dc} {R : Rd}
theorem Pair.dn (h : Pair w p q seed k D R W) : D.n = D.nodes.length := by
  have h1 := h.inv.ok.n
  unfold Dc.nodes
  rw [List.length_append]
  exact h1
theorem alike_node (h : Alike D R) (x : Rn) (hx : x ∈ R.L) : ∃ y ∈ D.nodes, y.key = x.key ∧ y.sum = x.sum := by
  have h1 : x.tri ∈ D.nodes.map Nd.tri := h.nodes.mem_iff.2 (List.mem_map_of_mem hx)
  obtain ⟨y, hy, e⟩ := List.mem_map.1 h1
  unfold Nd.tri Rn.tri at e
  injection e with e1 e2
  injection e2 with e2 e3
  exact ⟨y, hy, e1, e3⟩
theorem Pair.rok (h : Pair w p q seed k D R W) (hk : k ≤ 1000000) : R.Ok := by
  obtain ⟨eA, eB, eP, eL⟩ := h.like.len
  have ok := h.inv.ok
  have hal := isS_pos ok.a
  have hn := h.n
  have hd := h.dn
  have hb0 : D.b.length = 0 ↔ D.b = [] := List.length_eq_zero_iff
  refine ⟨by omega, by omega, ?_, fun hB => ?_, by omega, fun x hx => ?_⟩
  · by_cases hb : D.b = []
    · have := hb0.2 hb; omega
    · have := isS_pos (ok.b hb); omega
  · rw [eP, eA]
    exact ok.place fun e => hB (by rw [eB]; exact hb0.2 e)
  · obtain ⟨y, hy, _, e⟩ := alike_node h.like x hx
    rw [← e, h.inv.sum y hy]
    exact sumN_lt _ _
theorem Pair.rshort (h : Pair w p q seed k D R W) : ∀ x ∈ R.L, x.key.size ≤ 12 := fun x hx => by
  obtain ⟨y, hy, e, _⟩ := alike_node h.like x hx
  rw [← e]
  exact h.short y hy
theorem Pair.rlen (h : Pair w p q seed k D R W) : R.L.length ≤ k := by
  obtain ⟨_, _, _, eL⟩ := h.like.len
  have := h.n
  have := h.dn
  omega
theorem Pair.later {W' : World} (h : Pair w p q seed k D R W) (hb : Below W.heap.size W W') : Pair w p q seed k D R W' :=
  ⟨(h.a.later hb).wide (fun k hk => ⟨hk.1, hk.2.same (hb.block k hk.2.lt)⟩) (fun _ hk => hk.2), (h.b.later hb).wide (fun k hk => ⟨hk.1, hk.2.same (hb.block k hk.2.lt)⟩) (fun _ hk => hk.2), h.below.trans (hb.mono h.below.size), h.inv, h.like, h.n, h.short⟩
/-- The program's dict has gone on: the reference's is as it was. -/
theorem Pair.half {W1 : World} {D' : Dc} (h : Pair w p q seed k D R W) (g : Went tyI (fresh tyI w W) W p seed D' W1) :
    Rep tyI W1 p (fresh tyI w W1) seed D' ∧ RRep W1 q (fresh tyR w W1) seed R ∧ Below w.heap.size w W1 := by
  have hb : Below w.heap.size w W1 := h.below.trans (g.2.below (fun _ hk => hk.1.resolve_left (fun h => h)) h.below.size)
  refine ⟨g.1.wide (fun k hk => ⟨.inr ?_, hk.2⟩) (fun _ hk => hk.2), (h.b.far g.2 (fun k hk hs => cells_apart hs.2 hk.2)).wide (fun k hk => ⟨hk.1, hk.2.same (g.2.block k hk.2.lt fun hs => cells_apart hs.2 hk.2)⟩) (fun _ hk => hk.2), hb⟩
  rcases hk.1 with h1 | h1
  · exact h1.1.resolve_left (fun h => h)
  · exact Nat.le_trans h.below.size h1
theorem Pair.whole {W1 W2 : World} {D' : Dc} {R' : Rd} (ha : Rep tyI W1 p (fresh tyI w W1) seed D') (hb : Below w.heap.size w W1) (g : RWent (fresh tyR w W1) W1 q seed R' W2) :
    Rep tyI W2 p (fresh tyI w W2) seed D' ∧ RRep W2 q (fresh tyR w W2) seed R' ∧ Below w.heap.size w W2 := by
  refine ⟨(ha.far g.2 (fun k hk hs => cells_apart hk.2 hs.2)).wide (fun k hk => ⟨hk.1, hk.2.same (g.2.block k hk.2.lt fun hs => cells_apart hk.2 hs.2)⟩) (fun _ hk => hk.2), g.1.wide (fun k hk => ⟨.inr ?_, hk.2⟩) (fun _ hk => hk.2), hb.trans (g.2.below (fun _ hk => hk.1.resolve_left (fun h => h)) hb.size)⟩
  rcases hk.1 with h1 | h1
  · exact h1.1.resolve_left (fun h => h)
  · exact Nat.le_trans hb.size h1
/-- An act, on both sides. -/
theorem Pair.act {W2 W1 : World} {R' : Rd} {d : Int} {kk : ByteArray} {v : Int} (h : Pair w p q seed k D R W) (g : Went tyI (fresh tyI w W) W p seed (effD seed D d (cutK kk) v) W1)
    (g2 : RWent (fresh tyR w W1) W1 q seed R' W2) (al : Alike (effD seed D d (cutK kk) v) R') : Pair w p q seed (k + 1) (effD seed D d (cutK kk) v) R' W2 := by
  obtain ⟨h1, h2, h3⟩ := h.half g
  obtain ⟨h4, h5, h6⟩ := Pair.whole h1 h3 g2
  obtain ⟨e1, e2, e3⟩ := effD_inv h.inv d (cutK kk) v
  have hn := h.n
  refine ⟨h4, h5, h6, e1, al, by omega, fun x hx => ?_⟩
  rcases e2 x hx with e | ⟨y, hy, e⟩
  · rw [e]; exact cutK_size kk
  · rw [← e]; exact h.short y hy
end


section
variable {S : Nat → Prop} {p seed : Nat} {D : Dc} {R : Rd} {w : World}
theorem refset_like (hsd : seed < 4294967296) (h : RRep w p S seed R) (ok : R.Ok) (hn : R.L.length + 1 ≤ 1000000) (al : Alike D R) (inv : Inv tyI seed D) (key : ByteArray) (hk : key.size ≤ 281474976710656) (v : Int) :
    Calls Try.prog 28 #[.pointer (some ⟨p, 0, none⟩), .string key, .int .i64 v] w fun e w' => e = .returned (.bool (!((D.step 1).hit (sumN seed key.data.toList) key).isSome)) ∧ ∃ R', RWent S w p seed R' w' ∧ Alike (D.setS (sumN seed key.data.toList) key (.int .i64 v)) R' := by
  have al1 := al.step1 inv ok.at_
  have inv1 := (inv.step 1).1
  refine (refset_any hsd h ok hn key hk v).mono fun e w' hw => ?_
  rcases hw with ⟨i, hi, hkey, he, hw⟩ | ⟨hno, he, hw⟩
  · obtain ⟨j, i0, hh⟩ := al1.hit_some inv1 hi hkey
    exact ⟨by rw [he, hh]; rfl, _, hw, (al.set inv ok.at_ v).1 i hi hkey⟩
  · exact ⟨by rw [he, al1.hit_no hno]; rfl, _, hw, (al.set inv ok.at_ v).2 hno⟩
theorem refdel_like (h : RRep w p S seed R) (ok : R.Ok) (al : Alike D R) (inv : Inv tyI seed D) (key : ByteArray) :
    Calls Try.prog 30 #[.pointer (some ⟨p, 0, none⟩), .string key] w fun e w' => e = .returned (.bool ((D.step 1).hit (sumN seed key.data.toList) key).isSome) ∧ ∃ R', RWent S w p seed R' w' ∧ Alike (D.delS (sumN seed key.data.toList) key) R' := by
  have al1 := al.step1 inv ok.at_
  have inv1 := (inv.step 1).1
  refine (refdel_any h ok key).mono fun e w' hw => ?_
  rcases hw with ⟨i, hi, hkey, he, hw⟩ | ⟨hno, he, hw⟩
  · obtain ⟨j, i0, hh⟩ := al1.hit_some inv1 hi hkey
    exact ⟨by rw [he, hh]; rfl, _, hw, (al.del inv ok.at_).1 i hi hkey⟩
  · exact ⟨by rw [he, al1.hit_no hno]; rfl, _, hw, (al.del inv ok.at_).2 hno⟩
theorem refget_like (h : RRep w p S seed R) (ok : R.Ok) (al : Alike D R) (inv : Inv tyI seed D) (key : ByteArray) :
    Calls Try.prog 29 #[.pointer (some ⟨p, 0, none⟩), .string key] w fun e w' => e = .returned (.tuple #[intV ((D.step 1).node (sumN seed key.data.toList) key), .bool ((D.step 1).hit (sumN seed key.data.toList) key).isSome]) ∧ ∃ R', RWent S w p seed R' w' ∧ Alike (D.step 1) R' := by
  have al1 := al.step1 inv ok.at_
  have inv1 := (inv.step 1).1
  refine (refget_any h ok key).mono fun e w' ⟨he, hw⟩ => ⟨?_, _, hw, al1⟩
  rcases he with ⟨x, hx, hkey, he⟩ | ⟨hno, he⟩
  · obtain ⟨i, hi, rfl⟩ := List.getElem_of_mem hx
    obtain ⟨j, i0, hh⟩ := al1.hit_some inv1 hi hkey
    obtain ⟨r, y, hr, hy, hnode, hmem, hyk, _⟩ := hit_node hh
    obtain ⟨sa, sb⟩ := al1.same inv1 hi (y := y) (hkey.trans hyk.symm)
    have ht : R.step1.L[i].tri = y.tri := by
      rcases List.mem_append.1 hmem with hm | hm
      · exact (sa hm).2
      · exact (sb hm).2
    unfold Rn.tri Nd.tri at ht
    injection ht with e1 e2
    injection e2 with e2 e3
    rw [he, hnode, hh]
    show _ = Ending.returned (.tuple #[y.v, .bool true])
    rw [← e2]
  · have hh := al1.hit_no hno (sumN seed key.data.toList)
    rw [he, hh]
    unfold Dc.node
    rw [hh]
    rfl
theorem refstep_like (h : RRep w p S seed R) (ok : R.Ok) (al : Alike D R) (inv : Inv tyI seed D) (v : Int) :
    Calls Try.prog 31 #[.pointer (some ⟨p, 0, none⟩), .int .i64 (min v 100)] w fun e w' => e = .returned (.int .i64 (min (min v 100).toNat D.left : Nat)) ∧ ∃ R', RWent S w p seed R' w' ∧ Alike (D.step (min v 100).toNat) R' := by
  refine (refstep_any h ok.a0 ok.a1 ok.b1 ok.at_ ok.n ok.sum (min v 100) (by omega)).mono fun e w' ⟨he, hw⟩ => ⟨?_, _, hw, al.stepn inv _⟩
  rw [he, al.shape, shape_left]
end
end Go.Proofs.Ytifbambalfifaaa.Both
