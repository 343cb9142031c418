/- The law's own Cut of a reply. -/
import Derived.Test.YtkkdbjpcapjbkaaDoorSrc
import Derived.Test.YtkkdbjpcapjbkaaDoorArray
import Derived.Deep.RegionLaw
import Derived.Shelf.RegionOpenPlain
import Derived.Laws.AppendOwn
import Derived.Deep.AppendLies
namespace Go.Proofs.YtkkdbjpcapjbkaaDoor
open Go.RowKit Go.Shelf
attribute [local go_sem] Oper.semAt_some

def CutPost (w : World) (k n : Int) (s : Txt) (sub : Fo) (e : Ending) (w' : World) : Prop :=
  ∃ a cap t', e = .returned (.agg #[.int .i64 k, .int .i64 n, .string (cutT s).1, .slice a sub.len cap]) ∧ t'.bare = sub ∧ IsFo (w.heap.size ≤ ·) w' a t' ∧ Below w.heap.size w w'
def Cuts (sub : Fo) : Prop := ∀ (h : Nat) (k n : Int) (s : Txt) (a : Option Addr) (n' cap : Nat) (g o : Nat) (w : World), h ≤ 1000 → n' ≤ cap → cap ≤ maxLen → (seen h n' ≠ 0 → a = some ⟨g, o, none⟩) → SrcL w sub (h - 1) g o (seen h n') →
  Calls Tryd.prog 9 #[.agg #[.int .i64 k, .int .i64 n, .string s.1, .slice a n' cap], .int .i64 h] w (CutPost w k n s sub)

theorem below_undrew {w W : World} (h : Below w.drew.heap.size w.drew W) : Below w.heap.size w W := ((Below.refl w.heap.size w).drew).trans h
theorem own_kept {A B : World} {n : Nat} {v : Value} {j : Nat} {l : List Value} (h : A.ownsRow n 24 4 v j l) (hb : Below A.heap.size A B) : B.ownsRow n 24 4 v j l := by
  refine h.kept (row := none) ⟨hb.os, hb.tape, hb.output, hb.size, fun q hq _ => hb.block q hq⟩ ?_
  rcases h.2 with ⟨rfl, _⟩ | ⟨_, _, _, rfl, _⟩
  · exact .inl rfl
  · exact .inr (by simp [Value.ownBlock])

/-- What holds at the head of a round. -/
structure CutI (w wr : World) (k n : Int) (s : Txt) (a : Option Addr) (n' cap : Nat) (h g o c : Nat) (t : Fo) (v : Value) (j : Nat) (done rest : Fo) : Prop where
  bare : (done.bare).append rest = t
  len : done.len = j
  sub : rest.Subs Cuts
  src : SrcL w rest (h - 1) g (o + j * 4) (c - j)
  own : wr.ownsRow (w.heap.size + 3) 24 4 v j done.cellsL
  all : done.All (IsFo (But (w.heap.size + 3) v) wr)
  below : Below w.heap.size w wr
  box : wr.heap[w.heap.size]? = some (Obj.cells #[.int .i64 k, .int .i64 n, .string s.1, .slice a n' cap] 24 (0, 0))
  res : wr.heap[w.heap.size + 1]? = some (Obj.cells #[.int .i64 0, .int .i64 0, .string ⟨#[]⟩, .slice none 0 0] 24 (0, 0))
  out : wr.heap[w.heap.size + 2]? = some (Obj.cells #[.int .i64 k, .int .i64 n, .string (cutT s).1, v] 24 (0, 0))

theorem cell_heap {A B : World} {b : Nat} (h : B.heap[b]? = A.heap[b]?) (q : Nat) : B.cell? ⟨b, q, none⟩ = A.cell? ⟨b, q, none⟩ := by simp [World.cell?, h]
theorem frozen_heap {A B : World} {b : Nat} (h : B.heap[b]? = A.heap[b]?) (q : Nat) : B.frozen? ⟨b, q, none⟩ = A.frozen? ⟨b, q, none⟩ := by simp [World.frozen?, h]
theorem grownBy_set (W : World) (b o : Nat) (v : Value) : W.grownBy (W.setCell ⟨b, o, none⟩ v) (some b) :=
  ⟨rfl, rfl, rfl, by simp [World.setCell], fun k _ hne => Below.heap_setCell W ⟨b, o, none⟩ v k (fun e => hne (by rw [e]))⟩

theorem CutI.step {w wr w2 w4 : World} {k n : Int} {s : Txt} {a : Option Addr} {n' cap h g o c : Nat} {t : Fo} {v : Value} {j gg cg : Nat} {done : Fo} {k1 n1 : Int} {s1 : Txt} {a1 a2 : Option Addr} {cap1 cap2 : Nat} {sub sub2 rest : Fo} {ob : Obj}
    (hI : CutI w wr k n s a n' cap h g o c t v j done (.cons k1 n1 s1 a1 cap1 sub rest)) (h2 : Below wr.heap.size wr w2) (hs2 : IsFo (wr.heap.size ≤ ·) w2 a2 sub2) (hb2 : sub2.bare = sub)
    (hown : w4.ownsRow (w.heap.size + 3) 24 4 (.slice (some ⟨gg, 0, none⟩) (j + 1) cg) (j + 1) (done.cellsL ++ [.int .i64 k1, .int .i64 n1, .string s1.1, .slice a2 sub.len cap2])) (hg : (w2.alloc ob).grownBy w4 v.ownBlock)
    (hat : v.ownBlock = some gg ∨ gg = w2.heap.size + 1) :
    CutI w (w4.setCell ⟨w.heap.size + 2, 3, none⟩ (.slice (some ⟨gg, 0, none⟩) (j + 1) cg)) k n s a n' cap h g o c t (.slice (some ⟨gg, 0, none⟩) (j + 1) cg) (j + 1) (done.append (.cons k1 n1 s1 a2 cap2 sub2 .nil)) rest := by
  have hlt := hI.own.lt
  have hz := hI.below.size
  have hz2 := h2.size
  have hout := (Array.getElem?_eq_some_iff.1 hI.out).1
  obtain ⟨rfl, rfl, _, _, m', hm, hrs⟩ := hI.src
  have hsl : sub2.len = sub.len := by rw [← hb2, Fo.len_bare]
  have hk : ∀ k, k < w2.heap.size → some k ≠ v.ownBlock → w4.heap[k]? = w2.heap[k]? := fun k hk hne =>
    (hg.block k (by simp; omega) hne).trans (Below.heap_alloc _ _ _ hk)
  have hlow : ∀ k, k < w.heap.size + 3 → w4.heap[k]? = wr.heap[k]? := fun k hkl =>
    (hk k (by omega) (fun e => by have := (hlt k e.symm).1; omega)).trans (h2.block k (by omega))
  have hbut : ∀ k, k < w2.heap.size → some k ≠ v.ownBlock → some k ≠ (Value.slice (some ⟨gg, 0, none⟩) (j + 1) cg).ownBlock := fun k hk hne => by
    show some k ≠ some gg
    rcases hat with e | e
    · rw [← e]; exact hne
    · intro e'; cases e'; omega
  have hgg := hown.lt gg rfl
  have hset : ∀ (k : Nat) (u : Value), k ≠ w.heap.size + 2 → (w4.setCell ⟨w.heap.size + 2, 3, none⟩ u).heap[k]? = w4.heap[k]? := fun k u hne => Below.heap_setCell _ _ _ _ hne
  refine ⟨?_, ?_, hI.sub.2, ?_, ?_, ?_, ?_, ?_, ?_, ?_⟩
  · rw [← hI.bare, Fo.bare_append, Fo.append_assoc]
    simp only [Fo.append, Fo.bare, hb2]
  · rw [Fo.len_append, hI.len]; simp [Fo.len]
  · rw [show o + (j + 1) * 4 = o + j * 4 + 4 by omega, show c - (j + 1) = m' by omega]; exact hrs
  · refine World.ownsRow.kept ?_ (grownBy_set _ _ _ _) (.inr fun e => ?_)
    · rw [Fo.cellsL_append]
      simp only [Fo.cellsL, hsl]; exact hown
    · have : gg = w.heap.size + 2 := Option.some.inj e
      omega
  · refine Fo.all_append (hI.all.imp fun a t ht => ?_) ⟨?_, trivial⟩
    · have h0 : IsFo (fun k => But (w.heap.size + 3) v k ∧ k < wr.heap.size) wr a t := ht.weaken fun k hkl hok => ⟨hok, hkl⟩
      have h1 := h0.keep (B := w4.setCell ⟨w.heap.size + 2, 3, none⟩ (.slice (some ⟨gg, 0, none⟩) (j + 1) cg)) fun k hok hkw => by
        rw [hset k _ (by have := hok.1.1; omega), hk k (by omega) hok.1.2, h2.block k hkw]
      exact h1.weaken fun k _ hok => ⟨hok.1.1, hbut k (by omega) hok.1.2⟩
    · have h0 : IsFo (fun k => wr.heap.size ≤ k ∧ k < w2.heap.size) w2 a2 sub2 := hs2.weaken fun k hkl hok => ⟨hok, hkl⟩
      have hne : ∀ k, wr.heap.size ≤ k → some k ≠ v.ownBlock := fun k hk e => by
        have := hlt k e.symm; omega
      have h1 := h0.keep (B := w4.setCell ⟨w.heap.size + 2, 3, none⟩ (.slice (some ⟨gg, 0, none⟩) (j + 1) cg)) fun k hok hkw => by
        rw [hset k _ (by omega), hk k (by omega) (hne k hok.1)]
      exact h1.weaken fun k _ hok => ⟨by omega, hbut k (by omega) (hne k hok.1)⟩
  · refine (((hI.below.trans (h2.mono hz)).alloc (by omega) ob).grown hg (by simp; omega) fun k e => (by have := (hlt k e).1; omega)).setCell (p := ⟨w.heap.size + 2, 3, none⟩) (by show w.heap.size ≤ w.heap.size + 2; omega) _
  · rw [hset _ _ (by omega), hlow _ (by omega)]; exact hI.box
  · rw [hset _ _ (by omega), hlow _ (by omega)]; exact hI.res
  · have := set_in 3 (.slice (some ⟨gg, 0, none⟩) (j + 1) cg) ((hlow (w.heap.size + 2) (by omega)).trans hI.out)
    exact this

set_option maxRecDepth 100000 in
set_option maxHeartbeats 4000000 in
theorem cut_step (t : Fo) (hsub : t.Subs Cuts) : Cuts t := by
  intro h k n s a n' cap g o w hh hnc hcm ha hsrc
  have mixed : Tryd.prog.follows .mixedOrders = true := by kernel_rfl
  have hq : (cutT s).1 = s.1.extract 0 (min s.1.size 610) := rfl
  have hs9 := s.2
  unfold maxLen at hs9 hcm
  have hsl := SrcL.len hsrc
  obtain ⟨q, hqq⟩ : ∃ q, q = min s.1.size 610 := ⟨_, rfl⟩
  have hmin : (if (610 : Int) < s.1.size then (610 : Int) else s.1.size) = (q : Int) := by split <;> omega
  have hqs : (q : Int) ≤ s.1.size := by omega
  have hq0 : (0 : Int) ≤ q := by omega
  rw [← hqq] at hq
  have k0 : ((w.alloc (Obj.cells #[.int .i64 k, .int .i64 n, .string s.1, .slice a n' cap] 24)).alloc (Obj.cells #[.int .i64 0, .int .i64 0, .string ⟨#[]⟩, .slice none 0 0] 24)).heap[w.heap.size]? = some (Obj.cells #[.int .i64 k, .int .i64 n, .string s.1, .slice a n' cap] 24 (0, 0)) :=
    (Below.heap_alloc _ _ _ (by simp)).trans (heap_alloc_new _ _)
  obtain ⟨W2, hW2⟩ : ∃ W2, (w.alloc (Obj.cells #[.int .i64 k, .int .i64 n, .string s.1, .slice a n' cap] 24)).alloc (Obj.cells #[.int .i64 0, .int .i64 0, .string ⟨#[]⟩, .slice none 0 0] 24) = W2 := ⟨_, rfl⟩
  rw [hW2] at k0
  have k1 : W2.heap[w.heap.size + 1]? = some (Obj.cells #[.int .i64 0, .int .i64 0, .string ⟨#[]⟩, .slice none 0 0] 24 (0, 0)) := by rw [← hW2]; exact heap_at (by simp)
  have HB2 := Lib.hid (show Below w.heap.size w W2 by rw [← hW2]; exact ((Below.refl _ _).alloc (Nat.le_refl _) _).alloc (by simp) _)
  have e0 : W2.cell? ⟨w.heap.size, 0, none⟩ = some (.int .i64 k) := by rw [cell_in 0 k0]; rfl
  have e1 : W2.cell? ⟨w.heap.size, 1, none⟩ = some (.int .i64 n) := by rw [cell_in 1 k0]; rfl
  have e2 : W2.cell? ⟨w.heap.size, 2, none⟩ = some (.string s.1) := by rw [cell_in 2 k0]; rfl
  have hs2 : W2.heap.size = w.heap.size + 2 := by rw [← hW2]; simp
  have HQ := Lib.hid hq
  have HQ2 := Lib.hid (show (cutT s).1 = s.1.extract 0 (min (s.1.size : Int) 610).toNat by rw [hq, show (min (s.1.size : Int) 610).toNat = q by omega])
  have HSRC := Lib.hid hsrc
  clear hqq hq hsrc
  go_enter Tryd.func9, Tryd.ntmps9
  go_wp2
  go_region_o
  go_wp2
  go_loopw [6] (fun i wr => ∃ (j : Nat) (v : Value) (done rest : Fo), i = .int .i64 j ∧ j + rest.len = seen h n' ∧ CutI w wr k n s a n' cap h g o (seen h n') t v j done rest) (fun i _ => seen h n' - (intOf i).toNat)
  case atStart =>
    refine ⟨0, .slice none 0 0, .nil, t, rfl, by simpa using hsl, ⟨rfl, rfl, hsub, by simpa using HSRC.out, World.ownsRow_nil _ _ _ _, trivial, ?_, ?_, ?_, ?_⟩⟩
    · exact (HB2.out.alloc HB2.out.size _).drew
    · exact (Below.heap_alloc _ _ _ (by omega)).trans k0
    · exact (Below.heap_alloc _ _ _ (by omega)).trans k1
    · first
        | (rw [HQ.out]; exact heap_at hs2.symm)
        | (rw [HQ2.out]; exact heap_at hs2.symm)
  case round =>
    obtain ⟨j, v, done, rest, rfl, hl, hI⟩ := hrel
    have x3 : wr.cell? ⟨w.heap.size, 3, none⟩ = some (.slice a n' cap) := by rw [cell_in 3 hI.box]; rfl
    have y0 : wr.cell? ⟨w.heap.size + 2, 0, none⟩ = some (.int .i64 k) := by rw [cell_in 0 hI.out]; rfl
    have y1 : wr.cell? ⟨w.heap.size + 2, 1, none⟩ = some (.int .i64 n) := by rw [cell_in 1 hI.out]; rfl
    have y2 : wr.cell? ⟨w.heap.size + 2, 2, none⟩ = some (.string (cutT s).1) := by rw [cell_in 2 hI.out]; rfl
    have y3 : wr.cell? ⟨w.heap.size + 2, 3, none⟩ = some v := by rw [cell_in 3 hI.out]; rfl
    cases rest with
    | nil =>
      as_aux_lemma =>
        have hj : j = seen h n' := by simpa [Fo.len] using hl
        have hb := hI.bare
        rw [Fo.append_nil] at hb
        have hdl : done.len = t.len := by rw [← hb, Fo.len_bare]
        have hle := seen_le h n'
        have hown := hI.own
        rw [← hI.len] at hown
        obtain ⟨a2, cap2, rfl, hf⟩ := fo_of_own (ok := (w.heap.size + 3 ≤ ·)) hown (by omega) (fun k e => (hI.own.lt k e).1) (hI.all.imp fun a t ht => ht.weaken fun k _ hok => hok.1)
        have z0 : wr.cell? ⟨w.heap.size + 1, 0, none⟩ = some (.int .i64 0) := by rw [cell_in 0 hI.res]; rfl
        have z1 : wr.cell? ⟨w.heap.size + 1, 1, none⟩ = some (.int .i64 0) := by rw [cell_in 1 hI.res]; rfl
        have z2 : wr.cell? ⟨w.heap.size + 1, 2, none⟩ = some (.string ⟨#[]⟩) := by rw [cell_in 2 hI.res]; rfl
        have z3 : wr.cell? ⟨w.heap.size + 1, 3, none⟩ = some (.slice none 0 0) := by rw [cell_in 3 hI.res]; rfl
        have f0 := free_in 0 hI.res
        have f1 := free_in 1 hI.res
        have f2 := free_in 2 hI.res
        have f3 := free_in 3 hI.res
        obtain ⟨_, r2, r3⟩ := four_set (.int .i64 k) (.int .i64 n) (.string (cutT s).1) (.slice a2 done.len cap2) hI.res
        have R2 := Lib.hid r2
        have R3 := Lib.hid (hI.below.trans (r3 w.heap.size (by omega)))
        have HF := Lib.hid hf
        have HDL := Lib.hid hdl
        have HBB := Lib.hid hb
        have hc : (¬ (j : Int) < n') ∨ ((j : Int) < n' ∧ ¬ (j : Int) < 60) ∨ ((j : Int) < n' ∧ (j : Int) < 60 ∧ ¬ (0 : Int) < h) := by
          unfold seen at hj
          split at hj <;> omega
        have HJ := Lib.hid hj
        clear hj hl hdl hb r2 r3 hf hown hsl hle hI hsub
        rcases hc with c1 | ⟨c1, c2⟩ | ⟨c1, c2, c3⟩
        all_goals (
          go_wp2
          refine bodyPost_ret (v := .agg #[.int .i64 k, .int .i64 n, .string (cutT s).1, .slice a2 done.len cap2]) (by simp [results, Tryd.results9, go_sem, z0, z1, z2, z3]) rfl ?_
          refine ⟨a2, cap2, done, by rw [HDL.out], HBB.out, ?_, R3.out⟩
          refine (HF.out.keep fun k hk _ => R2.out k (by omega)).weaken fun k _ hk => by omega)
    | cons k1 m1 s1 a1 cap1 sub rest =>
      as_aux_lemma =>
        rw [Fo.len_cons] at hl
        have hne : seen h n' ≠ 0 := by omega
        have ha' := ha hne
        subst ha'
        have hpos : 0 < h := by
          have : h ≠ 0 := fun e => hne (by rw [e]; rfl)
          omega
        obtain ⟨h', hh'⟩ : ∃ h', h' = h - 1 := ⟨_, rfl⟩
        have hjn : (j : Int) < n' ∧ (j : Int) < 60 := by
          have : seen h n' = min n' 60 := by unfold seen; rw [if_neg (by omega)]
          omega
        obtain ⟨hj1, hj2⟩ := hjn
        have hsrc := hI.src
        rw [← hh'] at hsrc
        obtain ⟨rfl, rfl, _, ⟨s0, aS, nS, capS, c0, c1, c2, c3, hs1, hc1, hc2, g', o', hag, hsub1⟩, m', hm', _⟩ := hsrc
        subst hs1
        have hB := hI.below
        have hgl : g < w.heap.size := World.block_lt_of_cell? w _ c0
        have d0 : wr.cell? ⟨g, o + j * 4, none⟩ = some (.int .i64 k1) := (hB.cell (p := ⟨g, _, none⟩) hgl).trans c0
        have d1 : wr.cell? ⟨g, o + j * 4 + 1, none⟩ = some (.int .i64 m1) := (hB.cell (p := ⟨g, _, none⟩) hgl).trans c1
        have d2 : wr.cell? ⟨g, o + j * 4 + 2, none⟩ = some (.string s0.1) := (hB.cell (p := ⟨g, _, none⟩) hgl).trans c2
        have d3 : wr.cell? ⟨g, o + j * 4 + 3, none⟩ = some (.slice aS nS capS) := (hB.cell (p := ⟨g, _, none⟩) hgl).trans c3
        have HC := Lib.hid (hI.sub.1 h' k1 m1 s0 aS nS capS g' o' wr.drew (by omega) hc1 hc2 hag (SrcL.below (hB.drew) hsub1))
        have HI := Lib.hid hI
        have HL := Lib.hid hl
        have hz := hB.size
        have hw2 : IntKind.i64.wrap ((h : Int) - 1) = h' := by rw [IntWalk.i64_in _ (by omega)]; omega
        have hw3 : (h : Int) - 1 = h' := by omega
        have hw1 : IntKind.i64.wrap (h' : Int) = h' := IntWalk.i64_in _ (by omega)
        have hh0 : (0 : Int) < (h : Int) := by omega
        obtain ⟨i0, hi0, hz0, hz1, hz2⟩ := info_parts Tryd.info24
        have fr3 := free_in 3 hI.out
        clear hh' hI hl hne hsub hc1 hc2 hag hsub1 hm' c0 c1 c2 c3
        have hout := (Array.getElem?_eq_some_iff.1 HI.out.out).1
        have HN := Lib.hid (show ∀ b, b < w.heap.size + 3 → some b ≠ v.ownBlock from fun b hb e => by have := (HI.out.own.lt b e.symm).1; omega)
        go_wp2_with fail
        go_region_law
          (first
            | (go_simp; go_at_call 9; go_must (
               (with_reducible refine HC.out.mono ?_); rintro e w2 ⟨a2, cap2, t2, rfl, hb2, hs2, hbw2⟩
               have hq : ∀ b q, b < wr.heap.size → w2.cell? ⟨b, q, none⟩ = wr.cell? ⟨b, q, none⟩ := fun b q hb => hbw2.cell (p := ⟨b, q, none⟩) hb
               have hw2s : wr.heap.size ≤ w2.heap.size := hbw2.size
               have x3' := (hq w.heap.size 3 (by omega)).trans x3
               have y3' := (hq (w.heap.size + 2) 3 (by omega)).trans y3
               have d0' := (hq g _ (by omega)).trans d0
               have d1' := (hq g _ (by omega)).trans d1
               have d2' := (hq g _ (by omega)).trans d2
               have d3' := (hq g _ (by omega)).trans d3
               have HB2 := Lib.hid (below_undrew hbw2)
               have HF2 := Lib.hid hs2
               have HBR := Lib.hid hb2
               have al : ∀ b q, b < w2.heap.size → (w2.alloc (Obj.cells #[.int .i64 k1, .int .i64 m1, .string (cutT s0).1, .slice a2 sub.len cap2] 24)).cell? ⟨b, q, none⟩ = w2.cell? ⟨b, q, none⟩ := fun b q hb => World.cell?_alloc_lt _ _ _ hb
               have x3a := (al w.heap.size 3 (by omega)).trans x3'
               have y3a := (al (w.heap.size + 2) 3 (by omega)).trans y3'
               have d0a := (al g _ (by omega)).trans d0'
               have d1a := (al g _ (by omega)).trans d1'
               have d2a := (al g _ (by omega)).trans d2'
               have d3a := (al g _ (by omega)).trans d3'
               clear hq al hbw2 hs2 hb2))
            | (go_loud (refine step_append_lies _ rfl _ _ 22 rfl (w.heap.size + 3) 24 i0 _ 4 56 Tryd.underlying22 hi0 hz0 hz1 hz2 rfl (by omega) v j done.cellsL rfl ((own_kept HI.out.own HB2.out).alloc _) ⟨w2.heap.size, 0, none⟩ 1 1 [.int .i64 k1, .int .i64 m1, .string (cutT s0).1, .slice a2 sub.len cap2] rfl rfl (World.news_of_block (cs := #[.int .i64 k1, .int .i64 m1, .string (cutT s0).1, .slice a2 sub.len cap2]) (t := 24) (fr := (0, 0)) (heap_alloc_new _ _)) (one_cells _ _ _ _ _ _) (by omega) (by unfold maxLen; omega) (by omega) (by simp; omega) (w2.heap.size + 1) (by simp) ?_); intro gg cg w4 hown4 hgrow4 hat4 hlt4
               have hlow : ∀ b, b < w.heap.size + 3 → w4.heap[b]? = w2.heap[b]? := fun b hb => (hgrow4.block b (by simp; omega) (HN.out b hb)).trans (Below.heap_alloc _ _ _ (by omega))
               have x3b := (cell_heap (hlow w.heap.size (by omega)) 3).trans x3'
               have y3b := (cell_heap (hlow (w.heap.size + 2) (by omega)) 3).trans y3'
               have f3b := (frozen_heap (hlow (w.heap.size + 2) (by omega)) 3).trans ((frozen_heap (HB2.out.block _ hout) 3).trans fr3)
               have d0b := (cell_heap (hlow g (by omega)) _).trans d0'
               have d1b := (cell_heap (hlow g (by omega)) _).trans d1'
               have d2b := (cell_heap (hlow g (by omega)) _).trans d2'
               have d3b := (cell_heap (hlow g (by omega)) _).trans d3'
               have st : ∀ b q u, b ≠ w.heap.size + 2 → (w4.setCell ⟨w.heap.size + 2, 3, none⟩ u).cell? ⟨b, q, none⟩ = w4.cell? ⟨b, q, none⟩ := fun b q u hb => cell_heap (Below.heap_setCell _ _ _ _ hb) q
               have x3c := (st w.heap.size 3 (.slice (some ⟨gg, 0, none⟩) (j + 1) cg) (by omega)).trans x3b
               have d0c := (st g _ (.slice (some ⟨gg, 0, none⟩) (j + 1) cg) (by omega)).trans d0b
               have d1c := (st g _ (.slice (some ⟨gg, 0, none⟩) (j + 1) cg) (by omega)).trans d1b
               have d2c := (st g _ (.slice (some ⟨gg, 0, none⟩) (j + 1) cg) (by omega)).trans d2b
               have d3c := (st g _ (.slice (some ⟨gg, 0, none⟩) (j + 1) cg) (by omega)).trans d3b
               have HO4 := Lib.hid hown4
               have HG4 := Lib.hid hgrow4
               have HA4 := Lib.hid hat4
               clear st hlow hown4 hgrow4 hat4))
        all_goals as_aux_lemma => (
          have HST := Lib.hid (HI.out.step HB2.out HF2.out HBR.out HO4.out HG4.out HA4.out)
          clear x3' d0' d1' d2' d3' x3a d0a d1a d2a d3a x3b d0b d1b d2b d3b x3c d0c d1c d2c d3c y3' y3a y3b HO4 HG4 HA4
          have hms : seen h n' - (j + 1) < seen h n' - j := by have := HL.out; omega
          have hrl : j + 1 + rest.len = seen h n' := by have := HL.out; omega
          go_wp2
          first
            | exact ⟨⟨j + 1, _, _, rest, by go_num, hrl, HST.out⟩, by simp only [intOf]; omega⟩
            | (go_roundw; (case rel => exact ⟨j + 1, _, _, rest, by go_num, hrl, HST.out⟩); (case measure => simp only [intOf]; omega))
            | (trace_state; fail "the end"))
end Go.Proofs.YtkkdbjpcapjbkaaDoor
