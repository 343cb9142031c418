/- FrameLists: an array's bytes are its head's and those of its replies. -/
import Derived.Test.YtjcgfbmkgfhnaaaDoorEnced
import Derived.Test.YtjcgfbmkgfhnaaaDoorShown
namespace Go.Proofs.YtjcgfbmkgfhnaaaDoor
open Go.RowKit Go.Shelf
attribute [local go_sem] Oper.semAt_some

theorem own_kept' {A B : World} {n : Nat} {v : Value} {j : Nat} {l : List Value} (h : A.ownsRow n 24 4 v j l) (hb : Below A.heap.size A B) : B.ownsRow n 24 4 v j l := by
  refine h.kept (row := none) ⟨hb.os, hb.tape, hb.output, hb.size, fun q hq _ => hb.block q hq⟩ ?_
  rcases h.2 with ⟨rfl, _⟩ | ⟨_, _, _, rfl, _⟩
  · exact .inl rfl
  · exact .inr (by simp [Value.ownBlock])

/-- What holds at the head of a round. -/
structure LI (T : Nat → Int) (w wr : World) (g o : Nat) (t : Fo) (v : Value) (j : Nat) (done rest : Fo) (ok : Bool) (want : ByteArray) : Prop where
  bare : (done.bare).append rest = t
  len : done.len = j
  src : ∃ c, SrcL w rest 3 g (o + j * 4) c
  own : wr.ownsRow w.heap.size 24 4 v j done.cellsL
  all : done.All (IsFo (But w.heap.size v) wr)
  below : Below w.heap.size w wr
  fine1 : ∀ x ∈ done.flat 1, fine x
  cnt : (done.flat 1).length ≤ j * most 3
  dep : done.depth ≤ 5
  okv : ok = rightL (done.flat 1)
  wantv : ok = true → want.data.toList = encE (dgT T) (done.flat 1)
  size : want.size ≤ j * 130000000000

theorem LI.later {T : Nat → Int} {w wr wr' : World} {g o : Nat} {t : Fo} {v : Value} {j : Nat} {done rest : Fo} {ok : Bool} {want : ByteArray} (h : LI T w wr g o t v j done rest ok want) (hb : Below wr.heap.size wr wr') : LI T w wr' g o t v j done rest ok want :=
  ⟨h.bare, h.len, h.src, own_kept' h.own hb, h.all.imp fun _ _ ht => ht.same (Same24.of_below hb), h.below.trans (hb.mono h.below.size), h.fine1, h.cnt, h.dep, h.okv, h.wantv, h.size⟩

/-- One reply more in the own row. -/
theorem LI.step {T : Nat → Int} {w wr w2 w4 : World} {g o : Nat} {t : Fo} {v : Value} {j gg cg : Nat} {done : Fo} {k1 n1 : Int} {s1 : Txt} {a1 a2 : Option Addr} {cap1 cap2 : Nat} {sub sub2 rest : Fo} {ok ok' : Bool} {want want' : ByteArray} {ob ob2 : Obj}
    (hI : LI T w wr g o t v j done (.cons k1 n1 s1 a1 cap1 sub rest) ok want) (h2 : Below wr.heap.size wr w2) (hs2 : IsFo (wr.heap.size ≤ ·) w2 a2 sub2) (hb2 : sub2.bare = sub)
    (hown : w4.ownsRow w.heap.size 24 4 (.slice (some ⟨gg, 0, none⟩) (j + 1) cg) (j + 1) (done.cellsL ++ [.int .i64 k1, .int .i64 n1, .string s1.1, .slice a2 sub.len cap2])) (hg : ((w2.alloc ob).alloc ob2).grownBy w4 v.ownBlock)
    (hat : v.ownBlock = some gg ∨ gg = w2.heap.size + 2)
    (hf : ∀ x ∈ (Fo.cons k1 n1 s1 a2 cap2 sub2 .nil).flat 1, fine x) (hc : ((Fo.cons k1 n1 s1 a2 cap2 sub2 .nil).flat 1).length ≤ most 3) (hd : (Fo.cons k1 n1 s1 a2 cap2 sub2 .nil).depth ≤ 5)
    (hok : ok' = (ok && rightL ((Fo.cons k1 n1 s1 a2 cap2 sub2 .nil).flat 1)))
    (hw : ok' = true → want'.data.toList = want.data.toList ++ encE (dgT T) ((Fo.cons k1 n1 s1 a2 cap2 sub2 .nil).flat 1)) (hz : want'.size ≤ want.size + 130000000000) :
    LI T w w4 g o t (.slice (some ⟨gg, 0, none⟩) (j + 1) cg) (j + 1) (done.append (.cons k1 n1 s1 a2 cap2 sub2 .nil)) rest ok' want' := by
  have hlt := hI.own.lt
  have hz1 := hI.below.size
  have hz2 := h2.size
  obtain ⟨c, hsrc⟩ := hI.src
  obtain ⟨rfl, rfl, _, _, m', hm, hrs⟩ := hsrc
  have hsl : sub2.len = sub.len := by rw [← hb2, Fo.len_bare]
  have hk : ∀ k, k < w2.heap.size → some k ≠ v.ownBlock → w4.heap[k]? = w2.heap[k]? := fun k hk hne =>
    ((hg.block k (by simp; omega) hne).trans (Below.heap_alloc _ _ _ (by simp; omega))).trans (Below.heap_alloc _ _ _ hk)
  have hbut : ∀ k, k < w2.heap.size → some k ≠ v.ownBlock → some k ≠ (Value.slice (some ⟨gg, 0, none⟩) (j + 1) cg).ownBlock := fun k hk hne => by
    show some k ≠ some gg
    rcases hat with e | e
    · rw [← e]; exact hne
    · intro e'; cases e'; omega
  refine ⟨?_, ?_, ⟨m', ?_⟩, ?_, ?_, ?_, ?_, ?_, ?_, ?_, ?_, ?_⟩
  · rw [← hI.bare, Fo.bare_append, Fo.append_assoc]
    simp only [Fo.append, Fo.bare, hb2]
  · rw [Fo.len_append, hI.len]; simp [Fo.len]
  · rw [show o + (j + 1) * 4 = o + j * 4 + 4 by omega]; exact hrs
  · rw [Fo.cellsL_append]
    simp only [Fo.cellsL, hsl]; exact hown
  · refine Fo.all_append (hI.all.imp fun a t ht => ?_) ⟨?_, trivial⟩
    · have h0 : IsFo (fun k => But w.heap.size v k ∧ k < wr.heap.size) wr a t := ht.weaken fun k hkl hok => ⟨hok, hkl⟩
      have h1 := h0.keep (B := w4) fun k hok hkw => by
        rw [hk k (by omega) hok.1.2, h2.block k hkw]
      exact h1.weaken fun k _ hok => ⟨hok.1.1, hbut k (by omega) hok.1.2⟩
    · have h0 : IsFo (fun k => wr.heap.size ≤ k ∧ k < w2.heap.size) w2 a2 sub2 := hs2.weaken fun k hkl hok => ⟨hok, hkl⟩
      have hne : ∀ k, wr.heap.size ≤ k → some k ≠ v.ownBlock := fun k hk e => by
        have := hlt k e.symm; omega
      have h1 := h0.keep (B := w4) fun k hok hkw => by
        rw [hk k (by omega) (hne k hok.1)]
      exact h1.weaken fun k _ hok => ⟨by omega, hbut k (by omega) (hne k hok.1)⟩
  · exact (((hI.below.trans (h2.mono hz1)).alloc (by omega) ob).alloc (by simp; omega) ob2).grown hg (by simp; omega) fun k e => (hlt k e).1
  · intro x hx
    rw [flat_append] at hx
    rcases List.mem_append.1 hx with hx | hx
    · exact hI.fine1 x hx
    · exact hf x hx
  · rw [flat_append, List.length_append, Nat.add_mul, Nat.one_mul]
    have := hI.cnt
    omega
  · have h1 := hI.dep
    have : ∀ t u : Fo, (t.append u).depth ≤ max t.depth u.depth := by
      intro t
      induction t with
      | nil => intro u; simp [Fo.append]; omega
      | cons k n s a cap sub rest ih1 ih2 => intro u; have := ih2 u; simp only [Fo.append, Fo.depth]; omega
    exact Nat.le_trans (this _ _) (by omega)
  · rw [hok, hI.okv, flat_append]
    unfold rightL
    rw [List.all_append]
  · intro h
    have h1 : ok = true := by
      cases ok
      · rw [h, Bool.false_and] at hok; cases hok
      · rfl
    rw [hw h, hI.wantv h1, flat_append]
    simp [encE]
  · have := hI.size
    rw [Nat.add_mul]
    omega

/-- An array of one reply, written: its head's four bytes, and the reply's. -/
theorem one_right (a : Option Addr) (cap : Nat) (t7 e : Fo) (hb : t7.bare = e.bare) (he : e.len = 1) : rightS (.cons 6 0 noTxt a cap t7 .nil) = rightL (e.flat 1) := by
  have hl : t7.len = 1 := by rw [← he]; exact Fo.len_of_bare hb
  unfold rightS
  rw [Fo.flat_cons, Fo.flat_nil, List.append_nil]
  have h1 : rightL (t7.flat (0 + 1)) = rightL (e.flat 1) := by rw [right_flat t7, right_flat e, hb]; rfl
  unfold rightL at h1 ⊢
  rw [List.all_cons, h1, hl]
  have : fitsS (headS ⟨0, 6, 0, noTxt, a, 1, cap⟩) 0 = true := by
    have hh : headS ⟨0, 6, 0, noTxt, a, 1, cap⟩ = .count 1 := by
      unfold headS
      simp [noTxt]
    rw [hh]
    decide
  rw [this, Bool.true_and]
theorem dg_one (T : Nat → Int) : (dgT T 1).data.toList = [49] := by
  rw [show (1 : Int) = ((1 : Nat) : Int) from rfl, dgT_small T 1 (by decide)]
  decide +kernel
theorem one_enc (T : Nat → Int) (a : Option Addr) (cap : Nat) (t7 e : Fo) (hb : t7.bare = e.bare) (he : e.len = 1) : encE (dgT T) ((Fo.cons 6 0 noTxt a cap t7 .nil).flat 0) = [42, 49, 13, 10] ++ encE (dgT T) (e.flat 1) := by
  have hl : t7.len = 1 := by rw [← he]; exact Fo.len_of_bare hb
  rw [Fo.flat_cons, Fo.flat_nil, List.append_nil]
  have h1 : encE (dgT T) (t7.flat (0 + 1)) = encE (dgT T) (e.flat 1) := by rw [enc_flat (dgT T) t7 (0 + 1) 1, enc_flat (dgT T) e 1 1, hb]
  unfold encE at h1 ⊢
  rw [List.flatMap_cons, h1, hl]
  have hh : headS ⟨0, 6, 0, noTxt, a, 1, cap⟩ = .count 1 := by
    unfold headS
    simp [noTxt]
  have : encX (dgT T) ⟨0, 6, 0, noTxt, a, 1, cap⟩ = [42, 49, 13, 10] := by
    unfold encX
    rw [hh]
    show 42 :: ((dgT T 1).data.toList ++ ([13, 10] ++ [])) = _
    rw [dg_one]
    rfl
  rw [this]
end Go.Proofs.YtjcgfbmkgfhnaaaDoor
