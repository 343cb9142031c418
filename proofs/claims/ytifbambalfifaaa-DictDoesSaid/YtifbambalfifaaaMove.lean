/- A slot moves. -/
import Derived.Test.YtifbambalfifaaaGrow
import Derived.StillTailTactics
namespace Go.Proofs.Ytifbambalfifaaa
open Go.RowKit Go.Shelf
attribute [local go_sem] Oper.semAt_some

def Ty.Apart (T : Ty) : Prop := T.d ≠ T.t ∧ T.d ≠ T.r ∧ T.t ≠ T.r
theorem apartI : tyI.Apart := ⟨by decide, by decide, by decide⟩

theorem TabAt.past {T : Ty} (hT : T.Apart) {W W' : World} {p g : Nat} {vs : List Value} {rows : List (List Nd)} {c : Array Value} (h : TabAt T W g vs rows) (f : Far (fun k => k = p) W W') (hp : Blk W p T.d c) : TabAt T W' g vs rows := by
  refine h.far f ?_
  rintro k (rfl | ⟨v, hv, hk⟩) rfl
  · exact hT.1 (hp.ty h.blk)
  · obtain ⟨r, hr⟩ := h.mem hv
    obtain ⟨c, hc⟩ := hr.blk hk
    exact hT.2.1 (hp.ty hc)
/-- A slot is emptied. -/
theorem TabAt.emptied {T : Ty} (hT : T.Apart) {W : World} {g : Nat} {vs : List Value} {rows : List (List Nd)} (h : TabAt T W g vs rows) (i : Nat) :
    TabAt T (W.setCell ⟨g, i, none⟩ (.slice none 0 0)) g (vs.set i (.slice none 0 0)) (rows.set i []) := by
  have f : Far (fun k => k = g) W (W.setCell ⟨g, i, none⟩ (.slice none 0 0)) := (Far.refl _ _).set _ _ (.inl rfl)
  refine ⟨?_, by rw [List.length_set, List.length_set]; exact h.len, fun j v r hv hr => ?_⟩
  · have := h.blk.set i (.slice none 0 0)
    rwa [List.setIfInBounds_toArray] at this
  · by_cases e : j = i
    · subst e
      rw [List.getElem?_set_self (by have := (List.getElem?_eq_some_iff.1 hv).1; simpa using this)] at hv
      rw [List.getElem?_set_self (by have := (List.getElem?_eq_some_iff.1 hr).1; simpa using this)] at hr
      cases hv; cases hr
      exact RowAt.nil _ _
    · rw [List.getElem?_set_ne (fun h => e h.symm)] at hv hr
      refine (h.row j v r hv hr).far f fun k hk e => ?_
      subst e
      obtain ⟨c, hc⟩ := (h.row j v r hv hr).blk hk
      exact hT.2.2 (h.blk.ty hc)
/-- A table that a change of another one leaves alone. -/
theorem TabAt.beside {T : Ty} (hT : T.Apart) {W W' : World} {g g1 : Nat} {vs us : List Value} {rows rows1 : List (List Nd)} (h : TabAt T W g vs rows) (h1 : TabAt T W g1 us rows1) (hg : g ≠ g1) (hs : ∀ v ∈ vs, ∀ u ∈ us, ∀ k, v.ownBlock = some k → u.ownBlock ≠ some k)
    (f : Far (InTab g1 us) W W') : TabAt T W' g vs rows := by
  refine h.far f ?_
  rintro k (rfl | ⟨v, hv, hk⟩) (h2 | ⟨u, hu, hk2⟩)
  · exact hg h2
  · obtain ⟨r, hr⟩ := h1.mem hu
    obtain ⟨c, hc⟩ := hr.blk hk2
    exact hT.2.2 (h.blk.ty hc)
  · subst h2
    obtain ⟨r, hr⟩ := h.mem hv
    obtain ⟨c, hc⟩ := hr.blk hk
    exact hT.2.2 (h1.blk.ty hc)
  · exact hs v hv u hu k hk hk2

/-- A slot is moved: the one at the place. -/
def Dc.move1 (D : Dc) : Dc :=
  if D.place + 1 = D.a.length then ⟨putL D.b (D.a.getD D.place []), [], 0, D.n⟩ else ⟨D.a.set D.place [], putL D.b (D.a.getD D.place []), D.place + 1, D.n⟩

theorem b_ne {D : Dc} (h : D.moving = true) : D.b ≠ [] := fun e => by rw [(moving_iff D).2 e] at h; cases h

section
variable {S : Nat → Prop} {p seed : Nat} {D : Dc} {w : World}

/-- The world behind put, on the way to a slot's end. -/
theorem move_mid {g0 g1 : Nat} {A1 : Option Addr} {va vb : List Value} (hm : Mem tyI w p g0 g1 A1 va vb seed D) (hb : D.b ≠ []) {w1 : World} (hP : PutI w g1 vb D.b (D.a.getD D.place []) (D.a.getD D.place []).length w1) :
    ∃ vb', Mem tyI w1 p g0 g1 A1 va vb' seed { D with b := putL D.b (D.a.getD D.place []) } ∧ (∀ u ∈ vb', ∀ k, u.ownBlock = some k → (∃ u0 ∈ vb, u0.ownBlock = some k) ∨ w.heap.size ≤ k) ∧ Far (InTab g1 vb) w w1 := by
  obtain ⟨vb', hT, hS, hI, hF⟩ := hP
  rw [List.take_length] at hT
  rcases hm.tb with ⟨h, _⟩ | ⟨_, hA, hg, htb⟩
  · exact absurd h hb
  have hsa := fun v (hv : v ∈ va) u (hu : u ∈ vb) k hk => Sep.apart hm.sep hv hu (k := k) hk
  have hta := hm.ta.beside apartI htb (fun e => hg e.symm) hsa hF
  refine ⟨vb', ⟨?_, hta, .inr ⟨?_, hA, hg, hT⟩, hm.sep.left.join hS fun v hv u hu k hk h2 => ?_⟩, hI, hF⟩
  · have := hF.blk hm.dict (fun h => by
      rcases h with h | ⟨u, hu, h⟩
      · subst h; exact absurd (hm.dict.ty htb.blk) (by decide)
      · obtain ⟨r, hr⟩ := htb.mem hu
        obtain ⟨c, hc⟩ := hr.blk h
        exact absurd (hm.dict.ty hc) (by decide))
    simpa [putL_len] using this
  · intro e
    have := congrArg List.length e
    rw [putL_len] at this
    exact hb (List.eq_nil_of_length_eq_zero (by simpa using this))
  · rcases hI u hu k h2 with ⟨u0, h3, h4⟩ | h3
    · exact Sep.apart hm.sep hv h3 hk h4
    · obtain ⟨r, hr⟩ := hm.ta.mem hv
      have := hr.lt hk
      omega

/-- The ends. -/
theorem move_on {g0 g1 : Nat} {A1 : Option Addr} {va vb vb' : List Value} (hf : Foot S p g0 g1 va vb D) (hb : D.b ≠ []) {w1 : World} (hm1 : Mem tyI w1 p g0 g1 A1 va vb' seed { D with b := putL D.b (D.a.getD D.place []) })
    (hI : ∀ u ∈ vb', ∀ k, u.ownBlock = some k → (∃ u0 ∈ vb, u0.ownBlock = some k) ∨ w.heap.size ≤ k) (hF : Far (InTab g1 vb) w w1) (hl : D.place + 1 ≠ D.a.length) :
    Went tyI S w p seed D.move1 ((w1.setCell ⟨g0, D.place, none⟩ (.slice none 0 0)).setCell ⟨p, 3, none⟩ (.int .i64 (D.place + 1 : Nat))) := by
  have hd : D.move1 = ⟨D.a.set D.place [], putL D.b (D.a.getD D.place []), D.place + 1, D.n⟩ := by unfold Dc.move1; rw [if_neg hl]
  rw [hd]
  rcases hm1.tb with ⟨h, _⟩ | ⟨hb1, hA, hg, htb⟩
  · exact absurd (by have := congrArg List.length h; simp only [putL_len] at this; exact List.eq_nil_of_length_eq_zero (by simpa using this)) hb
  have hgp : p ≠ g0 := fun e => by have h1 := hm1.dict; rw [e] at h1; exact absurd (h1.ty hm1.ta.blk) (by decide)
  have hbl := hm1.dict.setOther D.place (.slice none 0 0) hgp
  have f1 : Far (fun k => k = g0) w1 (w1.setCell ⟨g0, D.place, none⟩ (.slice none 0 0)) := (Far.refl _ _).set _ _ (.inl rfl)
  have f2 : Far (fun k => k = p) (w1.setCell ⟨g0, D.place, none⟩ (.slice none 0 0)) ((w1.setCell ⟨g0, D.place, none⟩ (.slice none 0 0)).setCell ⟨p, 3, none⟩ (.int .i64 (D.place + 1 : Nat))) := (Far.refl _ _).set _ _ (.inl rfl)
  refine Went.mk' (g0 := g0) (g1 := g1) (A1 := A1) (va := va.set D.place (.slice none 0 0)) (vb := vb') ⟨?_, ?_, .inr ⟨hb1, hA, hg, ?_⟩, ?_⟩ ?_ (.inl hf.p) (.inl hf.g0) (fun _ => .inl (hf.g1 hb)) ?_
  · have := hbl.set 3 (.int .i64 (D.place + 1 : Nat))
    simpa using this
  · exact (hm1.ta.emptied apartI D.place).past apartI f2 hbl
  · refine TabAt.past apartI ?_ f2 hbl
    refine htb.far f1 ?_
    rintro k (rfl | ⟨v, hv, hk⟩) rfl
    · exact hg rfl
    · obtain ⟨r, hr⟩ := htb.mem hv
      obtain ⟨c, hc⟩ := hr.blk hk
      exact absurd (hm1.ta.blk.ty hc) (by decide)
  · have hs := hm1.sep
    refine Sep.join ?_ hs.right fun v hv u hu k hk => ?_
    · by_cases hi : D.place < va.length
      · exact hs.left.set (List.getElem?_eq_getElem hi) fun k hk => by simp [Value.ownBlock] at hk
      · rw [List.set_eq_of_length_le (by omega)]; exact hs.left
    · rcases List.mem_or_eq_of_mem_set hv with h | rfl
      · exact Sep.apart hs h hu hk
      · simp [Value.ownBlock] at hk
  · refine ((hF.mono (S1 := S) ?_).set _ _ (.inl hf.g0)).set _ _ (.inl hf.p)
    rintro k (rfl | ⟨u, hu, hk⟩)
    · exact hf.g1 hb
    · exact hf.row u (List.mem_append_right _ hu) k hk
  · intro v hv k hk
    rcases List.mem_append.1 hv with h | h
    · rcases List.mem_or_eq_of_mem_set h with h | rfl
      · exact .inl (hf.row v (List.mem_append_left _ h) k hk)
      · simp [Value.ownBlock] at hk
    · rcases hI v h k hk with ⟨u0, h1, h2⟩ | h1
      · exact .inl (hf.row u0 (List.mem_append_right _ h1) k h2)
      · exact .inr h1
theorem move_last {g0 g1 : Nat} {A1 : Option Addr} {va vb vb' : List Value} (hf : Foot S p g0 g1 va vb D) (hb : D.b ≠ []) {w1 : World} (hm1 : Mem tyI w1 p g0 g1 A1 va vb' seed { D with b := putL D.b (D.a.getD D.place []) })
    (hI : ∀ u ∈ vb', ∀ k, u.ownBlock = some k → (∃ u0 ∈ vb, u0.ownBlock = some k) ∨ w.heap.size ≤ k) (hF : Far (InTab g1 vb) w w1) (hl : D.place + 1 = D.a.length) :
    Went tyI S w p seed D.move1 (((((w1.setCell ⟨g0, D.place, none⟩ (.slice none 0 0)).setCell ⟨p, 3, none⟩ (.int .i64 (D.place + 1 : Nat))).setCell ⟨p, 0, none⟩ (.slice A1 D.b.length D.b.length)).setCell ⟨p, 1, none⟩ (.slice none 0 0)).setCell ⟨p, 3, none⟩ (.int .i64 0)) := by
  have hd : D.move1 = ⟨putL D.b (D.a.getD D.place []), [], 0, D.n⟩ := by unfold Dc.move1; rw [if_pos hl]
  rw [hd]
  rcases hm1.tb with ⟨h, _⟩ | ⟨hb1, hA, hg, htb⟩
  · exact absurd (by have := congrArg List.length h; simp only [putL_len] at this; exact List.eq_nil_of_length_eq_zero (by simpa using this)) hb
  have hgp : p ≠ g0 := fun e => by have h1 := hm1.dict; rw [e] at h1; exact absurd (h1.ty hm1.ta.blk) (by decide)
  have hbl := hm1.dict.setOther D.place (.slice none 0 0) hgp
  have f1 : Far (fun k => k = g0) w1 (w1.setCell ⟨g0, D.place, none⟩ (.slice none 0 0)) := (Far.refl _ _).set _ _ (.inl rfl)
  have f2 : Far (fun k => k = p) (w1.setCell ⟨g0, D.place, none⟩ (.slice none 0 0)) (((((w1.setCell ⟨g0, D.place, none⟩ (.slice none 0 0)).setCell ⟨p, 3, none⟩ (.int .i64 (D.place + 1 : Nat))).setCell ⟨p, 0, none⟩ (.slice A1 D.b.length D.b.length)).setCell ⟨p, 1, none⟩ (.slice none 0 0)).setCell ⟨p, 3, none⟩ (.int .i64 0)) :=
    ((((Far.refl (fun k => k = p) _).set ⟨p, 3, none⟩ _ (.inl rfl)).set ⟨p, 0, none⟩ _ (.inl rfl)).set ⟨p, 1, none⟩ _ (.inl rfl)).set ⟨p, 3, none⟩ _ (.inl rfl)
  refine Went.mk' (g0 := g1) (g1 := g1) (A1 := none) (va := vb') (vb := []) ⟨?_, ?_, .inl ⟨rfl, rfl, rfl⟩, ?_⟩ ?_ (.inl hf.p) (.inl (hf.g1 hb)) (fun h => absurd rfl h) ?_
  · have := (((hbl.set 3 (.int .i64 (D.place + 1 : Nat))).set 0 (.slice A1 D.b.length D.b.length)).set 1 (.slice none 0 0)).set 3 (.int .i64 0)
    simpa [hA, putL_len] using this
  · refine TabAt.past apartI ?_ f2 hbl
    refine htb.far f1 ?_
    rintro k (rfl | ⟨v, hv, hk⟩) rfl
    · exact hg rfl
    · obtain ⟨r, hr⟩ := htb.mem hv
      obtain ⟨c, hc⟩ := hr.blk hk
      exact absurd (hm1.ta.blk.ty hc) (by decide)
  · rw [List.append_nil]; exact hm1.sep.right
  · refine (((((hF.mono (S1 := S) ?_).set _ _ (.inl hf.g0)).set _ _ (.inl hf.p)).set _ _ (.inl hf.p)).set _ _ (.inl hf.p)).set _ _ (.inl hf.p)
    rintro k (rfl | ⟨u, hu, hk⟩)
    · exact hf.g1 hb
    · exact hf.row u (List.mem_append_right _ hu) k hk
  · intro v hv k hk
    rw [List.append_nil] at hv
    rcases hI v hv k hk with ⟨u0, h1, h2⟩ | h1
    · exact .inl (hf.row u0 (List.mem_append_right _ h1) k h2)
    · exact .inr h1

set_option maxRecDepth 100000 in
set_option maxHeartbeats 1000000 in
theorem move_any (h : Rep tyI w p S seed D) (ok : D.Ok tyI) (hb : D.b ≠ []) (hn : D.n ≤ 1000000) :
    Calls Try.prog 46 #[.pointer (some ⟨p, 0, none⟩), .int .i64 D.place] w fun e w' => e = .returned (.tuple #[]) ∧ Went tyI S w p seed D.move1 w' := by
  obtain ⟨g0, g1, A1, va, vb, hm, hf, hc⟩ := h
  obtain ⟨c0, c1, c2, c3, c4, f0, f1, f3, f4⟩ := dict_facts hm
  have hpl := ok.place hb
  have hvl : va.length = D.a.length := hm.ta.len
  obtain ⟨v, hv⟩ : ∃ v, va[D.place]? = some v := ⟨_, List.getElem?_eq_getElem (by omega)⟩
  have hr := hm.ta.row _ _ _ hv (List.getElem?_eq_getElem hpl)
  have hgd : D.a.getD D.place [] = D.a[D.place] := by rw [List.getD_eq_getElem?_getD, List.getElem?_eq_getElem hpl]; rfl
  rw [← hgd] at hr
  rcases hm.tb with ⟨h, _⟩ | ⟨_, rfl, hg, htb⟩
  · exact absurd h hb
  have hcell : ∀ W, (Blk W g0 67 va.toArray) → W.cell? ⟨g0, D.place, none⟩ = some v ∧ W.frozen? ⟨g0, D.place, none⟩ = false := fun W hB => ⟨by rw [hB.cell]; simpa using hv, hB.free _⟩
  obtain ⟨d0, d1⟩ := hcell w hm.ta.blk
  have htot : D.b.flatten.length + (D.a.getD D.place []).length ≤ 1000000 := by
    have h1 := row_le D.a (D.a.getD D.place []) (by rw [hgd]; exact List.getElem_mem hpl)
    have h2 := ok.n
    omega
  have hdr : Below w.heap.size w w.drew := (Below.refl _ _).drew
  have hmd := hm.later hdr
  have htbd := htb.later hdr
  have HPUT := Lib.hid (put_any g1 vb D.b v (D.a.getD D.place []) w.drew htbd hm.sep.right (ok.b hb) (hr.far (S := fun _ => False) (Far.of_below hdr) fun _ _ h => h) (fun u hu k hk hk2 => Sep.apart hm.sep (List.mem_of_getElem? hv) hu hk2 hk)
    (ok.fine _ (.inl (by rw [hgd]; exact List.getElem_mem hpl))) htot)
  have hal := isS_pos ok.a
  have hpl2 : (D.place : Int) < D.a.length := by omega
  have hgp : p ≠ g0 := fun e => by have h1 := hm.dict; rw [e] at h1; exact absurd (h1.ty hm.ta.blk) (by decide)
  have hgp' : g0 ≠ p := fun e => hgp e.symm
  have HMID := fun w1 hP => Lib.hid (move_mid hmd hb (w1 := w1) hP)
  have HON := fun vb' w1 hm1 hI hF hl => Lib.hid (Went.since hdr (move_on (vb' := vb') (A1 := some ⟨g1, 0, none⟩) (seed := seed) hf hb (w := w.drew) (w1 := w1) hm1 hI hF hl))
  have HLAST := fun vb' w1 hm1 hI hF hl => Lib.hid (Went.since hdr (move_last (vb' := vb') (A1 := some ⟨g1, 0, none⟩) (seed := seed) hf hb (w := w.drew) (w1 := w1) hm1 hI hF hl))
  have HC := fun W hB => Lib.hid (hcell W hB)
  clear hm hf hc hmd htbd htb hr hv hcell hvl
  go_enter Try.func46, Try.ntmps46
  go_wp2
  go_still_tail 13, (by kernel_rfl)
  change wpList _ _ _ _ _ w.drew
  go_wp2_with fail
  refine HPUT.out.mono ?_
  rintro e w1 ⟨rfl, hP⟩
  obtain ⟨vb', hm1, hI, hF⟩ := (HMID _ hP).out
  obtain ⟨k0, k1, k2, k3, k4, l0, l1, l3, l4⟩ := dict_facts hm1
  obtain ⟨e0, e1⟩ := (HC _ hm1.ta.blk).out
  have HON' := HON vb' w1 hm1 hI hF
  have HLAST' := HLAST vb' w1 hm1 hI hF
  simp only [putL_len] at k1
  clear HON HLAST HC HMID HPUT hm1 hI hF hP hgd
  by_cases hl : D.place + 1 = D.a.length
  · have hl2 : (D.place : Int) + 1 = D.a.length := by omega
    have HL := HLAST' hl
    clear HON' HLAST' hl
    have hl3 := Lib.hid hl2
    have hl4 : ((D.place : Int) + 1 == D.a.length) = true := by rw [hl2]; simp
    clear hl2
    go_wp2
    go_quiet (fail)
    go_wp2
    go_returns
    exact ⟨rfl, HL.out.later ⟨rfl, rfl, rfl, Nat.le_refl _, fun _ _ => rfl⟩⟩
  · have hl2 : ((D.place : Int) + 1 == D.a.length) = false := by rw [beq_eq_false_iff_ne]; omega
    have HL := HON' hl
    clear HON' HLAST' hl
    go_wp2
    go_quiet (fail)
    go_wp2
    go_returns
    exact ⟨rfl, HL.out.later ⟨rfl, rfl, rfl, Nat.le_refl _, fun _ _ => rfl⟩⟩
end
end Go.Proofs.Ytifbambalfifaaa
