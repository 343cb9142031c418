/- Going through replies: the iterator's contract, for every list of replies. -/
import Derived.Test.YtjcgfbmkgfhnaaaDoorCopies
namespace Go.Proofs.YtjcgfbmkgfhnaaaDoor
open Go.RowKit Go.Shelf
attribute [local go_sem] Oper.semAt_some

theorem RoundIn.anyDepth {F : Fence} (hd : F.depth = none) {m m' : Nat} {P : Program} {l : Nat} {f : FuncId} {tmps : Array Value} {assign body : Code} {w : World} {R : Ending → World → Prop}
    (h : RoundIn F m P l f tmps assign body w R) : RoundIn F m' P l f tmps assign body w R := ⟨h.1, fun c cs _ => h.2 c cs (fun d h => by rw [hd] at h; cases h)⟩
theorem YieldAt.anyDepth {F : Fence} (hd : F.depth = none) {m : Nat} (m' : Nat) {P : Program} {l : Nat} {args : Array Value} {W : World} {R : Ending → World → Prop} (h : YieldAt F m P l args W R) : YieldAt F m' P l args W R := by
  obtain ⟨fn, tmps, assign, body, hy, hR⟩ := h
  exact ⟨fn, tmps, assign, body, hy, RoundIn.anyDepth hd hR⟩

theorem Same24.bookkeeping {w : World} (W : World) (l : Nat) (o o' : Obj) (_ : w.heap.size ≤ l) (h : W.heap[l]? = some o) (hc : o.isCells = false) (_ : o.isWalk = false) : Same24 W (W.putObj l o') := fun k c hk => by
  by_cases e : k = l
  · subst e; rw [h] at hk; cases hk; cases hc
  · exact (World.putObj_heap_other e).trans hk
/-- What a round answers. -/
def Round (J Jx : List El → World → Prop) (pre : List El) (x : El) (W : World) (e : Ending) (W' : World) : Prop :=
  (e = .returned (.bool true) ∧ J (pre ++ [x]) W' ∧ Same24 W W') ∨ (e = .returned (.bool false) ∧ Jx (pre ++ [x]) W')

/-- What going through a list answers. -/
def Gone (J Jx : List El → World → Prop) (pre xs : List El) (W : World) (e : Ending) (W' : World) : Prop :=
  (e = .returned (.bool true) ∧ J (pre ++ xs) W' ∧ Same24 W W') ∨ (e = .returned (.bool false) ∧ ∃ q, q <+: xs ∧ Jx (pre ++ q) W')

def Goes (F : Fence) (ok : El → Prop) (l N : Nat) (J Jx : List El → World → Prop) (t : Fo) : Prop :=
  ∀ (n : Nat) (h : Int) (a : Option Addr) (cap : Nat) (pre : List El) (W : World), IsFo anyB W a t → 0 ≤ h → h + t.depth ≤ 1000000 → J pre W → pre.length + (t.flat h).length ≤ N → (∀ x ∈ t.flat h, ok x) →
    CallsIn F n Tryd.prog 28 #[.func (.yield l) #[] #[], .int .i64 h, .slice a t.len cap] W (Gone J Jx pre (t.flat h) W)

set_option maxRecDepth 100000 in
set_option maxHeartbeats 2000000 in
theorem through_step (F : Fence) (hd : F.depth = none) (h28 : F.fn 28) (hro : F.round = none) (ok : El → Prop) (l N B : Nat) (J Jx : List El → World → Prop) (hJ : AbidesFrom B J)
    (hY : ∀ m pre x W, ok x → J pre W → pre.length < N → YieldAt F m Tryd.prog l (El.encs x) W (Round J Jx pre x W)) (t : Fo) (hsub : t.Subs (Goes F ok l N J Jx)) :
    Goes F ok l N J Jx t := by
  intro n h a cap pre W hf hh hdep hj hN hok
  obtain ⟨hlen, g, o, ha, hc⟩ := hf
  have hdd : ∀ k : Nat, (F.depth.isSome = true → 1 ≤ k) := fun k h => by rw [hd] at h; cases h
  refine callsIn_of_wp Tryd.func28 rfl h28 ?_ hro
  simp only [Tryd.ntmps28, List.size_toArray, List.length_cons, List.length_nil, Nat.reduceAdd, Nat.reduceSub, Array.replicate_succ, Array.replicate_zero, List.push_toArray, List.append_toArray, List.nil_append, List.cons_append]
  gi_wp2
  gi_loopw [11] (fun i wr => ∃ (j : Nat) (rest : Fo) (done : List El), i = .int .i64 j ∧ j + rest.len = t.len ∧ t.flat h = done ++ rest.flat h ∧ rest.Subs (Goes F ok l N J Jx) ∧ h + rest.depth ≤ 1000000 ∧ Cells anyB wr g (o + j * 4) rest ∧ Same24 W wr ∧ J (pre ++ done) wr)
    (fun i _ => t.len - (intOf i).toNat)
  case atStart => exact ⟨0, t, [], rfl, by simp, by simp, hsub, hdep, by simpa using hc, Same24.refl _, by simpa using hj⟩
  case round =>
    obtain ⟨j, rest, done, rfl, hl, hfl, hs, hdp, hcr, hb, hjr⟩ := hrel
    cases rest with
    | nil =>
      have hl0 : j = t.len := by simpa [Fo.len] using hl
      gi_wp2
      go_ret
      exact .inl ⟨rfl, by rw [hfl, Fo.flat_nil, List.append_nil]; exact hjr, hb⟩
    | cons k m s a' cap' sub rest =>
      obtain ⟨⟨cc, hcc, c0, c1, c2, c3⟩, ⟨hsl, g', o', ha', hcs⟩, hcr⟩ := hcr
      rw [Fo.len_cons] at hl
      obtain ⟨rfl, _⟩ := ha (by omega)
      replace c0 := (cell_in _ hcc).trans c0
      replace c1 := (cell_in _ hcc).trans c1
      replace c2 := (cell_in _ hcc).trans c2
      replace c3 := (cell_in _ hcc).trans c3
      have hlt : j < t.len := by omega
      rw [Fo.flat_cons] at hfl
      obtain ⟨hsubc, hsr⟩ := hs
      simp only [Fo.depth] at hdp
      have hFs : IsFo anyB wr a' sub := ⟨hsl, g', o', ha', hcs⟩
      have hNl : (t.flat h).length = done.length + (1 + ((sub.flat (h + 1)).length + (rest.flat h).length)) := by rw [hfl]; simp; omega
      obtain ⟨W1, hW1⟩ : ∃ W1, wr.alloc (Obj.cells #[.int .i64 k, .int .i64 m, .string s.1, .slice a' sub.len cap'] 24) = W1 := ⟨_, rfl⟩
      have hk1 : Same24 wr W1 := by rw [← hW1]; exact (Same24.refl _).alloc _
      have hx1 : W1.heap[wr.heap.size]? = some (Obj.cells #[.int .i64 k, .int .i64 m, .string s.1, .slice a' sub.len cap'] 24 (0, 0)) := by rw [← hW1]; exact heap_alloc_new wr _
      have hj1 : J (pre ++ done) W1 := by rw [← hW1]; exact hJ _ _ _ none hjr (World.grownBy_alloc wr _ none) (fun r e => by cases e)
      have hN1 : (pre ++ done).length < N := by rw [List.length_append]; omega
      -- what lies behind the round
      have hy0 := (hY (n - 1) (pre ++ done) ⟨h, k, m, s, a', sub.len, cap'⟩ W1 (hok _ (by rw [hfl]; simp)) hj1 hN1).mono (R' := fun e W2 =>
        (e = .returned (.bool true) ∧ J (pre ++ done ++ [⟨h, k, m, s, a', sub.len, cap'⟩]) W2 ∧ Same24 wr W2 ∧ W2.cell? ⟨wr.heap.size, 3, none⟩ = some (.slice a' sub.len cap') ∧
          CallsIn F (n - 1) Tryd.prog 28 #[.func (.yield l) #[] #[], .int .i64 (h + 1), .slice a' sub.len cap'] W2 (Gone J Jx (pre ++ done ++ [⟨h, k, m, s, a', sub.len, cap'⟩]) (sub.flat (h + 1)) W2)) ∨
        (e = .returned (.bool false) ∧ Jx (pre ++ done ++ [⟨h, k, m, s, a', sub.len, cap'⟩]) W2)) (fun e W2 hr => hr.elim (fun ⟨he, hj2, hk2⟩ => .inl ⟨he, hj2, hk1.trans hk2, by rw [cell_in 3 (hk2.at hx1)]; rfl,
          hsubc (n - 1) (h + 1) a' cap' _ W2 (hFs.same (hk1.trans hk2)) (by omega) (by omega) hj2 (by simp only [List.length_append, List.length_cons, List.length_nil]; omega) (fun x hx => hok x (by rw [hfl]; simp [hx]))⟩) .inr)
      obtain ⟨fn, tmps, assign, body, hy, hR⟩ := hy0
      dsimp only [El.encs] at hy
      have hh1 : h ≤ 1000000 := by omega
      have e0 : W1.cell? ⟨wr.heap.size, 0, none⟩ = some (.int .i64 k) := by rw [cell_in 0 hx1]; rfl
      have e1 : W1.cell? ⟨wr.heap.size, 1, none⟩ = some (.int .i64 m) := by rw [cell_in 1 hx1]; rfl
      have e2 : W1.cell? ⟨wr.heap.size, 2, none⟩ = some (.string s.1) := by rw [cell_in 2 hx1]; rfl
      have e3 : W1.cell? ⟨wr.heap.size, 3, none⟩ = some (.slice a' sub.len cap') := by rw [cell_in 3 hx1]; rfl
      clear hsubc hNl hN1
      gi_wp2_with (first
        | ((try refine ⟨hdd _, ?_⟩); refine hR.mono ?_; clear hR; rintro e W2 (⟨rfl, hJ2, hk2, c2', hT⟩ | ⟨rfl, hx2⟩))
        | ((try refine ⟨hdd _, ?_⟩); gi_at_call 28; refine hT.mono ?_; rintro e W3 (⟨rfl, hJ3, hk3⟩ | ⟨rfl, q, hq, hx3⟩)))
      · -- all of this reply's own list has come: on to the next one
        go_roundw
        case rel =>
          refine ⟨j + 1, rest, done ++ (⟨h, k, m, s, a', sub.len, cap'⟩ :: sub.flat (h + 1)), by go_num, by omega, by rw [hfl]; simp, hsr, by omega, ?_, hb.trans (hk2.trans hk3), ?_⟩
          · have hkb : Same24 wr W3 := hk2.trans hk3
            have : o + (j + 1) * 4 = o + j * 4 + 4 := by omega
            rw [this]
            exact hcr.same hkb
          · have := hJ3
            simpa [List.append_assoc] using this
        case measure => simp [intOf]; omega
      · go_ret
        obtain ⟨r, hr'⟩ := hq
        exact .inr ⟨rfl, done ++ (⟨h, k, m, s, a', sub.len, cap'⟩ :: q), ⟨r ++ rest.flat h, by rw [hfl, ← hr']; simp⟩, by simpa [List.append_assoc] using hx3⟩
      · go_ret
        exact .inr ⟨rfl, done ++ [⟨h, k, m, s, a', sub.len, cap'⟩], ⟨sub.flat (h + 1) ++ rest.flat h, by rw [hfl]; simp⟩, by simpa [List.append_assoc] using hx2⟩

theorem through_in (F : Fence) (hd : F.depth = none) (h28 : F.fn 28) (hro : F.round = none) (ok : El → Prop) (l N B : Nat) (J Jx : List El → World → Prop) (hJ : AbidesFrom B J)
    (hY : ∀ m pre x W, ok x → J pre W → pre.length < N → YieldAt F m Tryd.prog l (El.encs x) W (Round J Jx pre x W)) (t : Fo) : Goes F ok l N J Jx t :=
  (Fo.subs_of (through_step F hd h28 hro ok l N B J Jx hJ hY) t).1

end Go.Proofs.YtjcgfbmkgfhnaaaDoor
