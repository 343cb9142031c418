/- Texts of one kind in one: PkLoops, PkMath, PkRight, PkNth. -/
import Derived.Test.YtpaphfofjfjdlaaGreatQPkA
import Derived.WalkMore
/- What the functions share that range over an iterator: their own boxes, how they leave. -/
namespace Go.Proofs.YtpaphfofjfjdlaaGreat.Pk
open Go.RowKit Go.Shelf
attribute [local go_sem] Oper.semAt_some

theorem res4 {fn : Func} {tmps : Array Value} {W : World} {b k : Nat} {v0 v3 v1 v2 : Value} (hr : fn.results = #[.cell k 166]) (hk : tmps.getD k undef = .pointer (some ⟨b, 0, none⟩)) (hB : Blk W b 166 #[v0, v1, v2, v3]) :
    (results fn tmps).run Tryz.prog W = .ok (.agg #[v0, v1, v2, v3]) W := by
  obtain ⟨e0, e1, e2, e3, f0, f1, f2, f3⟩ := facts4 hB
  have hk2 : tmps[k]?.getD undef = .pointer (some ⟨b, 0, none⟩) := by rw [← Array.getD_eq_getD_getElem?]; exact hk
  simp [results, hr, hk2, go_sem, e0, e1, e2, e3]
theorem res1 {fn : Func} {tmps : Array Value} {W : World} {b k : Nat} {t : TypeId} {v0 : Value} (ht : t = 3 ∨ t = 4) (hr : fn.results = #[.cell k t]) (hk : tmps.getD k undef = .pointer (some ⟨b, 0, none⟩)) (hB : Blk W b t #[v0]) :
    (results fn tmps).run Tryz.prog W = .ok v0 W := by
  obtain ⟨e0, f0⟩ := facts1 hB
  have hk2 : tmps[k]?.getD undef = .pointer (some ⟨b, 0, none⟩) := by rw [← Array.getD_eq_getD_getElem?]; exact hk
  rcases ht with rfl | rfl <;> simp [results, hr, hk2, go_sem, e0]

theorem own_below {β : Type} (B : Nat) (w0 : World) (hB : w0.heap.size ≤ B) : OwnFrom B (fun (_ : β) W => Below w0.heap.size w0 W) := fun _ X Y row hs hg hr =>
  ⟨hg.os.trans hs.os, hg.tape.trans hs.tape, hg.output.trans hs.output, Nat.le_trans hs.size hg.size, fun k hk => (hg.block k (Nat.lt_of_lt_of_le hk hs.size) (fun e => by have := (hr k e.symm).1; omega)).trans (hs.block k hk)⟩
theorem own_blk {β : Type} (B b : Nat) (t : TypeId) (c : β → Array Value) : OwnFrom B (fun s W => Blk W b t (c s)) := fun s X Y row hs hg hr =>
  (hg.block b hs.lt (fun e => by obtain ⟨_, o, ho, hc⟩ := hr b e.symm; rw [show X.heap[b]? = _ from hs] at ho; cases ho; cases hc)).trans hs
theorem own_ex {β γ : Type} {B : Nat} {I : γ → β → World → Prop} (h : ∀ g, OwnFrom B (I g)) : OwnFrom B (fun s W => ∃ g, I g s W) := fun s X Y row ⟨g, hs⟩ hg hr => ⟨g, h g s X Y row hs hg hr⟩
theorem own_pure {β : Type} (B : Nat) (q : β → Prop) : OwnFrom B (fun s (_ : World) => q s) := fun _ _ _ _ h _ _ => h

theorem Blk.put {W : World} {b D : Nat} {t : TypeId} {c : Array Value} (h : Blk W b t c) (o : Obj) (hne : b ≠ D) : Blk (W.putObj D o) b t c := (World.putObj_heap_other hne).trans h
theorem Blk.put' {W : World} {b D : Nat} {t : TypeId} {c : Array Value} {ds : Option (List Deferred)} (h : Blk W b t c) (hD : W.heap[D]? = some (.deferred ds)) (o : Obj) : Blk (W.putObj D o) b t c :=
  h.put o (fun e => by subst e; have := (show W.heap[b]? = _ from h).symm.trans hD; cases this)
theorem leave {fn : Func} {R : Ending → World → Prop} {a : Act} {W : World} {D : Nat} {v : Value} (hd : a.defers = [{ target := .collected D, args := #[] }]) (hD : W.heap[D]? = some (.deferred (some [])))
    (hr : (results fn a.tmps).run Tryz.prog (W.putObj D (.deferred none)) = .ok v (W.putObj D (.deferred none))) (hR : R (.returned v) (W.putObj D (.deferred none))) : bodyPostM Fence.wide 6 Tryz.prog fn R .ret a W := by
  obtain ⟨tmps, ds⟩ := a
  simp only at hd
  subst hd
  exact ⟨by simp, .inl ⟨_, _, rfl, run_takeDeferred hD, ⟨v, hr, hR⟩⟩⟩
theorem below_put {w W : World} {D : Nat} (hb : Below w.heap.size w W) (hn : w.heap.size ≤ D) (o : Obj) : Below w.heap.size w (W.putObj D o) :=
  hb.trans ⟨rfl, rfl, rfl, by simp [World.putObj], fun k hk => World.putObj_heap_other (by omega)⟩

theorem keeps_drew (B : Nat) (W : World) : KeepsFrom B W W.drew := ⟨Nat.le_refl _, fun _ _ _ h _ => h⟩
theorem keepc_drew (L : List Nat) (W : World) : KeepC L W W.drew := ⟨Nat.le_refl _, fun _ _ _ _ _ h => h⟩


end Go.Proofs.YtpaphfofjfjdlaaGreat.Pk
/- The entries of a text, as a list; how the iterators go through it. -/
namespace Go.Proofs.YtpaphfofjfjdlaaGreat.Pk
open Go.RowKit Go.Shelf

theorem ba_ext {a b : ByteArray} (h : a.data.toList = b.data.toList) : a = b := ByteArray.ext (Array.toList_inj.1 h)
theorem size_list (t : ByteArray) : t.data.toList.length = t.size := by rw [Array.length_toList]; rfl

theorem begunS_some {p : ByteArray} {k : Nat} {c : Cut} (h : begunS p k = some c) : 2 ≤ k ∧ c.fr = k ∧ c.to = k + byte p k + 10 ∧ c.to ≤ p.size ∧ byte p k ≤ 64 ∧ c.m = p.extract (k + 1) (k + 1 + byte p k) ∧ c.m.size = byte p k ∧
    c.s = scoreL ((p.data.toList.drop (k + 1 + byte p k)).take 8) := by
  unfold begunS at h
  split at h
  · cases h
  · split at h
    · cases h
    · cases h
      refine ⟨by omega, rfl, rfl, by simp only; omega, by omega, rfl, ?_, rfl⟩
      simp
      omega
theorem begunS_end (p : ByteArray) : begunS p p.size = none := by unfold begunS; rw [if_pos (by omega)]

theorem ended_iff {p : ByteArray} {k : Nat} {c : Cut} (h : begunS p k = some c) : endedS p c.to = some c ↔ byte p (c.to - 1) = c.m.size + 9 := by
  obtain ⟨h2, hf, ht, hs, h64, _, hm, _⟩ := begunS_some h
  unfold endedS begunI
  generalize hb : byte p (c.to - 1) = b
  constructor
  · intro he
    split at he
    · cases he
    · have := (begunS_some he).2.1
      omega
  · intro he
    rw [if_neg (by omega), show ((c.to : Int) - 1 - b).toNat = k by omega]
    exact h

/-- The entries from a place on, so many of them and nothing behind. -/
def goS (p : ByteArray) : Nat → Nat → Option (List Cut)
  | 0, pos => if pos = p.size then some [] else none
  | n + 1, pos => match begunS p pos with
    | none => none
    | some c => if byte p (c.to - 1) = c.m.size + 9 then (goS p n c.to).map (c :: ·) else none
def entriesS (p : ByteArray) : Option (List Cut) := if 0 ≤ countS p then goS p (countS p).toNat 2 else none
def rightB (p : ByteArray) : Bool := (entriesS p).isSome

theorem chain_from (p : ByteArray) : ∀ (n pos : Nat), p.size ≤ pos + n → ∃ xs : List Cut, xs[0]? = begunS p pos ∧ (∀ (i : Nat) (c : Cut), xs[i]? = some c → nextF p c = xs[i + 1]?) ∧ (∀ c ∈ xs, 2 ≤ c.fr ∧ 2 ≤ c.to ∧ c.to ≤ p.size) ∧ xs.length ≤ n
  | 0, pos, h => ⟨[], by unfold begunS; rw [if_pos (by omega)]; rfl, fun i c h => by simp at h, fun c h => by simp at h, Nat.le_refl _⟩
  | n + 1, pos, h => by
    cases hb : begunS p pos with
    | none => exact ⟨[], rfl, fun i c h => by simp at h, fun c h => by simp at h, by simp⟩
    | some c =>
      obtain ⟨h2, hf, ht, hs, h64, _, hm, _⟩ := begunS_some hb
      obtain ⟨xs, h0, hn, ha, hl⟩ := chain_from p n c.to (by omega)
      refine ⟨c :: xs, rfl, fun i d hd => ?_, fun d hd => ?_, by simp; omega⟩
      · cases i with
        | zero => simp at hd; subst hd; rw [show (c :: xs)[0 + 1]? = xs[0]? by simp, h0]; rfl
        | succ i => simp at hd; rw [hn i d hd]; simp
      · rcases List.mem_cons.1 hd with rfl | hd
        · omega
        · exact ha d hd

theorem chain_exists (p : ByteArray) (hp : p.size ≤ 281474976710656) : ∃ xs, Chain (nextF p) (begunS p 2) xs ∧ ∀ c ∈ xs, 2 ≤ c.to ∧ c.to ≤ p.size := by
  obtain ⟨xs, h0, hn, ha, hl⟩ := chain_from p p.size 2 (by omega)
  exact ⟨xs, ⟨h0, hn, fun c h => (ha c h).1, by omega⟩, fun c h => (ha c h).2⟩

/-- Where the bytes of so many entries end. -/
def endOf (xs : List Cut) (i : Nat) : Nat := match i with
  | 0 => 2
  | i + 1 => (xs[i]?.map Cut.to).getD 0
/-- So many entries' backs are right. -/
def GoodTo (p : ByteArray) (xs : List Cut) (i : Nat) : Prop := ∀ (j : Nat) (c : Cut), j < i → xs[j]? = some c → endedS p c.to = some c

theorem chain_at {p : ByteArray} {xs : List Cut} (hc : Chain (nextF p) (begunS p 2) xs) : ∀ i, i ≤ xs.length → begunS p (endOf xs i) = xs[i]?
  | 0, _ => hc.first.symm
  | i + 1, h => by
    have hx : xs[i]? = some (xs[i]'(by omega)) := List.getElem?_eq_getElem (by omega)
    rw [← hc.next i _ hx]
    simp [endOf, hx, nextF]

theorem goS_chain {p : ByteArray} {xs : List Cut} (hc : Chain (nextF p) (begunS p 2) xs) (n : Nat) : ∀ i, i ≤ xs.length → i ≤ n → GoodTo p xs i → goS p n 2 = (goS p (n - i) (endOf xs i)).map (xs.take i ++ ·)
  | 0, _, _, _ => by simp [endOf]
  | i + 1, h, hn, hg => by
    rw [goS_chain hc n i (by omega) (by omega) (fun j c hj hx => hg j c (by omega) hx)]
    have hx : xs[i]? = some (xs[i]'(by omega)) := List.getElem?_eq_getElem (by omega)
    have hb := (chain_at hc i (by omega)).trans hx
    have he := hg i _ (by omega) hx
    rw [ended_iff hb] at he
    obtain ⟨m, hm⟩ : ∃ m, n - i = m + 1 := ⟨n - i - 1, by omega⟩
    rw [hm, show n - (i + 1) = m by omega]
    have e1 : endOf xs (i + 1) = (xs[i]'(by omega)).to := by simp [endOf, hx]
    rw [e1, goS.eq_def]
    simp only [hb, if_pos he, Option.map_map]
    congr 1
    funext l
    show List.take i xs ++ (xs[i] :: l) = List.take (i + 1) xs ++ l
    rw [List.take_succ_eq_append_getElem (show i < xs.length by omega), List.append_assoc]
    rfl

theorem countS_range (p : ByteArray) : -1 ≤ countS p ∧ countS p ≤ 200 := by
  unfold countS
  split
  · omega
  · split <;> omega

theorem right_ans {p : ByteArray} {xs : List Cut} (hc : Chain (nextF p) (begunS p 2) xs) (i : Nat) (hg : GoodTo p xs i) (hl : i ≤ xs.length) (h1 : i = xs.length ∨ countS p ≤ i) (h2 : i = 0 ∨ (i : Int) ≤ countS p) :
    rightB p = (decide ((i : Int) = countS p) && decide ((endOf xs i : Int) = p.size)) := by
  unfold rightB entriesS
  have := countS_range p
  by_cases hn : 0 ≤ countS p
  · rw [if_pos hn, goS_chain hc _ i hl (by omega) hg]
    by_cases hi : (i : Int) = countS p
    · rw [show (countS p).toNat - i = 0 by omega]
      unfold goS
      by_cases he : endOf xs i = p.size
      · simp [hi, he]
      · have he2 : ¬ ((endOf xs i : Int) = p.size) := by omega
        simp [he, he2]
    · obtain ⟨m, hm⟩ : ∃ m, (countS p).toNat - i = m + 1 := ⟨(countS p).toNat - i - 1, by omega⟩
      have hi2 : i = xs.length := by omega
      rw [hm, goS.eq_def]
      simp only [chain_at hc i hl, List.getElem?_eq_none (show xs.length ≤ i by omega)]
      simp [hi]
  · rw [if_neg hn]
    have hi : ¬ (i : Int) = countS p := by omega
    simp [hi]

theorem right_false {p : ByteArray} {xs : List Cut} (hc : Chain (nextF p) (begunS p 2) xs) (i : Nat) (c : Cut) (hg : GoodTo p xs i) (hx : xs[i]? = some c) (he : endedS p c.to ≠ some c) (hn : (i : Int) < countS p) : rightB p = false := by
  unfold rightB entriesS
  have hl : i < xs.length := (List.getElem?_eq_some_iff.1 hx).1
  rw [if_pos (by omega), goS_chain hc _ i (by omega) (by omega) hg]
  obtain ⟨m, hm⟩ : ∃ m, (countS p).toNat - i = m + 1 := ⟨(countS p).toNat - i - 1, by omega⟩
  have hb := (chain_at hc i (by omega)).trans hx
  rw [ne_eq, ended_iff hb] at he
  rw [hm, goS.eq_def]
  simp only [hb, if_neg he]
  simp

/-- The list of a pack's entries. -/
theorem goS_some {p : ByteArray} : ∀ (n pos : Nat) (cs : List Cut), goS p n pos = some cs → cs.length = n ∧ cs[0]? = begunS p pos ∧ (∀ (i : Nat) (c : Cut), cs[i]? = some c → nextF p c = cs[i + 1]?) ∧
    (∀ c ∈ cs, 2 ≤ c.fr ∧ 2 ≤ c.to ∧ c.to ≤ p.size ∧ c.fr ≤ p.size ∧ endedS p c.to = some c) ∧ ((cs.getLast?.map Cut.to).getD pos = p.size)
  | 0, pos, cs, h => by
    unfold goS at h
    split at h
    · next he => cases h; refine ⟨rfl, by rw [he, begunS_end]; rfl, fun i c h => by simp at h, fun c h => by simp at h, by simpa using he⟩
    · cases h
  | n + 1, pos, cs, h => by
    rw [goS.eq_def] at h
    cases hb : begunS p pos with
    | none => simp [hb] at h
    | some c =>
      simp only [hb] at h
      split at h
      · next he =>
        obtain ⟨l, hl, rfl⟩ := Option.map_eq_some_iff.1 h
        obtain ⟨i1, i2, i3, i4, i5⟩ := goS_some n c.to l hl
        obtain ⟨h2, hf, ht, hs, h64, _, hm, _⟩ := begunS_some hb
        refine ⟨by simp [i1], rfl, fun i d hd => ?_, fun d hd => ?_, ?_⟩
        · cases i with
          | zero => simp at hd; subst hd; rw [show (c :: l)[0 + 1]? = l[0]? by simp, i2]; rfl
          | succ i => simp at hd; rw [i3 i d hd]; simp
        · rcases List.mem_cons.1 hd with rfl | hd
          · exact ⟨by omega, by omega, by omega, by omega, (ended_iff hb).2 he⟩
          · exact i4 d hd
        · cases l with
          | nil => simpa using i5
          | cons d l =>
            rw [List.getLast?_cons_cons]
            obtain ⟨y, hy⟩ : ∃ y, (d :: l).getLast? = some y := ⟨_, List.getLast?_eq_some_getLast (by simp)⟩
            rw [hy] at i5 ⊢
            exact i5
      · cases h
end Go.Proofs.YtpaphfofjfjdlaaGreat.Pk
/- Right. -/
namespace Go.Proofs.YtpaphfofjfjdlaaGreat.Pk
open Go.RowKit Go.Shelf
attribute [local go_sem] Oper.semAt_some

theorem toList_loop (s : ByteArray) : ∀ (n i : Nat) (acc : List UInt8), s.size - i = n → ByteArray.toList.loop s i acc = acc.reverse ++ s.data.toList.drop i
  | 0, i, acc, h => by
    unfold ByteArray.toList.loop
    rw [if_neg (by omega), List.drop_of_length_le (by rw [Array.length_toList]; show s.size ≤ i; omega), List.append_nil]
  | n + 1, i, acc, h => by
    unfold ByteArray.toList.loop
    have hi : i < s.data.toList.length := by rw [Array.length_toList]; show i < s.size; omega
    rw [if_pos (by omega), toList_loop s n (i + 1) _ (by omega), List.reverse_cons, List.append_assoc, List.drop_eq_getElem_cons hi]
    congr 2
    rw [show s.get! i = s.data[i]! from rfl]
    simp [getElem!_def, show s.data[i]? = some (s.data[i]'hi) from Array.getElem?_eq_getElem _]
theorem toList_inj (s t : ByteArray) (h : s.toList = t.toList) : s = t := by
  have hl : ∀ x : ByteArray, x.toList = x.data.toList := fun x => by unfold ByteArray.toList; rw [toList_loop x _ 0 [] rfl]; simp
  rw [hl, hl] at h
  exact ByteArray.ext (Array.toList_inj.1 h)
theorem neq_cut (o : Option Cut) (x : Cut) (h2 : 2 ≤ x.fr) (h : o ≠ some x) (W : World) : (binOp .neq 166 (cutV o) x.val).run Tryz.prog W = .ok (.bool true) W := by
  obtain ⟨m', s', f', t'⟩ := x
  cases o with
  | none =>
    simp [cutV, noCut, Cut.val, go_sem]
    simp at h2
    omega
  | some a =>
    obtain ⟨m, s, f, t⟩ := a
    simp only [ne_eq, Option.some.injEq, Cut.mk.injEq, not_and] at h
    simp [cutV, Cut.val, go_sem]
    intro h1 h3 h4 h5
    refine h ?_ h3 (by omega) (by omega)
    obtain ⟨⟨m⟩⟩ := m
    obtain ⟨⟨m'⟩⟩ := m'
    exact (toList_inj _ _ h1)
theorem neq_self (a : Cut) (W : World) : (binOp .neq 166 a.val a.val).run Tryz.prog W = .ok (.bool false) W := by
  simp [Cut.val, go_sem]

theorem two_sets {W5 : World} {b4 b5 : Nat} {x4 x5 v4 v5 : Value} {L : List Nat} (h4 : Blk W5 b4 3 #[x4]) (h5 : Blk W5 b5 3 #[x5]) (hne : b4 ≠ b5) (m4 : b4 ∈ L) (m5 : b5 ∈ L) (B n0 : Nat) (hn4 : n0 ≤ b4) (hn5 : n0 ≤ b5) :
    KeepsFrom B W5 ((W5.setCell ⟨b4, 0, none⟩ v4).setCell ⟨b5, 0, none⟩ v5).drew ∧ KeepC L W5 ((W5.setCell ⟨b4, 0, none⟩ v4).setCell ⟨b5, 0, none⟩ v5).drew ∧ Below n0 W5 ((W5.setCell ⟨b4, 0, none⟩ v4).setCell ⟨b5, 0, none⟩ v5).drew ∧
    Blk ((W5.setCell ⟨b4, 0, none⟩ v4).setCell ⟨b5, 0, none⟩ v5).drew b4 3 #[v4] ∧ Blk ((W5.setCell ⟨b4, 0, none⟩ v4).setCell ⟨b5, 0, none⟩ v5).drew b5 3 #[v5] ∧
    (∀ k, k ≠ b4 → k ≠ b5 → ((W5.setCell ⟨b4, 0, none⟩ v4).setCell ⟨b5, 0, none⟩ v5).drew.heap[k]? = W5.heap[k]?) := by
  have a4 := (h4.set 0 v4).setOther 0 v5 hne
  have a5 := (h5.setOther 0 v4 (Ne.symm hne)).set 0 v5
  refine ⟨((KeepsOthers.setCell _ _ _).from _).trans (((KeepsOthers.setCell _ _ _).from _).trans (keeps_drew _ _)), (KeepC.set _ _ _ _ m4).trans ((KeepC.set _ _ _ _ m5).trans (keepc_drew _ _)),
    (((Below.refl n0 W5).setCell (p := ⟨b4, 0, none⟩) hn4 v4).setCell (p := ⟨b5, 0, none⟩) hn5 v5).drew, a4, a5, fun k k4 k5 => ?_⟩
  show ((W5.setCell ⟨b4, 0, none⟩ v4).setCell ⟨b5, 0, none⟩ v5).heap[k]? = _
  rw [Below.heap_setCell _ _ _ _ k5, Below.heap_setCell _ _ _ _ k4]

set_option maxRecDepth 100000 in
set_option maxHeartbeats 4000000 in
theorem right_walk (p : ByteArray) (hp : p.size ≤ 281474976710656) (xs : List Cut) (hc : Chain (nextF p) (begunS p 2) xs) (hx : ∀ c ∈ xs, 2 ≤ c.to ∧ c.to ≤ p.size) (ans : Bool) 
    (hT : ∀ (i : Nat), GoodTo p xs i → i ≤ xs.length → (i = xs.length ∨ countS p ≤ i) → (i = 0 ∨ (i : Int) ≤ countS p) → ans = (decide ((i : Int) = countS p) && decide ((endOf xs i : Int) = p.size)))
    (hF : ∀ (i : Nat) (c : Cut), GoodTo p xs i → xs[i]? = some c → endedS p c.to ≠ some c → (i : Int) < countS p → ans = false) (w : World) :
    Calls Tryz.prog 75 #[.string p] w fun e w' => e = .returned (.bool ans) ∧ Below w.heap.size w w' := by
  have HN := fun w => Lib.hid (count_any p hp w)
  have HF := fun w => Lib.hid (forth_any p hp xs hc (fun c h => (hx c h).2) w)
  have HE := fun to h0 h1 w => Lib.hid (ended_any p hp to h0 h1 w)
  have HT := Lib.hid hT
  have HFF := Lib.hid hF
  have hn0 : -1 ≤ countS p ∧ countS p ≤ 200 := by unfold countS; split; omega; split <;> omega
  have hc2 := hc.two
  clear hT hF hc
  generalize countS p = n at *
  refine (callsIn_wide (n := 6)).1 (callsIn_of_wp_marks Tryz.func75 rfl trivial ?_ rfl)
  refine wpIn_wide.2 ?_
  simp only [Tryz.ntmps75, List.size_toArray, List.length_cons, List.length_nil, Nat.reduceAdd, Nat.reduceSub, Array.replicate_succ, Array.replicate_zero, List.push_toArray, List.append_toArray, List.nil_append, List.cons_append]
  go_wp2_with fail
  go_step3
  go_wp2_with fail
  refine (HN _).out.mono ?_
  rintro e w1 ⟨rfl, hb1⟩
  have k1 := ((Blk.new w 9 #[Value.string p]).alloc (Obj.cells #[Value.bool false] 4)).later hb1
  have k2 := (Blk.new (w.alloc (Obj.cells #[Value.string p] 9)) 4 #[Value.bool false]).later hb1
  rw [World.size_alloc] at k2
  have hB := (((Below.refl w.heap.size w).alloc (Nat.le_refl _) (Obj.cells #[Value.string p] 9)).alloc (by simp) (Obj.cells #[Value.bool false] 4)).trans (hb1.mono (by simp; omega))
  clear HN hb1
  have k1' := (((k1.alloc (Obj.cells #[Value.int IntKind.i64 n] 3)).alloc (Obj.cells #[Value.int IntKind.i64 0] 3)).alloc (Obj.cells #[Value.int IntKind.i64 2] 3))
  have k2' := (((k2.alloc (Obj.cells #[Value.int IntKind.i64 n] 3)).alloc (Obj.cells #[Value.int IntKind.i64 0] 3)).alloc (Obj.cells #[Value.int IntKind.i64 2] 3))
  have k3' := ((Blk.new w1 3 #[Value.int IntKind.i64 n]).alloc (Obj.cells #[Value.int IntKind.i64 0] 3)).alloc (Obj.cells #[Value.int IntKind.i64 2] 3)
  have k4' := (Blk.new (w1.alloc (Obj.cells #[Value.int IntKind.i64 n] 3)) 3 #[Value.int IntKind.i64 0]).alloc (Obj.cells #[Value.int IntKind.i64 2] 3)
  have k5' := (Blk.new ((w1.alloc (Obj.cells #[Value.int IntKind.i64 n] 3)).alloc (Obj.cells #[Value.int IntKind.i64 0] 3)) 3 #[Value.int IntKind.i64 2])
  simp only [World.size_alloc] at k4' k5'
  have hB' := (((hB.alloc hB.size (Obj.cells #[Value.int IntKind.i64 n] 3)).alloc (by have := hB.size; simp; omega) (Obj.cells #[Value.int IntKind.i64 0] 3)).alloc (by have := hB.size; simp; omega) (Obj.cells #[Value.int IntKind.i64 2] 3))
  have hsz : ((((w1.alloc (Obj.cells #[Value.int IntKind.i64 n] 3)).alloc (Obj.cells #[Value.int IntKind.i64 0] 3)).alloc (Obj.cells #[Value.int IntKind.i64 2] 3))).heap.size = w1.heap.size + 3 := by simp
  have e1 := (facts1 k1').1
  have hw1 : w.heap.size + 1 < w1.heap.size := k2.lt
  clear k1 k2
  go_wp2_with fail
  go_step3
  go_wp2_with fail
  refine (HF _).out.mono ?_
  rintro e w2 ⟨v, rfl, ⟨lb, rfl, hG⟩, hb2⟩
  clear HF e1
  go_wp2
  have k1 := k1'.later hb2
  have k2 := k2'.later hb2
  have k3 := k3'.later hb2
  have k4 := k4'.later hb2
  have k5 := k5'.later hb2
  have hB2 := hB'.trans (hb2.mono hB'.size)
  have hsz2 := hb2.size
  rw [hsz] at hsz2 hG
  clear k1' k2' k3' k4' k5' hB' hb2
  have hseq := hG [w.heap.size + 1, w1.heap.size + 1, w1.heap.size + 1 + 1] w2 (Below.refl _ _) (by intro k hk; simp at hk; omega)
  refine (wpIn_wide (n := 6)).1 (range_x (gf := 109) (lb := lb) (encs := encC) (xs := xs) (L := [w.heap.size + 1, w1.heap.size + 1, w1.heap.size + 1 + 1]) rfl (enters_of Tryz.func109 (by kernel_rfl) rfl) hseq (fun _ _ => rfl)
    (fun i W => Below w.heap.size w W ∧ Blk W w.heap.size 9 #[.string p] ∧ Blk W (w.heap.size + 1) 4 #[.bool false] ∧ Blk W w1.heap.size 3 #[.int .i64 n] ∧ Blk W (w1.heap.size + 1) 3 #[.int .i64 (i : Int)] ∧ Blk W (w1.heap.size + 1 + 1) 3 #[.int .i64 (endOf xs i : Int)] ∧ GoodTo p xs i ∧ i ≤ xs.length ∧ (i = 0 ∨ (i : Int) ≤ n))
    (fun c j W => match c with
      | .exit id => ∃ i, (id = 0 ∧ j = i + 1) ∧ Below w.heap.size w W ∧ Blk W w.heap.size 9 #[.string p] ∧ Blk W (w.heap.size + 1) 4 #[.bool false] ∧ Blk W w1.heap.size 3 #[.int .i64 n] ∧ Blk W (w1.heap.size + 1) 3 #[.int .i64 (i : Int)] ∧ Blk W (w1.heap.size + 1 + 1) 3 #[.int .i64 (endOf xs i : Int)] ∧ GoodTo p xs i ∧ i ≤ xs.length ∧ (i = 0 ∨ (i : Int) ≤ n) ∧ n ≤ i
      | .ret => Below w.heap.size w W ∧ Blk W (w.heap.size + 1) 4 #[.bool false] ∧ ans = false
      | _ => False)
    ?hI ?hIx ?h0 (fun i x a' W => ∃ q, a' = { tmps := #[Value.string p, Value.pointer (some { block := w.heap.size, off := 0 }),
          Value.pointer (some { block := w.heap.size + 1, off := 0 }), Value.pointer (some { block := w1.heap.size, off := 0 }),
          Value.pointer (some { block := w1.heap.size + 1, off := 0 }), Value.pointer (some { block := w1.heap.size + 1 + 1, off := 0 }), Value.int IntKind.i64 i,
          Value.pointer (some { block := q, off := 0 }), Value.string p, Value.int IntKind.i64 n,
          Value.string p, Value.func (Fn.func 109) #[] lb, Value.int IntKind.i64 i,
          Value.agg #[Value.string x.m, Value.int IntKind.i64 x.s, Value.int IntKind.i64 x.fr, Value.int IntKind.i64 x.to],
          undef, undef, undef, undef, undef, undef, undef, undef, undef, undef, undef, undef, undef, undef, undef,
          undef, undef, undef, undef, undef, undef, undef, undef, undef], defers := [] } ∧ Blk W q 166 #[.string x.m, .int .i64 x.s, .int .i64 x.fr, .int .i64 x.to])
    (fun _ _ _ => own_ex fun _ => (own_pure _ _).and (own_blk _ _ _ _)) ?assign ?body ?done ?stop)
  case hI => exact (own_below _ w (by omega)).and ((own_blk _ _ _ _).and ((own_blk _ _ _ _).and ((own_blk _ _ _ _).and ((own_blk _ _ _ (fun i : Nat => #[.int .i64 (i : Int)])).and ((own_blk _ _ _ (fun i : Nat => #[.int .i64 (endOf xs i : Int)])).and (own_pure _ _))))))
  case hIx =>
    intro c
    cases c with
    | exit id => exact own_ex fun i => (own_pure _ _).and ((own_below _ w (by omega)).and ((own_blk _ _ _ _).and ((own_blk _ _ _ _).and ((own_blk _ _ _ _).and ((own_blk _ _ _ _).and ((own_blk _ _ _ _).and (own_pure _ _)))))))
    | ret => exact (own_below _ w (by omega)).and ((own_blk _ _ _ _).and (own_pure _ _))
    | _ => exact own_pure _ _
  case h0 => exact ⟨hB2, k1, k2, k3, k4, k5, fun j c hj => by omega, Nat.zero_le _, .inl rfl⟩
  case assign =>
    rintro l i x W K hx' ⟨hb, q1, q2, q3, q4, q5, hgd⟩ hK
    clear hseq HE hG
    unfold encC Cut.val
    gi_wp2
    have hbw := (Below.refl W.heap.size W).alloc (Nat.le_refl _) (Obj.cells #[Value.string x.m, Value.int IntKind.i64 x.s, Value.int IntKind.i64 x.fr, Value.int IntKind.i64 x.to] 166)
    exact hK _ _ ((KeepsOthers.alloc _ _).from _) (KeepC.of_below hbw) ⟨hb.alloc hb.size _, q1.alloc _, q2.alloc _, q3.alloc _, q4.alloc _, q5.alloc _, hgd⟩ ⟨_, rfl, Blk.new _ _ _⟩
  case body =>
    rintro l i x a' W hx' ⟨hb, q1, q2, q3, q4, q5, hgd⟩ ⟨q, rfl, q6⟩
    clear hseq hG
    have hmem := List.mem_of_getElem? hx'
    obtain ⟨ht0, ht1⟩ := hx x hmem
    obtain ⟨c1, _⟩ := facts1 q1
    obtain ⟨c2, f2⟩ := facts1 q2
    obtain ⟨c3, _⟩ := facts1 q3
    obtain ⟨c4, f4⟩ := facts1 q4
    obtain ⟨c5, f5⟩ := facts1 q5
    obtain ⟨d0, d1, d2, d3, _⟩ := facts4 q6
    by_cases hni : n ≤ i
    · gi_wp2
      exact ⟨KeepsFrom.refl _ _, i, ⟨rfl, rfl⟩, hb, q1, q2, q3, q4, q5, hgd.1, hgd.2.1, hgd.2.2, hni⟩
    · have HE' := fun w => Lib.hid ((HE x.to (by omega) ht1 w).out)
      have hmix : Tryz.prog.follows .mixedOrders = true := by kernel_rfl
      have hil : i < xs.length := (List.getElem?_eq_some_iff.1 hx').1
      by_cases hg : endedS p x.to = some x
      · have hgd1 : GoodTo p xs (i + 1) := fun j c hj hc => by
          by_cases e : j = i
          · subst e; rw [hx'] at hc; cases hc; exact hg
          · exact hgd.1 j c (by omega) hc
        have hend : ∀ W, Blk W (w1.heap.size + 1 + 1) 3 #[.int .i64 (x.to : Int)] → Blk W (w1.heap.size + 1 + 1) 3 #[.int .i64 (endOf xs (i + 1) : Int)] := fun W h => by
          rw [show endOf xs (i + 1) = x.to by simp [endOf, hx']]; exact h
        have hne := neq_self x
        rw [hg] at HE'
        unfold cutV Cut.val at HE'
        unfold Cut.val at hne
        have hi9 : (0 : Int) ≤ i := by omega
        have hw9 : IntKind.i64.wrap ((i : Int) + 1) = (i : Int) + 1 := IntWalk.i64_in _ (by omega)
        have hin : (i : Int) < n := by omega
        have hi2 : (i : Int) < 200 := by omega
        gi_wp2
        gi_region_with_o ((try refine ⟨trivial, ?_⟩); gi_at_call 89; refine (CallsIn.inRound l (callsIn_wide.2 (HE' _).out)).mono ?_; rintro e W5 ⟨rfl, hb5⟩; obtain ⟨d50, d51, d52, d53, _⟩ := facts4 (q6.drew.later hb5))
        all_goals (
          have m1 := q1.drew.later hb5
          have m2 := q2.drew.later hb5
          have m3 := q3.drew.later hb5
          have m4 := q4.drew.later hb5
          have m5 := q5.drew.later hb5
          have m6 := q6.drew.later hb5
          have hq4 : q ≠ w1.heap.size + 1 := fun e => by subst e; have := (show W.heap[w1.heap.size + 1]? = _ from q6).symm.trans q4; simp at this
          have hq5 : q ≠ w1.heap.size + 1 + 1 := fun e => by subst e; have := (show W.heap[w1.heap.size + 1 + 1]? = _ from q6).symm.trans q5; simp at this
          obtain ⟨c4, f4⟩ := facts1 m4
          obtain ⟨c5, f5⟩ := facts1 m5
          have hbW : Below W.heap.size W W5 := (Below.refl W.heap.size W).drew.trans (show Below W.heap.size W.drew W5 from hb5)
          have hb5' : Below w.heap.size w W5 := hb.drew.trans (hb5.mono (by have := hb.size; simpa using this))
          have hk5 : KeepC [w.heap.size + 1, w1.heap.size + 1, w1.heap.size + 1 + 1] W W5 := KeepC.of_below hbW
          have hkf : KeepsFrom w2.heap.size W W5 := KeepsFrom.of_grownBy (row := none) (below_grown hbW) (fun _ h => by cases h)
          have H1 := Lib.hid m1
          have H2 := Lib.hid m2
          have H3 := Lib.hid m3
          have H4 := Lib.hid m4
          have H5 := Lib.hid m5
          have HB := Lib.hid hb5'
          have HK := Lib.hid hk5
          have HKF := Lib.hid hkf
          clear m1 m2 m3 m4 m5 hb5' hk5 hkf HE HE'
          gi_wp2
          gi_region_with_o (fail)
          all_goals gi_wp2
          all_goals (
            obtain ⟨z1, z2, z3, z4, z5, z6⟩ := two_sets (L := [w.heap.size + 1, w1.heap.size + 1, w1.heap.size + 1 + 1]) (v4 := .int .i64 ((i : Int) + 1)) (v5 := .int .i64 (x.to : Int)) H4.out H5.out (by omega) (by simp) (by simp) w2.heap.size w.heap.size (by omega) (by omega)
            exact ⟨HKF.out.trans z1, HK.out.trans z2, HB.out.trans z3, (z6 _ (by omega) (by omega)).trans H1.out, (z6 _ (by omega) (by omega)).trans H2.out, (z6 _ (by omega) (by omega)).trans H3.out, z4, hend _ z5, hgd1, by omega, .inr (by omega)⟩))
      · have hne := neq_cut _ x (hc2 x hmem) hg
        have hfalse := HFF.out i x hgd.1 hx' hg (by omega)
        obtain ⟨m, s, f, t, hsh⟩ := cutV_shape (endedS p x.to)
        rw [hsh] at HE' hne
        unfold Cut.val at hne
        clear hsh
        gi_wp2
        gi_region_with_o ((try refine ⟨trivial, ?_⟩); gi_at_call 89; refine (CallsIn.inRound l (callsIn_wide.2 (HE' _).out)).mono ?_; rintro e W5 ⟨rfl, hb5⟩; obtain ⟨d50, d51, d52, d53, _⟩ := facts4 (q6.drew.later hb5))
        all_goals (
          have m2 := q2.drew.later hb5
          obtain ⟨c2, f2⟩ := facts1 m2
          have hbW : Below W.heap.size W W5 := (Below.refl W.heap.size W).drew.trans (show Below W.heap.size W.drew W5 from hb5)
          have hb5' : Below w.heap.size w W5 := hb.trans (hbW.mono hb.size)
          have hkf : KeepsFrom w2.heap.size W W5 := KeepsFrom.of_grownBy (row := none) (below_grown hbW) (fun _ h => by cases h)
          have H2 := Lib.hid m2
          have HB := Lib.hid hb5'
          have HKF := Lib.hid hkf
          clear m2 hb5' hkf HE HE'
          gi_wp2
          exact ⟨HKF.out.trans ((KeepsOthers.setCell _ _ _).from _), HB.out.setCell (p := ⟨w.heap.size + 1, 0, none⟩) (by simp) _, H2.out.set 0 _, hfalse⟩)
  case done =>
    rintro D W hD ⟨hb, q1, q2, q3, q4, q5, hgd⟩ hK
    have hans := HT.out xs.length hgd.1 (Nat.le_refl _) (.inl rfl) hgd.2.2
    clear hseq hG HE
    obtain ⟨c1, _⟩ := facts1 q1
    obtain ⟨c2, f2⟩ := facts1 q2
    obtain ⟨c3, _⟩ := facts1 q3
    obtain ⟨c4, f4⟩ := facts1 q4
    obtain ⟨c5, f5⟩ := facts1 q5
    have Q2 := Lib.hid q2
    have HK := Lib.hid hK
    have HA := Lib.hid hans
    generalize endOf xs xs.length = en at *
    clear hK q2 hans
    simp only [Exit.inBlock, Exit.then]
    go_wp2
    all_goals (
      have hD' : ∀ v, (W.setCell ⟨w.heap.size + 1, 0, none⟩ v).heap[D]? = some (.deferred (some [])) := fun v => (Below.heap_setCell _ _ _ _ (by simp; omega)).trans HK.out
      refine leave rfl (hD' _) (res1 (.inr rfl) Tryz.results75 rfl ((Q2.out.set 0 _).put' (hD' _) _)) ⟨?_, below_put (hb.setCell (p := ⟨w.heap.size + 1, 0, none⟩) (by simp) _) (by omega) _⟩
      rw [HA.out]
      first
        | (have h1 : ((xs.length : Nat) : Int) = n := by (first | assumption | omega)
           simp [h1, Bool.beq_eq_decide_eq]; done)
        | (have h1 : ¬ ((xs.length : Nat) : Int) = n := by (first | assumption | omega)
           simp [h1]; done)
        | (simp_all; done)
        | trace_state)
  case stop =>
    rintro D c j W hD hI hK
    cases c with
    | ret =>
      obtain ⟨hb, q2, hf⟩ := hI
      clear hseq hG HE
      have Q2 := Lib.hid q2
      have HK := Lib.hid hK
      clear hK q2
      refine wpIn_wide.2 ?_
      go_wp2
      refine leave rfl HK.out (res1 (.inr rfl) Tryz.results75 rfl (Q2.out.put' HK.out _)) ⟨by rw [hf], below_put hb (by omega) _⟩
    | exit id =>
      obtain ⟨i, ⟨rfl, rfl⟩, hb, q1, q2, q3, q4, q5, hgd⟩ := hI
      have hans := HT.out i hgd.1 hgd.2.1 (.inr hgd.2.2.2) hgd.2.2.1
      clear hseq hG HE
      obtain ⟨c1, _⟩ := facts1 q1
      obtain ⟨c2, f2⟩ := facts1 q2
      obtain ⟨c3, _⟩ := facts1 q3
      obtain ⟨c4, f4⟩ := facts1 q4
      obtain ⟨c5, f5⟩ := facts1 q5
      have Q2 := Lib.hid q2
      have HK := Lib.hid hK
      have HA := Lib.hid hans
      generalize endOf xs i = en at *
      clear hK q2 hans
      refine wpIn_wide.2 ?_
      go_wp2
      all_goals (
        have hD' : ∀ v, (W.setCell ⟨w.heap.size + 1, 0, none⟩ v).heap[D]? = some (.deferred (some [])) := fun v => (Below.heap_setCell _ _ _ _ (by simp; omega)).trans HK.out
        refine leave rfl (hD' _) (res1 (.inr rfl) Tryz.results75 rfl ((Q2.out.set 0 _).put' (hD' _) _)) ⟨?_, below_put (hb.setCell (p := ⟨w.heap.size + 1, 0, none⟩) (by simp) _) (by omega) _⟩
        rw [HA.out]
        first
          | (have h1 : ((i : Nat) : Int) = n := by (first | assumption | omega)
             simp [h1, Bool.beq_eq_decide_eq]; done)
          | (have h1 : ¬ ((i : Nat) : Int) = n := by (first | assumption | omega)
             simp [h1]; done)
          | (simp_all; done)
          | trace_state)
    | _ => exact hI.elim

theorem right_any (p : ByteArray) (hp : p.size ≤ 281474976710656) (w : World) :
    Calls Tryz.prog 75 #[.string p] w fun e w' => e = .returned (.bool (rightB p)) ∧ Below w.heap.size w w' := by
  obtain ⟨xs, hc, hx⟩ := chain_exists p hp
  exact right_walk p hp xs hc hx _ (fun i hg hl h1 h2 => right_ans hc i hg hl h1 h2) (fun i c hg hx he hn => right_false hc i c hg hx he hn) w

end Go.Proofs.YtpaphfofjfjdlaaGreat.Pk
/- nth and Find. -/
namespace Go.Proofs.YtpaphfofjfjdlaaGreat.Pk
open Go.RowKit Go.Shelf
attribute [local go_sem] Oper.semAt_some

/-- The cut behind the last one. -/
def atEnd (p : ByteArray) : Value := .agg #[.string ⟨#[]⟩, .int .i64 0, .int .i64 p.size, .int .i64 p.size]

set_option maxRecDepth 100000 in
set_option maxHeartbeats 4000000 in
theorem nth_walk (p : ByteArray) (hp : p.size ≤ 281474976710656) (xs : List Cut) (hc : Chain (nextF p) (begunS p 2) xs) (hx : ∀ c ∈ xs, c.to ≤ p.size) (k : Nat) (hk : k ≤ 1000) (ans : Value) 
    (h1 : ∀ c, xs[k]? = some c → ans = c.val) (h2 : xs[k]? = none → ans = atEnd p) (w : World) :
    Calls Tryz.prog 154 #[.string p, .int .i64 k] w fun e w' => e = .returned ans ∧ Below w.heap.size w w' := by
  have HF := fun w => Lib.hid (forth_any p hp xs hc hx w)
  have H1 := Lib.hid h1
  have H2 := Lib.hid h2
  have hmany := hc.many
  clear h1 h2 hc
  refine (callsIn_wide (n := 6)).1 (callsIn_of_wp_marks Tryz.func154 rfl trivial ?_ rfl)
  refine wpIn_wide.2 ?_
  simp only [Tryz.ntmps154, List.size_toArray, List.length_cons, List.length_nil, Nat.reduceAdd, Nat.reduceSub, Array.replicate_succ, Array.replicate_zero, List.push_toArray, List.append_toArray, List.nil_append, List.cons_append]
  go_wp2_with fail
  refine (HF _).out.mono ?_
  rintro e w1 ⟨v, rfl, ⟨lb, rfl, hG⟩, hb1⟩
  clear HF
  have k1 := ((Blk.new w 3 #[Value.int IntKind.i64 k]).alloc (Obj.cells #[Value.string { data := #[] }, Value.int IntKind.i64 0, Value.int IntKind.i64 0, Value.int IntKind.i64 0] 166)).later hb1
  have k2 := (Blk.new (w.alloc (Obj.cells #[Value.int IntKind.i64 k] 3)) 166 #[Value.string { data := #[] }, Value.int IntKind.i64 0, Value.int IntKind.i64 0, Value.int IntKind.i64 0]).later hb1
  rw [World.size_alloc] at k2
  have hB := (((Below.refl w.heap.size w).alloc (Nat.le_refl _) (Obj.cells #[Value.int IntKind.i64 k] 3)).alloc (by simp) (Obj.cells #[Value.string { data := #[] }, Value.int IntKind.i64 0, Value.int IntKind.i64 0, Value.int IntKind.i64 0] 166)).trans (hb1.mono (by simp; omega))
  have hsz1 := hb1.size
  simp only [World.size_alloc] at hsz1 hG
  clear hb1
  go_wp2
  have hseq := hG [w.heap.size + 1] w1 (Below.refl _ _) (by intro k hk; simp at hk; omega)
  refine (wpIn_wide (n := 6)).1 (range_x (gf := 109) (lb := lb) (encs := encC) (xs := xs) (L := [w.heap.size + 1]) rfl (enters_of Tryz.func109 (by kernel_rfl) rfl) hseq (fun _ _ => rfl)
    (fun i W => Below w.heap.size w W ∧ Blk W w.heap.size 3 #[.int .i64 (k : Int)] ∧ Blk W (w.heap.size + 1) 166 #[Value.string { data := #[] }, Value.int IntKind.i64 0, Value.int IntKind.i64 0, Value.int IntKind.i64 0] ∧ i ≤ k)
    (fun c j W => match c with
      | .ret => ∃ x : Cut, xs[k]? = some x ∧ Below w.heap.size w W ∧ Blk W (w.heap.size + 1) 166 #[.string x.m, .int .i64 x.s, .int .i64 x.fr, .int .i64 x.to]
      | _ => False)
    ?hI ?hIx ?h0 (fun i x a' W => ∃ q, a' = { tmps := #[Value.string p, Value.int IntKind.i64 ↑k, undef, Value.pointer (some { block := w.heap.size, off := 0 }),
          Value.pointer (some { block := w.heap.size + 1, off := 0 }), Value.int IntKind.i64 i, Value.pointer (some { block := q, off := 0 }), Value.string p,
          Value.func (Fn.func 109) #[] lb, Value.int IntKind.i64 i, Value.agg #[Value.string x.m, Value.int IntKind.i64 x.s, Value.int IntKind.i64 x.fr, Value.int IntKind.i64 x.to], undef, undef, undef, undef, undef, undef, undef, undef, undef], defers := [] } ∧ Blk W q 166 #[.string x.m, .int .i64 x.s, .int .i64 x.fr, .int .i64 x.to])
    (fun _ _ _ => own_ex fun _ => (own_pure _ _).and (own_blk _ _ _ _)) ?assign ?body ?done ?stop)
  case hI => exact (own_below _ w (by omega)).and ((own_blk _ _ _ _).and ((own_blk _ _ _ _).and (own_pure _ _)))
  case hIx =>
    intro c
    cases c with
    | ret => exact own_ex fun i => (own_pure _ _).and ((own_below _ w (by omega)).and (own_blk _ _ _ _))
    | _ => exact own_pure _ _
  case h0 => exact ⟨hB, k1, k2, Nat.zero_le _⟩
  case assign =>
    rintro l i x W K hx' ⟨hb, q1, q2, hgd⟩ hK
    clear hseq hG
    unfold encC Cut.val
    gi_wp2
    have hbw := (Below.refl W.heap.size W).alloc (Nat.le_refl _) (Obj.cells #[Value.string x.m, Value.int IntKind.i64 x.s, Value.int IntKind.i64 x.fr, Value.int IntKind.i64 x.to] 166)
    exact hK _ _ ((KeepsOthers.alloc _ _).from _) (KeepC.of_below hbw) ⟨hb.alloc hb.size _, q1.alloc _, q2.alloc _, hgd⟩ ⟨_, rfl, Blk.new _ _ _⟩
  case body =>
    rintro l i x a' W hx' ⟨hb, q1, q2, hgd⟩ ⟨q, rfl, q6⟩
    clear hseq hG
    obtain ⟨c1, _⟩ := facts1 q1
    obtain ⟨d0, d1, d2, d3, _⟩ := facts4 q6
    obtain ⟨g0, g1, g2, g3, g4, g5, g6, g7⟩ := facts4 q2
    have Q2 := Lib.hid q2
    by_cases hik : i = k
    · subst hik
      gi_wp2
      obtain ⟨z1, z2, z3⟩ := set4 (.string x.m) (.int .i64 x.s) (.int .i64 x.fr) (.int .i64 x.to) Q2.out
      exact ⟨((((KeepsOthers.setCell _ _ _).from _).trans ((KeepsOthers.setCell _ _ _).from _)).trans ((KeepsOthers.setCell _ _ _).from _)).trans ((KeepsOthers.setCell _ _ _).from _), x, hx', hb.trans (z3 _ (by omega)), z1⟩
    · have hik2 : ¬ (i : Int) = (k : Int) := by omega
      gi_wp2
      exact ⟨KeepsFrom.refl _ _, KeepC.refl _ _, hb, q1, q2, by omega⟩
  case done =>
    rintro D W hD ⟨hb, q1, q2, hgd⟩ hK
    have hans := H2.out (List.getElem?_eq_none_iff.2 hgd)
    clear hseq hG
    obtain ⟨g0, g1, g2, g3, g4, g5, g6, g7⟩ := facts4 q2
    have Q2 := Lib.hid q2
    have HK := Lib.hid hK
    clear hK q2
    simp only [Exit.inBlock, Exit.then]
    go_wp2
    obtain ⟨z1, z2, z3⟩ := set4 (.string ⟨#[]⟩) (.int .i64 0) (.int .i64 (p.size : Int)) (.int .i64 (p.size : Int)) Q2.out
    have hD' := (z2 D (by omega)).trans HK.out
    refine leave rfl hD' (res4 Tryz.results154 rfl (z1.put' hD' _)) ⟨by rw [hans]; rfl, below_put (hb.trans (z3 _ (by omega))) (by omega) _⟩
  case stop =>
    rintro D c j W hD hI hK
    cases c with
    | ret =>
      obtain ⟨x, hx', hb, q2⟩ := hI
      have hans := H1.out x hx'
      clear hseq hG
      have Q2 := Lib.hid q2
      have HK := Lib.hid hK
      clear hK q2
      refine wpIn_wide.2 ?_
      go_wp2
      refine leave rfl HK.out (res4 Tryz.results154 rfl (Q2.out.put' HK.out _)) ⟨by rw [hans]; rfl, below_put hb (by omega) _⟩
    | _ => exact hI.elim
end Go.Proofs.YtpaphfofjfjdlaaGreat.Pk
