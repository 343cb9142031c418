/- The entries of a text, as a list; how the iterators go through it. -/
import Derived.Test.YtioidnfmpbdmhaaWalk
namespace Go.Proofs.Ytioidnfmpbdmhaa
open Go.RowKit Go.Shelf

theorem ba_ext {a b : ByteArray} (h : a.data.toList = b.data.toList) : a = b := ByteArray.ext (Array.toList_inj.1 h)
theorem size_list (t : ByteArray) : t.data.toList.length = t.size := by rw [Array.length_toList]; rfl

theorem begunS_some {p : ByteArray} {k : Nat} {c : Cut} (h : begunS p k = some c) : 2 ≤ k ∧ c.fr = k ∧ c.to = k + byte p k + 10 ∧ c.to ≤ p.size ∧ byte p k ≤ 64 ∧ c.m = p.extract (k + 1) (k + 1 + byte p k) ∧ c.m.size = byte p k ∧
    c.s = scoreL ((p.data.toList.drop (k + 1 + byte p k)).take 8) := by
  unfold begunS at h
  split at h
  · cases h
  · split at h
    · cases h
    · cases h
      refine ⟨by omega, rfl, rfl, by simp only; omega, by omega, rfl, ?_, rfl⟩
      simp
      omega
theorem begunS_end (p : ByteArray) : begunS p p.size = none := by unfold begunS; rw [if_pos (by omega)]

theorem ended_iff {p : ByteArray} {k : Nat} {c : Cut} (h : begunS p k = some c) : endedS p c.to = some c ↔ byte p (c.to - 1) = c.m.size + 9 := by
  obtain ⟨h2, hf, ht, hs, h64, _, hm, _⟩ := begunS_some h
  unfold endedS begunI
  generalize hb : byte p (c.to - 1) = b
  constructor
  · intro he
    split at he
    · cases he
    · have := (begunS_some he).2.1
      omega
  · intro he
    rw [if_neg (by omega), show ((c.to : Int) - 1 - b).toNat = k by omega]
    exact h

/-- The entries from a place on, so many of them and nothing behind. -/
def goS (p : ByteArray) : Nat → Nat → Option (List Cut)
  | 0, pos => if pos = p.size then some [] else none
  | n + 1, pos => match begunS p pos with
    | none => none
    | some c => if byte p (c.to - 1) = c.m.size + 9 then (goS p n c.to).map (c :: ·) else none
def entriesS (p : ByteArray) : Option (List Cut) := if 0 ≤ countS p then goS p (countS p).toNat 2 else none
def rightB (p : ByteArray) : Bool := (entriesS p).isSome

theorem chain_from (p : ByteArray) : ∀ (n pos : Nat), p.size ≤ pos + n → ∃ xs : List Cut, xs[0]? = begunS p pos ∧ (∀ (i : Nat) (c : Cut), xs[i]? = some c → nextF p c = xs[i + 1]?) ∧ (∀ c ∈ xs, 2 ≤ c.fr ∧ 2 ≤ c.to ∧ c.to ≤ p.size) ∧ xs.length ≤ n
  | 0, pos, h => ⟨[], by unfold begunS; rw [if_pos (by omega)]; rfl, fun i c h => by simp at h, fun c h => by simp at h, Nat.le_refl _⟩
  | n + 1, pos, h => by
    cases hb : begunS p pos with
    | none => exact ⟨[], rfl, fun i c h => by simp at h, fun c h => by simp at h, by simp⟩
    | some c =>
      obtain ⟨h2, hf, ht, hs, h64, _, hm, _⟩ := begunS_some hb
      obtain ⟨xs, h0, hn, ha, hl⟩ := chain_from p n c.to (by omega)
      refine ⟨c :: xs, rfl, fun i d hd => ?_, fun d hd => ?_, by simp; omega⟩
      · cases i with
        | zero => simp at hd; subst hd; rw [show (c :: xs)[0 + 1]? = xs[0]? by simp, h0]; rfl
        | succ i => simp at hd; rw [hn i d hd]; simp
      · rcases List.mem_cons.1 hd with rfl | hd
        · omega
        · exact ha d hd

theorem chain_exists (p : ByteArray) (hp : p.size ≤ 281474976710656) : ∃ xs, Chain (nextF p) (begunS p 2) xs ∧ ∀ c ∈ xs, 2 ≤ c.to ∧ c.to ≤ p.size := by
  obtain ⟨xs, h0, hn, ha, hl⟩ := chain_from p p.size 2 (by omega)
  exact ⟨xs, ⟨h0, hn, fun c h => (ha c h).1, by omega⟩, fun c h => (ha c h).2⟩

/-- Where the bytes of so many entries end. -/
def endOf (xs : List Cut) (i : Nat) : Nat := match i with
  | 0 => 2
  | i + 1 => (xs[i]?.map Cut.to).getD 0
/-- So many entries' backs are right. -/
def GoodTo (p : ByteArray) (xs : List Cut) (i : Nat) : Prop := ∀ (j : Nat) (c : Cut), j < i → xs[j]? = some c → endedS p c.to = some c

theorem chain_at {p : ByteArray} {xs : List Cut} (hc : Chain (nextF p) (begunS p 2) xs) : ∀ i, i ≤ xs.length → begunS p (endOf xs i) = xs[i]?
  | 0, _ => hc.first.symm
  | i + 1, h => by
    have hx : xs[i]? = some (xs[i]'(by omega)) := List.getElem?_eq_getElem (by omega)
    rw [← hc.next i _ hx]
    simp [endOf, hx, nextF]

theorem goS_chain {p : ByteArray} {xs : List Cut} (hc : Chain (nextF p) (begunS p 2) xs) (n : Nat) : ∀ i, i ≤ xs.length → i ≤ n → GoodTo p xs i → goS p n 2 = (goS p (n - i) (endOf xs i)).map (xs.take i ++ ·)
  | 0, _, _, _ => by simp [endOf]
  | i + 1, h, hn, hg => by
    rw [goS_chain hc n i (by omega) (by omega) (fun j c hj hx => hg j c (by omega) hx)]
    have hx : xs[i]? = some (xs[i]'(by omega)) := List.getElem?_eq_getElem (by omega)
    have hb := (chain_at hc i (by omega)).trans hx
    have he := hg i _ (by omega) hx
    rw [ended_iff hb] at he
    obtain ⟨m, hm⟩ : ∃ m, n - i = m + 1 := ⟨n - i - 1, by omega⟩
    rw [hm, show n - (i + 1) = m by omega]
    have e1 : endOf xs (i + 1) = (xs[i]'(by omega)).to := by simp [endOf, hx]
    rw [e1, goS.eq_def]
    simp only [hb, if_pos he, Option.map_map]
    congr 1
    funext l
    show List.take i xs ++ (xs[i] :: l) = List.take (i + 1) xs ++ l
    rw [List.take_succ_eq_append_getElem (show i < xs.length by omega), List.append_assoc]
    rfl

theorem countS_range (p : ByteArray) : -1 ≤ countS p ∧ countS p ≤ 200 := by
  unfold countS
  split
  · omega
  · split <;> omega

theorem right_ans {p : ByteArray} {xs : List Cut} (hc : Chain (nextF p) (begunS p 2) xs) (i : Nat) (hg : GoodTo p xs i) (hl : i ≤ xs.length) (h1 : i = xs.length ∨ countS p ≤ i) (h2 : i = 0 ∨ (i : Int) ≤ countS p) :
    rightB p = (decide ((i : Int) = countS p) && decide ((endOf xs i : Int) = p.size)) := by
  unfold rightB entriesS
  have := countS_range p
  by_cases hn : 0 ≤ countS p
  · rw [if_pos hn, goS_chain hc _ i hl (by omega) hg]
    by_cases hi : (i : Int) = countS p
    · rw [show (countS p).toNat - i = 0 by omega]
      unfold goS
      by_cases he : endOf xs i = p.size
      · simp [hi, he]
      · have he2 : ¬ ((endOf xs i : Int) = p.size) := by omega
        simp [he, he2]
    · obtain ⟨m, hm⟩ : ∃ m, (countS p).toNat - i = m + 1 := ⟨(countS p).toNat - i - 1, by omega⟩
      have hi2 : i = xs.length := by omega
      rw [hm, goS.eq_def]
      simp only [chain_at hc i hl, List.getElem?_eq_none (show xs.length ≤ i by omega)]
      simp [hi]
  · rw [if_neg hn]
    have hi : ¬ (i : Int) = countS p := by omega
    simp [hi]

theorem right_false {p : ByteArray} {xs : List Cut} (hc : Chain (nextF p) (begunS p 2) xs) (i : Nat) (c : Cut) (hg : GoodTo p xs i) (hx : xs[i]? = some c) (he : endedS p c.to ≠ some c) (hn : (i : Int) < countS p) : rightB p = false := by
  unfold rightB entriesS
  have hl : i < xs.length := (List.getElem?_eq_some_iff.1 hx).1
  rw [if_pos (by omega), goS_chain hc _ i (by omega) (by omega) hg]
  obtain ⟨m, hm⟩ : ∃ m, (countS p).toNat - i = m + 1 := ⟨(countS p).toNat - i - 1, by omega⟩
  have hb := (chain_at hc i (by omega)).trans hx
  rw [ne_eq, ended_iff hb] at he
  rw [hm, goS.eq_def]
  simp only [hb, if_neg he]
  simp

/-- The list of a pack's entries. -/
theorem goS_some {p : ByteArray} : ∀ (n pos : Nat) (cs : List Cut), goS p n pos = some cs → cs.length = n ∧ cs[0]? = begunS p pos ∧ (∀ (i : Nat) (c : Cut), cs[i]? = some c → nextF p c = cs[i + 1]?) ∧
    (∀ c ∈ cs, 2 ≤ c.fr ∧ 2 ≤ c.to ∧ c.to ≤ p.size ∧ c.fr ≤ p.size ∧ endedS p c.to = some c) ∧ ((cs.getLast?.map Cut.to).getD pos = p.size)
  | 0, pos, cs, h => by
    unfold goS at h
    split at h
    · next he => cases h; refine ⟨rfl, by rw [he, begunS_end]; rfl, fun i c h => by simp at h, fun c h => by simp at h, by simpa using he⟩
    · cases h
  | n + 1, pos, cs, h => by
    rw [goS.eq_def] at h
    cases hb : begunS p pos with
    | none => simp [hb] at h
    | some c =>
      simp only [hb] at h
      split at h
      · next he =>
        obtain ⟨l, hl, rfl⟩ := Option.map_eq_some_iff.1 h
        obtain ⟨i1, i2, i3, i4, i5⟩ := goS_some n c.to l hl
        obtain ⟨h2, hf, ht, hs, h64, _, hm, _⟩ := begunS_some hb
        refine ⟨by simp [i1], rfl, fun i d hd => ?_, fun d hd => ?_, ?_⟩
        · cases i with
          | zero => simp at hd; subst hd; rw [show (c :: l)[0 + 1]? = l[0]? by simp, i2]; rfl
          | succ i => simp at hd; rw [i3 i d hd]; simp
        · rcases List.mem_cons.1 hd with rfl | hd
          · exact ⟨by omega, by omega, by omega, by omega, (ended_iff hb).2 he⟩
          · exact i4 d hd
        · cases l with
          | nil => simpa using i5
          | cons d l =>
            rw [List.getLast?_cons_cons]
            obtain ⟨y, hy⟩ : ∃ y, (d :: l).getLast? = some y := ⟨_, List.getLast?_eq_some_getLast (by simp)⟩
            rw [hy] at i5 ⊢
            exact i5
      · cases h
end Go.Proofs.Ytioidnfmpbdmhaa
