/- A pack's bytes and its entries are one to one. -/
import Derived.Test.YtioidnfmpbdmhaaPick
import Derived.Test.YtioidnfmpbdmhaaReplace
namespace Go.Proofs.Ytioidnfmpbdmhaa
open Go.RowKit Go.Shelf

theorem wrap_shift (n t : Int) : wrap64 (n + 18446744073709551616 * t) = wrap64 n := by
  unfold wrap64
  rw [show n + 18446744073709551616 * t + 9223372036854775808 = (n + 9223372036854775808) + 18446744073709551616 * t by omega, Int.add_mul_emod_self_left]
theorem wrap_some (n : Int) : ∃ t, wrap64 n = n + 18446744073709551616 * t := by
  refine ⟨-((n + 9223372036854775808) / 18446744073709551616), ?_⟩
  unfold wrap64
  have := Int.emod_add_mul_ediv (n + 9223372036854775808) 18446744073709551616
  omega
theorem wrap_step (a b : Int) : wrap64 (wrap64 a * 256 + b) = wrap64 (a * 256 + b) := by
  obtain ⟨t, ht⟩ := wrap_some a
  rw [ht, show (a + 18446744073709551616 * t) * 256 + b = (a * 256 + b) + 18446744073709551616 * (t * 256) by omega, wrap_shift]
theorem wrap_in {n : Int} (h : -9223372036854775808 ≤ n ∧ n ≤ 9223372036854775807) : wrap64 n = n := IntWalk.wrap64_in n h
def stepS (m : Int) (b : UInt8) : Int := wrap64 (m * 256 + b.toNat)
theorem stepS_zero (b : UInt8) : stepS 0 b = wrap64 (b.toNat : Int) := by unfold stepS; rw [Int.zero_mul, Int.zero_add]
theorem stepS_wrap (a : Int) (b : UInt8) : stepS (wrap64 a) b = wrap64 (a * 256 + b.toNat) := wrap_step a (b.toNat : Int)
theorem scoreL_fold (l : List UInt8) : scoreL l = l.foldl stepS 0 := rfl
theorem fold_wrap : ∀ (l : List UInt8) (a : Int), l.foldl stepS (wrap64 a) = wrap64 (l.foldl (fun m b => m * 256 + (b.toNat : Int)) a)
  | [], _ => rfl
  | b :: l, a => by rw [List.foldl_cons, stepS_wrap, fold_wrap l, List.foldl_cons]
theorem scoreL_eight (a b c d e f g h : UInt8) : scoreL [a, b, c, d, e, f, g, h] = wrap64 (((((((((a.toNat : Int) * 256 + b.toNat) * 256 + c.toNat) * 256 + d.toNat) * 256 + e.toNat) * 256 + f.toNat) * 256 + g.toNat) * 256 + h.toNat)) := by
  rw [scoreL_fold, List.foldl_cons, stepS_zero, fold_wrap]
  congr 1

theorem div_step (s : Int) (k : Nat) : s / 2 ^ (8 * (k + 1)) = s / 2 ^ (8 * k) / 256 := by
  rw [Int.ediv_ediv_of_nonneg (Int.le_of_lt (Int.pow_pos (by decide))), show 8 * (k + 1) = 8 * k + 8 by omega, Int.pow_add]
  rfl

/-- The bytes of a score tell it. -/
theorem scoreL_score8 (s : Int) (h : -9223372036854775808 ≤ s ∧ s ≤ 9223372036854775807) : scoreL (score8 s) = s := by
  have hs : score8 s = [scoreB s 7, scoreB s 6, scoreB s 5, scoreB s 4, scoreB s 3, scoreB s 2, scoreB s 1, scoreB s 0] := rfl
  rw [hs, scoreL_eight]
  simp only [scoreB_val]
  have h0 : s / 2 ^ (8 * 0) = s := by simp
  have h1 := div_step s 0
  have h2 := div_step s 1
  have h3 := div_step s 2
  have h4 := div_step s 3
  have h5 := div_step s 4
  have h6 := div_step s 5
  have h7 := div_step s 6
  simp only [Nat.reduceAdd] at h1 h2 h3 h4 h5 h6 h7
  rw [h0] at h1 ⊢
  generalize s / 2 ^ (8 * 1) = d1 at *
  generalize s / 2 ^ (8 * 2) = d2 at *
  generalize s / 2 ^ (8 * 3) = d3 at *
  generalize s / 2 ^ (8 * 4) = d4 at *
  generalize s / 2 ^ (8 * 5) = d5 at *
  generalize s / 2 ^ (8 * 6) = d6 at *
  generalize s / 2 ^ (8 * 7) = d7 at *
  have e0 := Int.emod_add_mul_ediv s 256
  have e1 := Int.emod_add_mul_ediv d1 256
  have e2 := Int.emod_add_mul_ediv d2 256
  have e3 := Int.emod_add_mul_ediv d3 256
  have e4 := Int.emod_add_mul_ediv d4 256
  have e5 := Int.emod_add_mul_ediv d5 256
  have e6 := Int.emod_add_mul_ediv d6 256
  have e7 := Int.emod_add_mul_ediv d7 256
  rw [← h1] at e0
  rw [← h2] at e1
  rw [← h3] at e2
  rw [← h4] at e3
  rw [← h5] at e4
  rw [← h6] at e5
  rw [← h7] at e6
  generalize d7 / 256 = t at *
  generalize s % 256 = r0 at *
  generalize d1 % 256 = r1 at *
  generalize d2 % 256 = r2 at *
  generalize d3 % 256 = r3 at *
  generalize d4 % 256 = r4 at *
  generalize d5 % 256 = r5 at *
  generalize d6 % 256 = r6 at *
  generalize d7 % 256 = r7 at *
  clear h1 h2 h3 h4 h5 h6 h7 hs h0
  rw [show (((((((r7 * 256 + r6) * 256 + r5) * 256 + r4) * 256 + r3) * 256 + r2) * 256 + r1) * 256 + r0) = s + 18446744073709551616 * (-t) by omega, wrap_shift, wrap_in h]

theorem byte_range (b : UInt8) : 0 ≤ (b.toNat : Int) ∧ (b.toNat : Int) < 256 := by have := UInt8.toNat_lt b; omega
theorem scoreB_of {s : Int} {k : Nat} {b : UInt8} (h : s / 2 ^ (8 * k) % 256 = b.toNat) : scoreB s k = b := by
  apply UInt8.toNat_inj.1
  have := scoreB_val s k
  omega
theorem score8_scoreL (l : List UInt8) (h : l.length = 8) : score8 (scoreL l) = l := by
  match l, h with
  | [a, b, c, d, e, f, g, i], _ =>
    rw [scoreL_eight]
    have ha := byte_range a
    have hb := byte_range b
    have hc := byte_range c
    have hd := byte_range d
    have he := byte_range e
    have hf := byte_range f
    have hg := byte_range g
    have hi := byte_range i
    generalize hV : (((((((a.toNat : Int) * 256 + b.toNat) * 256 + c.toNat) * 256 + d.toNat) * 256 + e.toNat) * 256 + f.toNat) * 256 + g.toNat) * 256 + i.toNat = V
    obtain ⟨t, ht⟩ := wrap_some V
    rw [ht]
    generalize hS : V + 18446744073709551616 * t = S
    have h0 : S / 2 ^ (8 * 0) = S := by simp
    have h1 := div_step S 0
    have h2 := div_step S 1
    have h3 := div_step S 2
    have h4 := div_step S 3
    have h5 := div_step S 4
    have h6 := div_step S 5
    have h7 := div_step S 6
    simp only [Nat.reduceAdd] at h1 h2 h3 h4 h5 h6 h7
    rw [h0] at h1
    have q1 : S / 2 ^ (8 * 1) = ((((((a.toNat : Int) * 256 + b.toNat) * 256 + c.toNat) * 256 + d.toNat) * 256 + e.toNat) * 256 + f.toNat) * 256 + g.toNat + 72057594037927936 * t := by rw [h1]; omega
    have q2 : S / 2 ^ (8 * 2) = (((((a.toNat : Int) * 256 + b.toNat) * 256 + c.toNat) * 256 + d.toNat) * 256 + e.toNat) * 256 + f.toNat + 281474976710656 * t := by rw [h2, q1]; omega
    have q3 : S / 2 ^ (8 * 3) = ((((a.toNat : Int) * 256 + b.toNat) * 256 + c.toNat) * 256 + d.toNat) * 256 + e.toNat + 1099511627776 * t := by rw [h3, q2]; omega
    have q4 : S / 2 ^ (8 * 4) = (((a.toNat : Int) * 256 + b.toNat) * 256 + c.toNat) * 256 + d.toNat + 4294967296 * t := by rw [h4, q3]; omega
    have q5 : S / 2 ^ (8 * 5) = ((a.toNat : Int) * 256 + b.toNat) * 256 + c.toNat + 16777216 * t := by rw [h5, q4]; omega
    have q6 : S / 2 ^ (8 * 6) = (a.toNat : Int) * 256 + b.toNat + 65536 * t := by rw [h6, q5]; omega
    have q7 : S / 2 ^ (8 * 7) = (a.toNat : Int) + 256 * t := by rw [h7, q6]; omega
    show [scoreB S 7, scoreB S 6, scoreB S 5, scoreB S 4, scoreB S 3, scoreB S 2, scoreB S 1, scoreB S 0] = _
    rw [scoreB_of (b := a) (k := 7) (by rw [q7]; omega), scoreB_of (b := b) (k := 6) (by rw [q6]; omega), scoreB_of (b := c) (k := 5) (by rw [q5]; omega), scoreB_of (b := d) (k := 4) (by rw [q4]; omega),
      scoreB_of (b := e) (k := 3) (by rw [q3]; omega), scoreB_of (b := f) (k := 2) (by rw [q2]; omega), scoreB_of (b := g) (k := 1) (by rw [q1]; omega), scoreB_of (b := i) (k := 0) (by rw [h0]; omega)]


/-- A pack of entries. -/
def packS (l : List Ent) : List UInt8 := UInt8.ofNat (l.length / 256) :: UInt8.ofNat l.length :: l.flatMap entB
def packB (l : List Ent) : ByteArray := ⟨(packS l).toArray⟩
theorem packB_list (l : List Ent) : (packB l).data.toList = packS l := rfl

theorem byte_get (p : ByteArray) (k : Nat) (h : k < p.data.toList.length) : p.data.toList[k] = UInt8.ofNat (byte p k) := by
  unfold byte
  rw [List.getD_eq_getElem?_getD, List.getElem?_eq_getElem h]
  simp
theorem split_at (l : List UInt8) (a n : Nat) : l.drop a = (l.drop a).take n ++ l.drop (a + n) := by
  rw [← List.drop_drop, List.take_append_drop]

/-- An entry's bytes, where it is read. -/
theorem begun_bytes {p : ByteArray} {k : Nat} {c : Cut} (h : begunS p k = some c) (hb : byte p (c.to - 1) = c.m.size + 9) : p.data.toList.drop k = entB c.ent ++ p.data.toList.drop c.to := by
  obtain ⟨h2, hf, ht, hs, h64, hm, hms, hsc⟩ := begunS_some h
  generalize hn : byte p k = n at *
  have hl := size_list p
  have d1 : p.data.toList.drop k = UInt8.ofNat n :: p.data.toList.drop (k + 1) := by
    rw [List.drop_eq_getElem_cons (show k < p.data.toList.length by omega), byte_get, hn]
  have d2 : p.data.toList.drop (k + 1) = c.m.data.toList ++ p.data.toList.drop (k + 1 + n) := by
    rw [hm, ext_list]
    exact split_at _ _ _
  have d3 : p.data.toList.drop (k + 1 + n) = score8 c.s ++ p.data.toList.drop (k + 1 + n + 8) := by
    rw [hsc, score8_scoreL _ (by rw [List.length_take, List.length_drop]; omega)]
    exact split_at _ _ _
  have d4 : p.data.toList.drop (k + 1 + n + 8) = UInt8.ofNat (c.m.size + 9) :: p.data.toList.drop c.to := by
    have hk : k + 1 + n + 8 = c.to - 1 := by omega
    rw [hk, List.drop_eq_getElem_cons (show c.to - 1 < p.data.toList.length by omega), show c.to - 1 + 1 = c.to by omega, byte_get, hb]
  rw [d1, d2, d3, d4]
  unfold entB Cut.ent
  simp [hms]

theorem drop_ends {p : ByteArray} {cs : List Cut} (h : IsPack p cs) : ∀ (m i : Nat), i + m = cs.length → p.data.toList.drop (endOf cs i) = ((cs.drop i).map Cut.ent).flatMap entB
  | 0, i, hi => by
    rw [show i = cs.length by omega, h.ends, List.drop_length, List.drop_of_length_le (by rw [size_list]; exact Nat.le_refl _)]
    rfl
  | m + 1, i, hi => by
    have hx : cs[i]? = some (cs[i]'(by omega)) := List.getElem?_eq_getElem (by omega)
    have hb := (chain_at h.chain i (by omega)).trans hx
    have he := (ended_iff hb).1 (h.each _ (List.getElem_mem _)).2.2.2.2
    rw [begun_bytes hb he, List.drop_eq_getElem_cons (show i < cs.length by omega), List.map_cons, List.flatMap_cons, ← drop_ends h m (i + 1) (by omega), show endOf cs (i + 1) = (cs[i]'(by omega)).to by simp [endOf, hx]]

theorem two_bytes {p : ByteArray} {n : Nat} (h : countS p = n) : p.data.toList.take 2 = [UInt8.ofNat (n / 256), UInt8.ofNat n] := by
  unfold countS at h
  split at h
  · omega
  · next h2 =>
    split at h
    · omega
    · have hl := size_list p
      have l0 := byte_lt p 0
      have l1 := byte_lt p 1
      have hn : n = byte p 0 * 256 + byte p 1 := by omega
      obtain ⟨l, hl2⟩ : ∃ l, l = p.data.toList := ⟨_, rfl⟩
      have b0 : byte p 0 = (l.getD 0 0).toNat := by rw [hl2]; rfl
      have b1 : byte p 1 = (l.getD 1 0).toNat := by rw [hl2]; rfl
      rw [← hl2] at hl ⊢
      match l, hl with
      | a :: b :: r, _ =>
        simp at b0 b1
        have ha := UInt8.toNat_lt a
        have hb := UInt8.toNat_lt b
        simp only [List.take_succ_cons, List.take_zero]
        rw [show UInt8.ofNat (n / 256) = a by apply UInt8.toNat_inj.1; simp; omega, show UInt8.ofNat n = b by apply UInt8.toNat_inj.1; simp; omega]
      | [a], hl => simp at hl; omega
      | [], hl => simp at hl; omega

/-- A pack is the pack of its entries. -/
theorem pack_ents {p : ByteArray} {cs : List Cut} (h : IsPack p cs) : p = packB (cs.map Cut.ent) := by
  apply ba_ext
  rw [packB_list, ← List.take_append_drop 2 p.data.toList, two_bytes h.count]
  have := drop_ends h cs.length 0 (by omega)
  rw [show endOf cs 0 = 2 from rfl] at this
  rw [this]
  simp [packS]
theorem take_ends {p : ByteArray} {cs : List Cut} (h : IsPack p cs) (i : Nat) (hi : i ≤ cs.length) : (p.data.toList.take (endOf cs i)) = UInt8.ofNat (cs.length / 256) :: UInt8.ofNat cs.length :: ((cs.take i).map Cut.ent).flatMap entB := by
  have h1 := drop_ends h (cs.length - i) i (by omega)
  have h2 := List.take_append_drop (endOf cs i) p.data.toList
  have h3 : p.data.toList = packS (cs.map Cut.ent) := by rw [← packB_list, ← pack_ents h]
  rw [h1] at h2
  refine List.append_cancel_right (bs := ((cs.drop i).map Cut.ent).flatMap entB) ?_
  rw [h2, h3]
  simp only [packS, List.length_map, List.cons_append]
  rw [← List.flatMap_append, ← List.map_append, List.take_append_drop]

/-- Bytes in place of some, as a list of entries. -/
theorem put_ents {p : ByteArray} {cs : List Cut} (h : IsPack p cs) (i j : Nat) (hij : i ≤ j) (hj : j ≤ cs.length) (N : Nat) (l : List Ent) (hN : N = (cs.take i).length + l.length + (cs.drop j).length) :
    putS p N (endOf cs i) (endOf cs j) (l.flatMap entB) = packS ((cs.take i).map Cut.ent ++ l ++ (cs.drop j).map Cut.ent) := by
  have h2 : 2 ≤ endOf cs i := by
    cases i with
    | zero => exact Nat.le_refl _
    | succ i =>
      have hx : cs[i]? = some (cs[i]'(by omega)) := List.getElem?_eq_getElem (by omega)
      rw [show endOf cs (i + 1) = (cs[i]'(by omega)).to by simp [endOf, hx]]
      exact (h.each _ (List.getElem_mem _)).2.1
  have ht := take_ends h i (by omega)
  have hd := drop_ends h (cs.length - j) j (by omega)
  unfold putS
  rw [hd]
  obtain ⟨e, he⟩ : ∃ e, endOf cs i = e + 2 := ⟨endOf cs i - 2, by omega⟩
  rw [he] at ht ⊢
  have hl := size_list p
  have h2p := h.two
  have ht2 : (p.data.toList.drop 2).take e = ((cs.take i).map Cut.ent).flatMap entB := by
    have := congrArg (List.drop 2) ht
    rw [List.drop_take] at this
    simpa using this
  simp only [List.take_succ_cons, ht2]
  unfold packS
  have hlen : ((cs.take i).map Cut.ent ++ l ++ (cs.drop j).map Cut.ent).length = N := by simp only [List.length_append, List.length_map]; omega
  rw [hlen]
  simp [List.flatMap_append]

end Go.Proofs.Ytioidnfmpbdmhaa
