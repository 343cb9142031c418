/- The document's own answers of stage 6: SizeFor, Sum. -/
import Derived.Test.YtifbambalfifaaaSize
import Derived.Test.YtifbambalfifaaaSum
namespace Go.Proofs.Ytifbambalfifaaa
open Go.RowKit Go.Shelf
attribute [local go_sem] Oper.semAt_some

theorem fit_last (n : Int) : fit n (sizeL.drop 14) = 65536 := by
  unfold fit
  show ((List.find? (fun (x : Nat) => decide (n ≤ (x : Int))) [65536]).getD 65536) = 65536
  cases h : List.find? (fun (x : Nat) => decide (n ≤ (x : Int))) [65536] with
  | none => rfl
  | some y => have := List.mem_of_find?_eq_some h; simp at this; subst this; rfl

theorem refSizeFor_any (n : Int) (w : World) : Calls Try.prog 58 #[.int .i64 n] w fun e w' => e = .returned (.int .i64 (sizeS n)) ∧ w' = w := by
  go_enter Try.func58, Try.ntmps58
  go_wp2
  go_loopw [3] (fun v wr => ∃ (i : Nat), v = .int .i64 (sizeN i) ∧ i ≤ 14 ∧ sizeS n = fit n (sizeL.drop i) ∧ wr = w)
    (fun v _ => 131072 - (intOf v).toNat)
  case atStart => exact ⟨0, rfl, by omega, rfl, rfl⟩
  case round =>
    obtain ⟨i, rfl, hi, hf, rfl⟩ := hrel
    by_cases h14 : i < 14
    · obtain ⟨hx, h1, h2, h3⟩ := sizeN_facts ⟨i, by omega⟩
      have h4 : sizeN i < 65536 := (show ∀ k : Fin 14, sizeN k.val < 65536 by decide +kernel) ⟨i, h14⟩
      simp only at hx h1 h2 h3
      have hy := fit_here n i _ hx
      have hz := fit_on n i _ hx
      have h4' : ((sizeN i : Nat) : Int) < 65536 := by omega
      have h2' : (4 : Int) ≤ ((sizeN i : Nat) : Int) := by omega
      have HF := Lib.hid hf
      clear hf
      by_cases hik : n ≤ ((sizeN i : Nat) : Int)
      · have hs : sizeS n = sizeN i := HF.out.trans (hy hik)
        have HS := Lib.hid hs
        clear hs hy hz HF h3 hx
        generalize sizeN i = s at *
        go_wp2
        go_ret
        exact ⟨by rw [HS.out]; rfl, rfl⟩
      · have HS := Lib.hid (HF.out.trans (hz hik))
        have H3 := Lib.hid h3
        clear hy hz HF h3 hx
        generalize sizeN i = s at *
        go_wp2
        refine ⟨⟨i + 1, ?_, by omega, HS.out, trivial⟩, ?_⟩
        · rw [H3.out]; congr 1
        · simp only [intOf]; omega
    · obtain rfl : i = 14 := by omega
      have hs : sizeS n = 65536 := hf.trans (fit_last n)
      have h14 : sizeN 14 = 65536 := by decide +kernel
      have HS := Lib.hid hs
      rw [show ((sizeN 14 : Nat) : Int) = 65536 by rw [h14]; rfl]
      clear hs hf h14
      go_wp2
      go_ret
      exact ⟨by rw [HS.out]; rfl, rfl⟩

theorem isS_iff (n : Int) : isS n = true ↔ ∃ x ∈ sizeL, (x : Int) = n := by
  constructor
  · intro h
    unfold isS sizeS fit at h
    have h2 := of_decide_eq_true h
    cases hh : sizeL.find? (fun (x : Nat) => decide (n ≤ (x : Int))) with
    | none => rw [hh] at h2; exact ⟨65536, by decide, h2⟩
    | some x => rw [hh] at h2; exact ⟨x, List.mem_of_find?_eq_some hh, h2⟩
  · rintro ⟨x, hx, rfl⟩
    have : ∀ x ∈ sizeL, isS (x : Int) = true := by decide +kernel
    exact this x hx

theorem bits_xor64 (a b : Nat) (ha : a < 4294967296) (hb : b < 4294967296) : bits .xor .u64 (a : Int) (b : Int) = ((a ^^^ b : Nat) : Int) := by
  have hx := xor_lt32 ha hb
  unfold bits
  show IntKind.u64.wrap ((BitVec.ofInt 64 (a : Int) ^^^ BitVec.ofInt 64 (b : Int)).toNat : Int) = _
  rw [BitVec.ofInt_natCast, BitVec.ofInt_natCast, BitVec.toNat_xor, BitVec.toNat_ofNat, BitVec.toNat_ofNat, Nat.mod_eq_of_lt (show a < 2 ^ 64 by omega), Nat.mod_eq_of_lt (show b < 2 ^ 64 by omega), IntKind.wrap_u64]
  omega

/-- A byte of a text. -/
def byteN (p : ByteArray) (i : Nat) : Nat := (p.data.toList.getD i 0).toNat
theorem byteN_lt (p : ByteArray) (i : Nat) : byteN p i < 256 := UInt8.toNat_lt _
theorem byteN_eq (p : ByteArray) (i : Nat) (h : i < p.size) : p[i].toNat = byteN p i := by
  have h2 : i < p.data.toList.length := by rw [Array.length_toList]; exact h
  unfold byteN
  rw [List.getD_eq_getElem?_getD, List.getElem?_eq_getElem h2, Array.getElem_toList]
  rfl
theorem byteN_step (h : Nat) (p : ByteArray) (i : Nat) (hi : i < p.size) : foldN h (p.data.toList.take (i + 1)) = roundN (foldN h (p.data.toList.take i)) (byteN p i) := by
  have h2 : i < p.data.toList.length := by rw [Array.length_toList]; exact hi
  rw [foldN_step h _ i _ (List.getElem?_eq_getElem h2)]
  unfold byteN
  rw [List.getD_eq_getElem?_getD, List.getElem?_eq_getElem h2]
  rfl

set_option maxHeartbeats 2000000 in
theorem refSum_any (seed : Nat) (hs : seed < 4294967296) (p : ByteArray) (hp : p.size ≤ 281474976710656) (w : World) :
    Calls Try.prog 59 #[.int .u32 seed, .string p] w fun e w' => e = .returned (.int .u32 (sumN seed p.data.toList)) ∧ w' = w := by
  have hx : bits .xor .u64 (seed : Int) 2166136261 = ((beginN seed : Nat) : Int) := bits_xor64 seed 2166136261 hs (by decide)
  have hbl := beginN_lt hs
  have hs1 : (seed : Int) ≤ 4294967295 := by omega
  have hr : sumN seed p.data.toList = endB (endA (foldN (beginN seed) p.data.toList)) := rfl
  have HR := Lib.hid hr
  clear hr
  generalize beginN seed = s0 at *
  go_enter Try.func59, Try.ntmps59
  go_wp2
  go_loopw [5, 6] (fun h j wr => ∃ (i : Nat), j = .int .i64 i ∧ i ≤ p.size ∧ h = .int .u64 (foldN s0 (p.data.toList.take i)) ∧ wr = w)
    (fun _ j _ => p.size - (intOf j).toNat)
  case atStart => exact ⟨0, rfl, by omega, rfl, rfl⟩
  case round =>
    clear hx
    obtain ⟨i, rfl, hi, rfl, rfl⟩ := hrel
    by_cases hlt : i < p.size
    · have HN := Lib.hid (byteN_step s0 p i hlt)
      have hfl := foldN_lt (p.data.toList.take i) hbl
      have hb := byteN_lt p i
      have he := byteN_eq p i hlt
      generalize foldN s0 (p.data.toList.take i) = h at *
      generalize byteN p i = b at *
      have hx2 := bits_xor64 h b hfl (by omega)
      have hx3 := xor_lt32 hfl (show b < 4294967296 by omega)
      have hq : roundN h b = (h ^^^ b) * 16777619 % 4294967296 := rfl
      generalize roundN h b = r at *
      generalize h ^^^ b = y at *
      have HQ := Lib.hid hq
      clear hq
      go_wp2
      refine ⟨⟨i + 1, by go_num, hlt, ?_, trivial⟩, by simp [intOf]; omega⟩
      rw [HN.out, HQ.out]
      rfl
    · obtain rfl : i = p.size := by omega
      rw [List.take_of_length_le (by rw [Array.length_toList]; exact Nat.le_refl _)]
      have hfl := foldN_lt p.data.toList hbl
      generalize foldN s0 p.data.toList = h at *
      have hx2 : bits .xor .u64 (h : Int) (h / 32768) = ((endX h : Nat) : Int) := bits_xor64 h (h / 32768) hfl (by omega)
      have hxl := endX_lt hfl
      have ha : ((endX h : Nat) : Int) * 2246822519 % 4294967296 = ((endA h : Nat) : Int) := by unfold endA; omega
      have hal := endA_lt h
      have hx3 : bits .xor .u64 ((endA h : Nat) : Int) ((endA h : Nat) / 8192) = ((endB (endA h) : Nat) : Int) := bits_xor64 (endA h) (endA h / 8192) hal (by omega)
      have hbl2 := endB_lt hal
      generalize endB (endA h) = z at *
      generalize endA h = y at *
      generalize endX h = x at *
      go_wp2
      go_ret
      exact ⟨by rw [HR.out]; rfl, rfl⟩
end Go.Proofs.Ytifbambalfifaaa
