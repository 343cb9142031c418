/- The two iterators: all sizes, the bytes of a text. -/
import Derived.Test.YtifbambalfifaaaRange
namespace Go.Proofs.Ytifbambalfifaaa
open Go.RowKit Go.Shelf
attribute [local go_sem] Oper.semAt_some

/-- The sizes, the least one first. -/
def sizeL : List Nat := [4, 8, 16, 32, 64, 128, 256, 512, 1024, 2048, 4096, 8192, 16384, 32768, 65536]
def encN (_ : Nat) (x : Nat) : Array Value := #[.int .i64 x]
/-- The size at a place, and the one behind the last one. -/
def sizeN (i : Nat) : Nat := sizeL.getD i 131072
theorem sizeN_facts : ∀ i : Fin 15, sizeL[i.val]? = some (sizeN i.val) ∧ sizeN i.val ≤ 65536 ∧ 4 ≤ sizeN i.val ∧ sizeN (i.val + 1) = 2 * sizeN i.val := by decide +kernel

set_option maxRecDepth 100000 in
set_option maxHeartbeats 4000000 in
theorem sizes_any (L : List Nat) (w : World) : SeqX Try.prog 91 #[] encN sizeL L w := by
  intro l J Jx W hW hJ hJx hY hJ0
  refine callsIn_of_wp Try.func91 rfl trivial ?_ rfl
  simp only [Try.ntmps91, List.size_toArray, List.length_cons, List.length_nil, Nat.reduceAdd, Nat.reduceSub, Array.replicate_succ, Array.replicate_zero, List.push_toArray, List.append_toArray, List.nil_append, List.cons_append, List.append_nil]
  have HY := Lib.hid hY
  clear hY
  gi_wp2
  gi_loopw [2] (fun s wr => ∃ (i : Nat), s = .int .i64 (sizeN i) ∧ i ≤ 15 ∧ J i wr)
    (fun s _ => 131072 - (intOf s).toNat)
  case atStart => exact ⟨0, rfl, by omega, hJ0⟩
  case round =>
    obtain ⟨i, rfl, hi, hJi⟩ := hrel
    by_cases hlt : i < 15
    · obtain ⟨hx, h1, h2, h3⟩ := sizeN_facts ⟨i, hlt⟩
      simp only at hx h1 h2 h3
      have HN := Lib.hid h3
      have H2 := Lib.hid h2
      clear h3 h2
      obtain ⟨fn, tmps, assign, body, hy, hR⟩ := HY.out i _ wr hx hJi
      unfold encN at hy
      generalize hs : sizeN i = s at *
      have hs2 := Lib.hid hs
      clear hs
      have h1' : (s : Int) ≤ 65536 := by omega
      gi_wp2_with fail
      (try refine ⟨fun _ => by decide, ?_⟩)
      refine hR.mono ?_
      rintro e W3 (⟨rfl, hJ3, hk3⟩ | ⟨rfl, hJx3⟩)
      · clear hR hy
        gi_wp2
        have e1 := hs2.out
        have e2 := HN.out
        have e3 := H2.out
        refine ⟨⟨i + 1, by rw [e2]; congr 1; omega, hlt, hJ3⟩, ?_⟩
        simp only [intOf]
        omega
      · gi_wp2
        go_end0
        exact ⟨⟨_, rfl⟩, .inr ⟨_, hJx3⟩⟩
    · obtain rfl : i = 15 := by omega
      have h15 : sizeN 15 = 131072 := by decide +kernel
      generalize sizeN 15 = s at *
      have h1' : ¬ ((s : Int) ≤ 65536) := by omega
      clear h15
      gi_wp2
      refine ⟨fun _ h => (by cases h), ?_⟩
      gi_wp2
      go_end0
      exact ⟨⟨_, rfl⟩, .inl hJi⟩

def encB (_ : Nat) (b : UInt8) : Array Value := #[.int .u8 b.toNat]

set_option maxRecDepth 100000 in
set_option maxHeartbeats 4000000 in
theorem bytes_any (p : ByteArray) (hp : p.size ≤ 281474976710656) (B : Nat) (L : List Nat) (w : World) (hL : B ∉ L) (h0 : Blk w B 9 #[.string p]) :
    SeqX Try.prog 92 #[.pointer (some ⟨B, 0, none⟩)] encB p.data.toList L w := by
  intro l J Jx W hW hJ hJx hY hJ0
  have k0 := h0.later hW
  refine callsIn_of_wp Try.func92 rfl trivial ?_ rfl
  simp only [Try.ntmps92, List.size_toArray, List.length_cons, List.length_nil, Nat.reduceAdd, Nat.reduceSub, Array.replicate_succ, Array.replicate_zero, List.push_toArray, List.append_toArray, List.nil_append, List.cons_append]
  have HY := Lib.hid hY
  clear hY
  gi_wp2
  gi_loopw [3] (fun s wr => ∃ (i : Nat), s = .int .i64 i ∧ i ≤ p.size ∧ J i wr ∧ Blk wr B 9 #[.string p])
    (fun s _ => p.size - (intOf s).toNat)
  case atStart => exact ⟨0, rfl, by omega, hJ0, k0⟩
  case round =>
    clear k0
    obtain ⟨i, rfl, hi, hJi, k0⟩ := hrel
    obtain ⟨a0, b0⟩ := facts1 k0
    by_cases hlt : i < p.size
    · have hx : p.data.toList[i]? = some p[i] := by
        rw [List.getElem?_eq_getElem (by rw [Array.length_toList]; exact hlt), Array.getElem_toList]; rfl
      obtain ⟨fn, tmps, assign, body, hy, hR⟩ := HY.out i _ wr hx hJi
      unfold encB at hy
      gi_wp2_with fail
      (try refine ⟨fun _ => by decide, ?_⟩)
      refine hR.mono ?_
      rintro e W3 (⟨rfl, hJ3, hk3⟩ | ⟨rfl, hJx3⟩)
      · have k13 := k0.keep hk3 hL
        clear hR hy
        gi_wp2
        refine ⟨⟨i + 1, by go_num, hlt, hJ3, k13⟩, ?_⟩
        simp only [intOf]
        omega
      · gi_wp2
        go_end0
        exact ⟨⟨_, rfl⟩, .inr ⟨_, hJx3⟩⟩
    · obtain rfl : i = p.size := by omega
      gi_wp2
      refine ⟨fun _ h => (by cases h), ?_⟩
      gi_wp2
      go_end0
      exact ⟨⟨_, rfl⟩, .inl (by rw [Array.length_toList]; exact hJi)⟩
end Go.Proofs.Ytifbambalfifaaa
