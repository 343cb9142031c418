/- A row's entries, gone through one by one. -/
import Derived.Test.YtpaphfofjfjdlaaGreatQZRange
import Derived.Test.YtpaphfofjfjdlaaGreatQZF
namespace Go.Proofs.YtpaphfofjfjdlaaGreat
open Go.RowKit Go.Shelf Sk
attribute [local go_sem] Oper.semAt_some

def encE (_ : Nat) (e : En) : Array Value := #[.agg #[.string e.1, .int .i64 e.2]]
theorem Row.keepc {W W' : World} {n0 : Nat} {v : Value} {l : List En} {L : List Nat} (h : Row W n0 v l) (hk : Zr.KeepC L W W') (hL : ∀ k ∈ L, k < n0) : Row W' n0 v l :=
  ⟨h.form, fun i e he => by
    obtain ⟨b, off, c, cur, h1, h2, h3, h4, h5⟩ := h.at' i e he
    have h6 : Blk W' b 48 cur := hk.same b cur 48 (fun hb => by have := hL b hb; omega) (.inr (.inl rfl)) h3
    refine ⟨b, off, c, cur, h1, h2, h6, ?_, ?_⟩
    · rw [h6.cell, ← h3.cell]; exact h4
    · rw [h6.cell, ← h3.cell]; exact h5⟩

set_option maxRecDepth 100000 in
set_option maxHeartbeats 4000000 in
/-- The iterator behind slices.Values. -/
theorem vals_any (E : List En) (hl : E.length ≤ 1000000000) (r : Value) (n0 bx : Nat) (L : List Nat) (w : World) (hr : Row w n0 r E) (hL : ∀ k ∈ L, k < n0) (h1 : Blk w bx 35 #[r]) :
    Zr.SeqX Tryz.prog 68 #[.pointer (some ⟨bx, 0, none⟩)] encE E L w := by
  intro y J Jx W hW hJ hJx hY hJ0
  have k1 := h1.later hW
  have hr1 := hr.later hW
  obtain ⟨a, c, rfl⟩ := hr.form
  refine callsIn_of_wp Tryz.func68 rfl trivial ?_ rfl
  simp only [Tryz.ntmps68, List.size_toArray, List.length_cons, List.length_nil, Nat.reduceAdd, Nat.reduceSub, Array.replicate_succ, Array.replicate_zero, List.push_toArray, List.append_toArray, List.nil_append, List.cons_append]
  have HY := Lib.hid hY
  have a0 := k1.cell 0
  simp at a0
  have HR1 := Lib.hid hr1
  clear hY hr hr1 h1 k1
  gi_wp2
  gi_loopw [7] (fun s wr => ∃ (i : Nat), s = .int .i64 i ∧ i ≤ E.length ∧ J i wr ∧ Row wr n0 (.slice a E.length c) E)
    (fun s _ => E.length - (intOf s).toNat)
  case atStart => exact ⟨0, rfl, by omega, hJ0, HR1.out⟩
  case round =>
    clear a0
    obtain ⟨i, rfl, hi, hJi, hrw⟩ := hrel
    by_cases hlt : i < E.length
    · have hx : E[i]? = some E[i] := List.getElem?_eq_getElem hlt
      obtain ⟨b, off, c', cur, h1, h2, h3, h4, h5⟩ := hrw.at' i _ hx
      cases h1
      generalize E[i] = e at *
      obtain ⟨m, sc⟩ := e
      simp only at h4 h5
      have hlt2 : (i : Int) < E.length := by omega
      have hb6 : Below wr.heap.size wr (wr.alloc (.cells #[.string m, .int .i64 sc] 48)) := (Below.refl _ _).alloc (Nat.le_refl _) _
      obtain ⟨fn, tmps, assign, body, hy, hR⟩ := HY.out i (m, sc) (wr.alloc (.cells #[.string m, .int .i64 sc] 48)) hx (hJ _ _ _ hJi hb6)
      unfold encE at hy
      simp only at hy
      have R6 := Lib.hid (hrw.later hb6)
      clear hx hrw hJi hb6 h3
      gi_wp2_with fail
      (try refine ⟨fun _ => by decide, ?_⟩)
      refine hR.mono ?_
      rintro e W3 (⟨rfl, hJ3, hk3⟩ | ⟨rfl, hJx3⟩)
      · have R3 := Lib.hid (R6.out.keepc hk3 hL)
        clear hR hy hk3
        gi_wp2
        refine ⟨⟨i + 1, by go_num, hlt, hJ3, R3.out⟩, ?_⟩
        simp only [intOf]
        omega
      · gi_wp2
        exact bodyPost_ret (v := .tuple #[]) (by simp [results, Tryz.results68, go_sem]) rfl ⟨⟨_, rfl⟩, .inr ⟨_, hJx3⟩⟩
    · obtain rfl : i = E.length := by omega
      have hle : ¬ ((E.length : Int) < E.length) := by omega
      have HJ := Lib.hid hJi
      clear hrw hJi
      gi_wp2
      go_end0
      exact ⟨⟨_, rfl⟩, .inl HJ.out⟩
end Go.Proofs.YtpaphfofjfjdlaaGreat
