/- What the reference's set tells: ranges, its form, its size. -/
import Derived.Test.YtpaphfofjfjdlaaGreatQZRefOps
import Derived.Test.YtpaphfofjfjdlaaGreatQZBytes
namespace Go.Proofs.YtpaphfofjfjdlaaGreat
open Go.RowKit Go.Shelf Sk
attribute [local go_sem] Oper.semAt_some

theorem row_empty (W : World) (n0 : Nat) (a : Option Addr) (c : Nat) : Row W n0 (.slice a 0 c) [] := ⟨⟨a, c, rfl⟩, fun i e h => by simp at h⟩
theorem Row.part {W : World} {n0 : Nat} {a : Option Addr} {c : Nat} {l : List En} (h : Row W n0 (.slice a l.length c) l) (F k : Nat) (hk : F + k ≤ l.length) (hk0 : 0 < k) (c' : Nat) :
    Row W n0 (.slice (a.map fun x => x.add (F * 2)) k c') ((l.drop F).take k) := by
  have hlen : ((l.drop F).take k).length = k := by simp; omega
  refine ⟨⟨_, c', by rw [hlen]⟩, fun i e he => ?_⟩
  have hi := (List.getElem?_eq_some_iff.1 he).1
  rw [hlen] at hi
  rw [List.getElem?_take_of_lt hi, List.getElem?_drop] at he
  obtain ⟨b, off, c2, cur, e1, e2, e3, e4, e5⟩ := h.at' (F + i) e he
  injection e1 with e1 _ _
  subst e1
  refine ⟨b, off + F * 2, c', cur, by rw [hlen]; simp [Addr.add_lit], e2, e3, ?_, ?_⟩
  · rw [← e4]; congr 2; omega
  · rw [← e5]; congr 2; omega
theorem sub_parts (E : List En) (f t : Int) (F T : Nat) (hF : max 0 (min f (E.length : Int)) = F) (hT : max (F : Int) (min t (E.length : Int)) = T) : F ≤ T ∧ T ≤ E.length ∧ (T = F → subE E f t = []) ∧ (F < T → subE E f t = (E.drop F).take (T - F)) := by
  refine ⟨by omega, by omega, fun h => ?_, fun h => ?_⟩
  · exact List.eq_nil_of_length_eq_zero (by rw [subE_len]; unfold t0 f0; omega)
  · unfold subE f0 t0
    obtain rfl : F = (max f 0).toNat := by omega
    obtain rfl : T = (min t E.length).toNat := by omega
    rfl

set_option maxRecDepth 100000 in
set_option maxHeartbeats 2000000 in
theorem ref_range {w : World} {r : Nat} {E : List En} {le lm : Int} {isL : Bool} (h : RefC w r E le lm isL) (hE : E.length ≤ 1000) (f t : Int) :
    Calls Tryz.prog 17 #[.pointer (some ⟨r, 0, none⟩), .int .i64 f, .int .i64 t] w fun e w' => ∃ v, e = .returned v ∧ Row w' 0 v (subE E f t) ∧ w' = w := by
  obtain ⟨a, c, hk, hc, hr⟩ := h.ex
  obtain ⟨F, hF⟩ : ∃ F : Nat, max 0 (min f (E.length : Int)) = F := ⟨(max 0 (min f (E.length : Int))).toNat, by omega⟩
  obtain ⟨T, hT⟩ : ∃ T : Nat, max (F : Int) (min t (E.length : Int)) = T := ⟨(max (F : Int) (min t (E.length : Int))).toNat, by omega⟩
  obtain ⟨hFT, hTE, hs1, hs2⟩ := sub_parts E f t F T hF hT
  have hk1 : (F : Int) ≤ c := by omega
  have hk2 : (T : Int) ≤ c := by omega
  have hk3 : (0 : Int) ≤ F := by omega
  have hk4 : (F : Int) ≤ T := by omega
  obtain ⟨⟨c0, c1, c2, c3⟩, f0⟩ := facts4 hk
  have FIN : Hid (∀ v, (v = .slice a (T - F) (c - F) ∧ c = F ∨ v = .slice (a.map fun x => x.add (F * 2)) (T - F) (c - F)) → Row w 0 v (subE E f t)) := Lib.hid fun v hv => by
    by_cases e : T = F
    · rw [hs1 e, show T - F = 0 by omega] at *
      rcases hv with ⟨rfl, _⟩ | rfl <;> exact row_empty _ _ _ _
    · rw [hs2 (by omega)]
      rcases hv with ⟨_, h⟩ | rfl
      · omega
      · exact hr.part F (T - F) (by omega) (by omega) _
  clear hk hr h hs1 hs2 hTE hE hFT
  by_cases hcf : c = F
  · have hcf2 : (c == F) = true := by simpa using hcf
    go_enter Tryz.func17, Tryz.ntmps17
    go_wp2
    all_goals (
      go_ret
      exact ⟨_, rfl, FIN.out _ (.inl ⟨by show Value.slice a (T - F) 0 = _; rw [hcf, Nat.sub_self], hcf⟩), rfl⟩)
  · have hcf2 : (c == F) = false := by simpa using hcf
    go_enter Tryz.func17, Tryz.ntmps17
    go_wp2
    all_goals (
      go_ret
      exact ⟨_, rfl, FIN.out _ (.inr rfl), rfl⟩)

theorem ref_enc {w : World} {r : Nat} {E : List En} {le lm : Int} {isL : Bool} (h : RefC w r E le lm isL) :
    Calls Tryz.prog 19 #[.pointer (some ⟨r, 0, none⟩)] w fun e w' => e = .returned (.string (encB isL)) ∧ w' = w := by
  obtain ⟨a, c, hk, hc, hr⟩ := h.ex
  obtain ⟨⟨c0, c1, c2, c3⟩, f0⟩ := facts4 hk
  clear hk hr h
  unfold encB
  cases isL with
  | true =>
    simp only [if_true]
    go_enter Tryz.func19, Tryz.ntmps19
    go_wp2
    go_ret
    exact ⟨rfl, rfl⟩
  | false =>
    simp only [Bool.false_eq_true, if_false]
    go_enter Tryz.func19, Tryz.ntmps19
    go_wp2
    go_ret
    exact ⟨rfl, rfl⟩

theorem szP_take {E : List En} {i : Nat} {x : En} (h : E[i]? = some x) : (Pk.packB (E.take (i + 1))).size = (Pk.packB (E.take i)).size + (10 + x.1.size) := by
  obtain ⟨hi, he⟩ := List.getElem?_eq_some_iff.1 h
  rw [Pk.packB_size, Pk.packB_size, List.take_succ_eq_append_getElem hi, List.flatMap_append, List.length_append, he]
  simp only [List.flatMap_cons, List.flatMap_nil, List.append_nil, Pk.entB_length]
  omega
theorem szS_take {isL : Bool} {E : List En} {i : Nat} {x : En} (h : E[i]? = some x) : szS isL (E.take (i + 1)) = szS isL (E.take i) + (if isL then 64 + 2 * x.1.size else 10 + x.1.size) := by
  unfold szS
  cases isL
  · simpa using szP_take h
  · simpa using szL_take h
theorem szS_le {isL : Bool} {E : List En} (hE : E.length ≤ 1000) (hz : ∀ e ∈ E, e.1.size ≤ 64) (i : Nat) : szS isL (E.take i) ≤ 200000 := by
  have hz2 : ∀ e ∈ E.take i, e.1.size ≤ 64 := fun e he => hz e (List.mem_of_mem_take he)
  have hl : (E.take i).length ≤ 1000 := by simp; omega
  unfold szS
  split
  · have := szL_le hz2; omega
  · have := Pk.size_packB hz2 hl; omega
theorem szS_zero (isL : Bool) : szS isL [] = if isL then 0 else 2 := by cases isL <;> rfl

set_option maxRecDepth 100000 in
set_option maxHeartbeats 2000000 in
theorem ref_bytes {w : World} {r : Nat} {E : List En} {le lm : Int} {isL : Bool} (h : RefC w r E le lm isL) (hE : E.length ≤ 1000) (hz : ∀ e ∈ E, e.1.size ≤ 64) :
    Calls Tryz.prog 21 #[.pointer (some ⟨r, 0, none⟩)] w fun e w' => e = .returned (.int .i64 (szS isL E)) ∧ w' = w := by
  obtain ⟨a, c, hk, hc, hr⟩ := h.ex
  obtain ⟨⟨c0, c1, c2, c3⟩, f0⟩ := facts4 hk
  have HR := Lib.hid hr
  have HT := Lib.hid (fun i x (h : E[i]? = some x) => szS_take (isL := isL) h)
  have HLE := Lib.hid (szS_le (isL := isL) hE hz)
  have HZ := Lib.hid hz
  have HALL := Lib.hid (show szS isL (E.take E.length) = szS isL E by rw [List.take_length])
  have HZERO := Lib.hid (szS_zero isL)
  clear hk hr h hz
  cases isL
  all_goals
    go_enter Tryz.func21, Tryz.ntmps21
    go_wp2
    go_loopw [3, 4] (fun n i wr => ∃ (k : Nat), i = .int .i64 k ∧ k ≤ E.length ∧ n = .int .i64 (szS _ (E.take k) : Nat) ∧ wr = w) (fun _ i _ => E.length - (intOf i).toNat)
    case atStart => exact ⟨0, rfl, by omega, by rw [List.take_zero, HZERO.out]; rfl, rfl⟩
    case round =>
      obtain ⟨k, rfl, hk, rfl, rfl⟩ := hrel
      have hle := HLE.out k
      by_cases hlt : k < E.length
      · have hx : E[k]? = some E[k] := List.getElem?_eq_getElem hlt
        have HST := Lib.hid (HT.out k _ hx)
        have hxm := HZ.out _ (List.getElem_mem hlt)
        generalize E[k] = x at *
        obtain ⟨b, off, c', e1, g0, g1⟩ := row_cells HR.out hx
        injection e1 with e1 _ e2
        subst e1
        subst e2
        have hk2 : (k : Int) < E.length := by omega
        generalize szS _ (E.take k) = n at *
        clear hx
        go_wp2
        go_roundw
        case rel => exact ⟨k + 1, by go_num, hlt, by rw [HST.out]; simp; omega, trivial⟩
        case measure => simp [intOf]; omega
      · obtain rfl : k = E.length := by omega
        have hk2 : ¬ (E.length : Int) < E.length := by omega
        rw [HALL.out] at *
        go_wp2
        go_ret
        exact ⟨rfl, rfl⟩
end Go.Proofs.YtpaphfofjfjdlaaGreat
