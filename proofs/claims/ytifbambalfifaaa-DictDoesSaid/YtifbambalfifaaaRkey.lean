/- The reference's rows of texts: parts of a row one behind the other; Less as a quiet call. -/
import Derived.Test.YtifbambalfifaaaRsort
import Derived.Deep.RegionLaw
namespace Go.Proofs.Ytifbambalfifaaa
open Go.RowKit Go.Shelf Go.Sort
attribute [local go_sem] Oper.semAt_some

/-- The cells of a list of texts, behind an address or none. -/
def KEnts (W : World) (a : Option Addr) (ks : List (List UInt8)) : Prop := ∀ i (h : i < ks.length), ∃ b off, a = some ⟨b, off, none⟩ ∧ W.cell? ⟨b, off + i, none⟩ = some (encStr ks[i])
theorem KEnts.of {W : World} {B : Nat} {A : Option Addr} {n cap : Nat} {ks : List (List UInt8)} (h : Own9 W B (.slice A n cap) ks) : KEnts W A ks := fun i hi => by
  obtain ⟨A', cap', e, hc⟩ := h.formR
  cases e
  obtain ⟨g, hA, hz⟩ := hc i hi
  exact ⟨g, 0, hA, by rw [Nat.zero_add]; exact hz⟩
theorem KEnts.take {W : World} {a : Option Addr} {l : List (List UInt8)} (h : KEnts W a l) (k : Nat) : KEnts W a (l.take k) := fun i hi => by
  have h2 : i < l.length := by simp at hi; omega
  simp only [List.getElem_take]
  exact h i h2
theorem KEnts.drop {W : World} {a : Option Addr} {l : List (List UInt8)} (h : KEnts W a l) (k cap : Nat) (hc : l.length ≤ cap) : KEnts W (if cap = k then a else a.map (·.add k)) (l.drop k) := fun i hi => by
  have h2 : k + i < l.length := by simp at hi; omega
  obtain ⟨b, off, rfl, c0⟩ := h (k + i) h2
  rw [if_neg (by omega)]
  refine ⟨b, off + k, by simp [Addr.add_lit], ?_⟩
  simp only [List.getElem_drop]
  rw [show off + k + i = off + (k + i) by omega]; exact c0
theorem KEnts.below {w W : World} {a : Option Addr} {l : List (List UInt8)} (h : KEnts w a l) (hb : Below w.heap.size w W) : KEnts W a l := fun i hi => by
  obtain ⟨b, off, ha, h0⟩ := h i hi
  have hlt : b < w.heap.size := World.block_lt_of_cell? w ⟨b, off + i, none⟩ h0
  exact ⟨b, off, ha, (hb.cell (p := ⟨b, _, none⟩) hlt).trans h0⟩
theorem KEnts.one (W : World) (x : List UInt8) : KEnts (W.alloc (.cells #[encStr x] 9)) (some ⟨W.heap.size, 0, none⟩) [x] := fun i hi => by
  obtain rfl : i = 0 := by simp at hi; omega
  refine ⟨_, _, rfl, ?_⟩
  have h := (Blk.new W 9 #[encStr x]).cell (0 + 0)
  rw [h]
  simp
theorem app_k {W : World} {n0 : Nat} {r : Value} {l xs : List (List UInt8)} {a : Option Addr} (hown : Own9 W n0 r l) (hE : KEnts W a xs) (cap : Nat) (hl : l.length ≤ 1000000) (hx : xs.length ≤ 1000000) (hn : n0 ≤ W.heap.size) :
    ∃ v' W', (Builtin.append_ #[39, 39] 39 #[r, .slice a xs.length cap]).run Try.prog W = .ok v' W' ∧ Own9 W' n0 v' (l ++ xs) ∧ W.grownBy W' r.ownBlock := by
  obtain ⟨i0, hi0, hz0, hz1, hz2⟩ := info_parts info9
  have hlen : (l ++ xs).length = l.length + xs.length := List.length_append
  cases a with
  | none =>
    have h0 : xs = [] := by
      cases xs with
      | nil => rfl
      | cons e xs => obtain ⟨b, off, h, _⟩ := hE 0 (by simp); cases h
    subst h0
    refine ⟨r, W, ?_, by rw [List.append_nil]; exact hown, World.grownBy.refl W _⟩
    rcases hown.2 with ⟨rfl, hl0⟩ | ⟨g, c, cur, rfl, _, _, hc, _⟩
    · simp [Builtin.append_, run_underlying Try.underlying39, sizeOf, typeInfo, hi0, Builtin.lenOf, Builtin.firstCells]
    · simp [Builtin.append_, run_underlying Try.underlying39, sizeOf, typeInfo, hi0, Builtin.lenOf, Builtin.firstCells, hc, storeCells]
  | some ad =>
    obtain ⟨v', W', h1, h2, h3, _⟩ := run_append_own_at (P := Try.prog) W n0 39 39 9 i0 (.string ⟨#[]⟩) 1 16 Try.underlying39 hi0 hz0 hz1 hz2 rfl (by decide) r _ _ hown ad xs.length cap (xs.map encStr) (by simp)
      (fun j u hu => by
        obtain ⟨hj, hju⟩ := List.getElem?_eq_some_iff.1 hu
        rw [List.length_map] at hj
        obtain ⟨b, off, h, c0⟩ := hE j hj
        cases h
        rw [Addr.add_lit, c0, ← hju, List.getElem_map])
      (by intro x hx; obtain ⟨b, _, rfl⟩ := List.mem_map.1 hx; rfl) (by unfold maxLen; omega) (by omega) hn
    refine ⟨v', W', h1, ?_, h3⟩
    unfold Own9
    rw [hlen, List.map_append]
    exact h2
theorem step_app_k {ops : Array Oper} {o : Oper} {a : Act} {W : World} {K : Act → World → Prop} {Q : Exit → Act → World → Prop} {E : Prop} (hgd : o.guard = none) (s x : Operand)
    (ho : o.op = Op.call { callee := Callee.builtin Builtin.append, args := #[s, x], argTypes := #[39, 39] }) (hty : o.type = 39)
    {n0 : Nat} {r : Value} {l xs : List (List UInt8)} {ad : Option Addr} {m cap : Nat} (hs : a.eval s = r) (hx : a.eval x = .slice ad m cap) (hm : m = xs.length)
    (hown : Own9 W n0 r l) (hE : KEnts W ad xs) (hl : l.length ≤ 1000000) (hxl : xs.length ≤ 1000000) (hn : n0 ≤ W.heap.size)
    (h : ∀ v' W', Own9 W' n0 v' (l ++ xs) → W.grownBy W' r.ownBlock → K (a.put o.dst v') W') : if Region.wanted o (yielded ops a.tmps) = true then Oper.wp Try.prog o a W K Q else E := by
  subst hm
  obtain ⟨v', W', hrun, h2, h3⟩ := app_k hown hE cap hl hxl hn
  exact step_append_ran hgd s x 39 39 ho hs hx (by rw [hty]; exact hrun) (h v' W' h2 h3)
theorem wpList_app_k {ops : Array Oper} {rest : List Oper} {o : Oper} {a : Act} {W : World} {Q : Exit → Act → World → Prop} (hgd : o.guard = none) (s x : Operand)
    (ho : o.op = Op.call { callee := Callee.builtin Builtin.append, args := #[s, x], argTypes := #[39, 39] }) (hty : o.type = 39)
    {n0 : Nat} {r : Value} {l xs : List (List UInt8)} {ad : Option Addr} {m cap : Nat} (hs : a.eval s = r) (hx : a.eval x = .slice ad m cap) (hm : m = xs.length)
    (hown : Own9 W n0 r l) (hE : KEnts W ad xs) (hl : l.length ≤ 1000000) (hxl : xs.length ≤ 1000000) (hn : n0 ≤ W.heap.size)
    (h : ∀ v' W', Own9 W' n0 v' (l ++ xs) → W.grownBy W' r.ownBlock → wpList Try.prog ops Q rest (a.put o.dst v') W') : wpList Try.prog ops Q (o :: rest) a W := by
  subst hm
  obtain ⟨v', W', hrun, h2, h3⟩ := app_k hown hE cap hl hxl hn
  refine wpList_plain hgd fun K hK => ?_
  unfold Oper.wp
  simp [execOp, ho, resolve, invoke, builtin, hs, hx, hty, hrun, Result.andThen]
  exact hK _ _ (h v' W' h2 h3)

set_option maxRecDepth 100000 in
theorem lessq_any (a b : ByteArray) (ha : a.size ≤ 281474976710656) (hb : b.size ≤ 281474976710656) (w : World) : Calls Try.prog 33 #[.string a, .string b] w fun e w' => e = .returned (.bool (decide (a.data.toList < b.data.toList))) ∧ ∃ n, w' = w.drewN n := by
  obtain ⟨bv, hbv⟩ : ∃ bv, bv = decide (a.data.toList < b.data.toList) := ⟨_, rfl⟩
  have HBV := Lib.hid hbv
  rw [← hbv]
  clear hbv
  go_enter Try.func33, Try.ntmps33
  go_wp2
  go_loopw [5] (fun i wr => ∃ j : Nat, i = .int .i64 j ∧ j ≤ a.size ∧ j ≤ b.size ∧ Hid ((a.data.toList.drop j < b.data.toList.drop j) ↔ (a.data.toList < b.data.toList)) ∧ Hid (∃ n, wr = w.drewN n)) (fun i _ => a.size - (intOf i).toNat)
  case atStart => exact ⟨0, rfl, by omega, by omega, Lib.hid (by rw [List.drop_zero, List.drop_zero]), Lib.hid ⟨0, rfl⟩⟩
  case round =>
    obtain ⟨j, rfl, hja, hjb, HI, HW⟩ := hrel
    by_cases hlt : j < a.size ∧ j < b.size
    · obtain ⟨h1, h2⟩ := hlt
      have hst := lt_step (x := a.data.toList) (y := b.data.toList) (i := j) (by simpa using h1) (by simpa using h2)
      have HST := Lib.hid hst
      clear hst
      by_cases he : a[j] = b[j]
      · have he2 : ((a[j].toNat : Int) == (b[j].toNat : Int)) = true := by rw [he]; simp
        have HE := Lib.hid he
        clear he
        go_wp2
        go_quiet (fail)
        go_wp2
        refine ⟨⟨j + 1, by go_num, by omega, by omega, Lib.hid ?_, Lib.hid ?_⟩, by simp [intOf]; omega⟩
        · rw [← HI.out, HST.out]
          have h1 : a.data.toList[j]'(by simpa using h1) = b.data.toList[j]'(by simpa using h2) := HE.out
          simp [h1]
        · obtain ⟨n, hn⟩ := HW.out
          exact ⟨n + nq, by rw [hn, World.drewN_drewN]⟩
      · have he2 : ((a[j].toNat : Int) == (b[j].toNat : Int)) = false := by
          rw [beq_eq_false_iff_ne]
          intro e
          exact he (UInt8.toNat_inj.1 (by omega))
        have HE := Lib.hid he
        clear he
        go_wp2
        go_quiet (fail)
        go_wp2
        go_quiet (fail)
        go_wp2
        go_returns
        refine ⟨?_, ?_⟩
        · have hv : decide (a[j].toNat < b[j].toNat) = bv := by
            rw [HBV.out, decide_eq_decide, ← HI.out, HST.out]
            have hne : ¬ a.data.toList[j]'(by simpa using h1) = b.data.toList[j]'(by simpa using h2) := HE.out
            simp only [hne, false_and, or_false]
            exact UInt8.lt_iff_toNat_lt.symm
          rw [← hv]
          rfl
        · obtain ⟨n, hn⟩ := HW.out
          subst hn
          simp only [World.drewN_drewN]
          exact ⟨_, rfl⟩
    · have hex : (a.size : Int) ≤ j ∨ ((j : Int) < a.size ∧ (b.size : Int) ≤ j) := by omega
      have HX := Lib.hid (show decide (a.size < b.size) = bv by
        have h := lt_end (x := a.data.toList) (y := b.data.toList) (i := j) (by simpa using hja) (by simpa using hjb) (by simp; omega)
        rw [HBV.out, decide_eq_decide, ← HI.out, h]
        simp)
      clear hlt
      rcases hex with hex | ⟨hex, hex2⟩
      all_goals (
        go_wp2
        go_returns
        refine ⟨?_, HW.out⟩
        rw [← HX.out]
        rfl)
end Go.Proofs.Ytifbambalfifaaa
