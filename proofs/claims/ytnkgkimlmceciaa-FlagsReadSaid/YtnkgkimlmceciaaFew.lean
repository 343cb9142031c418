/- The first words of a list; two lists of texts held against each other. -/
import Derived.Test.YtnkgkimlmceciaaRows2
import Derived.Deep.RegionLaw
namespace Go.Proofs.Ytnkgkimlmceciaa
open Go.RowKit Go.Shelf
attribute [local go_sem] Oper.semAt_some

/-- A list of texts behind an address, or none. -/
def Strs (W : World) (a : Option Addr) (l : List ByteArray) : Prop := ∀ (k : Nat) (h : k < l.length), ∃ b off, a = some ⟨b, off, none⟩ ∧ W.cell? ⟨b, off + k, none⟩ = some (.string l[k])
theorem Strs.below {w W : World} {a : Option Addr} {l : List ByteArray} (h : Strs w a l) (hb : Below w.heap.size w W) : Strs W a l := fun k hk => by
  obtain ⟨b, off, h1, h2⟩ := h k hk
  exact ⟨b, off, h1, (hb.cell (p := ⟨b, off + k, none⟩) (World.block_lt_of_cell? w ⟨b, off + k, none⟩ h2)).trans h2⟩
def fewB (s : ByteArray) : ByteArray := s.extract 0 (min s.size 10)
def fewS (l : List ByteArray) : List ByteArray := (l.take 20).map fewB
theorem few_len (l : List ByteArray) : (fewS l).length ≤ 20 := by unfold fewS; simp; omega
theorem few_small (l : List ByteArray) : ∀ s ∈ fewS l, s.size ≤ 10 := by
  intro s hs
  obtain ⟨x, _, rfl⟩ := List.mem_map.1 hs
  unfold fewB
  rw [ByteArray.size_extract]
  omega

theorem step_append_ran {P : Program} {ops : Array Oper} {o : Oper} {a : Act} {w w' : World} {K : Act → World → Prop} {Q : Exit → Act → World → Prop} {E : Prop} {v xv v' : Value} (hgd : o.guard = none) (s x : Operand) (t u : TypeId)
    (ho : o.op = Op.call { callee := Callee.builtin Builtin.append, args := #[s, x], argTypes := #[t, u] }) (hs : a.eval s = v) (hx : a.eval x = xv) (hrun : (Builtin.append_ #[t, u] o.type #[v, xv]).run P w = .ok v' w')
    (h : K (a.put o.dst v') w') : if Region.wanted o (yielded ops a.tmps) = true then Oper.wp P o a w K Q else E := by
  have hw : Region.wanted o (yielded ops a.tmps) = true := by simp [Region.wanted, hgd]
  rw [if_pos hw]
  unfold Oper.wp
  simp [execOp, ho, resolve, invoke, builtin, hs, hx, hrun, Result.andThen]
  exact h

set_option maxRecDepth 100000 in
set_option maxHeartbeats 4000000 in
theorem few_any (a : Option Addr) (cap : Nat) (l : List ByteArray) (hl : l.length ≤ 9223372036854775807) (hz : ∀ e ∈ l, e.size ≤ 9223372036854775807) (w : World) (hE : Strs w a l) :
    Calls Try.prog 15 #[.slice a l.length cap] w fun e w' => ∃ r, e = .returned r ∧ Words w' r (fewS l) ∧ Below w.heap.size w w' := by
  go_enter Try.func15, Try.ntmps15
  go_wp2
  go_loopw [3, 4] (fun v i wr => ∃ (k : Nat), i = .int .i64 k ∧ k ≤ l.length ∧ k ≤ 20 ∧ Below w.heap.size w wr ∧ wr.ownsRow w.heap.size 9 1 v k (cellsS ((l.take k).map fewB)))
    (fun _ i _ => l.length - (intOf i).toNat)
  case atStart => exact ⟨0, rfl, by omega, by omega, Below.refl _ _, World.ownsRow_nil _ _ _ _⟩
  case round =>
    obtain ⟨k, rfl, hk, hk2, hb, hown⟩ := hrel
    by_cases hlt : k < l.length ∧ k < 20
    · obtain ⟨hlt, h20⟩ := hlt
      obtain ⟨b, off, rfl, c0⟩ := (hE.below hb) k hlt
      have hm := hz _ (List.getElem_mem hlt)
      have hnx : cellsS ((l.take (k + 1)).map fewB) = cellsS ((l.take k).map fewB) ++ [.string (fewB l[k])] := by
        rw [List.take_succ_eq_append_getElem hlt, List.map_append]; simp [cellsS]
      have HN := Lib.hid hnx
      have HE := Lib.hid hE
      generalize l[k] = m at *
      obtain ⟨q, hq⟩ : ∃ q, q = min m.size 10 := ⟨_, rfl⟩
      have hmin : (if (10 : Int) < (m.size : Int) then 10 else (m.size : Int)) = (q : Int) := by split <;> omega
      have hqs : (q : Int) ≤ m.size := by omega
      have hq0 : (0 : Int) ≤ q := by omega
      have hfe : fewB m = m.extract 0 q := by unfold fewB; rw [hq]
      rw [hfe] at HN
      have hbd : Below wr.heap.size wr wr.drew := (Below.refl _ _).drew
      have hown2 := own_later hown hbd
      obtain ⟨g7, cap7, w7, hrun, hown7, hgrow⟩ := app9 hown2 (Nat.le_trans hb.size hbd.size) (by omega) (m.extract 0 q)
      have hb7 : Below w.heap.size w w7 := grown_below ((hb.trans (hbd.mono hb.size)).alloc (by have := hb.size; simpa using this) _) hgrow (World.ownsRow.alloc hown2 _) (Nat.le_refl _)
      have H7 := Lib.hid hb7
      have HO := Lib.hid hown7
      clear hnx hE hq hb7 hown7 hgrow hbd hfe hown2
      go_wp2
      go_region_law (refine step_append_ran rfl _ _ 30 30 (by rfl) (by rfl) (by rfl) hrun ?_)
      all_goals (
        go_wp2
        refine ⟨⟨k + 1, by go_num, hlt, h20, H7.out, ?_⟩, by simp [intOf]; omega⟩
        rw [HN.out]
        exact HO.out)
    · have hfin : (l.take k).map fewB = fewS l ∧ k = (fewS l).length := by
        unfold fewS
        by_cases h2 : k = 20
        · rw [h2]; refine ⟨rfl, ?_⟩; simp; omega
        · have : k = l.length := by omega
          rw [List.take_of_length_le (show l.length ≤ k by omega), List.take_of_length_le (show l.length ≤ 20 by omega)]
          exact ⟨rfl, by simp; omega⟩
      rw [hfin.1] at hown
      have hown' := hown
      rw [hfin.2] at hown'
      have HO := Lib.hid (row_words hown')
      clear hown hfin hown'
      by_cases h1 : k < l.length
      · have h2 : k = 20 := by omega
        subst h2
        go_wp2
        go_ret
        exact ⟨_, rfl, HO.out, hb⟩
      · go_wp2
        go_ret
        exact ⟨_, rfl, HO.out, hb⟩

theorem Words.strs {W : World} {v : Value} {l : List ByteArray} (h : Words W v l) : ∃ a cap, v = .slice a l.length cap ∧ Strs W a l := by
  rcases h with ⟨rfl, rfl⟩ | ⟨b, cap, cur, rfl, hb, hc⟩
  · exact ⟨none, 0, rfl, fun k hk => absurd hk (by simp)⟩
  · refine ⟨some ⟨b, 0, none⟩, cap, rfl, fun k hk => ⟨b, 0, rfl, ?_⟩⟩
    rw [Nat.zero_add]
    exact (hb.cell k).trans (hc k _ (List.getElem?_eq_getElem hk))
set_option maxRecDepth 100000 in
set_option maxHeartbeats 4000000 in
/-- Two lists that are the same are found to be. -/
theorem texts_same (a b : Option Addr) (ca cb : Nat) (l : List ByteArray) (hl : l.length ≤ 1000000000) (w : World) (h1 : Strs w a l) (h2 : Strs w b l) :
    Calls Try.prog 17 #[.slice a l.length ca, .slice b l.length cb] w fun e w' => e = .returned (.bool true) ∧ Below w.heap.size w w' := by
  have H1 := Lib.hid h1
  have H2 := Lib.hid h2
  clear h1 h2
  go_enter Try.func17, Try.ntmps17
  go_wp2
  go_loopw [5] (fun i wr => ∃ (k : Nat), i = .int .i64 k ∧ k ≤ l.length ∧ Below w.heap.size w wr) (fun i _ => l.length - (intOf i).toNat)
  case atStart => exact ⟨0, rfl, by omega, Below.refl _ _⟩
  case round =>
    obtain ⟨k, rfl, hk, hb⟩ := hrel
    by_cases hlt : k < l.length
    · obtain ⟨b1, o1, rfl, c1⟩ := (H1.out.below hb) k hlt
      obtain ⟨b2, o2, rfl, c2⟩ := (H2.out.below hb) k hlt
      have hlt2 : (k : Int) < l.length := by omega
      generalize l[k] = s at *
      have HB := Lib.hid hb
      clear hb
      go_wp2
      go_quiet (fail)
      go_wp2
      exact ⟨⟨k + 1, by go_num, hlt, below_drewN HB.out nq⟩, by simp [intOf]; omega⟩
    · obtain rfl : k = l.length := by omega
      have HB := Lib.hid hb
      clear hb
      go_wp2
      go_ret
      exact ⟨rfl, HB.out⟩
end Go.Proofs.Ytnkgkimlmceciaa
