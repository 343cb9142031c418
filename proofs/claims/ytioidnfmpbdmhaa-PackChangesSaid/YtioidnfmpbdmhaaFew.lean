/- The first entries of a list. -/
import Derived.Test.YtioidnfmpbdmhaaLaw
import Derived.Deep.RegionLaw
namespace Go.Proofs.Ytioidnfmpbdmhaa
open Go.RowKit Go.Shelf
attribute [local go_sem] Oper.semAt_some

/-- The first entries, with the first bytes of their members. -/
def fewE (e : Ent) : Ent := (e.1.extract 0 (min e.1.size 70), e.2)
def fewS (l : List Ent) : List Ent := (l.take 210).map fewE

theorem step_append_ran {P : Program} {ops : Array Oper} {o : Oper} {a : Act} {w w' : World} {K : Act → World → Prop} {Q : Exit → Act → World → Prop} {E : Prop} {v xv v' : Value} (hgd : o.guard = none) (s x : Operand) (t u : TypeId)
    (ho : o.op = Op.call { callee := Callee.builtin Builtin.append, args := #[s, x], argTypes := #[t, u] }) (hs : a.eval s = v) (hx : a.eval x = xv) (hrun : (Builtin.append_ #[t, u] o.type #[v, xv]).run P w = .ok v' w')
    (h : K (a.put o.dst v') w') : if Region.wanted o (yielded ops a.tmps) = true then Oper.wp P o a w K Q else E := by
  have hw : Region.wanted o (yielded ops a.tmps) = true := by simp [Region.wanted, hgd]
  rw [if_pos hw]
  unfold Oper.wp
  simp [execOp, ho, resolve, invoke, builtin, hs, hx, hrun, Result.andThen]
  exact h

set_option maxRecDepth 100000 in
set_option maxHeartbeats 4000000 in
theorem few_any (a : Option Addr) (cap : Nat) (l : List Ent) (hl : l.length ≤ 9223372036854775807) (hz : ∀ e ∈ l, e.1.size ≤ 9223372036854775807) (w : World) (hE : Ents w a l) :
    Calls Try.prog 12 #[.slice a l.length cap] w fun e w' => ∃ r, e = .returned r ∧ Own35 w' w.heap.size r (fewS l) ∧ Below w.heap.size w w' := by
  obtain ⟨i0, hi0, hz0, hz1, hz2⟩ := info_parts info35
  go_enter Try.func12, Try.ntmps12
  go_wp2
  go_loopw [3, 4] (fun v i wr => ∃ (k : Nat), i = .int .i64 k ∧ k ≤ l.length ∧ k ≤ 210 ∧ Below w.heap.size w wr ∧ Own35 wr w.heap.size v ((l.take k).map fewE))
    (fun _ i _ => l.length - (intOf i).toNat)
  case atStart => exact ⟨0, rfl, by omega, by omega, Below.refl _ _, World.ownsRow_nil _ _ _ _⟩
  case round =>
    obtain ⟨k, rfl, hk, hk2, hb, hown⟩ := hrel
    by_cases hlt : k < l.length ∧ k < 210
    · obtain ⟨hlt, h210⟩ := hlt
      obtain ⟨b, off, rfl, c0, c1⟩ := (hE.below hb) k hlt
      have hm := hz _ (List.getElem_mem hlt)
      have hnx : (l.take (k + 1)).map fewE = (l.take k).map fewE ++ [fewE l[k]] := by
        rw [List.take_succ_eq_append_getElem hlt, List.map_append]; rfl
      have HN := Lib.hid hnx
      have HE := Lib.hid hE
      have hkl : ((l.take k).map fewE).length = k := by simp; omega
      generalize l[k] = e at *
      obtain ⟨m, s⟩ := e
      simp only at c0 c1 hm HN
      obtain ⟨q, hq⟩ : ∃ q, q = min m.size 70 := ⟨_, rfl⟩
      have hmin : min (m.size : Int) 70 = (q : Int) := by omega
      have hqs : (q : Int) ≤ m.size := by omega
      have hq0 : (0 : Int) ≤ q := by omega
      have hfe : fewE (m, s) = (m.extract 0 q, s) := by unfold fewE; rw [hq]
      rw [hfe] at HN
      have hbd : Below wr.heap.size wr wr.drew := (Below.refl _ _).drew
      obtain ⟨g7, cap7, w7, hrun, hown7, hgrow⟩ := app_ent hi0 hz0 hz1 hz2 hown hbd (m.extract 0 q, s) (by omega) hb.size
      rw [hkl] at hrun hown7
      have hb7 : Below w.heap.size w w7 := ((hb.trans (hbd.mono hb.size)).alloc (by have := hb.size; simpa using this) _).grown hgrow (by have := hb.size; simp; omega) (fun k e => (World.ownsRow.lt hown k e).1)
      have H7 := Lib.hid hb7
      have HO := Lib.hid hown7
      clear hnx hE hq hb7 hown7 hgrow hbd hfe
      go_wp2
      go_region_law (refine step_append_ran rfl _ _ 22 22 (by rfl) (by rfl) (by rfl) hrun ?_)
      all_goals (
        go_wp2
        refine ⟨⟨k + 1, by go_num, hlt, h210, H7.out, ?_⟩, by simp [intOf]; omega⟩
        rw [HN.out]
        exact HO.out)
    · have hfin : (l.take k).map fewE = fewS l := by
        unfold fewS
        by_cases h2 : k = 210
        · rw [h2]
        · have : k = l.length := by omega
          rw [List.take_of_length_le (show l.length ≤ k by omega), List.take_of_length_le (show l.length ≤ 210 by omega)]
      rw [hfin] at hown
      have HO := Lib.hid hown
      clear hown hfin
      by_cases h1 : k < l.length
      · have h2 : k = 210 := by omega
        subst h2
        go_wp2
        go_ret
        exact ⟨_, rfl, HO.out, hb⟩
      · go_wp2
        go_ret
        exact ⟨_, rfl, HO.out, hb⟩
end Go.Proofs.Ytioidnfmpbdmhaa
