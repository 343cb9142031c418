/- Scores out of entries. -/
import Derived.Test.YtjilfgkoibbcnaaDoorMapOps
namespace Go.Proofs.YtjilfgkoibbcnaaDoor
open Go.RowKit Go.Shelf
attribute [local go_sem] Oper.semAt_some

/-- The score of each member's last entry. -/
def scoresM (l : List Ent) : List Ent := l.foldl (fun M e => putM M e.1 e.2) []
theorem scoresM_snoc (l : List Ent) (e : Ent) : scoresM (l ++ [e]) = putM (scoresM l) e.1 e.2 := by unfold scoresM; rw [List.foldl_append]; rfl
theorem len_put (M : List Ent) (m : ByteArray) (s : Int) : (putM M m s).length ≤ M.length + 1 := by
  unfold putM delM
  rw [List.length_cons]
  have := List.length_filter_le (fun x : Ent => !decide (x.1 = m)) M
  omega
theorem scoresM_take (l : List Ent) (k : Nat) : (scoresM (l.take k)).length ≤ k := by
  induction k with
  | zero => simp [scoresM]
  | succ k ih =>
    by_cases h : k < l.length
    · rw [List.take_succ_eq_append_getElem h, scoresM_snoc]
      have := len_put (scoresM (l.take k)) l[k].1 l[k].2
      omega
    · rw [List.take_of_length_le (by omega)] at ih ⊢
      omega
/-- Entries as they come in tests: few, short. -/
def OkL (l : List Ent) : Prop := l.length ≤ 100000 ∧ ∀ e ∈ l, e.1.size ≤ 1000000 ∧ I64 e.2

set_option maxRecDepth 100000 in
set_option maxHeartbeats 1000000 in
theorem scoresOf_any (a : Option Addr) (cap : Nat) (l : List Ent) (hl : OkL l) (w : World) (hE : Ents w a l) :
    Calls Tryd.prog 30 #[.slice a l.length cap] w fun e w' => ∃ b, e = .returned (.map (some b)) ∧ w.heap.size ≤ b ∧ MapIs w' 2 b (scoresM l) ∧ Below w.heap.size w w' := by
  have hmm := @run_makeMap Tryd.prog
  obtain ⟨hl1, hl2⟩ := hl
  go_enter Tryd.func30, Tryd.ntmps30
  go_wp2
  go_loopw [9] (fun i wr => ∃ (k : Nat), i = .int .i64 k ∧ k ≤ l.length ∧ Below w.heap.size w wr ∧ MapIs wr 2 w.heap.size (scoresM (l.take k))) (fun i _ => l.length - (intOf i).toNat)
  case atStart => exact ⟨0, rfl, by omega, alloc_below _ _, MapIs.made w 2⟩
  case round =>
    obtain ⟨k, rfl, hk, hb, hM⟩ := hrel
    by_cases hlt : k < l.length
    · obtain ⟨b, off, rfl, c0, c1⟩ := (hE.below hb) k hlt
      obtain ⟨hm, hs⟩ := hl2 _ (List.getElem_mem hlt)
      have hk2 : (k : Int) < l.length := by omega
      have hnx : scoresM (l.take (k + 1)) = putM (scoresM (l.take k)) l[k].1 l[k].2 := by rw [List.take_succ_eq_append_getElem hlt, scoresM_snoc]
      have hlen := scoresM_take l k
      have HN := Lib.hid hnx
      have HM := Lib.hid hM
      have HB := Lib.hid hb
      generalize l[k] = e at *
      obtain ⟨m, s⟩ := e
      simp only at c0 c1 hm hs
      clear hnx hM hb
      go_wp2_with (
        at_mapUpdate
        refine wpList_put rfl _ _ _ 43 rfl 2 Tryd.underlying43 Tryd.underlying2 (b := w.heap.size) (M := scoresM (l.take k)) rfl (HM.out.alloc _) (by omega) m s rfl rfl hm hs ?_
        intro W1 hM1 hg1
        have HM1 := Lib.hid hM1
        have HB1 := Lib.hid ((HB.out.alloc HB.out.size _).grown hg1 (HB.out.alloc HB.out.size _).size (fun k e => by cases e; exact Nat.le_refl _))
        clear hM1 hg1)
      refine ⟨⟨k + 1, by go_num, hlt, HB1.out, ?_⟩, by simp [intOf]; omega⟩
      rw [HN.out]
      exact HM1.out
    · obtain rfl : k = l.length := by omega
      rw [List.take_of_length_le (Nat.le_refl _)] at hM
      have HM := Lib.hid hM
      have HB := Lib.hid hb
      clear hM hb
      go_wp2
      go_ret
      exact ⟨_, rfl, Nat.le_refl _, HM.out, HB.out⟩
end Go.Proofs.YtjilfgkoibbcnaaDoor
