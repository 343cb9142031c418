/- What the laws share: a dict of their own, the examples, keys. -/
import Derived.Test.YtlfhiolkbnhinaaDoorIs
namespace Go.Proofs.YtlfhiolkbnhinaaDoor
open Go.RowKit Go.Shelf
attribute [local go_sem] Oper.semAt_some

/-- A dict that was made since w; all that was in w is as it was. -/
def Alone (w : World) (p seed : Nat) (m : ByteArray → Option Int) (n : Sh) (W : World) : Prop := Is W p (fresh tyI w W) seed m n ∧ Below w.heap.size w W
section
variable {w W W' : World} {p seed : Nat} {m m' : ByteArray → Option Int} {n n' : Sh}
theorem Alone.now (h : Alone w p seed m n W) (g : IsNow (fresh tyI w W) W p seed m' n' W') : Alone w p seed m' n' W' := by
  have hb : Below w.heap.size w W' := h.2.trans (g.2.below (fun _ hk => hk.1.resolve_left (fun h => h)) h.2.size)
  refine ⟨g.1.wide (fun k hk => ⟨.inr ?_, hk.2⟩) (fun _ hk => hk.2), hb⟩
  rcases hk.1 with h1 | h1
  · exact h1.1.resolve_left (fun h => h)
  · exact Nat.le_trans h.2.size h1
theorem Alone.later (h : Alone w p seed m n W) (hb : Below W.heap.size W W') : Alone w p seed m n W' :=
  ⟨(h.1.later hb).wide (fun k hk => ⟨hk.1, hk.2.same (hb.block k hk.2.lt)⟩) (fun _ hk => hk.2), h.2.trans (hb.mono h.2.size)⟩
theorem Alone.new {W0 : World} (hb : Below w.heap.size w W0) (h : Is W p (fresh tyI W0 W) seed m n) (hb2 : Below W0.heap.size W0 W) : Alone w p seed m n W :=
  ⟨h.wide (fun _ hk => ⟨.inr (Nat.le_trans hb.size (hk.1.resolve_left (fun h => h))), hk.2⟩) (fun _ hk => hk.2), hb.trans (hb2.mono hb.size)⟩
/-- What lies elsewhere is as it was. -/
theorem Alone.keep (g : IsNow (fresh tyI w W) W p seed m' n' W') {k : Nat} {t : TypeId} {c : Array Value} (hk : Blk W k t c) (ht : ¬ (t = tyI.d ∨ t = tyI.t ∨ t = tyI.r)) : Blk W' k t c :=
  g.2.blk hk fun hs => not_cell hk ht hs.2
end

def cutK (s : ByteArray) : ByteArray := s.extract 0 (min s.size 12)
theorem cutK_size (s : ByteArray) : (cutK s).size ≤ 12 := by unfold cutK; simp; omega
theorem key_any (s : ByteArray) (hs : s.size ≤ 9223372036854775807) (w : World) : Calls Tryd.prog 23 #[.string s] w fun e w' => e = .returned (.string (cutK s)) ∧ w' = w := by
  obtain ⟨q, hq⟩ : ∃ q, q = min s.size 12 := ⟨_, rfl⟩
  have hmin : min (s.size : Int) 12 = (q : Int) := by omega
  have hqs : (q : Int) ≤ s.size := by omega
  have hq0 : (0 : Int) ≤ q := by omega
  have he : cutK s = s.extract 0 q := by unfold cutK; rw [hq]
  rw [he]
  clear he hq
  go_enter Tryd.func23, Tryd.ntmps23
  go_wp2
  go_ret
  exact ⟨rfl, rfl⟩

end Go.Proofs.YtlfhiolkbnhinaaDoor
