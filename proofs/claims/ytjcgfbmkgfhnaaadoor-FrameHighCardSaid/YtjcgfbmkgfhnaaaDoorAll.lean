/- all's iterator: its contract. -/
import Derived.Test.YtjcgfbmkgfhnaaaDoorThrough
namespace Go.Proofs.YtjcgfbmkgfhnaaaDoor
open Go.RowKit Go.Shelf
attribute [local go_sem] Oper.semAt_some

set_option maxHeartbeats 1000000 in
theorem all1_in (F : Fence) (hd : F.depth = none) (n : Nat) (h27 : F.fn 27) (h28 : F.fn 28) (hro : F.round = none) (l B : Nat) (a : Option Addr) (cap : Nat) (t : Fo) (J Jx : List El → World → Prop) (ok : El → Prop) (hok : ∀ x ∈ t.flat 0, ok x) (C : Nat) (hJ : AbidesFrom C J)
    (hY : ∀ pre x W, ok x → J pre W → pre.length < (t.flat 0).length → YieldAt F (n - 1) Tryd.prog l (El.encs x) W (Round J Jx pre x W))
    (W : World) (hB : W.cell? ⟨B, 0, none⟩ = some (.slice a t.len cap)) (hT : IsFo anyB W a t) (hdep : t.depth ≤ 1000000) (h0 : J [] W) :
    CallsIn F n Tryd.prog 27 #[.func (.yield l) #[] #[], .pointer (some ⟨B, 0, none⟩)] W fun e W' => (∃ v, e = .returned v) ∧
      ((∃ ys, ys = t.flat 0 ∧ J ys W') ∨ (∃ pre, pre <+: t.flat 0 ∧ Jx pre W')) := by
  have hdd : ∀ k : Nat, (F.depth.isSome = true → 1 ≤ k) := fun k h => by rw [hd] at h; cases h
  have hp := through_in F hd h28 hro ok l (t.flat 0).length C J Jx hJ (fun m pre x W ho hj hl => YieldAt.anyDepth hd m (hY pre x W ho hj hl)) t (n - 1) 0 a cap [] W hT (Int.le_refl _) (by omega) h0 (by simp) hok
  refine callsIn_of_wp Tryd.func27 rfl h27 ?_ hro
  simp only [Tryd.ntmps27, List.size_toArray, List.length_cons, List.length_nil, Nat.reduceAdd, Nat.reduceSub, Array.replicate_succ, Array.replicate_zero, List.push_toArray, List.append_toArray, List.nil_append, List.cons_append]
  gi_wp2_with ((try refine ⟨hdd _, ?_⟩); gi_at_call 28; refine hp.mono ?_; clear hp; rintro e W1 (⟨rfl, hJ1, _⟩ | ⟨rfl, q, hq, hx⟩))
  · go_end0
    exact ⟨⟨_, rfl⟩, .inl ⟨_, rfl, by simpa using hJ1⟩⟩
  · go_end0
    exact ⟨⟨_, rfl⟩, .inr ⟨q, hq, by simpa using hx⟩⟩

set_option maxHeartbeats 1000000 in
theorem all_any (a : Option Addr) (len cap : Nat) (w : World) :
    Calls Tryd.prog 21 #[.slice a len cap] w fun e w' => e = .returned (.func (.func 27) #[] #[.pointer (some ⟨w.heap.size, 0, none⟩)]) ∧ w' = w.alloc (.cells #[.slice a len cap] 22) := by
  have hmf : ∀ (fn : Fn) (first cap : Array Value) (w : World), (Instr.makeFunc fn first cap).run Tryd.prog w = .ok (.func fn first cap) w := fun _ _ _ _ => rfl
  go_enter Tryd.func21, Tryd.ntmps21
  go_wp2
  go_ret
  exact ⟨rfl, rfl⟩

theorem all_stops (F : Fence) (hd : F.depth = none) (n : Nat) (h27 : F.fn 27) (h28 : F.fn 28) (hro : F.round = none) (B : Nat) (a : Option Addr) (cap : Nat) (t : Fo) (w : World) (hB : B < w.heap.size)
    (hc : w.cell? ⟨B, 0, none⟩ = some (.slice a t.len cap)) (hT : IsFo anyB w a t) (hdep : t.depth ≤ 1000000) :
    SeqStopsK F n Tryd.prog 27 #[.pointer (some ⟨B, 0, none⟩)] El.encs Same24 (fun ys => ys = t.flat 0) (fun pre => pre <+: t.flat 0) (t.flat 0).length w := fun l J Jx W hW hJ _ hY h0 =>
  all1_in F hd n h27 h28 hro l B a cap t J Jx (fun _ => True) (fun _ _ => trivial) _ hJ (fun pre x W _ => hY pre x W) W ((hW.cell (p := ⟨B, 0, none⟩) hB).trans hc) (hT.same (Same24.of_below hW)) hdep h0

/-- The same, where each element is of a kind. -/
theorem all_stops_of (ok : El → Prop) (F : Fence) (hd : F.depth = none) (n : Nat) (h27 : F.fn 27) (h28 : F.fn 28) (hro : F.round = none) (B : Nat) (a : Option Addr) (cap : Nat) (t : Fo) (w : World) (hB : B < w.heap.size)
    (hc : w.cell? ⟨B, 0, none⟩ = some (.slice a t.len cap)) (hT : IsFo anyB w a t) (hdep : t.depth ≤ 1000000) (hok : ∀ x ∈ t.flat 0, ok x) :
    SeqStopsK F n Tryd.prog 27 #[.pointer (some ⟨B, 0, none⟩)] (fun x : { x : El // ok x } => El.encs x.1) Same24 (fun ys => ys.map (·.1) = t.flat 0) (fun pre => pre.map (·.1) <+: t.flat 0) (t.flat 0).length w := fun l J Jx W hW hJ _ hY h0 => by
  refine (all1_in F hd n h27 h28 hro l B a cap t (fun l W => ∃ l' : List { x : El // ok x }, l'.map (·.1) = l ∧ J l' W) (fun l W => ∃ l' : List { x : El // ok x }, l'.map (·.1) = l ∧ Jx l' W) ok hok W.heap.size
    (fun s A B row ⟨l', e, h⟩ hg hr => ⟨l', e, hJ l' A B row h hg hr⟩) (fun pre x W hx ⟨l', e, h⟩ hl => ?_) W ((hW.cell (p := ⟨B, 0, none⟩) hB).trans hc) (hT.same (Same24.of_below hW)) hdep ⟨[], rfl, h0⟩).mono ?_
  · refine (hY l' ⟨x, hx⟩ W h (by rw [← e, List.length_map] at hl; exact hl)).mono fun e' W' hr => ?_
    rcases hr with ⟨he, hj, hk⟩ | ⟨he, hj⟩
    · exact .inl ⟨he, ⟨l' ++ [⟨x, hx⟩], by rw [List.map_append, e]; rfl, hj⟩, hk⟩
    · exact .inr ⟨he, ⟨l' ++ [⟨x, hx⟩], by rw [List.map_append, e]; rfl, hj⟩⟩
  · rintro e W' ⟨hv, (⟨ys, rfl, l', e, h⟩ | ⟨pre, hp, l', e, h⟩)⟩
    · exact ⟨hv, .inl ⟨l', e, h⟩⟩
    · exact ⟨hv, .inr ⟨l', by subst e; exact hp, h⟩⟩

end Go.Proofs.YtjcgfbmkgfhnaaaDoor
