/- relink: the links of levels are laid anew, each as a closure says. -/
import Derived.Test.YtidiaomeahoapaaAt
namespace Go.Proofs.Ytidiaomeahoapaa
open Go.RowKit Go.Shelf
attribute [local go_sem] Oper.semAt_some

/-- What a closure does with a level's link. -/
structure Links (F : List Nd) (a wb k0 N : Nat) (G : Nat) (caps : Array Value) (Inv : Nat → World → Prop) : Prop where
  enter : ∀ args w, (callFunc G args).run Try.prog w = .ok (.enter G args) w
  stable : ∀ k W W', Inv k W → Below W.heap.size W W' → Inv k W'
  way : ∀ k W, Inv k W → Blk W wb 71 (wayA F a)
  call : ∀ k W x, k0 ≤ k → k < k0 + N → Inv k W → F[last F k a]? = some x → Calls Try.prog G (#[.agg #[.pointer (some ⟨x.b, 0, none⟩), .int .i64 ((last F k a : Int) - 1), .int .i64 k]] ++ caps) W fun e w' =>
    ∃ nv ps u1 u2, e = .returned (.agg #[.pointer nv, .int .i64 ps]) ∧ w'.cell? ⟨x.b, 3 + k * 2, none⟩ = some u1 ∧ w'.cell? ⟨x.b, 3 + k * 2 + 1, none⟩ = some u2 ∧ w'.frozen? ⟨x.b, 3 + k * 2, none⟩ = false ∧ w'.frozen? ⟨x.b, 3 + k * 2 + 1, none⟩ = false ∧
      Inv (k + 1) ((w'.setCell ⟨x.b, 3 + k * 2, none⟩ (.pointer nv)).setCell ⟨x.b, 3 + k * 2 + 1, none⟩ (.int .i64 ps)) ∧ W.heap.size ≤ w'.heap.size

set_option maxRecDepth 100000 in
set_option maxHeartbeats 4000000 in
theorem relink_any {F : List Nd} {a wb k0 N : Nat} {G : Nat} {caps : Array Value} {Inv : Nat → World → Prop} (h : Links F a wb k0 N G caps Inv) (hF : ∀ k, k < 32 → last F k a < F.length) (hk : k0 + N ≤ 32) (cap : Nat) (w : World) (h0 : Inv k0 w) :
    Calls Try.prog 53 #[.func (.func G) #[] caps, .slice (some ⟨wb, k0 * 3, none⟩) N cap] w fun e w' => e = .returned (.tuple #[]) ∧ Inv (k0 + N) w' := by
  have HH := Lib.hid h
  have HFL := Lib.hid hF
  have henter := h.enter
  have HLK := fun b q k hk w => Lib.hid (link_any b q k hk w)
  have H0 := Lib.hid h0
  clear h hF h0
  have hN32 : (N : Int) ≤ 32 := by omega
  go_enter Try.func53, Try.ntmps53
  go_wp2
  go_loopw [8] (fun i wr => ∃ (k : Nat), i = .int .i64 k ∧ k ≤ N ∧ Inv (k0 + k) wr) (fun i _ => N - (intOf i).toNat)
  case atStart => exact ⟨0, rfl, by omega, H0.out⟩
  case round =>
    obtain ⟨k, rfl, hkN, hI⟩ := hrel
    by_cases hlt : k < N
    · have hwy := HH.out.way _ _ hI
      obtain ⟨c0, c1, c2⟩ := way_cells F a (k0 + k) (by omega)
      have e0 := (hwy.cell _).trans c0
      have e1 := (hwy.cell _).trans c1
      have e2 := (hwy.cell _).trans c2
      obtain ⟨x, hx⟩ : ∃ x, F[last F (k0 + k) a]? = some x := ⟨_, List.getElem?_eq_getElem (HFL.out _ (by omega))⟩
      rw [adr_some hx] at e0
      rw [show (k0 + k) * 3 = k0 * 3 + k * 3 by omega] at e0 e1 e2
      have HI := Lib.hid hI
      have HX := Lib.hid hx
      clear hI hx c0 c1 c2 hwy
      have HL2 := fun w => HLK x.b ((last F (k0 + k) a : Int) - 1) (k0 + k) (by omega) w
      have HC := fun (W : World) (hb : Below wr.heap.size wr W) => Lib.hid (HH.out.call (k0 + k) W x (by omega) (by omega) (HH.out.stable _ _ _ HI.out hb) HX.out)
      rw [Int.natCast_add] at HL2 HC
      have kb := Blk.new wr 69 #[.pointer (some ⟨x.b, 0, none⟩), .int .i64 ((last F (k0 + k) a : Int) - 1), .int .i64 ((k0 : Int) + k)]
      have hbw : Below wr.heap.size wr (wr.alloc (.cells #[.pointer (some ⟨x.b, 0, none⟩), .int .i64 ((last F (k0 + k) a : Int) - 1), .int .i64 ((k0 : Int) + k)] 69)) := (Below.refl _ _).alloc (Nat.le_refl _) _
      have KB := Lib.hid kb
      have HBW := Lib.hid hbw
      clear kb hbw HLK
      go_wp2_with fail
      go_region_with ((first
        | (go_at_call 36
           refine (HL2 _).out.mono ?_
           rintro e w2 ⟨rfl, hb2⟩
           have hb3 := HBW.out.trans (((drewB _ 1).trans hb2).mono HBW.out.size)
           have HCC := HC w2 hb3
           obtain ⟨f0, f1, f2, f3, f4, f5⟩ := facts3 (KB.out.later ((drewB _ 1).trans hb2))
           clear hb2)
        | (refine HCC.out.mono ?_
           rintro e w5 ⟨nv, ps, u1, u2, rfl, c1, c2, d1, d2, hI2, hz⟩
           have HI2 := Lib.hid hI2
           clear hI2)))
      all_goals (
        go_wp2
        exact ⟨⟨k + 1, by go_num, hlt, HI2.out⟩, by simp [intOf]; omega⟩)
    · obtain rfl : k = N := by omega
      go_wp2
      go_returns
      exact ⟨rfl, hI⟩
end Go.Proofs.Ytidiaomeahoapaa
