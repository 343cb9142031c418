/- The words of flags: Write, the program's. -/
import Derived.Test.YtnkgkimlmceciaaWrite
namespace Go.Proofs.Ytnkgkimlmceciaa
open Go.RowKit Go.Shelf
attribute [local go_sem] Oper.semAt_some

theorem row_apart {W : World} {n0 b k : Nat} {t : TypeId} {c : Array Value} {r : Value} {xs : List Value} (hb : Blk W b t c) (ho : W.ownsRow n0 9 1 r k xs) (ht : t ≠ 9) : some b ≠ r.ownBlock := fun e => by
  rcases ho.2 with ⟨rfl, _⟩ | ⟨g, cap, cur, rfl, _, hg, _⟩
  · simp [Value.ownBlock] at e
  · simp [Value.ownBlock] at e
    subst e
    have := (show W.heap[b]? = _ from hb).symm.trans hg
    simp at this
    exact ht this.2
set_option maxRecDepth 100000 in
set_option maxHeartbeats 4000000 in
theorem write_any (f : Fl) (w : World) : Calls Try.prog 18 #[f.v] w fun e w' => ∃ r, e = .returned r ∧ RowW w w' r (wordsK f 6) ∧ Below w.heap.size w w' := by
  have HA := fun w => Lib.hid (all_any w)
  have HIN := fun k hk w => Lib.hid (in_any k hk f w)
  have HL := Lib.hid (words_len f)
  have HSUC := Lib.hid (words_succ f)
  have k0 := Blk.new w 23 f.c
  have K0 := Lib.hid k0
  clear k0
  generalize hg : f.get = g at *
  clear hg
  obtain ⟨nx, xx, gt, lt, ch, inc⟩ := f
  unfold Fl.v Fl.c at HIN
  unfold Fl.c at K0
  unfold Fl.v Fl.c
  simp only at HIN K0 ⊢
  generalize hW : wordsK ⟨nx, xx, gt, lt, ch, inc⟩ = wk at *
  have hk0 : wk 0 = [] := by rw [← hW]; rfl
  have HK0 := Lib.hid hk0
  clear hW hk0
  go_enter Try.func18, Try.ntmps18
  go_wp2_with fail
  refine (HA _).out.mono ?_
  rintro e w1 ⟨rfl, hb1⟩
  have K1 := Lib.hid (K0.out.later hb1)
  have B1 := Lib.hid (((Below.refl _ _).alloc (Nat.le_refl _) _).trans (hb1.mono (by simp)))
  clear hb1 K0 HA
  go_wp2_with fail
  go_loopw [3, 7] (fun r i wr => ∃ k : Nat, i = .int .i64 k ∧ k ≤ 6 ∧ Below w.heap.size w wr ∧ Blk wr w.heap.size 23 #[.bool nx, .bool xx, .bool gt, .bool lt, .bool ch, .bool inc] ∧ RowW w wr r (wk k)) (fun _ i _ => 6 - (intOf i).toNat)
  case atStart => exact ⟨0, rfl, by omega, B1.out, K1.out, by rw [HK0.out]; exact World.ownsRow_nil _ _ _ _⟩
  case round =>
    obtain ⟨k, rfl, hk, hb, hB, hown⟩ := hrel
    by_cases hk6 : k < 6
    · have hix := fun W => index_all k hk6 W
      simp only [flagC, fn_] at hix
      have hk2 : (k : Int) < 6 := by omega
      have HI := fun w => HIN k hk6 w
      unfold flagC fn_ at HI
      have hsuc := HSUC.out k
      have hlen := HL.out k
      have b2 : Below w.heap.size w (wr.alloc (.cells #[.string (kw k), .func (.func (31 + k)) #[] #[]] 47)) := hb.alloc hb.size _
      have o2 : RowW w (wr.alloc (.cells #[.string (kw k), .func (.func (31 + k)) #[] #[]] 47)) u3 (wk k) := World.ownsRow.alloc hown _
      have f2 := hB.alloc (.cells #[.string (kw k), .func (.func (31 + k)) #[] #[]] 47)
      have x2 := Blk.new wr 47 #[.string (kw k), .func (.func (31 + k)) #[] #[]]
      have hz2 := hb.size
      have c0 := hB.cell 0
      have c1 := hB.cell 1
      have c2 := hB.cell 2
      have c3 := hB.cell 3
      have c4 := hB.cell 4
      have c5 := hB.cell 5
      have hlw := hB.lt
      simp at c0 c1 c2 c3 c4 c5
      have B2 := Lib.hid b2
      have O2 := Lib.hid o2
      have F2 := Lib.hid f2
      have X2 := Lib.hid x2
      have HS := Lib.hid hsuc
      clear hb hB hown b2 o2 f2 x2 hsuc
      go_wp2_with fail
      refine (HI _).out.mono ?_
      rintro e W5 ⟨rfl, hb5⟩
      have B5 := Lib.hid (B2.out.trans (hb5.mono B2.out.size))
      have F5 := Lib.hid (F2.out.later hb5)
      have hx5 := X2.out.later hb5
      have x0 := hx5.cell 0
      simp at x0
      have o5 : RowW w W5 u3 (wk k) := own_later O2.out hb5
      cases hgk : g k
      · have hw5 : wk (k + 1) = wk k := by rw [HS.out, hgk]; rfl
        have O5 := Lib.hid o5
        have HW5 := Lib.hid hw5
        clear hb5 hx5 o5 hw5 hgk
        go_wp2_with fail
        exact ⟨⟨k + 1, by go_num, hk6, B5.out, F5.out, by rw [HW5.out]; exact O5.out⟩, by simp [intOf]; omega⟩
      · have hw5 : wk (k + 1) = wk k ++ [kw k] := by rw [HS.out, hgk]; rfl
        obtain ⟨g7, cap7, w7, hrun, hown7, hgrow⟩ := app9 o5 B5.out.size (by omega) (kw k)
        have hb7 := grown_below (B5.out.alloc B5.out.size _) hgrow (World.ownsRow.alloc o5 _) (Nat.le_refl _)
        have F7 := Lib.hid ((hgrow.block w.heap.size (F5.out.alloc _).lt (row_apart F5.out o5 (by decide))).trans (F5.out.alloc _))
        have H7 := Lib.hid hb7
        have hown8 : RowW w w7 (.slice (some ⟨g7, 0, none⟩) ((wk k).length + 1) cap7) (wk (k + 1)) := by
          rw [hw5]; unfold RowW; rw [List.length_append]; simpa [cellsS] using hown7
        have O7 := Lib.hid hown8
        clear hb5 hx5 o5 hw5 hgk hb7 hown7 hgrow hown8
        go_wp2_with (at_builtin; refine wpList_append_ran rfl _ _ 30 30 rfl rfl rfl hrun ?_; clear hrun)
        exact ⟨⟨k + 1, by go_num, hk6, H7.out, F7.out, O7.out⟩, by simp [intOf]; omega⟩
    · obtain rfl : k = 6 := by omega
      have HO := Lib.hid hown
      have HB := Lib.hid hb
      clear hown hb hB
      go_wp2
      go_ret
      exact ⟨_, rfl, HO.out, HB.out⟩
end Go.Proofs.Ytnkgkimlmceciaa
