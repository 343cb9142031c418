/- With an empty set besides. -/
import Derived.Test.YtjilfgkoibbcnaaDoorLawKit
namespace Go.Proofs.YtjilfgkoibbcnaaDoor
open Go.RowKit Go.Shelf
attribute [local go_sem] Oper.semAt_some

set_option maxRecDepth 100000 in
set_option maxHeartbeats 4000000 in
theorem empty_any (a0 a1 : Addr) (a : Option Addr) (cap : Nat) (l : List Ent) (hIn : In [l]) (w : World) (hE : Env a0 a1 w) (hL : Ents w a l) :
    Calls Tryd.prog 9 #[.slice a l.length cap] w fun e w' => e = .returned (.bool true) ∧ Below w.heap.size w w' := by
  have HSH := Lib.hid (shown_any a0 a1 w hE)
  have HE := Lib.hid hE
  have HL := Lib.hid hL
  have HIN := Lib.hid hIn
  clear hE hL hIn
  go_enter Tryd.func9, Tryd.ntmps9
  go_wp2_with fail
  refine HSH.out.mono ?_
  rintro e w1 ⟨rfl, hb⟩
  have HB1 := Lib.hid hb
  have HL1 := Lib.hid (HL.out.below hb)
  clear hb
  go_wp2_with fail
  have hx := alloc_below w1 (Obj.cells #[Value.slice a l.length cap] 26)
  have HX1 := Lib.hid (HB1.out.trans (hx.mono HB1.out.size))
  refine (few_any true [l] HIN.out.1 (fun x hx => ⟨(HIN.out.2 x hx).1, fun e he => ((HIN.out.2 x hx).2 e he).1⟩) _ _ _ (setsE_one HL1.out)).mono ?_
  rintro e w2 ⟨r, rfl, hS, hb⟩
  have hok := ok_few true HIN.out
  have h64 := num_few true HIN.out
  have hgd := good_few (ls := [l])
  rw [show fewP true [l] = [fewOne true l] from rfl] at hS hok h64 hgd
  have HG : Hid (Good (fewOne true l)) := Lib.hid (hgd _ (by simp))
  have H64 : Hid (∀ e ∈ fewOne true l, I64 e.2) := Lib.hid (h64 _ (by simp))
  have hn : (fewOne true l).length ≤ 1000000 := by have := (hok.2 _ (by simp : fewOne true l ∈ [fewOne true l])).1; omega
  have HOK : Hid (OkS [fewOne true l, []]) := Lib.hid ⟨by simp, fun x hx => by
    rcases List.mem_cons.1 hx with rfl | hx
    · exact hok.2 _ (by simp)
    · rw [List.mem_singleton.1 hx]; exact ⟨by simp, by simp, fun e he => by simp at he⟩⟩
  generalize fewOne true l = S at *
  obtain ⟨vs, hOS, hvs, hel⟩ := hS.mono (Nat.zero_le _)
  obtain ⟨fa0, fc0, hr, _, _, _⟩ := hS.slice
  subst hr
  have hb9 := alloc_below w2 (Obj.cells #[Value.slice none 0 0] 26)
  obtain ⟨g4, cap4, W8, hrun4, hO8, hg8⟩ := app_slice hOS (Below.refl _ _) (.slice none 0 0) (by simp [Value.oneCell']) (by rw [hvs]; simp) (Nat.zero_le _)
  have hS8 := SetsO.app (own_later hOS hb9) hvs (fun k hk => by obtain ⟨x, h1, h2⟩ := hel k hk; exact ⟨x, h1, own_later h2 hb9⟩) (own_nil _ 0) hO8 hg8
  have hfr := fun (k : Nat) (e : (Value.slice fa0 [S].length fc0).ownBlock = some k) => hS.fresh e
  have hB2 := HX1.out.trans (hb.mono HX1.out.size)
  have HB8 := Lib.hid ((hB2.alloc hB2.size _).grown hg8 (hB2.alloc hB2.size _).size (fun k e => Nat.le_trans HX1.out.size (hfr k e)))
  have hvs1 : vs.length = 1 := hvs
  rw [hvs1, show 1 + 1 = 2 from rfl] at hS8 hrun4
  obtain ⟨fa, fc, hr8, hS9, hfc, _⟩ := hS8.slice
  simp only [Value.slice.injEq] at hr8
  obtain ⟨rfl, _, rfl⟩ := hr8
  have HS2 := Lib.hid hS9
  clear hS hb hx hgd h64 hok hOS hvs hel hb9 hO8 hg8 hS8 hfr hB2 hS9 hvs1
  have m1 := mix_one (.inl rfl) (ws := [1, 1]) rfl HG.out H64.out 1 (by omega) [[]] (fun _ h => List.mem_singleton.1 h) rfl
  have m3 := inter_nil HG.out
  have m2 := diff_one HG.out [[]] (fun _ h => List.mem_singleton.1 h)
  go_wp2_with (
    at_builtin
    refine wpList_append_ran rfl (.tmp 14) (.tmp 15) 22 22 rfl rfl rfl hrun4 ?_)
  go_wp2_with fail
  have hx := alloc_below W8 (Obj.cells #[Value.int IntKind.i64 1, Value.int IntKind.i64 1] 2)
  have hy := HB8.out.trans (hx.mono HB8.out.size)
  have hc := inter_any a0 a1 1 [1, 1] (by intro x hx; simp at hx; subst hx; unfold I64; omega) [S, []] HOK.out (some ⟨W8.heap.size, 0, none⟩) (some ⟨g4, 0, none⟩) 2 cap4 _ (HE.out.later hy) (HS2.out.later hx) (nums_lit (Blk.new W8 2 #[Value.int IntKind.i64 1, Value.int IntKind.i64 1]) rfl)
  rw [show (([S, []].length : Nat) : Int) = 2 from rfl, m3] at hc
  have HX2 := Lib.hid hx
  have HY2 := Lib.hid hy
  clear hx hy hrun4
  refine hc.mono ?_
  rintro e w3 ⟨r, rfl, hO, hb⟩
  obtain ⟨ra, rc, rfl, _, _, _, _⟩ := Own.slice hO
  have HS3 := Lib.hid ((HS2.out.later HX2.out).later hb)
  have HB3 := Lib.hid (HY2.out.trans (hb.mono HY2.out.size))
  clear hb hO hc
  go_wp2_with fail
  have hx := alloc_below w3 (Obj.cells #[Value.int IntKind.i64 1, Value.int IntKind.i64 1] 2)
  have hy := HB3.out.trans (hx.mono HB3.out.size)
  have hc := union_any a0 a1 1 [1, 1] (by intro x hx; simp at hx; subst hx; unfold I64; omega) [S, []] HOK.out (some ⟨w3.heap.size, 0, none⟩) (some ⟨g4, 0, none⟩) 2 cap4 _ (HE.out.later hy) (HS3.out.later hx) (nums_lit (Blk.new w3 2 #[Value.int IntKind.i64 1, Value.int IntKind.i64 1]) rfl)
  rw [m1] at hc
  have HX3 := Lib.hid hx
  have HY3 := Lib.hid hy
  clear hx hy
  refine hc.mono ?_
  rintro e w4 ⟨r, rfl, hO, hb⟩
  obtain ⟨sa, sc, rfl, _, _, _, _⟩ := Own.slice hO
  have HO4 := Lib.hid hO
  have HS4 := Lib.hid ((HS3.out.later HX3.out).later hb)
  have HB4 := Lib.hid (HY3.out.trans (hb.mono HY3.out.size))
  clear hb hO hc
  go_wp2_with fail
  have hc := diff_any a0 a1 [S, []] HOK.out (some ⟨g4, 0, none⟩) cap4 hfc _ (HE.out.later HB4.out) HS4.out
  rw [m2] at hc
  refine hc.mono ?_
  rintro e w5 ⟨r, rfl, hO, hb⟩
  obtain ⟨ta, tc, rfl, _, _, _, _⟩ := Own.slice hO
  have HO5 := Lib.hid hO
  have HC5 := Lib.hid (own_later HO4.out hb)
  have HS5 := Lib.hid (HS4.out.later hb)
  have HB5 := Lib.hid (HB4.out.trans (hb.mono HB4.out.size))
  clear hb hO hc
  obtain ⟨g, off, ar, cr, hga, c5, e5⟩ := HS5.out.e 0 (by simp)
  simp only [Nat.add_zero] at c5 e5
  have HE5 := Lib.hid e5
  clear e5
  cases hga
  go_wp2_with fail
  refine (same_any sa ar sc cr S S hn hn w5 (own_ents HC5.out) HE5.out).mono ?_
  rintro e w7 ⟨rfl, hb⟩
  rw [decide_eq_true rfl]
  have c7 := (hb.cell (p := ⟨g4, 0, none⟩) (World.block_lt_of_cell? _ _ c5)).trans c5
  have HE7 := Lib.hid (HE5.out.below hb)
  have HO7 := Lib.hid (own_later HO5.out hb)
  have HB7 := Lib.hid (HB5.out.trans (hb.mono HB5.out.size))
  clear hb c5
  go_wp2_with fail
  refine (same_any ta ar tc cr S S hn hn w7 (own_ents HO7.out) HE7.out).mono ?_
  rintro e w8 ⟨rfl, hb⟩
  rw [decide_eq_true rfl]
  have HB8' := Lib.hid (HB7.out.trans (hb.mono HB7.out.size))
  clear hb c7
  go_wp2_with fail
  go_ret
  exact ⟨rfl, HB8'.out⟩
end Go.Proofs.YtjilfgkoibbcnaaDoor
