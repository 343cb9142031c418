/- The walk of PackWrong. -/
import Derived.Test.YtioidnfmpbdmhaaLaw
namespace Go.Proofs.Ytioidnfmpbdmhaa
open Go.RowKit Go.Shelf
attribute [local go_sem] Oper.semAt_some

theorem cellsE_at : ∀ (l : List Ent) (i : Nat) (h : i < l.length), (cellsE l)[i * 2]? = some (.string l[i].1) ∧ (cellsE l)[i * 2 + 1]? = some (.int .i64 l[i].2)
  | e :: l, 0, _ => ⟨rfl, rfl⟩
  | e :: l, i + 1, h => by
    have hi : i < l.length := by simpa using h
    have := cellsE_at l i hi
    rw [show cellsE (e :: l) = .string e.1 :: .int .i64 e.2 :: cellsE l from rfl, show (i + 1) * 2 = i * 2 + 2 by omega]
    simpa using this
theorem own35_form {W : World} {n0 : Nat} {v : Value} {l : List Ent} (h : Own35 W n0 v l) : ∃ a cap, v = .slice a l.length cap ∧ Ents W a l := by
  have hc := fun g (hg : v.ownBlock = some g) => World.ownsRow.cells h hg
  rcases h.2 with ⟨rfl, h0⟩ | ⟨g, cap, cur, rfl, _⟩
  · exact ⟨none, 0, by rw [h0], fun i hi => by omega⟩
  · refine ⟨_, _, rfl, fun i hi => ⟨g, 0, rfl, ?_, ?_⟩⟩
    · have := hc g rfl (i * 2) (.string l[i].1) (cellsE_at l i hi).1
      rwa [Addr.add_lit] at this
    · have := hc g rfl (i * 2 + 1) (.int .i64 l[i].2) (cellsE_at l i hi).2
      rwa [Addr.add_lit, ← Nat.add_assoc] at this

set_option maxRecDepth 100000 in
set_option maxHeartbeats 4000000 in
theorem wrong_walk (s0 : ByteArray) (hs : s0.size ≤ 9223372036854775807) (at_ : Int) (hat : -9223372036854775808 ≤ at_ ∧ at_ ≤ 9223372036854775807) (x : Ent) (hx : x.1.size ≤ 9223372036854775807) (w : World) :
    Calls Try.prog 8 #[.string s0, .int .i64 at_, .agg #[.string x.1, .int .i64 x.2]] w fun e w' => e = .returned (.bool true) ∧ Below w.heap.size w w' := by
  have HS := fun w => Lib.hid (shown_any w)
  have HC := fun w => Lib.hid (cut_any s0 hs w)
  have hc := cutB_size s0
  generalize cutB s0 = s at *
  have hp : s.size ≤ 281474976710656 := by omega
  have HR := fun w => Lib.hid (right_any s hp w)
  have hB0 := (Below.refl w.heap.size w).alloc (Nat.le_refl _) (Obj.cells #[Value.string x.1, Value.int IntKind.i64 x.2] 35)
  have k0 := Blk.new w 35 #[Value.string x.1, Value.int IntKind.i64 x.2]
  go_enter Try.func8, Try.ntmps8
  go_wp2_with fail
  refine (HS _).out.mono ?_
  rintro e w1 ⟨rfl, hb1⟩
  have hB1 := hB0.trans (hb1.mono hB0.size)
  have k1 := k0.later hb1
  clear hb1
  go_wp2_with fail
  refine (HC _).out.mono ?_
  rintro e w1' ⟨rfl, rfl⟩
  go_wp2_with fail
  refine (HR _).out.mono ?_
  rintro e w2 ⟨rfl, hb2⟩
  have hB2 := hB1.trans (hb2.mono hB1.size)
  have k2 := k1.later hb2
  clear hb2
  cases hr : rightB s with
  | true =>
    have htwo : (2 : Int) ≤ s.size := by have := (isPack_of hr).two; omega
    have HB := Lib.hid hB2
    clear hB0 hB1 hB2
    go_wp2_with fail
    go_ret
    exact ⟨rfl, HB.out⟩
  | false =>
    have HG := fun w => Lib.hid (get_any s hp at_ w)
    have HI := fun w => Lib.hid (insert_any s hp at_ hat x hx w)
    have HD := fun w => Lib.hid (delete_any s hp at_ w)
    have HE := fun w => Lib.hid (entriesF_any s hp w)
    have HK := fun w => Lib.hid (backF_any s hp w)
    have HF := fun w => Lib.hid (find_any s x.1 hp w)
    have he : entsOf s = [] := by unfold entsOf; rw [packOf_wrong hr]; rfl
    rw [show getS s at_ = ((⟨#[]⟩, 0), 50) by unfold getS; rw [hr]; rfl] at HG
    rw [show insR s at_ x = (⟨#[]⟩, 50) by unfold insR; rw [hr]; rfl] at HI
    rw [show delR s at_ = (⟨#[]⟩, 50) by unfold delR; rw [hr]; rfl] at HD
    rw [hr, he] at HE HK
    rw [he, show whereS [] x.1 = -1 from rfl] at HF
    go_wp2_with fail
    refine (HG _).out.mono ?_
    rintro e w3 ⟨rfl, hb3⟩
    have hB3 := hB2.trans (hb3.mono hB2.size)
    have k3 := (k2.later hb3).alloc (Obj.cells #[Value.string { data := #[] }, Value.int IntKind.i64 0] 35)
    have hB3' := hB3.alloc hB3.size (Obj.cells #[Value.string { data := #[] }, Value.int IntKind.i64 0] 35)
    clear hb3
    obtain ⟨e0, e1, _⟩ := facts2 k3
    go_wp2_with fail
    refine (HI _).out.mono ?_
    rintro e w4 ⟨rfl, hb4⟩
    have hB4 := hB3'.trans (hb4.mono hB3'.size)
    have k4 := k3.later hb4
    clear hb4
    go_wp2_with fail
    refine (HD _).out.mono ?_
    rintro e w5 ⟨rfl, hb5⟩
    have hB5 := hB4.trans (hb5.mono hB4.size)
    have k5 := k4.later hb5
    clear hb5
    go_wp2_with fail
    refine (HE _).out.mono ?_
    rintro e w6 ⟨r, rfl, ho6, hb6⟩
    have hB6 := hB5.trans (hb6.mono hB5.size)
    have k6 := k5.later hb6
    obtain ⟨ra, rc, rfl, _⟩ := own35_form ho6
    clear hb6
    go_wp2_with fail
    refine (HK _).out.mono ?_
    rintro e w7 ⟨r7, rfl, ho7, hb7⟩
    have hB7 := hB6.trans (hb7.mono hB6.size)
    have k7 := k6.later hb7
    obtain ⟨ra7, rc7, rfl, _⟩ := own35_form ho7
    clear hb7
    obtain ⟨e70, e71, _⟩ := facts2 k7
    go_wp2_with fail
    refine (HF _).out.mono ?_
    rintro e w8 ⟨rfl, hb8⟩
    have HB := Lib.hid (hB7.trans (hb8.mono hB7.size))
    clear hb8
    go_wp2_with fail
    go_ret
    exact ⟨rfl, HB.out⟩
end Go.Proofs.Ytioidnfmpbdmhaa
