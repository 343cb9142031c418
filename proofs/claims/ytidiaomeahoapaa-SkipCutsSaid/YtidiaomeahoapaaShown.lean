/- The example that every law asks. -/
import Derived.Test.YtidiaomeahoapaaLs
namespace Go.Proofs.Ytidiaomeahoapaa
open Go.RowKit Go.Shelf
attribute [local go_sem] Oper.semAt_some

variable {w : World} {p : Nat} {L : List Nd}
theorem insert_new (h : Ls w p L) (hN : L.length ≤ 100000) (m : ByteArray) (hm : m.size ≤ 281474976710656) (s : Int) (l : Nat) (hl : 0 < l ∧ l ≤ 32) (hh : has L m s = false) :
    Calls Try.prog 27 #[.pointer (some ⟨p, 0, none⟩), .agg #[.string m, .int .i64 s], .int .i64 l] w fun e w' => e = .returned (.int .i64 0) ∧ ∃ nb, w.heap.size ≤ nb ∧ Far (isB (hd p :: L)) w w' ∧ Ls w' p (putL L ⟨nb, m, s, l⟩) :=
  (insert_ls h hN m hm s l hl).mono fun _ _ hp => hp.2 hh
theorem insert_old (h : Ls w p L) (hN : L.length ≤ 100000) (m : ByteArray) (hm : m.size ≤ 281474976710656) (s : Int) (l : Nat) (hl : 0 < l ∧ l ≤ 32) (hh : has L m s = true) :
    Calls Try.prog 27 #[.pointer (some ⟨p, 0, none⟩), .agg #[.string m, .int .i64 s], .int .i64 l] w fun e w' => e = .returned (.int .i64 90) ∧ Below w.heap.size w w' :=
  (insert_ls h hN m hm s l hl).mono fun _ _ hp => hp.1 hh

/-- All of a list's blocks lie at or beyond B. -/
def Beyond (B p : Nat) (L : List Nd) : Prop := ∀ k, isB (hd p :: L) k → B ≤ k
theorem Beyond.put {B p nb l : Nat} {L : List Nd} {m : ByteArray} {s : Int} (h : Beyond B p L) (hn : B ≤ nb) : Beyond B p (putL L ⟨nb, m, s, l⟩) := by
  rintro k ⟨x, hx, rfl⟩
  rcases List.mem_cons.1 hx with rfl | hx
  · exact h _ ⟨_, List.mem_cons_self .., rfl⟩
  · unfold putL at hx
    rcases List.mem_append.1 hx with hx | hx
    · exact h _ ⟨x, List.mem_cons_of_mem _ (List.mem_of_mem_take hx), rfl⟩
    · rcases List.mem_cons.1 hx with rfl | hx
      · exact hn
      · exact h _ ⟨x, List.mem_cons_of_mem _ (List.mem_of_mem_drop hx), rfl⟩
theorem Beyond.cut {B p a b : Nat} {L : List Nd} (h : Beyond B p L) : Beyond B p (L.take a ++ L.drop b) := by
  rintro k ⟨x, hx, rfl⟩
  rcases List.mem_cons.1 hx with rfl | hx
  · exact h _ ⟨_, List.mem_cons_self .., rfl⟩
  · rcases List.mem_append.1 hx with hx | hx
    · exact h _ ⟨x, List.mem_cons_of_mem _ (List.mem_of_mem_take hx), rfl⟩
    · exact h _ ⟨x, List.mem_cons_of_mem _ (List.mem_of_mem_drop hx), rfl⟩

abbrev ba (b : UInt8) : ByteArray := ⟨#[b]⟩
theorem less_facts : lessE (ba 97) 1 (ba 98) 1 = true ∧ lessE (ba 97) 1 (ba 99) 0 = false ∧ lessE (ba 99) 0 (ba 99) 0 = false := by decide +kernel
theorem ne_facts : ¬ (ba 97 = ba 98) ∧ ¬ (ba 97 = ba 99) := by decide +kernel

theorem step_far {w0 w w' : World} {p : Nat} {L : List Nd} (hB : Beyond w0.heap.size p L) (hb : Below w0.heap.size w0 w) (hf : Far (isB (hd p :: L)) w w') : Below w0.heap.size w0 w' := hb.trans (hf.below hB hb.size)
theorem step_put {w0 w : World} {p nb l : Nat} {L : List Nd} {m : ByteArray} {s : Int} (hB : Beyond w0.heap.size p L) (hb : Below w0.heap.size w0 w) (hn : w.heap.size ≤ nb) : Beyond w0.heap.size p (putL L ⟨nb, m, s, l⟩) := hB.put (Nat.le_trans hb.size hn)

set_option maxRecDepth 100000 in
set_option maxHeartbeats 4000000 in
theorem shown_any (w : World) : Calls Try.prog 10 #[] w fun e w' => e = .returned (.bool true) ∧ Below w.heap.size w w' := by
  obtain ⟨f1, f2, f3⟩ := less_facts
  obtain ⟨g1, g2⟩ := ne_facts
  have HN := Lib.hid (new_any w)
  go_enter Try.func10, Try.ntmps10
  go_wp2_with fail
  refine HN.out.mono ?_
  rintro e w1 ⟨rfl, hb1, hl1⟩
  have HI := Lib.hid (insert_new hl1 (by simp) (ba 97) (by decide) 1 1 (by decide) rfl)
  have B1 : Beyond w.heap.size w.heap.size [] := by
    rintro k ⟨x, hx, rfl⟩
    simp at hx
    subst hx
    exact Nat.le_refl _
  have HB1 := Lib.hid hb1
  have HBY := Lib.hid B1
  clear hb1 hl1 HN B1
  go_wp2_with fail
  refine HI.out.mono ?_
  rintro e w2 ⟨rfl, n1, hn1, hf, hl2⟩
  have hb2 := Lib.hid (step_far HBY.out HB1.out hf)
  have B2 := step_put (m := ba 97) (s := 1) (l := 1) HBY.out HB1.out hn1
  rw [show putL [] (⟨n1, ba 97, 1, 1⟩ : Nd) = [⟨n1, ba 97, 1, 1⟩] from rfl] at hl2 B2
  have h2 : has [(⟨n1, ba 97, 1, 1⟩ : Nd)] (ba 98) 1 = false := by simp [has, pos, f1]
  have HI2 := Lib.hid (insert_new hl2 (by simp) (ba 98) (by decide) 1 2 (by decide) h2)
  have HB2 := Lib.hid B2
  clear hn1 hf hl2 B2 h2 HI HB1 HBY
  go_wp2_with fail
  refine HI2.out.mono ?_
  rintro e w3 ⟨rfl, n2, hn2, hf, hl3⟩
  have hb3 := Lib.hid (step_far HB2.out hb2.out hf)
  have B3 := step_put (m := ba 98) (s := 1) (l := 2) HB2.out hb2.out hn2
  have e3 : putL [(⟨n1, ba 97, 1, 1⟩ : Nd)] ⟨n2, ba 98, 1, 2⟩ = [⟨n1, ba 97, 1, 1⟩, ⟨n2, ba 98, 1, 2⟩] := by simp [putL, pos, f1]
  rw [e3] at hl3 B3
  have h3 : has [(⟨n1, ba 97, 1, 1⟩ : Nd), ⟨n2, ba 98, 1, 2⟩] (ba 99) 0 = false := by simp [has, pos, f2]
  have HI3 := Lib.hid (insert_new hl3 (by simp) (ba 99) (by decide) 0 1 (by decide) h3)
  have HB3 := Lib.hid B3
  clear hn2 hf hl3 B3 h3 HI2 hb2 HB2 e3
  go_wp2_with fail
  refine HI3.out.mono ?_
  rintro e w4 ⟨rfl, n3, hn3, hf, hl4⟩
  have hb4 := Lib.hid (step_far HB3.out hb3.out hf)
  have B4 := step_put (m := ba 99) (s := 0) (l := 1) HB3.out hb3.out hn3
  have e4 : putL [(⟨n1, ba 97, 1, 1⟩ : Nd), ⟨n2, ba 98, 1, 2⟩] ⟨n3, ba 99, 0, 1⟩ = [⟨n3, ba 99, 0, 1⟩, ⟨n1, ba 97, 1, 1⟩, ⟨n2, ba 98, 1, 2⟩] := by simp [putL, pos, f2]
  rw [e4] at hl4 B4
  have h4 : has [(⟨n3, ba 99, 0, 1⟩ : Nd), ⟨n1, ba 97, 1, 1⟩, ⟨n2, ba 98, 1, 2⟩] (ba 99) 0 = true := by simp [has, pos, f3]
  have HI4 := Lib.hid (insert_old hl4 (by simp) (ba 99) (by decide) 0 1 (by decide) h4)
  have HL4 := Lib.hid hl4
  clear hn3 hf hl4 B4 h4 HI3 hb3 HB3 e4
  go_wp2_with fail
  refine HI4.out.mono ?_
  rintro e w5 ⟨rfl, hb⟩
  have hb5 := Lib.hid (hb4.out.trans (hb.mono hb4.out.size))
  have hl5 := HL4.out.later hb
  have HA := Lib.hid (at_any w.heap.size _ rfl hl5.sk rfl (by simp) 0 ⟨n3, ba 99, 0, 1⟩ rfl)
  have HL5 := Lib.hid hl5
  clear hb hl5 hb4 HL4 HI4
  go_wp2_with fail
  refine HA.out.mono ?_
  rintro e w6 ⟨rfl, hb⟩
  have hb6 := Lib.hid (hb5.out.trans (hb.mono hb5.out.size))
  have hl6 := (HL5.out.later hb).later ((Below.refl w6.heap.size w6).alloc (Nat.le_refl _) (Obj.cells #[.string (ba 99), .int .i64 0] 32))
  have HS := Lib.hid (spans_any w.heap.size _ rfl _ hl6.sk (by simp) 1 (by decide))
  clear hb hl6 hb5 HL5 HA
  have kE := Lib.hid (Blk.new w6 32 #[.string (ba 99), .int .i64 0])
  have hbE := Lib.hid ((Below.refl w6.heap.size w6).alloc (Nat.le_refl _) (Obj.cells #[.string (ba 99), .int .i64 0] 32))
  go_wp2_with fail
  refine HS.out.mono ?_
  rintro e w7 ⟨r, rfl, hown, hb⟩
  obtain ⟨e0, e1, _, _⟩ := facts2 (kE.out.later hb)
  have hd3 : diffs 0 (steps (hd w.heap.size :: [(⟨n3, ba 99, 0, 1⟩ : Nd), ⟨n1, ba 97, 1, 1⟩, ⟨n2, ba 98, 1, 2⟩]) 1 0) = [3] := rfl
  rw [hd3] at hown
  obtain ⟨g, cap, rfl⟩ : ∃ g cap, r = .slice (some ⟨g, 0, none⟩) 1 cap := by
    rcases hown.2 with ⟨_, h0⟩ | ⟨g, cap, cur, rfl, _⟩
    · simp at h0
    · exact ⟨g, cap, rfl⟩
  have c0 : w7.cell? ⟨g, 0, none⟩ = some (.int .i64 3) := hown.cellAt 0 (by simp)
  have hb7 := Lib.hid (hb6.out.trans ((hbE.out.trans (hb.mono hbE.out.size)).mono hb6.out.size))
  have heq := eq_ent (ba 99) (ba 99) 0 0 true (by simp)
  clear hown hb HS hb6 hd3 kE hbE
  go_wp2
  go_returns
  exact ⟨rfl, hb7.out⟩
end Go.Proofs.Ytidiaomeahoapaa
