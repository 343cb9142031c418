/- Insert. -/
import Derived.Test.YtidiaomeahoapaaPut
namespace Go.Proofs.Ytidiaomeahoapaa
open Go.RowKit Go.Shelf
attribute [local go_sem] Oper.semAt_some

theorem wp_alloc71 {op : Oper} {a : Act} {w : World} {K : Act → World → Prop} {Q : Exit → Act → World → Prop} (ho : op.op = .alloc 71) (h : K (a.put op.dst (.pointer (some ⟨w.heap.size, 0, none⟩))) (w.alloc (.cells zW 71))) : op.wp Try.prog a w K Q := by
  unfold Oper.wp execOp
  simp [ho, zero71, go_sem]
  exact h

theorem insert_nil (m : ByteArray) (s : Int) (l : Int) (w : World) : Calls Try.prog 27 #[.pointer none, .agg #[.string m, .int .i64 s], .int .i64 l] w fun e w' => e = .returned (.int .i64 1) ∧ Below w.heap.size w w' := by
  go_enter Try.func27, Try.ntmps27
  go_wp2
  go_returns
  exact ⟨rfl, (Below.refl _ _).alloc (Nat.le_refl _) _⟩
theorem insert_level (p : Nat) (m : ByteArray) (s : Int) (l : Int) (hl : l < 1 ∨ 32 < l) (w : World) : Calls Try.prog 27 #[.pointer (some ⟨p, 0, none⟩), .agg #[.string m, .int .i64 s], .int .i64 l] w fun e w' => e = .returned (.int .i64 2) ∧ Below w.heap.size w w' := by
  by_cases h1 : l < 1
  · clear hl
    go_enter Try.func27, Try.ntmps27
    go_wp2
    go_returns
    exact ⟨rfl, (Below.refl _ _).alloc (Nat.le_refl _) _⟩
  · have h2 : 32 < l := by omega
    clear hl
    go_enter Try.func27, Try.ntmps27
    go_wp2
    go_returns
    exact ⟨rfl, (Below.refl _ _).alloc (Nat.le_refl _) _⟩

variable {F : List Nd} {n : Int}
set_option maxRecDepth 100000 in
set_option maxHeartbeats 4000000 in
theorem insert_any (p : Nat) (L : List Nd) (hF : F = hd p :: L) (w : World) (hw : Sk w F (lk0 F) (ah0 F) n) (hN : F.length ≤ 1000000) (hn : n = L.length) (a : Nat) (ha : a < F.length) (m : ByteArray) (hm : m.size ≤ 281474976710656) (s : Int) (l : Nat) (hl : 0 < l ∧ l ≤ 32) (hq : ∀ q x, 0 < q → F[q]? = some x → lessE x.m x.s m s = decide (q ≤ a)) :
    Calls Try.prog 27 #[.pointer (some ⟨p, 0, none⟩), .agg #[.string m, .int .i64 s], .int .i64 l] w fun e w' =>
      (entAt F (a + 1) m s = true → e = .returned (.int .i64 90) ∧ Below w.heap.size w w') ∧
      (entAt F (a + 1) m s = false → e = .returned (.int .i64 0) ∧ ∃ nb, w.heap.size ≤ nb ∧ Far (isB F) w w' ∧ Sk w' (insF F a ⟨nb, m, s, l⟩) (lk0 (insF F a ⟨nb, m, s, l⟩)) (ah0 (insF F a ⟨nb, m, s, l⟩)) (n + 1)) := by
  have hb1 : Below w.heap.size w (w.alloc (.cells #[.string m, .int .i64 s] 32)) := (Below.refl _ _).alloc (Nat.le_refl _) _
  have kE : Blk (w.alloc (.cells #[.string m, .int .i64 s] 32)) w.heap.size 32 #[.string m, .int .i64 s] := Blk.new _ _ _
  have HT := Lib.hid (toEntry_any p L hF (hw.later hb1) hN m s a ha hq)
  have HB1 := Lib.hid hb1
  have HE := Lib.hid kE
  have HW := Lib.hid hw
  have h1 : ¬ (l : Int) < 1 := by omega
  have h2 : ¬ 32 < (l : Int) := by omega
  have HF := Lib.hid hF
  have hF0 : F[0]? = some (hd p) := by rw [hF]; rfl
  have HF0 := Lib.hid hF0
  have hnn : n ≤ 1000000 := by
    have := congrArg List.length hF
    simp at this
    omega
  have hn0 : 0 ≤ n := by omega
  clear hb1 kE hw hq hF hF0 hn
  go_enter Try.func27, Try.ntmps27
  go_wp2_with fail
  rename_i Kk hKk
  refine HT.out.mono ?_
  rintro e w2 ⟨rfl, hb2⟩
  have hb3 := HB1.out.trans (hb2.mono HB1.out.size)
  have kE2 := HE.out.later hb2
  refine hKk _ _ ?_
  refine wpList_plain rfl ?_
  intro K2 hK2
  refine wp_alloc71 rfl ?_
  refine hK2 _ _ ?_
  clear hK2 K2
  refine wpList_plain rfl ?_
  intro K2 hK2
  refine wp_store71 _ _ rfl _ rfl rfl (Blk.new _ _ _) zW_size (wayA_size F a) (way_one F a) ?_
  refine hK2 _ _ ?_
  clear hK2 K2
  have kW : Blk ((w2.alloc (.cells zW 71)).setRow w2.heap.size (wayA F a)) w2.heap.size 71 (wayA F a) := (Blk.new _ _ _).setRow _
  have hb4 : Below w2.heap.size w2 ((w2.alloc (.cells zW 71)).setRow w2.heap.size (wayA F a)) := ⟨rfl, rfl, rfl, by rw [setRow_size]; simp, fun q hq => (setRow_other _ (Nat.ne_of_lt hq)).trans (((Below.refl w2.heap.size w2).alloc (Nat.le_refl _) _).block q hq)⟩
  have kE4 := kE2.later hb4
  have hb5 := hb3.trans (hb4.mono hb3.size)
  generalize (w2.alloc (.cells zW 71)).setRow w2.heap.size (wayA F a) = w3 at *
  generalize w2.heap.size = wb at *
  have hp := lev_pos HW.out
  have hla := last_zero F hp a ha
  have hnx := nxt_zero hp a ha
  obtain ⟨x0, hx0⟩ : ∃ x0, F[a]? = some x0 := ⟨_, List.getElem?_eq_getElem ha⟩
  have HLD := Lib.hid (leads_any (HW.out.later hb5) 0 a (by decide) ha (hp a ha) m s)
  obtain ⟨c0, c1, c2⟩ := way_cells F a 0 (by decide)
  rw [hnx, adr_some hx0] at HLD
  rw [hla] at c0 c1
  rw [adr_some hx0] at c0
  have c0 := (kW.cell _).trans c0
  have c1 := (kW.cell _).trans c1
  have c2 := (kW.cell _).trans c2
  simp only [Nat.zero_mul, Nat.zero_add] at c0 c1 c2
  obtain ⟨e0, e1, _, _⟩ := facts2 kE4
  have KW := Lib.hid kW
  have KE := Lib.hid kE4
  have HB5 := Lib.hid hb5
  clear HT HE kE2 hb2 hb3 hb4 hb5 kW kE4 hp hla hnx hx0 hKk Kk
  have hws := wayA_size F a
  have hw1 := way_one F a
  have HJN := fun W (hb : Below w.heap.size w W) => Lib.hid (join_any p L HF.out W (HW.out.later hb) hN a ha m hm s l hl)
  obtain ⟨A0, hA0, hN0⟩ := HW.out.node 0 (hd p) HF0.out
  have n0 := (hA0.cell 67).trans (hN0.n rfl)
  have HA0 := Lib.hid hA0
  obtain ⟨bb, hbb⟩ : ∃ bb, entAt F (a + 1) m s = bb := ⟨_, rfl⟩
  rw [hbb] at HLD
  have HBB := Lib.hid hbb
  clear hbb
  generalize wayA F a = WA at *
  clear hA0 hN0
  go_wp2_with fail
  rename_i K3 hK3 K2 hK2 K1 hK1
  have HK3 := Lib.hid hK3
  clear hK3
  refine HLD.out.mono ?_
  rintro e w4 ⟨rfl, hb6⟩
  have hbw := HB5.out.trans (hb6.mono HB5.out.size)
  have kW4 := KW.out.later hb6
  have kE4 := KE.out.later hb6
  obtain ⟨e0', e1', _, _⟩ := facts2 kE4
  have HBW := Lib.hid hbw
  have KW4 := Lib.hid kW4
  clear hb6 hbw kW4 kE4 c0 c1 c2 e0 e1
  cases bb with
  | true =>
    go_wp2_with fail
    go_returns
    refine ⟨fun _ => ⟨rfl, HBW.out⟩, fun h => ?_⟩
    rw [HBB.out] at h
    cases h
  | false =>
    go_wp2_with fail
    refine HK3.out _ _ ?_
    refine wp_seq_k fun K4 hK4 => wp_region_lit ?_
    refine wpList_plain rfl ?_
    intro K5 hK5
    refine wp_load71 _ rfl _ rfl KW4.out hws ?_
    refine hK5 _ _ ?_
    clear hK5 K5
    go_wp2_with fail
    refine (HJN _ HBW.out).out.mono ?_
    rintro e w5 ⟨rfl, nb, hnb, hf, hsk⟩
    have hx0' : (insF F a ⟨nb, m, s, l⟩)[0]? = some (hd p) := by rw [insF_le ha (Nat.zero_le _)]; exact HF0.out
    obtain ⟨A5, hA5, hN5⟩ := hsk.node 0 (hd p) hx0'
    have n5 : w5.cell? ⟨p, 67, none⟩ = some (.int .i64 n) := (hA5.cell 67).trans (hN5.n rfl)
    have n6 : w5.frozen? ⟨p, 67, none⟩ = false := hA5.free 67
    have HSK := Lib.hid hsk
    have HFF := Lib.hid hf
    have HX0 := Lib.hid hx0'
    clear hsk hf hA5 hN5 hx0'
    go_wp2_with fail
    go_returns
    refine ⟨fun h => ?_, fun _ => ⟨rfl, nb, ?_, ?_, HSK.out.setN HX0.out (n + 1)⟩⟩
    · rw [HBB.out] at h
      cases h
    · exact Nat.le_trans HBW.out.size hnb
    · have f1 : Far (isB F) w w5 := (Far.of_below HBW.out).trans (HFF.out) (fun q hq => by
        rcases hq with h | rfl
        · exact .inl h
        · exact .inr (Nat.le_trans HBW.out.size hnb))
      exact f1.set ⟨p, 67, none⟩ _ (.inl (isB_at HF0.out))
end Go.Proofs.Ytidiaomeahoapaa
