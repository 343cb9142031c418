/- join, walked. -/
import Derived.Test.YtidiaomeahoapaaJoin
namespace Go.Proofs.Ytidiaomeahoapaa
open Go.RowKit Go.Shelf
attribute [local go_sem] Oper.semAt_some

theorem clone_any (s : ByteArray) (w : World) (hs : s.size ≤ 281474976710656) : Calls Try.prog 50 #[.string s] w fun e w' => e = .returned (.string s) ∧ Below w.heap.size w w' := by
  have HC := fun w => Lib.hid (Try.stringslite_Clone s w hs)
  clear hs
  go_enter Try.func50, Try.ntmps50
  go_wp2_with fail
  refine (HC _).out.mono ?_
  rintro e w1 ⟨rfl, hb⟩
  have HB := Lib.hid hb
  clear hb
  go_wp2_with fail
  go_ret
  exact ⟨rfl, HB.out⟩

def z61 : Array Value := #[.string ⟨#[]⟩, .int .i64 0, .pointer none] ++ ((List.range 32).flatMap fun _ => [Value.pointer none, .int .i64 0]).toArray
theorem info61 : (Try.prog.info? 61).map (fun i => (i.zero, i.size)) = some (some (.agg z61), 67) := by kernel_rfl
theorem zero61 (w : World) : (zeroValue 61).run Try.prog w = .ok (.agg z61) w := (zero_of_info info61).1 w

theorem Sk.congr {W : World} {F : List Nd} {lk : Nat → Nat → Value × Int} {ah ah' : Nat → Value} {n : Int} (h : Sk W F lk ah n) (he : ∀ q, q < F.length → ah' q = ah q) : Sk W F lk ah' n :=
  ⟨fun q x hx => by obtain ⟨A, hA, hN⟩ := h.node q x hx; exact ⟨A, hA, by rw [he q (List.getElem?_eq_some_iff.1 hx).1]; exact hN⟩, h.inj, h.lev⟩
theorem fin_sk {W1 : World} {F : List Nd} {a l nb : Nat} {m : ByteArray} {s : Int} {ah1 : Nat → Value} {n : Int} {B : Array Value} (hF0 : lev F 0 = 32) (ha : a < F.length) (hl : 0 < l ∧ l ≤ 32) (hsk : Sk W1 F (lkJ F a l nb 32) ah1 n) (hah : ∀ q, q < F.length → ah1 q = if q = a + 1 then .pointer (some ⟨nb, 0, none⟩) else ah0 F q)
    (hB : Blk W1 nb 61 B) (hBs : B.size = 67) (b0 : B[0]? = some (.string m)) (b1 : B[1]? = some (.int .i64 s)) (hBl : ∀ k', k' < 32 → k' < l → B[3 + k' * 2]? = some (lk0 F (last F k' a) k').1 ∧ B[3 + k' * 2 + 1]? = some (.int .i64 ((lk0 F (last F k' a) k').2 - ((a : Int) - last F k' a)))) (hfr : ¬ isB F nb) :
    Sk (W1.setCell ⟨nb, 2, none⟩ (adr F a)) (insF F a ⟨nb, m, s, l⟩) (lk0 (insF F a ⟨nb, m, s, l⟩)) (ah0 (insF F a ⟨nb, m, s, l⟩)) n := by
  have hle : ∀ q k, q < F.length → k < lev F q → k < 32 := fun q k hq hk => by
    have := (hsk.lev q _ (List.getElem?_eq_getElem hq)).2
    rw [lev_some (List.getElem?_eq_getElem hq)] at hk
    omega
  have far : ∀ i, i ≠ 2 → (B.setIfInBounds 2 (adr F a))[i]? = B[i]? := fun i e => Array.getElem?_setIfInBounds_ne (Ne.symm e)
  refine sk_insert (x := ⟨nb, m, s, l⟩) (hsk.setOther nb 2 (adr F a) hfr) ha (hB.set 2 (adr F a)) hl _ _ ?_ hfr (fun q k hq hk => ?_) (fun q k hq hq2 hk => ?_) (fun q hq => ?_) (fun q hq hq2 => ?_)
  · refine ⟨by simpa [szq] using hBs, (far 0 (by decide)).trans b0, (far 1 (by decide)).trans b1, ?_, fun k hk => ?_, fun e => absurd e (Nat.succ_ne_zero a)⟩
    · rw [Array.getElem?_setIfInBounds_self_of_lt (by omega)]
      unfold ah0
      rw [if_neg (Nat.succ_ne_zero a), Nat.add_sub_cancel, adr_le ha (Nat.le_refl _)]
    · have hk' : k < l := hk
      have hb := hBl k (by omega) hk'
      rw [lk_ins_at ha hF0 (by omega)]
      exact ⟨(far _ (by omega)).trans hb.1, (far _ (by omega)).trans hb.2⟩
  · exact lk_ins_le ha hF0 (hle q k (by omega) hk) hq hk
  · rw [lk_ins_gt ha hq hq2, lkJ_gt hq (by have := hle q k hq2 hk; omega)]
  · rw [hah q (by omega), if_neg (by omega)]
    unfold ah0
    by_cases e : q = 0
    · rw [if_pos e, if_pos e]
    · rw [if_neg e, if_neg e, adr_le ha (by omega)]
  · rw [hah q hq2]
    show (if q + 1 = 0 then _ else adr _ (q + 1 - 1)) = _
    rw [if_neg (by omega), Nat.add_sub_cancel]
    by_cases e : q = a + 1
    · subst e
      rw [if_pos rfl, adr_at ha]
    · rw [if_neg e]
      obtain ⟨i, rfl⟩ : ∃ i, q = i + 1 := ⟨q - 1, by omega⟩
      rw [adr_gt ha (by omega)]
      unfold ah0
      rw [if_neg (by omega), Nat.add_sub_cancel]

theorem jinv0 {w W : World} {F : List Nd} {a l nb wb b6 : Nat} {m : ByteArray} {s : Int} {n : Int} {B : Array Value} (hw : Sk w F (lk0 F) (ah0 F) n) (hb : Below w.heap.size w W) (hB : Blk W nb 61 B) (hBs : B.size = 67) (b0 : B[0]? = some (.string m)) (b1 : B[1]? = some (.int .i64 s)) (b2 : B[2]? = some (.pointer none))
    (hway : Blk W wb 71 (wayA F a)) (hbox : Blk W b6 56 #[.pointer (some ⟨nb, 0, none⟩)]) (hnb : w.heap.size ≤ nb) : JInv w F a l nb wb b6 m s (ah0 F) n 0 W := by
  have he : lkJ F a l nb 0 = lk0 F := by funext q k; exact lkJ_zero ..
  exact ⟨by rw [he]; exact hw.later hb, ⟨B, hB, hBs, b0, b1, b2, fun k' h => absurd h (Nat.not_lt_zero _)⟩, hway, hbox, Far.of_below hb, fun e => by have := hw.lt e; omega⟩

set_option maxRecDepth 100000 in
theorem relink_none (G : Nat) (caps : Array Value) (b : Addr) (cap : Nat) (w : World) : Calls Try.prog 53 #[.func (.func G) #[] caps, .slice (some b) 0 cap] w fun e w' => e = .returned (.tuple #[]) ∧ w' = w := by
  go_enter Try.func53, Try.ntmps53
  go_wp2
  go_loopw [8] (fun i wr => i = .int .i64 0 ∧ wr = w) (fun _ _ => 0)
  case atStart => exact ⟨rfl, rfl⟩
  case round =>
    obtain ⟨rfl, rfl⟩ := hrel
    go_wp2
    go_returns
    exact ⟨rfl, rfl⟩

/-- Behind all links: the two links back. -/
theorem joined {w0 w3 : World} {F : List Nd} {a l nb wb b6 : Nat} {m : ByteArray} {s : Int} {n : Int} {x0 : Nd} (hF0 : lev F 0 = 32) (ha : a < F.length) (hl : 0 < l ∧ l ≤ 32) (hJ : JInv w0 F a l nb wb b6 m s (ah0 F) n 32 w3) (hx0 : F[a]? = some x0) :
    w3.cell? ⟨b6, 0, none⟩ = some (.pointer (some ⟨nb, 0, none⟩)) ∧ w3.cell? ⟨wb, 0, none⟩ = some (.pointer (some ⟨x0.b, 0, none⟩)) ∧ ∃ w4, (Calls Try.prog 54 #[.pointer (some ⟨nb, 0, none⟩)] w3 fun e w' => e = .returned (.tuple #[]) ∧ w' = w4) ∧ w4.cell? ⟨wb, 0, none⟩ = some (.pointer (some ⟨x0.b, 0, none⟩)) ∧
      (Calls Try.prog 54 #[.pointer (some ⟨x0.b, 0, none⟩)] w4 fun e w' => e = .returned (.tuple #[]) ∧ w' = w4.setCell ⟨nb, 2, none⟩ (.pointer (some ⟨x0.b, 0, none⟩))) ∧
      Far (fun q => isB F q ∨ q = nb) w0 (w4.setCell ⟨nb, 2, none⟩ (.pointer (some ⟨x0.b, 0, none⟩))) ∧ Sk (w4.setCell ⟨nb, 2, none⟩ (.pointer (some ⟨x0.b, 0, none⟩))) (insF F a ⟨nb, m, s, l⟩) (lk0 (insF F a ⟨nb, m, s, l⟩)) (ah0 (insF F a ⟨nb, m, s, l⟩)) n := by
  obtain ⟨hsk, ⟨B, hB, hBs, b0, b1, b2, hBl⟩, hway, hbox, hfar, hfr⟩ := hJ
  have hp : ∀ i, i < F.length → 0 < lev F i := fun i hi => by rw [lev_some (List.getElem?_eq_getElem hi)]; exact (hsk.lev i _ (List.getElem?_eq_getElem hi)).1
  have hla := last_zero F hp a ha
  have hnx := nxt_zero hp a ha
  have hax := adr_some hx0
  have w0c := (way_cells F a 0 (by decide)).1
  rw [hla, hax] at w0c
  have hwb : ∀ q (x : Nd), F[q]? = some x → wb ≠ x.b := fun q x hq e => by
    obtain ⟨A, hA, _⟩ := hsk.node q x hq
    exact absurd ((e ▸ hway : Blk w3 x.b 71 _).ty hA) (fun e2 => (ty_ne _).2.2.1 e2.symm)
  have hB3 := (hBl 0 (by decide) hl.1).1
  rw [hla] at hB3
  have hB3 : B[3]? = some (adr F (a + 1)) := by unfold lk0 at hB3; rw [hnx] at hB3; exact hB3
  obtain ⟨A0, hA0, hN0⟩ := hsk.node a x0 hx0
  have hA3 := (hN0.link 0 (hsk.lev _ _ hx0).1).1
  have hA3 : A0[3]? = some (.pointer (some ⟨nb, 0, none⟩)) := by unfold lkJ at hA3; rw [if_pos ⟨by decide, hla.symm⟩, if_pos hl.1] at hA3; exact hA3
  have hnx0 : nb ≠ x0.b := fun e => hfr (e ▸ isB_at hx0)
  refine ⟨hbox.cell 0, (hway.cell _).trans w0c, ?_⟩
  by_cases hlast : a + 1 < F.length
  · obtain ⟨y, hy⟩ : ∃ y, F[a + 1]? = some y := ⟨_, List.getElem?_eq_getElem hlast⟩
    rw [adr_some hy] at hB3
    obtain ⟨A1, hA1, hN1⟩ := hsk.node _ y hy
    have hs1 : 67 ≤ A1.size := by rw [hN1.size]; unfold szq; split <;> decide
    have hny : nb ≠ y.b := fun e => hfr (e ▸ isB_at hy)
    have hxy : x0.b ≠ y.b := fun e => absurd (hsk.inj _ _ _ _ hx0 hy e) (by omega)
    have hsk4 := hsk.setAh hy (.pointer (some ⟨nb, 0, none⟩)) (fun q => if q = a + 1 then .pointer (some ⟨nb, 0, none⟩) else ah0 F q) (if_pos rfl) (fun q hq => if_neg hq)
    refine ⟨_, tie_some nb 61 y.b _ B A1 w3 hB hB3 hA1 (by omega), ((hway.setOther 2 _ (hwb _ y hy)).cell _).trans w0c, tie_some x0.b _ nb 61 A0 B _ (hA0.setOther 2 _ hxy) hA3 (hB.setOther 2 _ hny) (by omega), ?_, ?_⟩
    · exact (hfar.set ⟨y.b, 2, none⟩ _ (.inl (.inl (isB_at hy)))).set ⟨nb, 2, none⟩ _ (.inl (.inr rfl))
    · have := fin_sk hF0 ha hl hsk4 (fun q _ => rfl) (hB.setOther 2 _ hny) hBs b0 b1 hBl hfr
      rw [hax] at this
      exact this
  · rw [adr_none (by omega)] at hB3
    refine ⟨w3, tie_none nb 61 B w3 hB hB3, (hway.cell _).trans w0c, tie_some x0.b _ nb 61 A0 B _ hA0 hA3 hB (by omega), ?_, ?_⟩
    · exact hfar.set ⟨nb, 2, none⟩ _ (.inl (.inr rfl))
    · have := fin_sk (ah1 := ah0 F) hF0 ha hl hsk (fun q hq => by rw [if_neg (by omega)]) hB hBs b0 b1 hBl hfr
      rw [hax] at this
      exact this

variable {F : List Nd} {ah : Nat → Value} {n : Int}
set_option maxRecDepth 100000 in
set_option maxHeartbeats 4000000 in
theorem join_any (p : Nat) (L : List Nd) (hF : F = hd p :: L) (w : World) (hw : Sk w F (lk0 F) (ah0 F) n) (hN : F.length ≤ 1000000) (a : Nat) (ha : a < F.length) (m : ByteArray) (hm : m.size ≤ 281474976710656) (s : Int) (l : Nat) (hl : 0 < l ∧ l ≤ 32) :
    Calls Try.prog 43 #[.agg (wayA F a), .agg #[.string m, .int .i64 s], .int .i64 l] w fun e w' => e = .returned (.tuple #[]) ∧ ∃ nb, w.heap.size ≤ nb ∧ Far (fun q => isB F q ∨ q = nb) w w' ∧ Sk w' (insF F a ⟨nb, m, s, l⟩) (lk0 (insF F a ⟨nb, m, s, l⟩)) (ah0 (insF F a ⟨nb, m, s, l⟩)) n := by
  have hz := zero61
  have HC := fun w => Lib.hid (clone_any m w hm)
  have hw1 := wayA_size F a
  have HWA := Lib.hid (rfl : wayA F a = wayA F a)
  generalize hWA : wayA F a = WA at *
  have HWA2 := Lib.hid hWA
  clear hWA HWA
  have hzs : z61.size = 67 := by decide +kernel
  have hz2 : z61[2]? = some (.pointer none) := by rfl
  generalize hz61 : z61 = zz at *
  have HZ2 := Lib.hid hz2
  clear hz2
  have HZ := Lib.hid hz61
  have HW := Lib.hid hw
  clear hz61 hw
  have hl1 : (0 : Int) < l := by omega
  have hl2 : (l : Int) ≤ 32 := by omega
  go_enter Try.func43, Try.ntmps43
  go_wp2_with fail
  refine (HC _).out.mono ?_
  rintro e w1 ⟨rfl, hb1⟩
  have kW := ((Blk.new w 71 WA).alloc (Obj.cells #[.string m, .int .i64 s] 32)).later hb1
  have kE := (Blk.new (w.alloc (Obj.cells WA 71)) 32 #[.string m, .int .i64 s]).later hb1
  simp only [World.size_alloc] at kE
  have hbw : Below w.heap.size w w1 := (((Below.refl _ _).alloc (Nat.le_refl _) _).alloc (by simp) _).trans (hb1.mono (by simp; omega))
  obtain ⟨e0, e1, e2, e3⟩ := facts2 kE
  have KW := Lib.hid kW
  have KE := Lib.hid kE
  have HBW := Lib.hid hbw
  clear kW kE hbw hb1
  have hJ0 : JInv w F a l w1.heap.size w.heap.size (w1.heap.size + 1) m s (ah0 F) n 0 (((w1.setCell ⟨w.heap.size + 1, 0, none⟩ (.string m)).alloc (.cells ((zz.setIfInBounds 0 (.string m)).setIfInBounds 1 (.int .i64 s)) 61)).alloc (.cells #[.pointer (some ⟨w1.heap.size, 0, none⟩)] 56)) := by
    have hsz : (w1.setCell ⟨w.heap.size + 1, 0, none⟩ (.string m)).heap.size = w1.heap.size := by simp [World.setCell]
    have hnb := (Blk.new (w1.setCell ⟨w.heap.size + 1, 0, none⟩ (.string m)) 61 ((zz.setIfInBounds 0 (.string m)).setIfInBounds 1 (.int .i64 s))).alloc (Obj.cells #[.pointer (some ⟨w1.heap.size, 0, none⟩)] 56)
    have hb6 := Blk.new ((w1.setCell ⟨w.heap.size + 1, 0, none⟩ (.string m)).alloc (.cells ((zz.setIfInBounds 0 (.string m)).setIfInBounds 1 (.int .i64 s)) 61)) 56 #[.pointer (some ⟨w1.heap.size, 0, none⟩)]
    rw [World.size_alloc, hsz] at hb6
    rw [hsz] at hnb
    have hbw := HBW.out
    have hb' : Below w.heap.size w (w1.setCell ⟨w.heap.size + 1, 0, none⟩ (.string m)) := ⟨hbw.os, hbw.tape, hbw.output, by rw [hsz]; exact hbw.size, fun q hq => (Below.heap_setCell _ _ _ _ (by show q ≠ w.heap.size + 1; omega)).trans (hbw.block q hq)⟩
    refine jinv0 HW.out ((hb'.alloc hb'.size _).alloc (by rw [World.size_alloc]; exact Nat.le_succ_of_le hb'.size) _) hnb (by simpa using hzs) ?_ ?_ ?_ ?_ hb6 hbw.size
    · rw [Array.getElem?_setIfInBounds_ne (by decide), Array.getElem?_setIfInBounds_self_of_lt (by omega)]
    · rw [Array.getElem?_setIfInBounds_self_of_lt (by simp; omega)]
    · rw [Array.getElem?_setIfInBounds_ne (by decide), Array.getElem?_setIfInBounds_ne (by decide)]; exact HZ2.out
    · rw [HWA2.out]; exact ((KW.out.setOther 0 (.string m) (by omega)).alloc _).alloc _
  have hF0 : lev F 0 = 32 := by rw [hF]; rfl
  have hlast : ∀ k, k < 32 → last F k a < F.length := fun k hk => by have := (last_spec F k (by omega) a).1; omega
  have hp := lev_pos HW.out
  have HR1 := Lib.hid (relink_any (links_split (w0 := w) (wb := w.heap.size) (b6 := w1.heap.size + 1) (nb := w1.heap.size) (m := m) (s := s) (ah := ah0 F) (n := n) hF0 hp hN ha hl.2) hlast (by omega) 32 _ hJ0)
  have HR2 := fun W hW => Lib.hid (relink_any (links_pass (w0 := w) (wb := w.heap.size) (b6 := w1.heap.size + 1) (nb := w1.heap.size) (m := m) (s := s) (ah := ah0 F) (n := n) (l := l) hF0 hN ha hl.2) hlast (by omega) (32 - l) W hW)
  have hnb1 := HBW.out.size
  clear hJ0 KW KE HZ2 HC hp hlast
  go_wp2_with fail
  clear e0 e1 e2 e3 hz hzs
  refine HR1.out.mono ?_
  rintro e w2 ⟨rfl, hJ1⟩
  rw [Nat.zero_add] at hJ1
  have HR3 := Lib.hid (HR2 w2 hJ1).out
  have HN3 := Lib.hid (relink_none 52 #[] ⟨w.heap.size, 0, none⟩ 0 w2)
  clear HR1 HR2
  obtain ⟨x0, hx0⟩ : ∃ x0, F[a]? = some x0 := ⟨_, List.getElem?_eq_getElem ha⟩
  have HFIN := fun w3 (hJ : JInv w F a l w1.heap.size w.heap.size (w1.heap.size + 1) m s (ah0 F) n 32 w3) => Lib.hid (joined hF0 ha hl hJ hx0)
  have hpath : l = 32 ∨ l < 32 := by omega
  have HJ1 := Lib.hid hJ1
  clear hJ1 HW HWA2 hF hx0
  rcases hpath with rfl | hlt
  · clear HR3
    go_wp2_with fail
    refine HN3.out.mono ?_
    rintro e w3 ⟨rfl, rfl⟩
    obtain ⟨q0, q1, w4, T1, q2, q3⟩ := (HFIN _ HJ1.out).out
    have T1 := Lib.hid T1
    have q3 := Lib.hid q3
    clear HFIN HJ1 HN3
    go_wp2_with fail
    refine T1.out.mono ?_
    rintro e w5 ⟨rfl, rfl⟩
    obtain ⟨T2, hf⟩ := q3.out
    have T2 := Lib.hid T2
    have HF := Lib.hid hf
    clear hf q3 T1
    go_wp2_with fail
    refine T2.out.mono ?_
    rintro e w6 ⟨rfl, rfl⟩
    go_wp2_with fail
    go_returns
    exact ⟨rfl, w1.heap.size, hnb1, HF.out⟩
  · clear HN3
    have hne : ¬ ((l : Int) = 32) := by omega
    go_wp2_with fail
    refine HR3.out.mono ?_
    rintro e w3 ⟨rfl, hJ2⟩
    rw [show l + (32 - l) = 32 by omega] at hJ2
    obtain ⟨q0, q1, w4, T1, q2, q3⟩ := (HFIN _ hJ2).out
    have T1 := Lib.hid T1
    have q3 := Lib.hid q3
    clear HFIN HJ1 HR3 hJ2
    go_wp2_with fail
    refine T1.out.mono ?_
    rintro e w5 ⟨rfl, rfl⟩
    obtain ⟨T2, hf⟩ := q3.out
    have T2 := Lib.hid T2
    have HF := Lib.hid hf
    clear hf q3 T1
    go_wp2_with fail
    refine T2.out.mono ?_
    rintro e w6 ⟨rfl, rfl⟩
    go_wp2_with fail
    go_returns
    exact ⟨rfl, w1.heap.size, hnb1, HF.out⟩
end Go.Proofs.Ytidiaomeahoapaa
