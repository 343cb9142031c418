/- Texts of one kind in one: ZName, SpShown, SpEntries, ZNil. -/
import Derived.Test.YtpfoicpnpgojdaaGreatDoorQZOps18
import Derived.Test.YtpfoicpnpgojdaaGreatDoorQSpSum30
import Derived.Test.YtpfoicpnpgojdaaGreatDoorQSpLast28
import Derived.Test.YtpfoicpnpgojdaaGreatDoorQSkRem04
import Derived.Test.YtpfoicpnpgojdaaGreatDoorQSched25
/- A name: the first seventy bytes of a text. -/
namespace Go.Proofs.YtpfoicpnpgojdaaGreatDoor
open Go.RowKit Go.Shelf Sk
attribute [local go_sem] Oper.semAt_some

def ba (l : List UInt8) : ByteArray := ⟨l.toArray⟩
def nameB (s : ByteArray) : ByteArray := s.extract 0 (min s.size 70)
theorem name_size (s : ByteArray) : (nameB s).size ≤ 70 := by unfold nameB; rw [ByteArray.size_extract]; omega
theorem name_any (s : ByteArray) (hs : s.size ≤ 9223372036854775807) (w : World) : Calls Tryz.prog 20 #[.string s] w fun e w' => e = .returned (.string (nameB s)) ∧ w' = w := by
  unfold nameB
  by_cases h : s.size ≤ 70
  · have h1 : min (s.size : Int) 70 = s.size := by omega
    have h2 : min s.size 70 = s.size := by omega
    rw [h2]
    have h3 : (s.size : Int) ≤ s.size := Int.le_refl _
    go_enter Tryz.func20, Tryz.ntmps20
    go_wp2
    go_ret
    exact ⟨by simp, rfl⟩
  · have h1 : min (s.size : Int) 70 = 70 := by omega
    have h2 : min s.size 70 = 70 := by omega
    rw [h2]
    have h3 : (70 : Int) ≤ s.size := by omega
    go_enter Tryz.func20, Tryz.ntmps20
    go_wp2
    go_ret
    exact ⟨rfl, rfl⟩
end Go.Proofs.YtpfoicpnpgojdaaGreatDoor
/- A space of one's own; what each law shows first. -/
namespace Go.Proofs.YtpfoicpnpgojdaaGreatDoor
open Go.RowKit Go.Shelf Sk
attribute [local go_sem] Oper.semAt_some

/-- A space made since w0. -/
def SpOwn (w0 w : World) (p : Nat) (en mn : Int) (sd c : Nat) (L : List Th) : Prop := ∃ S, SpSt w p en mn sd c L S ∧ (∀ k, S k → w0.heap.size ≤ k) ∧ Below w0.heap.size w0 w
section
variable {w0 w w' w1 w2 : World} {p c c' sd : Nat} {S : Nat → Prop} {en mn : Int} {L L' : List Th} {t : Th}
theorem SpOwn.below (h : SpOwn w0 w p en mn sd c L) : Below w0.heap.size w0 w := by obtain ⟨S, _, _, h⟩ := h; exact h
theorem SpOwn.env (h : SpOwn w0 w p en mn sd c L) (hE : EnvE w0) : EnvE w := hE.later h.below
theorem SpOwn.of (h2 : ∀ k, S k → w0.heap.size ≤ k) (h3 : Below w0.heap.size w0 w) (g : SpNow w p en mn sd c' S L' w') : SpOwn w0 w' p en mn sd c' L' := by
  obtain ⟨S', g1, g2, g3⟩ := g
  refine ⟨S', g1, fun k hk => ?_, h3.trans (g3.below h2 h3.size)⟩
  rcases g2 k hk with h | h
  · exact h2 k h
  · exact Nat.le_trans h3.size h
theorem SpOwn.later (h : SpOwn w0 w p en mn sd c L) (hb : Below w.heap.size w w') : SpOwn w0 w' p en mn sd c L := by
  obtain ⟨S, h1, h2, h3⟩ := h
  exact .of h2 h3 (.same h1 hb)
theorem SpOwn.more (h : SpOwn w0 w p en mn sd c L) (hc : c ≤ c') (hc2 : c' ≤ 10000) : SpOwn w0 w p en mn sd c' L := by
  obtain ⟨S, h1, h2, h3⟩ := h
  exact ⟨S, h1.more hc hc2, h2, h3⟩
theorem own_no0 (hE : EnvE w0) (h2 : ∀ k, S k → w0.heap.size ≤ k) : ¬ S 0 := fun h => by have := h2 0 h; have := hE.lt; omega
theorem own_New (en mn mx : Int) (sd : Nat) (hsd : sd < 4294967296) (c : Nat) (w : World) :
    Calls Tryz.prog 11 #[.agg #[.int .i64 en, .int .i64 mn, .int .u32 sd, .int .i64 mx]] w fun e w' => ∃ p, e = .returned (.pointer (some ⟨p, 0, none⟩)) ∧ SpOwn w w' p en mn sd c [] := by
  refine (st_New en mn mx sd hsd c w).mono ?_
  rintro e w' ⟨p, S, rfl, h1, h2, h3⟩
  exact ⟨p, rfl, S, h1, h2, h3⟩
theorem own_Make (hE : EnvE w0) (h : SpOwn w0 w p en mn sd c L) (hc : c ≤ 10000) (k : ByteArray) (hk : k.size ≤ 281474976710656) (now : Int) (hnow : Lf.I64 now) :
    Calls Tryz.prog 28 #[.pointer (some ⟨p, 0, none⟩), .string k, .int .i64 now] w fun e w' => ∃ a L', e = .returned (.tuple #[.pointer a, .int .i64 (madeE L k now)]) ∧ SpOwn w0 w' p en mn sd c L' ∧ MakeAt L k now a L' := by
  have hw := h.env hE
  obtain ⟨S, h1, h2, h3⟩ := h
  refine (st_Make h1 hw (own_no0 hE h2) hc k hk now hnow).mono ?_
  rintro e w' ⟨a, L', rfl, hn, hm⟩
  exact ⟨a, L', rfl, .of h2 h3 hn, hm⟩
theorem own_Find (h : SpOwn w0 w p en mn sd c L) (k : ByteArray) (hk : k.size ≤ 281474976710656) :
    Calls Tryz.prog 21 #[.pointer (some ⟨p, 0, none⟩), .string k] w fun e w' => e = .returned (.tuple #[.pointer (sptr L k), .bool (tmap L k).isSome]) ∧ SpOwn w0 w' p en mn sd c L := by
  obtain ⟨S, h1, h2, h3⟩ := h
  refine (st_Find h1 k hk).mono ?_
  rintro e w' ⟨rfl, hn⟩
  exact ⟨rfl, .of h2 h3 hn⟩
theorem own_Rename (hE : EnvE w0) (h : SpOwn w0 w p en mn sd c L) (f k : ByteArray) (hf : f.size ≤ 281474976710656) (hk : k.size ≤ 281474976710656) :
    Calls Tryz.prog 29 #[.pointer (some ⟨p, 0, none⟩), .string f, .string k] w fun e w' => ∃ L', e = .returned (.int .i64 (renE L f k)) ∧ SpOwn w0 w' p en mn sd c L' ∧ RenTo L f k L' := by
  have hw := h.env hE
  obtain ⟨S, h1, h2, h3⟩ := h
  refine (st_Rename h1 hw (own_no0 hE h2) f k hf hk).mono ?_
  rintro e w' ⟨L', rfl, hn, hm⟩
  exact ⟨L', rfl, .of h2 h3 hn, hm⟩
theorem own_Size (h : SpOwn w0 w p en mn sd c L) (hc : c ≤ 1000) :
    Calls Tryz.prog 14 #[.pointer (some ⟨p, 0, none⟩)] w fun e w' => e = .returned (.int .i64 (sizeI (itl L) : Nat)) ∧ SpOwn w0 w' p en mn sd c L := by
  have h0 := h
  obtain ⟨S, h1, h2, h3⟩ := h
  refine (st_Size h1 hc).mono ?_
  rintro e w' ⟨rfl, hb⟩
  exact ⟨rfl, h0.later hb⟩
end

theorem shown_facts : madeE [] (ba [107]) 0 = 0 ∧ sizeI (itl []) = 64 ∧ sizeI [⟨ba [107], 5, 0, false, []⟩] = 115 := by
  refine ⟨?_, ?_, ?_⟩ <;> decide +kernel
set_option maxHeartbeats 2000000 in
theorem shown_any (w : World) (hE : EnvE w) : Calls Tryz.prog 10 #[] w fun e w' => e = .returned (.bool true) ∧ Below w.heap.size w w' := by
  obtain ⟨f1, f2, f3⟩ := shown_facts
  have HN := Lib.hid (own_New 9 9 0 0 (by decide) 0 w)
  have HA := fun W p (h : SpOwn w W p 9 9 0 0 []) => Lib.hid (own_Size h (by decide))
  have HB := fun W p (h : SpOwn w W p 9 9 0 0 []) => Lib.hid (own_Make hE h (by decide) (ba [107]) (by decide) 0 (by unfold Lf.I64; omega))
  have HC := fun W p t (h : SpOwn w W p 9 9 0 0 [t]) => Lib.hid (own_Find h (ba [107]) (by decide))
  have HD := fun W p t (h : SpOwn w W p 9 9 0 0 [t]) => Lib.hid (own_Rename hE h (ba [120]) (ba [121]) (by decide) (by decide))
  have HF := fun W p t (h : SpOwn w W p 9 9 0 0 [t]) => Lib.hid (own_Size h (by decide))
  rw [f1] at HB
  rw [f2] at HA
  unfold ba at *
  clear hE
  go_enter Tryz.func10, Tryz.ntmps10
  go_wp2_with fail
  refine HN.out.mono ?_
  rintro e w1 ⟨p, rfl, h1⟩
  have HA1 := HA w1 p h1
  clear h1 HA HN
  go_wp2_with fail
  refine HA1.out.mono ?_
  rintro e w2 ⟨rfl, h2⟩
  have HB2 := HB w2 p h2
  clear h2 HA1 HB
  go_wp2_with fail
  refine HB2.out.mono ?_
  rintro e w3 ⟨a, L', rfl, h3, hm⟩
  obtain ⟨t, rfl, ht⟩ : ∃ t, L' = [t] ∧ t.toIt = ⟨{ data := #[107] }, 5, 0, false, []⟩ := by
    rcases hm with ⟨h, _⟩ | ⟨_, _, t, _, _, _, ⟨h, _⟩ | ⟨_, _, _, h, ht⟩⟩
    · exact absurd f1 h
    · cases h
    · exact ⟨t, h, ht⟩
  have g1 : (tmap [t] { data := #[107] }).isSome = true := by
    have : t.key = { data := #[107] } := by rw [ht]
    unfold tmap
    simp [this]
  have g2 : renE [t] { data := #[120] } { data := #[121] } = 141 := by
    have : t.key = { data := #[107] } := by rw [ht]
    have hn : ({ data := #[107] } : ByteArray) ≠ { data := #[120] } := by decide
    unfold renE tmap
    simp [this, hn]
  have g3 : sizeI (itl [t]) = 115 := by
    rw [show itl [t] = [t.toIt] from rfl, ht]
    exact f3
  have HC3 := HC w3 p t h3
  have HD3 := fun W (h : SpOwn w W p 9 9 0 0 [t]) => HD W p t h
  have HF3 := fun W (h : SpOwn w W p 9 9 0 0 [t]) => HF W p t h
  rw [g1] at HC3
  rw [g2] at HD3
  rw [g3] at HF3
  have HM := Lib.hid (show ∀ L', RenTo [t] { data := #[120] } { data := #[121] } L' → L' = [t] from fun L' h => by
    rcases h with ⟨_, h⟩ | ⟨h, _⟩ | ⟨h, _⟩
    · exact h
    · rw [g2] at h; cases h
    · rw [g2] at h; cases h)
  generalize sptr [t] { data := #[107] } = ad at HC3
  clear h3 hm ht HC HD HF HB2 g1 g2 g3 f1 f2 f3
  go_wp2_with fail
  refine HC3.out.mono ?_
  rintro e w4 ⟨rfl, h4⟩
  have HD4 := HD3 w4 h4
  clear h4 HD3 HC3
  go_wp2_with fail
  refine HD4.out.mono ?_
  rintro e w5 ⟨L', rfl, h5, hm⟩
  obtain rfl := HM.out _ hm
  have HF5 := HF3 w5 h5
  clear h5 hm HD4 HF3 HM
  go_wp2_with (first
    | (go_at_call 14; refine HF5.out.mono ?_; rintro e w6 ⟨rfl, h6⟩; have H6 := Lib.hid h6; clear h6))
  go_ret
  exact ⟨rfl, H6.out.below⟩
end Go.Proofs.YtpfoicpnpgojdaaGreatDoor
/- The entries of an act. -/
namespace Go.Proofs.YtpfoicpnpgojdaaGreatDoor
open Go.RowKit Go.Shelf Sk
attribute [local go_sem] Oper.semAt_some

/-- An act's value. -/
def actV (d : Int) (k t m : ByteArray) (sc n dr : Int) : Value := .agg #[.int .i64 d, .string k, .string t, .string m, .int .i64 sc, .int .i64 n, .int .u32 dr]
def entN (n : Int) : Nat := (n % 18446744073709551616 % 6).toNat
def entL (m : ByteArray) (sc : Int) (j : Nat) : List En := (List.range j).map fun i => ((nameB m).extract 0 (min i (nameB m).size), sc)
theorem entL_succ (m : ByteArray) (sc : Int) (j : Nat) : entL m sc (j + 1) = entL m sc j ++ [((nameB m).extract 0 (min j (nameB m).size), sc)] := by
  unfold entL
  rw [List.range_succ, List.map_append]
  rfl
theorem entL_len (m : ByteArray) (sc : Int) (j : Nat) : (entL m sc j).length = j := by unfold entL; simp
theorem alloc_size (w : World) (o : Obj) : (w.alloc o).heap.size = w.heap.size + 1 := Array.size_push _
theorem entN_eq (n : Int) : wrap64 ((IntKind.u64.wrap n).tmod 6) = (entN n : Int) := by
  have h : IntKind.u64.wrap n = n % 18446744073709551616 := rfl
  rw [h, Int.tmod_eq_emod_of_nonneg (by omega)]
  unfold wrap64 entN
  omega
/-- An act's cells that entries reads. -/
def LoadsX (b : Nat) (m : ByteArray) (sc n : Int) (W : World) : Prop := W.cell? ⟨b, 3, none⟩ = some (.string m) ∧ W.cell? ⟨b, 4, none⟩ = some (.int .i64 sc) ∧ W.cell? ⟨b, 5, none⟩ = some (.int .i64 n)
theorem LoadsX.below {W W' : World} {B b : Nat} {m : ByteArray} {sc n : Int} (h : LoadsX b m sc n W) (hb : Below B W W') (hB : b < B) : LoadsX b m sc n W' := by
  obtain ⟨h1, h2, h3⟩ := h
  exact ⟨(hb.cell hB).trans h1, (hb.cell hB).trans h2, (hb.cell hB).trans h3⟩
set_option maxRecDepth 100000 in
set_option maxHeartbeats 2000000 in
theorem entries_any (d : Int) (k t m : ByteArray) (sc n dr : Int) (hm : m.size ≤ 9223372036854775807) (w : World) :
    Calls Tryz.prog 36 #[actV d k t m sc n dr] w fun e w' => ∃ v, e = .returned v ∧ Own32 w' w.heap.size v (entL m sc (entN n)) ∧ Below w.heap.size w w' := by
  have HN := fun W => Lib.hid (name_any m hm W)
  have hns := name_size m
  have h6 : entN n ≤ 5 := by unfold entN; omega
  have hn0 := entN_eq n
  have HE := Lib.hid (entL_succ m sc)
  have HLN := Lib.hid (entL_len m sc)
  have HX := Lib.hid (show LoadsX w.heap.size m sc n (w.alloc (.cells #[.int .i64 d, .string k, .string t, .string m, .int .i64 sc, .int .i64 n, .int .u32 dr] 37)) from
    have hB := Blk.new w 37 #[.int .i64 d, .string k, .string t, .string m, .int .i64 sc, .int .i64 n, .int .u32 dr]
    ⟨hB.cell 3, hB.cell 4, hB.cell 5⟩)
  have HW0 := Lib.hid (alloc_below w (.cells #[.int .i64 d, .string k, .string t, .string m, .int .i64 sc, .int .i64 n, .int .u32 dr] 37))
  have hw0 := alloc_size w (.cells #[.int .i64 d, .string k, .string t, .string m, .int .i64 sc, .int .i64 n, .int .u32 dr] 37)
  have HO : Hid (Own32 (w.alloc (.cells #[.int .i64 d, .string k, .string t, .string m, .int .i64 sc, .int .i64 n, .int .u32 dr] 37)) (w.heap.size + 1) (.slice none 0 0) (entL m sc 0)) := ⟨rfl, .inl ⟨rfl, rfl⟩⟩
  unfold actV
  generalize hl : entL m sc = EL at *
  generalize hnn : entN n = N at *
  generalize nameB m = nm at *
  clear hl hm hnn
  go_enter Tryz.func36, Tryz.ntmps36
  go_wp2_with fail
  generalize w.alloc (.cells #[.int .i64 d, .string k, .string t, .string m, .int .i64 sc, .int .i64 n, .int .u32 dr] 37) = w0 at *
  go_loopw [3, 4] (fun r i wr => ∃ (j : Nat), i = .int .i64 j ∧ j ≤ N ∧ Own32 wr (w.heap.size + 1) r (EL j) ∧ Below (w.heap.size + 1) w0 wr) (fun _ i _ => N - (intOf i).toNat)
  case atStart => exact ⟨0, rfl, by omega, HO.out, Below.refl _ _⟩
  case round =>
    obtain ⟨j, rfl, hj, hO, hb⟩ := hrel
    obtain ⟨x1, x2, x3⟩ := HX.out.below hb (by omega)
    have hbs := hb.size
    have HB := Lib.hid hb
    have HOJ := Lib.hid hO
    clear hO hb HO
    by_cases hlt : j < N
    · have hlt2 : (j : Int) < N := by omega
      have S0 : LoadsX w.heap.size m sc n wr.drew := ⟨x1, x2, x3⟩
      clear x1 x2
      go_wp2_with fail
      refine Sched.region_sched [(0, true), (1, true), (2, true), (4, true), (5, true), (6, true), (11, true), (12, true), (3, false), (7, false), (8, true), (9, true), (10, true), (13, true), (14, false), (15, false), (16, true)]
        (LoadsX w.heap.size m sc n) (by kernel_rfl) (by kernel_rfl) rfl (by kernel_rfl) (fun _ _ _ d _ h => by cases d <;> exact h) S0 ?_
      intro L hL
      simp only [Sched.picks, List.getElem?_toArray, List.getElem?_cons_zero, List.getElem?_cons_succ] at hL
      subst hL
      repeat (first
        | (refine Sched.sched_take (v := ?_) (by rfl) ?_ ?_
           rotate_left
           (focus (intro w' hSw; obtain ⟨l0, l1, l2⟩ := hSw; go_simp; (try with_reducible rfl); done))
           simp only [Act.put, List.setIfInBounds_toArray, List.set_cons_zero, List.set_cons_succ]))
      refine Sched.sched_do (by rfl) fun K' hK => ?_
      go_simp
      refine (HN _).out.mono ?_
      rintro e w1 ⟨rfl, rfl⟩
      go_simp
      refine hK _ _ S0 ?_
      clear hK K'
      refine Sched.sched_do (by rfl) fun K' hK => ?_
      go_simp
      refine (HN _).out.mono ?_
      rintro e w1 ⟨rfl, rfl⟩
      go_simp
      refine hK _ _ S0 ?_
      clear hK K' HN
      have hNX := HE.out j
      generalize he : nm.extract 0 (min j nm.size) = ne at hNX
      repeat (first
        | (refine Sched.sched_take (v := ?_) (by rfl) ?_ ?_
           rotate_left
           (focus (intro w' hSw; obtain ⟨l0, l1, l2⟩ := hSw; go_simp; (try with_reducible rfl); done))
           simp only [Act.put, List.setIfInBounds_toArray, List.set_cons_zero, List.set_cons_succ]))
      refine Sched.sched_take (v := .string ne) (by rfl) (fun w' hSw => ?_) ?_
      · go_simp
        have h1 : 0 ≤ min (j : Int) nm.size ∧ min (j : Int) nm.size ≤ nm.size := by omega
        rw [if_pos h1, show (min (j : Int) nm.size).toNat = min j nm.size by omega]
        rw [← he]
      simp only [Act.put, List.setIfInBounds_toArray, List.set_cons_zero, List.set_cons_succ]
      repeat (first
        | (refine Sched.sched_take (v := ?_) (by rfl) ?_ ?_
           rotate_left
           (focus (intro w' hSw; obtain ⟨l0, l1, l2⟩ := hSw; go_simp; (try with_reducible rfl); done))
           simp only [Act.put, List.setIfInBounds_toArray, List.set_cons_zero, List.set_cons_succ]))
      refine Sched.sched_do (by rfl) fun K' hK => ?_
      go_simp
      have hX2 := HOJ.out
      obtain ⟨g3, cap3, W7, hrun, hO7, hg7⟩ := app_ent (W6 := wr.drew) (show Own32 wr.drew (w.heap.size + 1) u3 (EL j) from hX2) (Below.refl _ _) (ne, sc) (by rw [HLN.out]; omega) (show w.heap.size + 1 ≤ wr.heap.size by omega)
      have hfr := fun (k : Nat) (e : u3.ownBlock = some k) => World.ownsRow.lt hX2 k e
      have S1 : LoadsX w.heap.size m sc n (wr.drew.alloc (.cells #[.string ne, .int .i64 sc] 101)) := S0.below (alloc_below _ _) (show w.heap.size < wr.heap.size by omega)
      have S2 : LoadsX w.heap.size m sc n W7 :=
        ⟨hg7.cell S1.1 (fun e => by have := (hfr _ e.symm).1; simp only at this; omega), hg7.cell S1.2.1 (fun e => by have := (hfr _ e.symm).1; simp only at this; omega), hg7.cell S1.2.2 (fun e => by have := (hfr _ e.symm).1; simp only at this; omega)⟩
      have hb7 : Below (w.heap.size + 1) w0 W7 := by
        have h0 : Below (w.heap.size + 1) w0 wr.drew := HB.out.drew
        exact (h0.alloc (show w.heap.size + 1 ≤ wr.heap.size by omega) _).grown hg7 (by rw [alloc_size]; show w.heap.size + 1 ≤ wr.heap.size + 1; omega) (fun k e => (hfr k e).1)
      rw [HLN.out] at hrun hO7
      have HB7 := Lib.hid hb7
      have HO7 := Lib.hid hO7
      clear hb7 hO7 hg7 hfr hX2
      refine hK _ _ S1 ?_
      clear hK K'
      refine Sched.sched_do (by rfl) fun K' hK => ?_
      refine wp_append_at (.tmp 14) (.tmp 28) 55 55 rfl rfl rfl hrun ?_
      go_simp
      refine hK _ _ S2 ?_
      clear hK K'
      refine Sched.sched_take (v := .slice (some ⟨g3, 0, none⟩) (j + 1) cap3) (by rfl) (fun w' _ => by go_simp) ?_
      simp only [Act.put, List.setIfInBounds_toArray, List.set_cons_zero, List.set_cons_succ]
      refine Sched.sched_nil ?_
      clear S0 S1 S2 hrun x3
      go_wp2
      refine ⟨⟨j + 1, by go_num, by omega, ?_, HB7.out⟩, by simp [intOf]; omega⟩
      rw [hNX]
      exact HO7.out
    · have hlt2 : wrap64 ((IntKind.u64.wrap n).tmod 6) ≤ (j : Int) := by omega
      obtain rfl : j = N := by omega
      have hO9 := own_mono HOJ.out (show w.heap.size ≤ w.heap.size + 1 by omega)
      have HB9 := Lib.hid (HW0.out.trans (HB.out.mono (by omega)))
      have HO9 := Lib.hid hO9
      clear hO9 HB HOJ HW0 HN HE HLN HX
      go_wp2_with fail
      go_ret
      exact ⟨_, rfl, HO9.out, HB9.out⟩
end Go.Proofs.YtpfoicpnpgojdaaGreatDoor
/- A nil set. -/
namespace Go.Proofs.YtpfoicpnpgojdaaGreatDoor
open Go.RowKit Go.Shelf Sk
attribute [local go_sem] Oper.semAt_some

theorem now_nil (w : World) : Calls Tryz.prog 56 #[.pointer none] w fun e w' => ∃ b, e = .returned (.iface 154 (.pointer (some ⟨b, 0, none⟩))) ∧ PackAt w' b [] ∧ w.heap.size ≤ b ∧ Below w.heap.size w w' := by
  have HN := fun W => Lib.hid (Pk.new_any W)
  go_enter Tryz.func56, Tryz.ntmps56
  go_wp2_with fail
  refine (HN _).out.mono ?_
  rintro e w1 ⟨rfl, rfl⟩
  go_wp2_with fail
  go_ret
  exact ⟨_, rfl, ⟨Blk.new _ _ _, empty_pack⟩, Nat.le_refl _, alloc_below _ _⟩
theorem nil_len (w : World) : Calls Tryz.prog 25 #[.pointer none] w fun e w' => e = .returned (.int .i64 0) ∧ Below w.heap.size w w' := by
  have HN := Lib.hid (now_nil w)
  go_enter Tryz.func25, Tryz.ntmps25
  go_wp2_with fail
  refine HN.out.mono ?_
  rintro e w1 ⟨b, rfl, hp, _, hb⟩
  have HB := Lib.hid hb
  have HL := Lib.hid (p_len hp)
  clear hb hp
  go_wp2_with fail
  refine HL.out.mono ?_
  rintro e w2 ⟨rfl, hb⟩
  have HB2 := Lib.hid (HB.out.trans (hb.mono HB.out.size))
  clear hb
  go_wp2_with fail
  go_ret
  exact ⟨rfl, HB2.out⟩
theorem nil_range (f t : Int) (w : World) : Calls Tryz.prog 24 #[.pointer none, .int .i64 f, .int .i64 t] w fun e w' => ∃ a c, e = .returned (.slice a 0 c) ∧ Below w.heap.size w w' := by
  have HN := Lib.hid (now_nil w)
  go_enter Tryz.func24, Tryz.ntmps24
  go_wp2_with fail
  refine HN.out.mono ?_
  rintro e w1 ⟨b, rfl, hp, _, hb⟩
  have HB := Lib.hid hb
  have HL := Lib.hid (p_range hp f t)
  clear hb hp
  go_wp2_with fail
  refine HL.out.mono ?_
  rintro e w2 ⟨r, rfl, hr, hb⟩
  have HB2 := Lib.hid (HB.out.trans (hb.mono HB.out.size))
  obtain ⟨a, c, rfl⟩ := hr.form
  have h0 : (subE [] f t).length = 0 := by rw [subE_len]; unfold t0; simp; omega
  rw [h0]
  clear hb hr h0
  go_wp2_with fail
  go_ret
  exact ⟨a, c, rfl, HB2.out⟩
theorem nil_rank (k : ByteArray) (w : World) : Calls Tryz.prog 76 #[.pointer none, .string k] w fun e w' => e = .returned (.tuple #[.int .i64 0, .bool false]) ∧ Below w.heap.size w w' := by
  have HN := Lib.hid (now_nil w)
  go_enter Tryz.func76, Tryz.ntmps76
  go_wp2_with fail
  refine HN.out.mono ?_
  rintro e w1 ⟨b, rfl, hp, _, hb⟩
  have HB := Lib.hid hb
  have HL := Lib.hid (p_rank hp k)
  rw [show whE [] k = none from rfl] at HL
  clear hb hp
  go_wp2_with fail
  refine HL.out.mono ?_
  rintro e w2 ⟨rfl, hb⟩
  have HB2 := Lib.hid (HB.out.trans (hb.mono HB.out.size))
  clear hb
  go_wp2_with fail
  go_ret2
  exact ⟨rfl, HB2.out⟩
theorem nil_cut (f t : Int) (w : World) : Calls Tryz.prog 77 #[.pointer none, .int .i64 f, .int .i64 t] w fun e w' => e = .returned (.int .i64 0) ∧ Below w.heap.size w w' := by
  have HN := Lib.hid (now_nil w)
  have h0 : (subE [] f t).length = 0 := by rw [subE_len]; unfold t0; simp; omega
  have H0 := Lib.hid h0
  clear h0
  go_enter Tryz.func77, Tryz.ntmps77
  go_wp2_with fail
  refine HN.out.mono ?_
  rintro e w1 ⟨b, rfl, hp, hbb, hb⟩
  have HL := Lib.hid (p_cut hp List.Pairwise.nil f t)
  rw [H0.out] at HL
  have HF := Lib.hid (fun w2 (hf : Far (fun k => k = b) w1 w2) => show Below w.heap.size w w2 from hb.trans (hf.below (fun k hk => by rw [hk]; exact hbb) hb.size))
  clear hb hp
  go_wp2_with fail
  refine HL.out.mono ?_
  rintro e w2 ⟨rfl, _, hf⟩
  have HB2 := Lib.hid (HF.out w2 hf)
  clear hf
  go_wp2_with fail
  go_ret
  exact ⟨rfl, HB2.out⟩
theorem nil_remove (k : ByteArray) (w : World) : Calls Tryz.prog 42 #[.pointer none, .string k] w fun e w' => e = .returned (.bool false) ∧ Below w.heap.size w w' := by
  have HN := Lib.hid (nil_rank k w)
  go_enter Tryz.func42, Tryz.ntmps42
  go_wp2_with fail
  refine HN.out.mono ?_
  rintro e w1 ⟨rfl, hb⟩
  have HB := Lib.hid hb
  clear hb
  go_wp2_with fail
  go_ret
  exact ⟨rfl, HB.out⟩
theorem nil_add (k : ByteArray) (sc lv : Int) (w : World) : Calls Tryz.prog 38 #[.pointer none, .string k, .int .i64 sc, .int .i64 lv] w fun e w' => e = .returned (.tuple #[.bool false, .int .i64 1]) ∧ w' = w := by
  go_enter Tryz.func38, Tryz.ntmps38
  go_wp2
  go_ret2
  exact ⟨rfl, rfl⟩
theorem nil_bytes (w : World) : Calls Tryz.prog 26 #[.pointer none] w fun e w' => e = .returned (.int .i64 0) ∧ w' = w := by
  go_enter Tryz.func26, Tryz.ntmps26
  go_wp2
  go_ret
  exact ⟨rfl, rfl⟩
end Go.Proofs.YtpfoicpnpgojdaaGreatDoor
