/- A reader's head. -/
import Derived.Test.YtjcgfbmkgfhnaaaDoorLine
import Derived.Deep.RegionWith
namespace Go.Proofs.YtjcgfbmkgfhnaaaDoor
open Go.RowKit Go.Shelf

theorem headIn_count (d : Nat) (hd : d < 10) (w : World) : Calls Tryd.prog 36 #[.int .u8 42, .string (dig d)] w fun e w' => e = .returned (.iface 73 (.int .i64 d)) ∧ Below w.heap.size w w' := by
  have HP := Lib.hid (parse_digit d hd w)
  go_enter Tryd.func36, Tryd.ntmps36
  go_wp2_with (refine HP.out.mono ?_; rintro e w1 ⟨rfl, hb⟩)
  go_ret
  exact ⟨rfl, hb⟩
theorem headIn_number (d : Nat) (hd : d < 10) (w : World) : Calls Tryd.prog 36 #[.int .u8 58, .string (dig d)] w fun e w' => e = .returned (.iface 70 (.int .i64 d)) ∧ Below w.heap.size w w' := by
  have HP := Lib.hid (parse_digit d hd w)
  go_enter Tryd.func36, Tryd.ntmps36
  go_wp2_with (refine HP.out.mono ?_; rintro e w1 ⟨rfl, hb⟩)
  go_ret
  exact ⟨rfl, hb⟩

theorem grown_of_below {w w' : World} {row : Option Nat} (h : Below w.heap.size w w') : w.grownBy w' row := ⟨h.os, h.tape, h.output, h.size, fun q hq _ => h.block q hq⟩
theorem grown_drewN (w : World) (n : Nat) (row : Option Nat) : w.grownBy (w.drewN n) row := ⟨rfl, rfl, rfl, Nat.le_refl _, fun _ _ _ => rfl⟩
theorem grown_set (w : World) (b : Nat) (o : Nat) (v : Value) : w.grownBy (w.setCell ⟨b, o, none⟩ v) (some b) :=
  ⟨rfl, rfl, rfl, by simp [World.setCell], fun k _ hk => Below.heap_setCell _ _ _ k (fun e => hk (by rw [e]))⟩

theorem below_drewIn {w W : World} (h : Below w.drew.heap.size w.drew W) : Below w.heap.size w W := ((Below.refl w.heap.size w).drew).trans h

/-- The reader has an error. -/
def HeadErr (b : Nat) (er : Value) (W : World) (e : Ending) (W' : World) : Prop := e = .returned (.tuple #[.nilIface, er]) ∧ W.grownBy W' (some b)

set_option maxRecDepth 100000 in
set_option maxHeartbeats 2000000 in
theorem head_more {W : World} {aM aW : Addr} {m : Int} (hE : Env W aM aW m) (b : Nat) (t : ByteArray) (h : Int) (hR : Reader W b t h) (c : UInt8) (l : List UInt8) (ht : t.data.toList = c :: l) (hi : 0 ≤ Lib.indexByte [43, 45, 58, 36, 42] c)
    (p q : List UInt8) (hc : Lib.cut t.data.toList [13, 10] = (p, q, false)) (hs : t.size ≤ 602) :
    Calls Tryd.prog 29 #[.pointer (some ⟨b, 0, none⟩)] W (fun e W' => HeadErr b (.iface 134 (.pointer (some aM))) W e W' ∧ ∃ t', Reader W' b t' h) := by
  have HL := Lib.hid (line_more hE b t h hR c l ht hi p q hc hs)
  have he : ∀ W : World, (binOp .neq 60 (.iface 134 (.pointer (some aM))) .nilIface).run Tryd.prog W = .ok (.bool true) W := fun W => by simp [go_sem]
  clear hc ht
  go_enter Tryd.func29, Tryd.ntmps29
  go_wp2_with (go_at_call 35; refine HL.out.mono ?_; rintro e w1 ⟨rfl, nn, rfl⟩)
  go_ret2
  exact ⟨⟨rfl, grown_drewN _ _ _⟩, t, hR⟩

set_option maxRecDepth 100000 in
set_option maxHeartbeats 2000000 in
theorem head_wrong {W : World} {aM aW : Addr} {m : Int} (hE : Env W aM aW m) (b : Nat) (t : ByteArray) (h : Int) (hR : Reader W b t h) (c : UInt8) (l : List UInt8) (ht : t.data.toList = c :: l) (hi : Lib.indexByte [43, 45, 58, 36, 42] c < 0) :
    Calls Tryd.prog 29 #[.pointer (some ⟨b, 0, none⟩)] W (fun e W' => HeadErr b (.iface 134 (.pointer (some aW))) W e W' ∧ ∃ t', Reader W' b t' h) := by
  have HL := Lib.hid (line_wrong hE b t h hR c l ht hi)
  have he : ∀ W : World, (binOp .neq 60 (.iface 134 (.pointer (some aW))) .nilIface).run Tryd.prog W = .ok (.bool true) W := fun W => by simp [go_sem]
  clear ht
  go_enter Tryd.func29, Tryd.ntmps29
  go_wp2_with (go_at_call 35; refine HL.out.mono ?_; rintro e w1 ⟨rfl, nn, rfl⟩)
  go_ret2
  exact ⟨⟨rfl, grown_drewN _ _ _⟩, t, hR⟩

theorem Env.grown {W W' : World} {aM aW : Addr} {m : Int} {b : Nat} (hE : Env W aM aW m) (hg : W.grownBy W' (some b)) (hb : 3 ≤ b) (hM : aM.block ≠ b) (hW : aW.block ≠ b) : Env W' aM aW m := by
  obtain ⟨c1, t1, r1⟩ := hE.rowM
  obtain ⟨c2, t2, r2⟩ := hE.rowW
  exact ⟨hg.cell hE.more (by simp; omega), hg.cell hE.wrong (by simp; omega), hg.cell hE.max (by simp; omega), hE.ne,
    ⟨c1, t1, (hg.block _ (Array.getElem?_eq_some_iff.1 r1).1 (by simp [hM])).trans r1⟩, ⟨c2, t2, (hg.block _ (Array.getElem?_eq_some_iff.1 r2).1 (by simp [hW])).trans r2⟩⟩

/-- The reader has a head. -/
def HeadOk (b : Nat) (hv : Value) (q : List UInt8) (h : Int) (W : World) (e : Ending) (W' : World) : Prop := e = .returned (.tuple #[hv, .nilIface]) ∧ W.grownBy W' (some b) ∧ Reader W' b ⟨q.toArray⟩ h

theorem reader_set {W : World} {b : Nat} {t : ByteArray} {h : Int} (hR : Reader W b t h) (n : Nat) (q : ByteArray) : Reader ((W.drewN n).setCell ⟨b, 0, none⟩ (.string q)) b q h := by
  have h1 : (W.drewN n).heap[b]? = some (Obj.cells #[.string t, .int .i64 h] 58 (0, 0)) := hR
  exact set_in 0 (.string q) h1
theorem Reader.later {W W' : World} {b : Nat} {t : ByteArray} {h : Int} (hR : Reader W b t h) (hb : Below W.heap.size W W') : Reader W' b t h := (hb.block b (Array.getElem?_eq_some_iff.1 hR).1).trans hR

set_option maxRecDepth 100000 in
set_option maxHeartbeats 2000000 in
theorem head_line {W : World} {aM aW : Addr} {m : Int} (hE : Env W aM aW m) (b : Nat) (_hb3 : 3 ≤ b) (t : ByteArray) (h : Int) (hR : Reader W b t h) (c d : UInt8) (l q : List UInt8) (ht : t.data.toList = c :: l) (hi : 0 ≤ Lib.indexByte [43, 45, 58, 36, 42] c)
    (hc : Lib.cut t.data.toList [13, 10] = ([c, d], q, true)) (hs : t.size ≤ 100000) (hv : Value)
    (HI : ∀ w, Calls Tryd.prog 36 #[.int .u8 (c.toNat : Int), .string ⟨#[d]⟩] w fun e w' => e = .returned hv ∧ Below w.heap.size w w')
    (HF : ∀ w, Calls Tryd.prog 26 #[hv, .int .i64 h] w fun e w' => e = .returned (.bool true) ∧ Below w.heap.size w w') :
    Calls Tryd.prog 29 #[.pointer (some ⟨b, 0, none⟩)] W (HeadOk b hv q h W) := by
  have HL := Lib.hid (line_ok hE b t h hR c l ht hi _ _ hc hs)
  have HII := fun w => Lib.hid (HI w)
  have HFF := fun w => Lib.hid (HF w)
  have hR1 := fun n => reader_set hR n ⟨q.toArray⟩
  have hx : (⟨#[c, d]⟩ : ByteArray).extract 1 2 = ⟨#[d]⟩ := rfl
  have hz : (⟨#[c, d]⟩ : ByteArray)[0]'(by decide : 0 < 2) = c := rfl
  clear hc ht HI HF
  go_enter Tryd.func29, Tryd.ntmps29
  go_wp2_with (go_at_call 35; refine HL.out.mono ?_; rintro e w1 ⟨rfl, nn, rfl⟩)
  have hRn := hR1 nn
  have hg1 : W.grownBy ((W.drewN nn).setCell ⟨b, 0, none⟩ (.string ⟨q.toArray⟩)) (some b) := (grown_drewN W nn (some b)).trans (grown_set _ _ _ _)
  generalize (W.drewN nn).setCell ⟨b, 0, none⟩ (.string ⟨q.toArray⟩) = W1 at *
  clear hR1 HL
  go_region_with (go_at_call 36; refine (HII _).out.mono ?_; rintro e w2 ⟨rfl, hb2⟩)
  all_goals
    have hR2 := Reader.later hRn (below_drewIn hb2)
    have c2 : w2.cell? ⟨b, 1, none⟩ = some (.int .i64 h) := by rw [cell_in 1 hR2]; rfl
    have hg2 := hg1.trans (grown_of_below (row := some b) (below_drewIn hb2))
    go_wp2_with (go_at_call 26; refine (HFF _).out.mono ?_; rintro e w3 ⟨rfl, hb3'⟩)
    go_ret2
    exact ⟨rfl, hg2.trans (grown_of_below hb3'), Reader.later hR2 hb3'⟩

set_option maxRecDepth 100000 in
set_option maxHeartbeats 2000000 in
/-- A head that does not fit. -/
theorem head_unfit {W : World} {aM aW : Addr} {m : Int} (hE : Env W aM aW m) (b : Nat) (hb3 : 3 ≤ b) (t : ByteArray) (h : Int) (hR : Reader W b t h) (c d : UInt8) (l q : List UInt8) (ht : t.data.toList = c :: l) (hi : 0 ≤ Lib.indexByte [43, 45, 58, 36, 42] c)
    (hc : Lib.cut t.data.toList [13, 10] = ([c, d], q, true)) (hs : t.size ≤ 100000) (hv : Value)
    (HI : ∀ w, Calls Tryd.prog 36 #[.int .u8 (c.toNat : Int), .string ⟨#[d]⟩] w fun e w' => e = .returned hv ∧ Below w.heap.size w w')
    (HF : ∀ w, Calls Tryd.prog 26 #[hv, .int .i64 h] w fun e w' => e = .returned (.bool false) ∧ Below w.heap.size w w') :
    Calls Tryd.prog 29 #[.pointer (some ⟨b, 0, none⟩)] W (fun e W' => HeadErr b (.iface 134 (.pointer (some aW))) W e W' ∧ ∃ t', Reader W' b t' h) := by
  have HL := Lib.hid (line_ok hE b t h hR c l ht hi _ _ hc hs)
  have HII := fun w => Lib.hid (HI w)
  have HFF := fun w => Lib.hid (HF w)
  have hR1 := fun n => reader_set hR n ⟨q.toArray⟩
  have hx : (⟨#[c, d]⟩ : ByteArray).extract 1 2 = ⟨#[d]⟩ := rfl
  have hz : (⟨#[c, d]⟩ : ByteArray)[0]'(by decide : 0 < 2) = c := rfl
  have gW := hE.wrong
  clear hc ht HI HF
  go_enter Tryd.func29, Tryd.ntmps29
  go_wp2_with (go_at_call 35; refine HL.out.mono ?_; rintro e w1 ⟨rfl, nn, rfl⟩)
  have hRn := hR1 nn
  have hg1 : W.grownBy ((W.drewN nn).setCell ⟨b, 0, none⟩ (.string ⟨q.toArray⟩)) (some b) := (grown_drewN W nn (some b)).trans (grown_set _ _ _ _)
  generalize (W.drewN nn).setCell ⟨b, 0, none⟩ (.string ⟨q.toArray⟩) = W1 at *
  clear hR1 HL
  go_region_with (go_at_call 36; refine (HII _).out.mono ?_; rintro e w2 ⟨rfl, hb2⟩)
  all_goals
    have hR2 := Reader.later hRn (below_drewIn hb2)
    have c2 : w2.cell? ⟨b, 1, none⟩ = some (.int .i64 h) := by rw [cell_in 1 hR2]; rfl
    have hg2 := hg1.trans (grown_of_below (row := some b) (below_drewIn hb2))
    go_wp2_with (go_at_call 26; refine (HFF _).out.mono ?_; rintro e w3 ⟨rfl, hb3'⟩)
    have hg3 := hg2.trans (grown_of_below (row := some b) hb3')
    have gW3 := hg3.cell gW (by simp; omega)
    go_quiet (fail)
    go_wp2
    go_ret2
    exact ⟨⟨rfl, hg3.trans (grown_drewN _ _ _)⟩, ⟨q.toArray⟩, (show Reader w3 b _ h from Reader.later hR2 hb3')⟩

end Go.Proofs.YtjcgfbmkgfhnaaaDoor
