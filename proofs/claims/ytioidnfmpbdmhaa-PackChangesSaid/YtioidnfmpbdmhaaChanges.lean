/- The walk of PackChanges. -/
import Derived.Test.YtioidnfmpbdmhaaChangesMath
import Derived.Test.YtioidnfmpbdmhaaRefPack
import Derived.Test.YtioidnfmpbdmhaaRefIns
namespace Go.Proofs.Ytioidnfmpbdmhaa
open Go.RowKit Go.Shelf
attribute [local go_sem] Oper.semAt_some

set_option maxRecDepth 100000 in
set_option maxHeartbeats 4000000 in
theorem changes_walk (a : Option Addr) (cap : Nat) (l : List Ent) (hl : l.length ≤ 9223372036854775807) (hz : ∀ e ∈ l, e.1.size ≤ 9223372036854775807 ∧ scoreOk e.2) (at_ : Int) (hat : -9223372036854775808 ≤ at_ ∧ at_ ≤ 9223372036854775807) (x : Ent) (hx : x.1.size ≤ 9223372036854775807) (hxs : scoreOk x.2) (w : World) (hE : Ents w a l) :
    Calls Try.prog 5 #[.slice a l.length cap, .int .i64 at_, .agg #[.string x.1, .int .i64 x.2]] w fun e w' => e = .returned (.bool true) ∧ Below w.heap.size w w' := by
  have HS := fun w => Lib.hid (shown_any w)
  have HF := fun w hE => Lib.hid (few_any a cap l hl (fun e he => (hz e he).1) w hE)
  have hF := few_each (fun e he => (hz e he).2)
  have hFl := few_length l
  have hF70 : ∀ e ∈ fewS l, e.1.size ≤ 9223372036854775807 := fun e he => by have := hF e he; omega
  obtain ⟨P, E, hPE, HP⟩ : ∃ P E, (P = packB (fewS l) ∧ E = 0 ∧ Valid (fewS l) ∨ ¬ E = 0) ∧ ∀ a cap w, Ents w a (fewS l) → Hid (Calls Try.prog 11 #[.slice a (fewS l).length cap] w fun e w' => e = .returned (.tuple #[.string P, .int .i64 E]) ∧ Below w.heap.size w w') := by
    refine ⟨(packR (fewS l)).1, (packR (fewS l)).2, ?_, fun a cap w hE => Lib.hid (pack_any a cap (fewS l) (by omega) hF70 w hE)⟩
    rcases packR_cases (fewS l) (fun e he => (hF e he).2) with ⟨hv, h⟩ | ⟨_, h⟩
    · exact .inl ⟨by rw [h], by rw [h], hv⟩
    · exact .inr (by omega)
  obtain ⟨xm, xs⟩ := x
  simp only at hx hxs
  obtain ⟨q, hq⟩ : ∃ q, q = min xm.size 70 := ⟨_, rfl⟩
  have hmin : min (xm.size : Int) 70 = (q : Int) := by omega
  have hqs : (q : Int) ≤ xm.size := by omega
  have hq0 : (0 : Int) ≤ q := by omega
  have hm70 : (xm.extract 0 q).size ≤ 70 := by simp; omega
  clear hq hz hF hF70
  generalize fewS l = F at *
  have hB0 := (Below.refl w.heap.size w).alloc (Nat.le_refl _) (Obj.cells #[Value.string xm, Value.int IntKind.i64 xs] 35)
  have k0 := Blk.new w 35 #[Value.string xm, Value.int IntKind.i64 xs]
  have HEE := Lib.hid (hE.below hB0)
  clear hE
  go_enter Try.func5, Try.ntmps5
  go_wp2_with fail
  refine (HS _).out.mono ?_
  rintro e w1 ⟨rfl, hb1⟩
  have hB1 := hB0.trans (hb1.mono hB0.size)
  have k1 := k0.later hb1
  have HE1 := Lib.hid (HEE.out.below hb1)
  have hlt1 : w.heap.size < w1.heap.size := k1.lt
  clear hb1
  go_wp2_with fail
  refine (HF _ HE1.out).out.mono ?_
  rintro e w2 ⟨r, rfl, ho2, hb2⟩
  have hB2 := hB1.trans (hb2.mono hB1.size)
  have k2 := k1.later hb2
  obtain ⟨e20, e21, e22, _⟩ := facts2 k2
  have ho3 : Own35 (w2.setCell ⟨w.heap.size, 0, none⟩ (.string (xm.extract 0 q))) w1.heap.size r F := World.ownsRow.kept ho2 (grownBy_setCell' _ _ _) (.inr fun e => by have := (World.ownsRow.lt ho2 _ e).1; omega)
  have k3 : Blk (w2.setCell ⟨w.heap.size, 0, none⟩ (.string (xm.extract 0 q))) w.heap.size 35 #[.string (xm.extract 0 q), .int .i64 xs] := k2.set 0 _
  have hB3 := hB2.setCell (p := ⟨w.heap.size, 0, none⟩) (Nat.le_refl _) (.string (xm.extract 0 q))
  obtain ⟨ra, rc, rfl, hE3, hrc⟩ := own35_full ho3
  have HE3 := Lib.hid hE3
  have K3 := Lib.hid k3
  have HB3 := Lib.hid hB3
  clear hb2 ho2 ho3 hE3 hB0 hB1 hB2 hB3 k0 k1 k2 k3 HE1 HEE HF
  go_wp2_with fail
  clear e20 e21 e22
  refine (HP _ _ _ HE3.out).out.mono ?_
  rintro e w4 ⟨rfl, hb4⟩
  have HB4 := Lib.hid (HB3.out.trans (hb4.mono HB3.out.size))
  have K4 := Lib.hid (K3.out.later hb4)
  have HE4 := Lib.hid (HE3.out.below hb4)
  clear hb4 HB3 K3 HE3
  generalize xm.extract 0 q = m at *
  rcases hPE with ⟨hP, rfl, hv⟩ | hne
  · have hvs := valid_size hv
    have hFm := hv.many
    rw [← hP] at hvs
    obtain ⟨A, f, hA, HI⟩ : ∃ A f, insR P at_ (m, xs) = (A, f) ∧ ∀ w, Hid (Calls Try.prog 20 #[.string P, .int .i64 at_, .agg #[.string m, .int .i64 xs]] w fun e w' => e = .returned (.tuple #[.string A, .int .i64 f]) ∧ Below w.heap.size w w') := ⟨_, _, rfl, fun w => Lib.hid (insert_any P (by omega) at_ hat (m, xs) (by simp only; omega) w)⟩
    obtain ⟨B, g, hD, HD⟩ : ∃ B g, delR P at_ = (B, g) ∧ ∀ w, Hid (Calls Try.prog 21 #[.string P, .int .i64 at_] w fun e w' => e = .returned (.tuple #[.string B, .int .i64 g]) ∧ Below w.heap.size w w') := ⟨_, _, rfl, fun w => Lib.hid (delete_any P (by omega) at_ w)⟩
    obtain ⟨ym, ys, h, hG, HG⟩ : ∃ ym ys h, getS P at_ = ((ym, ys), h) ∧ ∀ w, Hid (Calls Try.prog 22 #[.string P, .int .i64 at_] w fun e w' => e = .returned (.tuple #[.agg #[.string ym, .int .i64 ys], .int .i64 h]) ∧ Below w.heap.size w w') := ⟨_, _, _, rfl, fun w => Lib.hid (get_any P (by omega) at_ w)⟩
    have PP := Lib.hid hP
    have PA := Lib.hid hA
    have PD := Lib.hid hD
    have PG := Lib.hid hG
    have HV := Lib.hid hv
    obtain ⟨e40, e41, e42, _⟩ := facts2 K4.out
    clear hP hA hD hG hv hvs HP HS
    go_wp2_with fail
    refine (HI _).out.mono ?_
    rintro e w5 ⟨rfl, hb5⟩
    have HB5 := Lib.hid (HB4.out.trans (hb5.mono HB4.out.size))
    have K5 := Lib.hid (K4.out.later hb5)
    have HE5 := Lib.hid (HE4.out.below hb5)
    clear hb5 HB4 K4 HE4 e40 e41 e42 HI
    go_wp2_with fail
    refine (HD _).out.mono ?_
    rintro e w6 ⟨rfl, hb6⟩
    have HB6 := Lib.hid (HB5.out.trans (hb6.mono HB5.out.size))
    have K6 := Lib.hid (K5.out.later hb6)
    have HE6 := Lib.hid (HE5.out.below hb6)
    clear hb6 HB5 K5 HE5 HD
    go_wp2_with fail
    refine (HG _).out.mono ?_
    rintro e w7 ⟨rfl, hb7⟩
    have hB7 := HB6.out.trans (hb7.mono HB6.out.size)
    have HB7 := Lib.hid (hB7.alloc hB7.size (Obj.cells #[Value.string ym, Value.int IntKind.i64 ys] 35))
    have hlt7 : w.heap.size < w7.heap.size := (K6.out.later hb7).lt
    have K7 := Lib.hid ((K6.out.later hb7).alloc (Obj.cells #[Value.string ym, Value.int IntKind.i64 ys] 35))
    have Y7 := Lib.hid (Blk.new w7 35 #[Value.string ym, Value.int IntKind.i64 ys])
    have HE7 := Lib.hid ((HE6.out.below hb7).below ((Below.refl _ _).alloc (Nat.le_refl _) (Obj.cells #[Value.string ym, Value.int IntKind.i64 ys] 35)))
    clear hb7 hB7 HB6 K6 HE6 HG
    by_cases h200 : F.length = 200
    · have hat3 : at_ < 0 ∨ (F.length : Int) < at_ ∨ ∃ k : Nat, at_ = k ∧ k ≤ F.length := by
        by_cases q0 : at_ < 0
        · exact .inl q0
        · by_cases q1 : (F.length : Int) < at_
          · exact .inr (.inl q1)
          · exact .inr (.inr ⟨at_.toNat, by omega, by omega⟩)
      rcases hat3 with hkn | hkn | ⟨k, rfl, hkn⟩
      · have hd := del_bad HV.out at_ (.inl (by omega))
        rw [← PP.out, PD.out, PG.out] at hd
        simp only [Prod.mk.injEq] at hd
        obtain ⟨⟨rfl, rfl⟩, ⟨rfl, rfl⟩, rfl⟩ := hd
        have hi := ins_full HV.out at_ (m, xs) h200
        rw [← PP.out, PA.out] at hi
        simp only [Prod.mk.injEq] at hi
        obtain ⟨rfl, rfl⟩ := hi
        have c0 : ¬ (0 : Int) ≤ at_ := by omega
        have h9 : (F.length : Int) = 200 := by omega
        obtain ⟨y0, y1, y2, _⟩ := facts2 Y7.out
        clear hkn h200 hat PP PA PD PG HV
        go_wp2_with fail
        go_ret
        exact ⟨rfl, HB7.out.alloc HB7.out.size _⟩
      · have hd := del_bad HV.out at_ (.inr (by omega))
        rw [← PP.out, PD.out, PG.out] at hd
        simp only [Prod.mk.injEq] at hd
        obtain ⟨⟨rfl, rfl⟩, ⟨rfl, rfl⟩, rfl⟩ := hd
        have hi := ins_full HV.out at_ (m, xs) h200
        rw [← PP.out, PA.out] at hi
        simp only [Prod.mk.injEq] at hi
        obtain ⟨rfl, rfl⟩ := hi
        have c0 : (0 : Int) ≤ at_ := by omega
        have c1 : ¬ at_ ≤ (F.length : Int) := by omega
        have c2 : ¬ at_ < (F.length : Int) := by omega
        have h9 : (F.length : Int) = 200 := by omega
        have d1 : ¬ at_ ≤ 200 := by omega
        have d2 : ¬ at_ < 200 := by omega
        obtain ⟨y0, y1, y2, _⟩ := facts2 Y7.out
        clear hkn h200 hat PP PA PD PG HV
        go_wp2_with fail
        go_ret
        exact ⟨rfl, HB7.out.alloc HB7.out.size _⟩
      · by_cases hk2 : k < F.length
        · by_cases hs64 : 64 < m.size
          · have hd := del_good HV.out k (by omega)
            have hvc := valid_cut HV.out k
            obtain ⟨b, off, rfl, ec0, ec1⟩ := HE7.out k (by omega)
            have HRD := fun w hE => Lib.hid (refDelete_any (some ⟨b, off, none⟩) rc F (by omega) hrc k (by omega) w hE)
            have hkk : k < F.length := by omega
            generalize F[k] = ek at *
            generalize F.take k ++ F.drop (k + 1) = L2 at *
            obtain ⟨B2, g2, hB2, HRP2⟩ : ∃ B2 g2, packR L2 = (B2, g2) ∧ ∀ a cap w, Ents w a L2 → Hid (Calls Try.prog 13 #[.slice a L2.length cap] w fun e w' => e = .returned (.tuple #[.string B2, .int .i64 g2]) ∧ Below w.heap.size w w') := ⟨_, _, rfl, fun a cap w hE => Lib.hid (refPack_ok a cap L2 (fun e he => by have := (hvc.each e he).1; omega) (by have := hvc.many; omega) w hE)⟩
            rw [← PP.out, PD.out, PG.out, hB2] at hd
            simp only [Prod.mk.injEq] at hd
            obtain ⟨⟨rfl, rfl⟩, ⟨rfl, rfl⟩, rfl⟩ := hd
            simp only at ec0 ec1
            clear hvc hB2
            have hi := ins_full HV.out (k : Int) (m, xs) h200
            rw [← PP.out, PA.out] at hi
            simp only [Prod.mk.injEq] at hi
            obtain ⟨rfl, rfl⟩ := hi
            have c0 : (0 : Int) ≤ k := by omega
            have c1 : (k : Int) ≤ (F.length : Int) := by omega
            have c2 : (k : Int) < (F.length : Int) := by omega
            have s0 : ¬ (m.size : Int) ≤ 64 := by omega
            have h9 : (F.length : Int) = 200 := by omega
            have d1 : (k : Int) ≤ 200 := by omega
            have d2 : (k : Int) < 200 := by omega
            obtain ⟨y0, y1, y2, _⟩ := facts2 Y7.out
            obtain ⟨x0, x1, x2, _⟩ := facts2 K7.out
            have hlb : b < _ := World.block_lt_of_cell? _ ⟨b, off + k * 2, none⟩ ec0
            clear hk2 hs64 h200 hat PP PA PD PG HV hkn
            go_wp2_with fail
            have HBz := Lib.hid (HB7.out.alloc HB7.out.size (Obj.cells #[Value.string ⟨#[]⟩, Value.int IntKind.i64 0] 35))
            have HEz := Lib.hid (HE7.out.below ((Below.refl _ _).alloc (Nat.le_refl _) (Obj.cells #[Value.string ⟨#[]⟩, Value.int IntKind.i64 0] 35)))
            have Yz := Lib.hid (Y7.out.alloc (Obj.cells #[Value.string ⟨#[]⟩, Value.int IntKind.i64 0] 35))
            have Zz : Hid (Blk ((w7.alloc (Obj.cells #[Value.string ym, Value.int IntKind.i64 ys] 35)).alloc (Obj.cells #[Value.string ⟨#[]⟩, Value.int IntKind.i64 0] 35)) (w7.heap.size + 1) 35 #[Value.string ⟨#[]⟩, Value.int IntKind.i64 0]) := Lib.hid (by have h1 := Blk.new ((w7.alloc (Obj.cells #[Value.string ym, Value.int IntKind.i64 ys] 35))) 35 #[Value.string ⟨#[]⟩, Value.int IntKind.i64 0]; simpa using h1)
            refine (HRD _ HEz.out).out.mono ?_
            rintro e w10 ⟨r10, rfl, ho10, hb10⟩
            have HB10 := Lib.hid (HBz.out.trans (hb10.mono HBz.out.size))
            have Y10 := Lib.hid (Yz.out.later hb10)
            have Z10 := Lib.hid (Zz.out.later hb10)
            have HE10 := Lib.hid (HEz.out.below hb10)
            have EC10 := Lib.hid (ec_below (hb10.mono (Nat.le_refl _)) (ec_alloc ⟨ec0, ec1⟩))
            obtain ⟨ra10, rc10, rfl, hE10⟩ := own35_form ho10
            have HL10 := Lib.hid hE10
            clear hb10 ho10 hE10 y0 y1 y2
            go_wp2_with fail
            refine (HRP2 _ _ _ HL10.out).out.mono ?_
            rintro e w11 ⟨rfl, hb11⟩
            have HB11 := Lib.hid (HB10.out.trans (hb11.mono HB10.out.size))
            obtain ⟨y0, y1, y2, _⟩ := facts2 (Y10.out.later hb11)
            obtain ⟨z0, z1, z2, z3⟩ := facts2 (Z10.out.later hb11)
            have hly := (Y10.out.later hb11).lt
            have hlz := (Z10.out.later hb11).lt
            obtain ⟨ec0, ec1⟩ := ec_below hb11 EC10.out
            have hne1 : ¬ w7.heap.size = w7.heap.size + 1 := by omega
            have hne2 : ¬ w7.heap.size + 1 = w7.heap.size := by omega
            have hwz : w.heap.size ≤ w7.heap.size + 1 := by omega
            clear hb11
            go_wp2_with fail
            go_ret
            exact ⟨rfl, (HB11.out.setCell (p := ⟨w7.heap.size + 1, 0, none⟩) hwz _).setCell (p := ⟨w7.heap.size + 1, 1, none⟩) hwz _⟩
          · have hd := del_good HV.out k (by omega)
            have hvc := valid_cut HV.out k
            obtain ⟨b, off, rfl, ec0, ec1⟩ := HE7.out k (by omega)
            have HRD := fun w hE => Lib.hid (refDelete_any (some ⟨b, off, none⟩) rc F (by omega) hrc k (by omega) w hE)
            have hkk : k < F.length := by omega
            generalize F[k] = ek at *
            generalize F.take k ++ F.drop (k + 1) = L2 at *
            obtain ⟨B2, g2, hB2, HRP2⟩ : ∃ B2 g2, packR L2 = (B2, g2) ∧ ∀ a cap w, Ents w a L2 → Hid (Calls Try.prog 13 #[.slice a L2.length cap] w fun e w' => e = .returned (.tuple #[.string B2, .int .i64 g2]) ∧ Below w.heap.size w w') := ⟨_, _, rfl, fun a cap w hE => Lib.hid (refPack_ok a cap L2 (fun e he => by have := (hvc.each e he).1; omega) (by have := hvc.many; omega) w hE)⟩
            rw [← PP.out, PD.out, PG.out, hB2] at hd
            simp only [Prod.mk.injEq] at hd
            obtain ⟨⟨rfl, rfl⟩, ⟨rfl, rfl⟩, rfl⟩ := hd
            simp only at ec0 ec1
            clear hvc hB2
            obtain ⟨L1, hL1⟩ : ∃ L1, L1 = F.take k ++ [(m, xs)] ++ F.drop k := ⟨_, rfl⟩
            have hl1 : L1.length ≤ 300 := by rw [hL1]; simp; omega
            have hz1 : ∀ e ∈ L1, e.1.size ≤ 1000 := by rw [hL1]; exact put_small HV.out k (m, xs) (by simp only; omega)
            have HRI := fun w hE => Lib.hid (refInsert_any (some ⟨b, off, none⟩) rc F (by omega) hrc k (by omega) (m, xs) w hE)
            rw [← hL1] at HRI
            obtain ⟨B1, g1, hB1, HRP1⟩ : ∃ B1 g1, packR L1 = (B1, g1) ∧ ∀ a cap w, Ents w a L1 → Hid (Calls Try.prog 13 #[.slice a L1.length cap] w fun e w' => e = .returned (.tuple #[.string B1, .int .i64 g1]) ∧ Below w.heap.size w w') := ⟨_, _, rfl, fun a cap w hE => Lib.hid (refPack_ok a cap L1 hz1 hl1 w hE)⟩
            have hi := ins_full HV.out (k : Int) (m, xs) h200
            rw [← PP.out, PA.out] at hi
            simp only [Prod.mk.injEq] at hi
            obtain ⟨rfl, rfl⟩ := hi
            have c0 : (0 : Int) ≤ k := by omega
            have c1 : (k : Int) ≤ (F.length : Int) := by omega
            have c2 : (k : Int) < (F.length : Int) := by omega
            have s0 : (m.size : Int) ≤ 64 := by omega
            have h9 : (F.length : Int) = 200 := by omega
            have d1 : (k : Int) ≤ 200 := by omega
            have d2 : (k : Int) < 200 := by omega
            obtain ⟨y0, y1, y2, _⟩ := facts2 Y7.out
            obtain ⟨x0, x1, x2, _⟩ := facts2 K7.out
            clear hk2 hs64 h200 hat PP PA PD PG HV hkn hL1 hl1 hz1 hB1
            go_wp2_with fail
            refine (HRI _ HE7.out).out.mono ?_
            rintro e w8 ⟨r8, rfl, ho8, hb8⟩
            have HB8 := Lib.hid (HB7.out.trans (hb8.mono HB7.out.size))
            have Y8 := Lib.hid (Y7.out.later hb8)
            have HE8 := Lib.hid (HE7.out.below hb8)
            have EC8 := Lib.hid (ec_below hb8 ⟨ec0, ec1⟩)
            obtain ⟨ra8, rc8, rfl, hE8⟩ := own35_form ho8
            have HL8 := Lib.hid hE8
            clear hb8 ho8 hE8 y0 y1 y2 x0 x1 x2
            go_wp2_with fail
            refine (HRP1 _ _ _ HL8.out).out.mono ?_
            rintro e w9 ⟨rfl, hb9⟩
            have HB9 := Lib.hid (HB8.out.trans (hb9.mono HB8.out.size))
            have Y9 := Lib.hid (Y8.out.later hb9)
            have HE9 := Lib.hid (HE8.out.below hb9)
            have EC9 := Lib.hid (ec_below hb9 EC8.out)
            clear ec0 ec1
            have hlt9 := Y9.out.lt
            obtain ⟨y0, y1, y2, _⟩ := facts2 Y9.out
            clear hb9
            go_wp2_with fail
            have HBz := Lib.hid (HB9.out.alloc HB9.out.size (Obj.cells #[Value.string ⟨#[]⟩, Value.int IntKind.i64 0] 35))
            have HEz := Lib.hid (HE9.out.below ((Below.refl _ _).alloc (Nat.le_refl _) (Obj.cells #[Value.string ⟨#[]⟩, Value.int IntKind.i64 0] 35)))
            have Yz := Lib.hid (Y9.out.alloc (Obj.cells #[Value.string ⟨#[]⟩, Value.int IntKind.i64 0] 35))
            have Zz : Hid (Blk (w9.alloc (Obj.cells #[Value.string ⟨#[]⟩, Value.int IntKind.i64 0] 35)) (w9.heap.size) 35 #[Value.string ⟨#[]⟩, Value.int IntKind.i64 0]) := Lib.hid (by have h1 := Blk.new (w9) 35 #[Value.string ⟨#[]⟩, Value.int IntKind.i64 0]; simpa using h1)
            refine (HRD _ HEz.out).out.mono ?_
            rintro e w10 ⟨r10, rfl, ho10, hb10⟩
            have HB10 := Lib.hid (HBz.out.trans (hb10.mono HBz.out.size))
            have Y10 := Lib.hid (Yz.out.later hb10)
            have Z10 := Lib.hid (Zz.out.later hb10)
            have HE10 := Lib.hid (HEz.out.below hb10)
            have EC10 := Lib.hid (ec_below (hb10.mono (Nat.le_refl _)) (ec_alloc EC9.out))
            obtain ⟨ra10, rc10, rfl, hE10⟩ := own35_form ho10
            have HL10 := Lib.hid hE10
            clear hb10 ho10 hE10 y0 y1 y2
            go_wp2_with fail
            refine (HRP2 _ _ _ HL10.out).out.mono ?_
            rintro e w11 ⟨rfl, hb11⟩
            have HB11 := Lib.hid (HB10.out.trans (hb11.mono HB10.out.size))
            obtain ⟨y0, y1, y2, _⟩ := facts2 (Y10.out.later hb11)
            obtain ⟨z0, z1, z2, z3⟩ := facts2 (Z10.out.later hb11)
            have hly := (Y10.out.later hb11).lt
            have hlz := (Z10.out.later hb11).lt
            obtain ⟨ec0, ec1⟩ := ec_below hb11 EC10.out
            have hne1 : ¬ w7.heap.size = w9.heap.size := by omega
            have hne2 : ¬ w9.heap.size = w7.heap.size := by omega
            have hwz : w.heap.size ≤ w9.heap.size := by omega
            clear hb11
            go_wp2_with fail
            go_ret
            exact ⟨rfl, (HB11.out.setCell (p := ⟨w9.heap.size, 0, none⟩) hwz _).setCell (p := ⟨w9.heap.size, 1, none⟩) hwz _⟩
        · by_cases hs64 : 64 < m.size
          · have hd := del_bad HV.out (k : Int) (.inr (by omega))
            rw [← PP.out, PD.out, PG.out] at hd
            simp only [Prod.mk.injEq] at hd
            obtain ⟨⟨rfl, rfl⟩, ⟨rfl, rfl⟩, rfl⟩ := hd
            have hi := ins_full HV.out (k : Int) (m, xs) h200
            rw [← PP.out, PA.out] at hi
            simp only [Prod.mk.injEq] at hi
            obtain ⟨rfl, rfl⟩ := hi
            have c0 : (0 : Int) ≤ k := by omega
            have c1 : (k : Int) ≤ (F.length : Int) := by omega
            have c2 : ¬ (k : Int) < (F.length : Int) := by omega
            have s0 : ¬ (m.size : Int) ≤ 64 := by omega
            have h9 : (F.length : Int) = 200 := by omega
            have d1 : (k : Int) ≤ 200 := by omega
            have d2 : ¬ (k : Int) < 200 := by omega
            obtain ⟨y0, y1, y2, _⟩ := facts2 Y7.out
            obtain ⟨x0, x1, x2, _⟩ := facts2 K7.out
            clear hk2 hs64 h200 hat PP PA PD PG HV hkn
            go_wp2_with fail
            go_ret
            exact ⟨rfl, HB7.out.alloc HB7.out.size _⟩
          · have hd := del_bad HV.out (k : Int) (.inr (by omega))
            rw [← PP.out, PD.out, PG.out] at hd
            simp only [Prod.mk.injEq] at hd
            obtain ⟨⟨rfl, rfl⟩, ⟨rfl, rfl⟩, rfl⟩ := hd
            obtain ⟨L1, hL1⟩ : ∃ L1, L1 = F.take k ++ [(m, xs)] ++ F.drop k := ⟨_, rfl⟩
            have hl1 : L1.length ≤ 300 := by rw [hL1]; simp; omega
            have hz1 : ∀ e ∈ L1, e.1.size ≤ 1000 := by rw [hL1]; exact put_small HV.out k (m, xs) (by simp only; omega)
            have HRI := fun w hE => Lib.hid (refInsert_any ra rc F (by omega) hrc k (by omega) (m, xs) w hE)
            rw [← hL1] at HRI
            obtain ⟨B1, g1, hB1, HRP1⟩ : ∃ B1 g1, packR L1 = (B1, g1) ∧ ∀ a cap w, Ents w a L1 → Hid (Calls Try.prog 13 #[.slice a L1.length cap] w fun e w' => e = .returned (.tuple #[.string B1, .int .i64 g1]) ∧ Below w.heap.size w w') := ⟨_, _, rfl, fun a cap w hE => Lib.hid (refPack_ok a cap L1 hz1 hl1 w hE)⟩
            have hi := ins_full HV.out (k : Int) (m, xs) h200
            rw [← PP.out, PA.out] at hi
            simp only [Prod.mk.injEq] at hi
            obtain ⟨rfl, rfl⟩ := hi
            have c0 : (0 : Int) ≤ k := by omega
            have c1 : (k : Int) ≤ (F.length : Int) := by omega
            have c2 : ¬ (k : Int) < (F.length : Int) := by omega
            have s0 : (m.size : Int) ≤ 64 := by omega
            have h9 : (F.length : Int) = 200 := by omega
            have d1 : (k : Int) ≤ 200 := by omega
            have d2 : ¬ (k : Int) < 200 := by omega
            obtain ⟨y0, y1, y2, _⟩ := facts2 Y7.out
            obtain ⟨x0, x1, x2, _⟩ := facts2 K7.out
            clear hk2 hs64 h200 hat PP PA PD PG HV hkn hL1 hl1 hz1 hB1
            go_wp2_with fail
            refine (HRI _ HE7.out).out.mono ?_
            rintro e w8 ⟨r8, rfl, ho8, hb8⟩
            have HB8 := Lib.hid (HB7.out.trans (hb8.mono HB7.out.size))
            have Y8 := Lib.hid (Y7.out.later hb8)
            have HE8 := Lib.hid (HE7.out.below hb8)
            obtain ⟨ra8, rc8, rfl, hE8⟩ := own35_form ho8
            have HL8 := Lib.hid hE8
            clear hb8 ho8 hE8 y0 y1 y2 x0 x1 x2
            go_wp2_with fail
            refine (HRP1 _ _ _ HL8.out).out.mono ?_
            rintro e w9 ⟨rfl, hb9⟩
            have HB9 := Lib.hid (HB8.out.trans (hb9.mono HB8.out.size))
            have Y9 := Lib.hid (Y8.out.later hb9)
            have HE9 := Lib.hid (HE8.out.below hb9)
            have hlt9 := Y9.out.lt
            obtain ⟨y0, y1, y2, _⟩ := facts2 Y9.out
            clear hb9
            go_wp2_with fail
            go_ret
            exact ⟨rfl, HB9.out.alloc HB9.out.size _⟩
    · have hat3 : at_ < 0 ∨ (F.length : Int) < at_ ∨ ∃ k : Nat, at_ = k ∧ k ≤ F.length := by
        by_cases q0 : at_ < 0
        · exact .inl q0
        · by_cases q1 : (F.length : Int) < at_
          · exact .inr (.inl q1)
          · exact .inr (.inr ⟨at_.toNat, by omega, by omega⟩)
      rcases hat3 with hkn | hkn | ⟨k, rfl, hkn⟩
      · have hd := del_bad HV.out at_ (.inl (by omega))
        rw [← PP.out, PD.out, PG.out] at hd
        simp only [Prod.mk.injEq] at hd
        obtain ⟨⟨rfl, rfl⟩, ⟨rfl, rfl⟩, rfl⟩ := hd
        have hi := ins_bad HV.out at_ (m, xs) h200 (.inl (by omega))
        rw [← PP.out, PA.out] at hi
        simp only [Prod.mk.injEq] at hi
        obtain ⟨rfl, rfl⟩ := hi
        have c0 : ¬ (0 : Int) ≤ at_ := by omega
        have h9 : ¬ (F.length : Int) = 200 := by omega
        obtain ⟨y0, y1, y2, _⟩ := facts2 Y7.out
        clear hkn h200 hat PP PA PD PG HV
        go_wp2_with fail
        go_ret
        exact ⟨rfl, HB7.out.alloc HB7.out.size _⟩
      · have hd := del_bad HV.out at_ (.inr (by omega))
        rw [← PP.out, PD.out, PG.out] at hd
        simp only [Prod.mk.injEq] at hd
        obtain ⟨⟨rfl, rfl⟩, ⟨rfl, rfl⟩, rfl⟩ := hd
        have hi := ins_bad HV.out at_ (m, xs) h200 (.inr (.inl (by omega)))
        rw [← PP.out, PA.out] at hi
        simp only [Prod.mk.injEq] at hi
        obtain ⟨rfl, rfl⟩ := hi
        have c0 : (0 : Int) ≤ at_ := by omega
        have c1 : ¬ at_ ≤ (F.length : Int) := by omega
        have c2 : ¬ at_ < (F.length : Int) := by omega
        have h9 : ¬ (F.length : Int) = 200 := by omega
        obtain ⟨y0, y1, y2, _⟩ := facts2 Y7.out
        clear hkn h200 hat PP PA PD PG HV
        go_wp2_with fail
        go_ret
        exact ⟨rfl, HB7.out.alloc HB7.out.size _⟩
      · by_cases hk2 : k < F.length
        · by_cases hs64 : 64 < m.size
          · have hd := del_good HV.out k (by omega)
            have hvc := valid_cut HV.out k
            obtain ⟨b, off, rfl, ec0, ec1⟩ := HE7.out k (by omega)
            have HRD := fun w hE => Lib.hid (refDelete_any (some ⟨b, off, none⟩) rc F (by omega) hrc k (by omega) w hE)
            have hkk : k < F.length := by omega
            generalize F[k] = ek at *
            generalize F.take k ++ F.drop (k + 1) = L2 at *
            obtain ⟨B2, g2, hB2, HRP2⟩ : ∃ B2 g2, packR L2 = (B2, g2) ∧ ∀ a cap w, Ents w a L2 → Hid (Calls Try.prog 13 #[.slice a L2.length cap] w fun e w' => e = .returned (.tuple #[.string B2, .int .i64 g2]) ∧ Below w.heap.size w w') := ⟨_, _, rfl, fun a cap w hE => Lib.hid (refPack_ok a cap L2 (fun e he => by have := (hvc.each e he).1; omega) (by have := hvc.many; omega) w hE)⟩
            rw [← PP.out, PD.out, PG.out, hB2] at hd
            simp only [Prod.mk.injEq] at hd
            obtain ⟨⟨rfl, rfl⟩, ⟨rfl, rfl⟩, rfl⟩ := hd
            simp only at ec0 ec1
            clear hvc hB2
            have hi := ins_bad HV.out (k : Int) (m, xs) h200 (.inr (.inr (by simp only; omega)))
            rw [← PP.out, PA.out] at hi
            simp only [Prod.mk.injEq] at hi
            obtain ⟨rfl, rfl⟩ := hi
            have c0 : (0 : Int) ≤ k := by omega
            have c1 : (k : Int) ≤ (F.length : Int) := by omega
            have c2 : (k : Int) < (F.length : Int) := by omega
            have s0 : ¬ (m.size : Int) ≤ 64 := by omega
            have h9 : ¬ (F.length : Int) = 200 := by omega
            obtain ⟨y0, y1, y2, _⟩ := facts2 Y7.out
            obtain ⟨x0, x1, x2, _⟩ := facts2 K7.out
            have hlb : b < _ := World.block_lt_of_cell? _ ⟨b, off + k * 2, none⟩ ec0
            clear hk2 hs64 h200 hat PP PA PD PG HV hkn
            go_wp2_with fail
            have HBz := Lib.hid (HB7.out.alloc HB7.out.size (Obj.cells #[Value.string ⟨#[]⟩, Value.int IntKind.i64 0] 35))
            have HEz := Lib.hid (HE7.out.below ((Below.refl _ _).alloc (Nat.le_refl _) (Obj.cells #[Value.string ⟨#[]⟩, Value.int IntKind.i64 0] 35)))
            have Yz := Lib.hid (Y7.out.alloc (Obj.cells #[Value.string ⟨#[]⟩, Value.int IntKind.i64 0] 35))
            have Zz : Hid (Blk ((w7.alloc (Obj.cells #[Value.string ym, Value.int IntKind.i64 ys] 35)).alloc (Obj.cells #[Value.string ⟨#[]⟩, Value.int IntKind.i64 0] 35)) (w7.heap.size + 1) 35 #[Value.string ⟨#[]⟩, Value.int IntKind.i64 0]) := Lib.hid (by have h1 := Blk.new ((w7.alloc (Obj.cells #[Value.string ym, Value.int IntKind.i64 ys] 35))) 35 #[Value.string ⟨#[]⟩, Value.int IntKind.i64 0]; simpa using h1)
            refine (HRD _ HEz.out).out.mono ?_
            rintro e w10 ⟨r10, rfl, ho10, hb10⟩
            have HB10 := Lib.hid (HBz.out.trans (hb10.mono HBz.out.size))
            have Y10 := Lib.hid (Yz.out.later hb10)
            have Z10 := Lib.hid (Zz.out.later hb10)
            have HE10 := Lib.hid (HEz.out.below hb10)
            have EC10 := Lib.hid (ec_below (hb10.mono (Nat.le_refl _)) (ec_alloc ⟨ec0, ec1⟩))
            obtain ⟨ra10, rc10, rfl, hE10⟩ := own35_form ho10
            have HL10 := Lib.hid hE10
            clear hb10 ho10 hE10 y0 y1 y2
            go_wp2_with fail
            refine (HRP2 _ _ _ HL10.out).out.mono ?_
            rintro e w11 ⟨rfl, hb11⟩
            have HB11 := Lib.hid (HB10.out.trans (hb11.mono HB10.out.size))
            obtain ⟨y0, y1, y2, _⟩ := facts2 (Y10.out.later hb11)
            obtain ⟨z0, z1, z2, z3⟩ := facts2 (Z10.out.later hb11)
            have hly := (Y10.out.later hb11).lt
            have hlz := (Z10.out.later hb11).lt
            obtain ⟨ec0, ec1⟩ := ec_below hb11 EC10.out
            have hne1 : ¬ w7.heap.size = w7.heap.size + 1 := by omega
            have hne2 : ¬ w7.heap.size + 1 = w7.heap.size := by omega
            have hwz : w.heap.size ≤ w7.heap.size + 1 := by omega
            clear hb11
            go_wp2_with fail
            go_ret
            exact ⟨rfl, (HB11.out.setCell (p := ⟨w7.heap.size + 1, 0, none⟩) hwz _).setCell (p := ⟨w7.heap.size + 1, 1, none⟩) hwz _⟩
          · have hd := del_good HV.out k (by omega)
            have hvc := valid_cut HV.out k
            obtain ⟨b, off, rfl, ec0, ec1⟩ := HE7.out k (by omega)
            have HRD := fun w hE => Lib.hid (refDelete_any (some ⟨b, off, none⟩) rc F (by omega) hrc k (by omega) w hE)
            have hkk : k < F.length := by omega
            generalize F[k] = ek at *
            generalize F.take k ++ F.drop (k + 1) = L2 at *
            obtain ⟨B2, g2, hB2, HRP2⟩ : ∃ B2 g2, packR L2 = (B2, g2) ∧ ∀ a cap w, Ents w a L2 → Hid (Calls Try.prog 13 #[.slice a L2.length cap] w fun e w' => e = .returned (.tuple #[.string B2, .int .i64 g2]) ∧ Below w.heap.size w w') := ⟨_, _, rfl, fun a cap w hE => Lib.hid (refPack_ok a cap L2 (fun e he => by have := (hvc.each e he).1; omega) (by have := hvc.many; omega) w hE)⟩
            rw [← PP.out, PD.out, PG.out, hB2] at hd
            simp only [Prod.mk.injEq] at hd
            obtain ⟨⟨rfl, rfl⟩, ⟨rfl, rfl⟩, rfl⟩ := hd
            simp only at ec0 ec1
            clear hvc hB2
            obtain ⟨L1, hL1⟩ : ∃ L1, L1 = F.take k ++ [(m, xs)] ++ F.drop k := ⟨_, rfl⟩
            have hl1 : L1.length ≤ 300 := by rw [hL1]; simp; omega
            have hz1 : ∀ e ∈ L1, e.1.size ≤ 1000 := by rw [hL1]; exact put_small HV.out k (m, xs) (by simp only; omega)
            have HRI := fun w hE => Lib.hid (refInsert_any (some ⟨b, off, none⟩) rc F (by omega) hrc k (by omega) (m, xs) w hE)
            rw [← hL1] at HRI
            obtain ⟨B1, g1, hB1, HRP1⟩ : ∃ B1 g1, packR L1 = (B1, g1) ∧ ∀ a cap w, Ents w a L1 → Hid (Calls Try.prog 13 #[.slice a L1.length cap] w fun e w' => e = .returned (.tuple #[.string B1, .int .i64 g1]) ∧ Below w.heap.size w w') := ⟨_, _, rfl, fun a cap w hE => Lib.hid (refPack_ok a cap L1 hz1 hl1 w hE)⟩
            have hi := ins_good HV.out k (m, xs) h200 (by omega) (by simp only; omega) hxs
            rw [← PP.out, PA.out, ← hL1, hB1] at hi
            simp only [Prod.mk.injEq] at hi
            obtain ⟨rfl, rfl⟩ := hi
            have c0 : (0 : Int) ≤ k := by omega
            have c1 : (k : Int) ≤ (F.length : Int) := by omega
            have c2 : (k : Int) < (F.length : Int) := by omega
            have s0 : (m.size : Int) ≤ 64 := by omega
            have h9 : ¬ (F.length : Int) = 200 := by omega
            obtain ⟨y0, y1, y2, _⟩ := facts2 Y7.out
            obtain ⟨x0, x1, x2, _⟩ := facts2 K7.out
            clear hk2 hs64 h200 hat PP PA PD PG HV hkn hL1 hl1 hz1 hB1
            go_wp2_with fail
            refine (HRI _ HE7.out).out.mono ?_
            rintro e w8 ⟨r8, rfl, ho8, hb8⟩
            have HB8 := Lib.hid (HB7.out.trans (hb8.mono HB7.out.size))
            have Y8 := Lib.hid (Y7.out.later hb8)
            have HE8 := Lib.hid (HE7.out.below hb8)
            have EC8 := Lib.hid (ec_below hb8 ⟨ec0, ec1⟩)
            obtain ⟨ra8, rc8, rfl, hE8⟩ := own35_form ho8
            have HL8 := Lib.hid hE8
            clear hb8 ho8 hE8 y0 y1 y2 x0 x1 x2
            go_wp2_with fail
            refine (HRP1 _ _ _ HL8.out).out.mono ?_
            rintro e w9 ⟨rfl, hb9⟩
            have HB9 := Lib.hid (HB8.out.trans (hb9.mono HB8.out.size))
            have Y9 := Lib.hid (Y8.out.later hb9)
            have HE9 := Lib.hid (HE8.out.below hb9)
            have EC9 := Lib.hid (ec_below hb9 EC8.out)
            clear ec0 ec1
            have hlt9 := Y9.out.lt
            obtain ⟨y0, y1, y2, _⟩ := facts2 Y9.out
            clear hb9
            go_wp2_with fail
            have HBz := Lib.hid (HB9.out.alloc HB9.out.size (Obj.cells #[Value.string ⟨#[]⟩, Value.int IntKind.i64 0] 35))
            have HEz := Lib.hid (HE9.out.below ((Below.refl _ _).alloc (Nat.le_refl _) (Obj.cells #[Value.string ⟨#[]⟩, Value.int IntKind.i64 0] 35)))
            have Yz := Lib.hid (Y9.out.alloc (Obj.cells #[Value.string ⟨#[]⟩, Value.int IntKind.i64 0] 35))
            have Zz : Hid (Blk (w9.alloc (Obj.cells #[Value.string ⟨#[]⟩, Value.int IntKind.i64 0] 35)) (w9.heap.size) 35 #[Value.string ⟨#[]⟩, Value.int IntKind.i64 0]) := Lib.hid (by have h1 := Blk.new (w9) 35 #[Value.string ⟨#[]⟩, Value.int IntKind.i64 0]; simpa using h1)
            refine (HRD _ HEz.out).out.mono ?_
            rintro e w10 ⟨r10, rfl, ho10, hb10⟩
            have HB10 := Lib.hid (HBz.out.trans (hb10.mono HBz.out.size))
            have Y10 := Lib.hid (Yz.out.later hb10)
            have Z10 := Lib.hid (Zz.out.later hb10)
            have HE10 := Lib.hid (HEz.out.below hb10)
            have EC10 := Lib.hid (ec_below (hb10.mono (Nat.le_refl _)) (ec_alloc EC9.out))
            obtain ⟨ra10, rc10, rfl, hE10⟩ := own35_form ho10
            have HL10 := Lib.hid hE10
            clear hb10 ho10 hE10 y0 y1 y2
            go_wp2_with fail
            refine (HRP2 _ _ _ HL10.out).out.mono ?_
            rintro e w11 ⟨rfl, hb11⟩
            have HB11 := Lib.hid (HB10.out.trans (hb11.mono HB10.out.size))
            obtain ⟨y0, y1, y2, _⟩ := facts2 (Y10.out.later hb11)
            obtain ⟨z0, z1, z2, z3⟩ := facts2 (Z10.out.later hb11)
            have hly := (Y10.out.later hb11).lt
            have hlz := (Z10.out.later hb11).lt
            obtain ⟨ec0, ec1⟩ := ec_below hb11 EC10.out
            have hne1 : ¬ w7.heap.size = w9.heap.size := by omega
            have hne2 : ¬ w9.heap.size = w7.heap.size := by omega
            have hwz : w.heap.size ≤ w9.heap.size := by omega
            clear hb11
            go_wp2_with fail
            go_ret
            exact ⟨rfl, (HB11.out.setCell (p := ⟨w9.heap.size, 0, none⟩) hwz _).setCell (p := ⟨w9.heap.size, 1, none⟩) hwz _⟩
        · by_cases hs64 : 64 < m.size
          · have hd := del_bad HV.out (k : Int) (.inr (by omega))
            rw [← PP.out, PD.out, PG.out] at hd
            simp only [Prod.mk.injEq] at hd
            obtain ⟨⟨rfl, rfl⟩, ⟨rfl, rfl⟩, rfl⟩ := hd
            have hi := ins_bad HV.out (k : Int) (m, xs) h200 (.inr (.inr (by simp only; omega)))
            rw [← PP.out, PA.out] at hi
            simp only [Prod.mk.injEq] at hi
            obtain ⟨rfl, rfl⟩ := hi
            have c0 : (0 : Int) ≤ k := by omega
            have c1 : (k : Int) ≤ (F.length : Int) := by omega
            have c2 : ¬ (k : Int) < (F.length : Int) := by omega
            have s0 : ¬ (m.size : Int) ≤ 64 := by omega
            have h9 : ¬ (F.length : Int) = 200 := by omega
            obtain ⟨y0, y1, y2, _⟩ := facts2 Y7.out
            obtain ⟨x0, x1, x2, _⟩ := facts2 K7.out
            clear hk2 hs64 h200 hat PP PA PD PG HV hkn
            go_wp2_with fail
            go_ret
            exact ⟨rfl, HB7.out.alloc HB7.out.size _⟩
          · have hd := del_bad HV.out (k : Int) (.inr (by omega))
            rw [← PP.out, PD.out, PG.out] at hd
            simp only [Prod.mk.injEq] at hd
            obtain ⟨⟨rfl, rfl⟩, ⟨rfl, rfl⟩, rfl⟩ := hd
            obtain ⟨L1, hL1⟩ : ∃ L1, L1 = F.take k ++ [(m, xs)] ++ F.drop k := ⟨_, rfl⟩
            have hl1 : L1.length ≤ 300 := by rw [hL1]; simp; omega
            have hz1 : ∀ e ∈ L1, e.1.size ≤ 1000 := by rw [hL1]; exact put_small HV.out k (m, xs) (by simp only; omega)
            have HRI := fun w hE => Lib.hid (refInsert_any ra rc F (by omega) hrc k (by omega) (m, xs) w hE)
            rw [← hL1] at HRI
            obtain ⟨B1, g1, hB1, HRP1⟩ : ∃ B1 g1, packR L1 = (B1, g1) ∧ ∀ a cap w, Ents w a L1 → Hid (Calls Try.prog 13 #[.slice a L1.length cap] w fun e w' => e = .returned (.tuple #[.string B1, .int .i64 g1]) ∧ Below w.heap.size w w') := ⟨_, _, rfl, fun a cap w hE => Lib.hid (refPack_ok a cap L1 hz1 hl1 w hE)⟩
            have hi := ins_good HV.out k (m, xs) h200 (by omega) (by simp only; omega) hxs
            rw [← PP.out, PA.out, ← hL1, hB1] at hi
            simp only [Prod.mk.injEq] at hi
            obtain ⟨rfl, rfl⟩ := hi
            have c0 : (0 : Int) ≤ k := by omega
            have c1 : (k : Int) ≤ (F.length : Int) := by omega
            have c2 : ¬ (k : Int) < (F.length : Int) := by omega
            have s0 : (m.size : Int) ≤ 64 := by omega
            have h9 : ¬ (F.length : Int) = 200 := by omega
            obtain ⟨y0, y1, y2, _⟩ := facts2 Y7.out
            obtain ⟨x0, x1, x2, _⟩ := facts2 K7.out
            clear hk2 hs64 h200 hat PP PA PD PG HV hkn hL1 hl1 hz1 hB1
            go_wp2_with fail
            refine (HRI _ HE7.out).out.mono ?_
            rintro e w8 ⟨r8, rfl, ho8, hb8⟩
            have HB8 := Lib.hid (HB7.out.trans (hb8.mono HB7.out.size))
            have Y8 := Lib.hid (Y7.out.later hb8)
            have HE8 := Lib.hid (HE7.out.below hb8)
            obtain ⟨ra8, rc8, rfl, hE8⟩ := own35_form ho8
            have HL8 := Lib.hid hE8
            clear hb8 ho8 hE8 y0 y1 y2 x0 x1 x2
            go_wp2_with fail
            refine (HRP1 _ _ _ HL8.out).out.mono ?_
            rintro e w9 ⟨rfl, hb9⟩
            have HB9 := Lib.hid (HB8.out.trans (hb9.mono HB8.out.size))
            have Y9 := Lib.hid (Y8.out.later hb9)
            have HE9 := Lib.hid (HE8.out.below hb9)
            have hlt9 := Y9.out.lt
            obtain ⟨y0, y1, y2, _⟩ := facts2 Y9.out
            clear hb9
            go_wp2_with fail
            go_ret
            exact ⟨rfl, HB9.out.alloc HB9.out.size _⟩
  · go_wp2_with fail
    go_ret
    exact ⟨rfl, HB4.out⟩
end Go.Proofs.Ytioidnfmpbdmhaa
