/- The reference's Members. -/
import Derived.Test.YtpaphfofjfjdlaaGreatQZMem
import Derived.Test.YtpaphfofjfjdlaaGreatQZRefBtw
namespace Go.Proofs.YtpaphfofjfjdlaaGreat
open Go.RowKit Go.Shelf Sk
attribute [local go_sem] Oper.semAt_some

theorem refEdge_bool (m : ByteArray) (hm : m.size ≤ 281474976710656) (a b : ByteArray) (ha : a.size ≤ 281474976710656) (hb : b.size ≤ 281474976710656) (oa ob : Bool) (ia ib : Int) (s : Int) (W : World) : Calls Tryz.prog 48 #[.string m, .agg #[.string a, .bool oa, .int .i64 ia], .agg #[.string b, .bool ob, .int .i64 ib]] W fun e w' => e = .returned (.bool (memP a oa ia b ob ib (m, s))) ∧ Below W.heap.size W w' :=
  Bd.refInEdge_any m a b hm ha hb oa ob ia ib W

set_option maxRecDepth 100000 in
set_option maxHeartbeats 2000000 in
theorem ref_members {w : World} {r : Nat} {E : List En} {le lm : Int} {isL : Bool} (h : RefC w r E le lm isL) (hz : ∀ x ∈ E, x.1.size ≤ 64) (hE : E.length ≤ 10000) (a b : ByteArray) (ha : a.size ≤ 281474976710656) (hb : b.size ≤ 281474976710656) (oa ob : Bool) (ia ib : Int) : Calls Tryz.prog 30 #[.pointer (some ⟨r, 0, none⟩), .agg #[.string a, .bool oa, .int .i64 ia], .agg #[.string b, .bool ob, .int .i64 ib]] w
    fun e w' => ∃ v, e = .returned v ∧ Own48 w' w.heap.size v (E.filter (memP a oa ia b ob ib)) ∧ Below w.heap.size w w' := by
  obtain ⟨i0, hi0, hz0, hz1, hz2⟩ := info_parts Pk.info48
  have HL := fun m hm s W => Lib.hid (refEdge_bool m hm a b ha hb oa ob ia ib s W)
  have hb0 : Below w.heap.size w ((w.alloc (.cells #[.string a, .bool oa, .int .i64 ia] 53)).alloc (.cells #[.string b, .bool ob, .int .i64 ib] 53)) := ((Below.refl w.heap.size w).alloc (Nat.le_refl _) _).alloc (by simp) _
  have k0 := (Blk.new w 53 #[.string a, .bool oa, .int .i64 ia]).alloc (.cells #[.string b, .bool ob, .int .i64 ib] 53)
  have k1 := Blk.new (w.alloc (.cells #[.string a, .bool oa, .int .i64 ia] 53)) 53 #[.string b, .bool ob, .int .i64 ib]
  simp only [World.size_alloc] at k1
  obtain ⟨ad, c, kr, hc, hr⟩ := (h.later hb0).ex
  clear h
  have HZ := Lib.hid hz
  have HA := Lib.hid ha
  have HBB := Lib.hid hb
  clear hz ha hb
  go_enter Tryz.func30, Tryz.ntmps30
  go_wp2_with fail
  generalize (w.alloc (.cells #[.string a, .bool oa, .int .i64 ia] 53)).alloc (.cells #[.string b, .bool ob, .int .i64 ib] 53) = w1 at *
  have KR := Lib.hid kr
  have HR := Lib.hid hr
  have K0 := Lib.hid k0
  have K1 := Lib.hid k1
  have HB0 := Lib.hid hb0
  have HLN := Lib.hid (show ∀ i, ((E.take i).filter (memP a oa ia b ob ib)).length ≤ 10000 from fun i => Nat.le_trans (List.length_filter_le _ _) (by simp only [List.length_take]; omega))
  clear kr hr k0 k1 hb0
  go_loopw [7, 8] (fun s i wr => ∃ (k : Nat), i = .int .i64 k ∧ k ≤ E.length ∧ Below w1.heap.size w1 wr ∧ Own48 wr w1.heap.size s ((E.take k).filter (memP a oa ia b ob ib))) (fun s i _ => E.length - (intOf i).toNat)
  case atStart => exact ⟨0, rfl, by omega, Below.refl _ _, World.ownsRow_nil _ _ _ _⟩
  case round =>
    obtain ⟨k, rfl, hk, hb, hown⟩ := hrel
    obtain ⟨⟨e0, _⟩, _⟩ := facts4 (KR.out.later hb)
    by_cases hlt : k < E.length
    · obtain ⟨b', off, c', g1, g2, g3⟩ := row_cells (HR.out.later hb) (List.getElem?_eq_getElem hlt)
      cases g1
      have hx : E[k]? = some E[k] := List.getElem?_eq_getElem hlt
      have hxz := HZ.out _ (List.getElem_mem hlt)
      generalize E[k] = xx at *
      obtain ⟨xm, xs⟩ := xx
      simp only at g2 g3 hxz
      have HL1 := fun W => HL xm (by omega) xs W
      have hft := filter_take (p := memP a oa ia b ob ib) hx
      have hle := HLN.out k
      have hlt2 : (k : Int) < E.length := by omega
      have HB := Lib.hid hb
      have HO := Lib.hid hown
      have HFT := Lib.hid hft
      have HSZ := Lib.hid (HB0.out.trans (hb.mono HB0.out.size)).size
      generalize (E.take k).filter (memP a oa ia b ob ib) = l0 at *
      obtain ⟨c0, c1, c2, _⟩ := facts3 (K0.out.later hb)
      obtain ⟨f0, f1', f2', _⟩ := facts3 (K1.out.later hb)
      have q0 := fun x : Bd.Ext wr => x.cell e0
      have q1 := fun x : Bd.Ext wr => x.cell g2
      have q2 := fun x : Bd.Ext wr => x.cell g3
      have d0 := fun x : Bd.Ext wr => x.cell c0
      have d1 := fun x : Bd.Ext wr => x.cell c1
      have d2 := fun x : Bd.Ext wr => x.cell c2
      have d3 := fun x : Bd.Ext wr => x.cell f0
      have d4 := fun x : Bd.Ext wr => x.cell f1'
      have d5 := fun x : Bd.Ext wr => x.cell f2'
      have hne := Bd.Ext.one wr
      clear c0 c1 c2 f0 f1' f2' hx hft hb hown
      by_cases hm : memP a oa ia b ob ib (xm, xs) = true
      · have HIM := Lib.hid hm
        rw [hm] at HL1
        clear hm
        go_wp2_with fail
        refine Bd.region_ext (w1 := wr) (by kernel_rfl) (by kernel_rfl) (Below.refl _ _) ?_
        iterate 11 first
          | go_big_quiet_step ((first | (go_at_call 48; exact Bd.Ext.call _ (HL1 _).out)))
        refine wpQuiet_nil ?_
        rintro _ ⟨x, rfl⟩
        have p0 := q0 x
        have p1 := q1 x
        have p2 := q2 x
        have hxo := x.ok
        generalize x.w = wx at *
        clear q0 q1 q2 d0 d1 d2 d3 d4 d5 hne HL1 e0 g2 g3
        obtain ⟨g7, cap7, w7, hrun, hown7, hgrow⟩ := Pk.app_ent hi0 hz0 hz1 hz2 HO.out hxo (xm, xs) (by omega) (by have h1 := hxo.size; have h2 := HB.out.size; omega)
        have hbz : Below w1.heap.size w1 w7 := ((HB.out.trans (hxo.mono HB.out.size)).alloc (by have h1 := hxo.size; have h2 := HB.out.size; omega) _).grown hgrow (by have h1 := hxo.size; have h2 := HB.out.size; simp; omega) fun k ek => (World.ownsRow.lt HO.out k ek).1
        have HBZ := Lib.hid hbz
        have HO7 := Lib.hid hown7
        clear hbz hown7 hgrow hxo
        go_wp2_with (at_builtin; refine Pk.wpList_append_ran rfl _ _ 35 35 rfl rfl rfl hrun ?_)
        refine ⟨⟨k + 1, by go_num, hlt, HBZ.out, ?_⟩, by simp [intOf]; omega⟩
        rw [HFT.out, if_pos HIM.out]
        exact HO7.out
      · have hmf : memP a oa ia b ob ib (xm, xs) = false := by simpa using hm
        have HIM := Lib.hid hmf
        rw [hmf] at HL1
        clear hm hmf
        go_wp2_with fail
        refine Bd.region_ext (w1 := wr) (by kernel_rfl) (by kernel_rfl) (Below.refl _ _) ?_
        iterate 11 first
          | go_big_quiet_step ((first | (go_at_call 48; exact Bd.Ext.call _ (HL1 _).out)))
        refine wpQuiet_nil ?_
        rintro _ ⟨x, rfl⟩
        have hxo := Lib.hid x.ok
        generalize x.w = wx at *
        clear q0 q1 q2 d0 d1 d2 d3 d4 d5 hne HL1 e0 g2 g3
        go_wp2_with fail
        refine ⟨⟨k + 1, by go_num, hlt, HB.out.trans (hxo.out.mono HB.out.size), ?_⟩, by simp [intOf]; omega⟩
        rw [HFT.out, HIM.out]
        simpa using HO.out.later hxo.out
    · obtain rfl : k = E.length := by omega
      rw [List.take_length] at hown
      have hlt2 : ¬ (E.length : Int) < E.length := by omega
      have HB := Lib.hid hb
      have HO := Lib.hid hown
      clear hb hown
      go_wp2_with fail
      go_returns
      exact ⟨_, rfl, Pk.ownsRow_mono HO.out HB0.out.size, HB0.out.trans (HB.out.mono HB0.out.size)⟩
end Go.Proofs.YtpaphfofjfjdlaaGreat
