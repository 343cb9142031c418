/- A form's entries, gone through. -/
import Derived.Test.YtpaphfofjfjdlaaGreatQZVals
import Derived.Test.YtpaphfofjfjdlaaGreatQSched
namespace Go.Proofs.YtpaphfofjfjdlaaGreat
open Go.RowKit Go.Shelf Sk
attribute [local go_sem] Oper.semAt_some

/-- What through answers. -/
def Thru (w : World) (E : List En) (e : Ending) (w' : World) : Prop := ∃ bx r, e = .returned (.func (.func 68) #[] #[.pointer (some ⟨bx, 0, none⟩)]) ∧ Blk w' bx 35 #[r] ∧ w.heap.size ≤ bx ∧ Row w' w.heap.size r E ∧ Below w.heap.size w w'
theorem values_mk (a : Option Addr) (n c : Nat) (w : World) : Calls Tryz.prog 57 #[.slice a n c] w fun e w' => e = .returned (.func (.func 68) #[] #[.pointer (some ⟨w.heap.size, 0, none⟩)]) ∧ w' = w.alloc (Obj.cells #[.slice a n c] 35) := by
  go_enter Tryz.func57, Tryz.ntmps57
  go_wp2
  go_ret
  exact ⟨rfl, rfl⟩
variable {w : World} {b l p q sd : Nat} {D : Nat → Prop} {L : List Nd} {m : ByteArray → Option Int} {n : Dc.Sh} {E : List En}
theorem meth_plen (b : Nat) (W : World) : (method 375 73 (.pointer (some ⟨b, 0, none⟩)) "Len").run Tryz.prog W = .ok (61, .pointer (some ⟨b, 0, none⟩)) W := by kernel_rfl
theorem meth_prange (b : Nat) (W : World) : (method 375 73 (.pointer (some ⟨b, 0, none⟩)) "Range").run Tryz.prog W = .ok (140, .pointer (some ⟨b, 0, none⟩)) W := by kernel_rfl
theorem nil_prange (b : Nat) (W : World) : (nilAhead 375 73 (.pointer (some ⟨b, 0, none⟩)) "Range").run Tryz.prog W = .ok (some false) W := by kernel_rfl
set_option maxRecDepth 100000 in
theorem p_thru (h : PackAt w b E) : Calls Tryz.prog 46 #[.iface 73 (.pointer (some ⟨b, 0, none⟩))] w (Thru w E) := by
  have HL := fun W (hb : Below w.heap.size w W) => Lib.hid (p_len (h.later hb))
  have HR := fun W (hb : Below w.heap.size w W) => Lib.hid (p_range (h.later hb) 0 E.length)
  rw [subE_all] at HR
  clear h
  have HB0 := Lib.hid (drewB w 1)
  have HLA := HL _ HB0.out
  go_enter Tryz.func46, Tryz.ntmps46
  go_wp2_with fail
  have S0 : True := trivial
  have hm1 := meth_plen b
  have hm2 := meth_prange b
  have hm3 := nil_prange b
  refine Sched.region_sched [(0, true), (1, true), (3, true), (4, true), (5, true), (2, false), (6, false), (7, false), (8, true)] (fun W => True) (by kernel_rfl) (by kernel_rfl) rfl (by kernel_rfl) (fun _ _ _ d _ h => by cases d <;> exact h) S0 ?_
  intro L hL
  simp only [Sched.picks, List.getElem?_toArray, List.getElem?_cons_zero, List.getElem?_cons_succ] at hL
  subst hL
  repeat (first
    | (refine Sched.sched_take (v := ?_) (by rfl) ?_ ?_
       rotate_left
       (focus (intro w' hSw; (try dsimp only at hSw); go_simp; (try with_reducible rfl); done))
       simp only [Act.put, List.setIfInBounds_toArray, List.set_cons_zero, List.set_cons_succ]))
  refine Sched.sched_do (by rfl) fun K' hK => ?_
  go_simp
  go_at_call 61; refine HLA.out.mono ?_; rintro e w1 ⟨rfl, hb⟩
  have HB1 := Lib.hid (HB0.out.trans (hb.mono HB0.out.size))
  have HRA := HR w1 HB1.out
  clear hb HLA HL HR
  refine hK _ _ trivial ?_
  clear hK K'
  repeat (first
    | (refine Sched.sched_take (v := ?_) (by rfl) ?_ ?_
       rotate_left
       (focus (intro w' hSw; (try dsimp only at hSw); go_simp; (try with_reducible rfl); done))
       simp only [Act.put, List.setIfInBounds_toArray, List.set_cons_zero, List.set_cons_succ]))
  refine Sched.sched_do (by rfl) fun K' hK => ?_
  go_simp
  go_at_call 140; refine HRA.out.mono ?_; rintro e w2 ⟨r, rfl, hr, hb⟩
  have HB2 := Lib.hid (HB1.out.trans (hb.mono HB1.out.size))
  have HR2 := Lib.hid (hr.mono HB1.out.size)
  have hz := HB2.out.size
  obtain ⟨ra, rc, rfl⟩ := hr.form
  have HV := Lib.hid (values_mk ra E.length rc w2)
  clear hb HRA hr
  refine hK _ _ trivial ?_
  clear hK K'
  repeat (first
    | (refine Sched.sched_take (v := ?_) (by rfl) ?_ ?_
       rotate_left
       (focus (intro w' hSw; (try dsimp only at hSw); go_simp; (try with_reducible rfl); done))
       simp only [Act.put, List.setIfInBounds_toArray, List.set_cons_zero, List.set_cons_succ]))
  refine Sched.sched_do (by rfl) fun K' hK => ?_
  go_simp
  go_at_call 57; refine HV.out.mono ?_; rintro e w3 ⟨rfl, rfl⟩
  clear HV
  refine hK _ _ trivial ?_
  clear hK K'
  repeat (first
    | (refine Sched.sched_take (v := ?_) (by rfl) ?_ ?_
       rotate_left
       (focus (intro w' hSw; (try dsimp only at hSw); go_simp; (try with_reducible rfl); done))
       simp only [Act.put, List.setIfInBounds_toArray, List.set_cons_zero, List.set_cons_succ]))
  refine Sched.sched_nil ?_
  go_wp2_with fail
  go_ret
  exact ⟨_, _, rfl, Blk.new _ _ _, hz, HR2.out.later (alloc_below _ _), HB2.out.alloc hz _⟩
theorem nil_lrange (W : World) (l : Nat) :
    (nilAhead 375 106 (.pointer (some ⟨l, 0, none⟩)) "Range").run Tryz.prog W = .ok (some false) W := by
  cases hi : Tryz.prog.info? 106 with
  | none => exact absurd (congrArg Option.isSome hi) (by rw [show (Tryz.prog.info? 106).isSome = true by kernel_rfl]; decide)
  | some i =>
    have hm : ((Tryz.prog.info? 106).bind fun i => (i.methods.find? (·.name == "Range")).map fun m => (m.path.toList, m.func)) = some ([{ struct := 120, index := 0, deref := true }], some (160, true)) := by kernel_rfl
    rw [hi] at hm
    cases hf : i.methods.find? (·.name == "Range") with
    | none => rw [Option.bind_some, hf] at hm; cases hm
    | some mm =>
      rw [Option.bind_some, hf] at hm
      simp only [Option.map_some, Option.some.injEq, Prod.mk.injEq] at hm
      have hu := run_underlying (P := Tryz.prog) Tryz.underlying120
      unfold nilAhead
      simp [typeInfo, hi, hf, hm.1, hm.2, followBlind, hu, go_sem]
set_option maxRecDepth 100000 in
theorem l_thru (h : LAt w l p q D sd L m n) (hN : L.length ≤ 100000) : Calls Tryz.prog 46 #[.iface 106 (.pointer (some ⟨l, 0, none⟩))] w (Thru w (L.map en)) := by
  have HL := fun W (hb : Below w.heap.size w W) => Lib.hid (len_any p L rfl (h.later hb).ls.sk)
  have HR := fun W (hb : Below w.heap.size w W) => Lib.hid (l_range (h.later hb).ls hN 0 L.length)
  have hls : (L.map en).length = L.length := List.length_map ..
  have hsu : subE (L.map en) 0 (L.length : Int) = L.map en := by rw [← hls]; exact subE_all _
  simp only [hsu] at HR
  have HS := fun W (hb : Below w.heap.size w W) => Lib.hid (show W.cell? ⟨l, 0, none⟩ = some (.pointer (some ⟨p, 0, none⟩)) from (facts2 (h.later hb).blk).1)
  clear hsu
  clear h
  have HB0 := Lib.hid (show Below w.heap.size w w.drew from drewB w 1)
  have HLA := HL _ HB0.out
  go_enter Tryz.func46, Tryz.ntmps46
  go_wp2_with fail
  have S0 := (HS _ HB0.out).out
  have hm1 := meth_len S0
  refine Sched.region_sched [(0, true), (1, true), (3, true), (4, true), (5, true), (2, false), (6, false), (7, false), (8, true)] (fun W => W.cell? ⟨l, 0, none⟩ = some (.pointer (some ⟨p, 0, none⟩))) (by kernel_rfl) (by kernel_rfl) rfl (by kernel_rfl) (fun _ _ _ d _ h => by cases d <;> exact h) S0 ?_
  intro L hL
  simp only [Sched.picks, List.getElem?_toArray, List.getElem?_cons_zero, List.getElem?_cons_succ] at hL
  subst hL
  repeat (first
    | (refine Sched.sched_take (v := ?_) (by rfl) ?_ ?_
       rotate_left
       (focus (intro w' hSw; (try dsimp only at hSw); have hm3 := nil_lrange w' l; go_simp; (try with_reducible rfl); done))
       simp only [Act.put, List.setIfInBounds_toArray, List.set_cons_zero, List.set_cons_succ]))
  refine Sched.sched_do (by rfl) fun K' hK => ?_
  go_simp
  go_at_call 159; refine HLA.out.mono ?_; rintro e w1 ⟨rfl, rfl⟩
  have HB1 := HB0
  have hm2 := meth_range S0
  have HRA := HR _ HB1.out
  clear HLA HL HR
  refine hK _ _ S0 ?_
  clear hK K'
  repeat (first
    | (refine Sched.sched_take (v := ?_) (by rfl) ?_ ?_
       rotate_left
       (focus (intro w' hSw; (try dsimp only at hSw); go_simp; (try with_reducible rfl); done))
       simp only [Act.put, List.setIfInBounds_toArray, List.set_cons_zero, List.set_cons_succ]))
  refine Sched.sched_do (by rfl) fun K' hK => ?_
  go_simp
  go_at_call 160; refine HRA.out.mono ?_; rintro e w2 ⟨r, rfl, hr, hb⟩
  have HB2 := Lib.hid (HB1.out.trans (hb.mono HB1.out.size))
  have HR2 := Lib.hid (hr.mono HB1.out.size)
  have hz := HB2.out.size
  obtain ⟨ra, rc, rfl⟩ := hr.form
  have HV := Lib.hid (values_mk ra (L.map en).length rc w2)
  rw [hls] at HV
  have S2 := (HS _ HB2.out).out
  clear hb HRA hr
  refine hK _ _ S2 ?_
  clear hK K'
  repeat (first
    | (refine Sched.sched_take (v := ?_) (by rfl) ?_ ?_
       rotate_left
       (focus (intro w' hSw; (try dsimp only at hSw); go_simp; (try with_reducible rfl); done))
       simp only [Act.put, List.setIfInBounds_toArray, List.set_cons_zero, List.set_cons_succ]))
  refine Sched.sched_do (by rfl) fun K' hK => ?_
  go_simp
  go_at_call 57; refine HV.out.mono ?_; rintro e w3 ⟨rfl, rfl⟩
  have S3 := (HS _ (HB2.out.alloc hz (.cells #[.slice ra L.length rc] 35))).out
  clear HV
  refine hK _ _ S3 ?_
  clear hK K'
  repeat (first
    | (refine Sched.sched_take (v := ?_) (by rfl) ?_ ?_
       rotate_left
       (focus (intro w' hSw; (try dsimp only at hSw); go_simp; (try with_reducible rfl); done))
       simp only [Act.put, List.setIfInBounds_toArray, List.set_cons_zero, List.set_cons_succ]))
  refine Sched.sched_nil ?_
  go_wp2_with fail
  go_ret
  rw [hls] at HR2
  exact ⟨_, _, rfl, Blk.new _ _ _, hz, HR2.out.later (alloc_below _ _), HB2.out.alloc hz _⟩
end Go.Proofs.YtpaphfofjfjdlaaGreat
