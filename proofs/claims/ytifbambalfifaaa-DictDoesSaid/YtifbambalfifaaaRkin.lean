/- The reference's Bucket of a slot that is one. -/
import Derived.Test.YtifbambalfifaaaRkey
import Derived.Test.YtifbambalfifaaaRops
import Derived.Deep.CutBlock
import Derived.Deep.DeepCutAuto
namespace Go.Proofs.Ytifbambalfifaaa
open Go.RowKit Go.Shelf Go.Sort
attribute [local go_sem] Oper.semAt_some

def Rn.bytes (x : Rn) : List UInt8 := x.key.data.toList
def putsR (l : List (List UInt8)) : List (List UInt8) := l.foldl (fun o x => insR x o) []
def keysF (q : Rn → Bool) (l : List Rn) : List (List UInt8) := putsR ((l.filter q).map Rn.bytes)
theorem keysF_yes (q : Rn → Bool) (l : List Rn) (k : Nat) (h : k < l.length) (hq : q l[k] = true) : keysF q (l.take (k + 1)) = insR l[k].bytes (keysF q (l.take k)) := by
  unfold keysF putsR
  rw [List.take_succ_eq_append_getElem h, List.filter_append, List.map_append, List.foldl_append]
  simp [hq]
theorem keysF_no (q : Rn → Bool) (l : List Rn) (k : Nat) (h : k < l.length) (hq : q l[k] = false) : keysF q (l.take (k + 1)) = keysF q (l.take k) := by
  unfold keysF putsR
  rw [List.take_succ_eq_append_getElem h, List.filter_append, List.map_append, List.foldl_append]
  simp [hq]
theorem putsR_sort (l : List (List UInt8)) : putsR l = sortK l := by
  have h := sortK_ins l [] List.Pairwise.nil
  rw [List.nil_append] at h
  exact h
theorem sortK_permR (l : List (List UInt8)) : (sortK l).Perm l := List.mergeSort_perm _ _
theorem insR_len (x : List UInt8) (out : List (List UInt8)) : (insR x out).length = out.length + 1 := by
  rw [(insR_perm x out).length_eq]; rfl
theorem keysF_len (q : Rn → Bool) (l : List Rn) : (keysF q l).length ≤ l.length := by
  unfold keysF
  rw [putsR_sort, (sortK_permR _).length_eq, List.length_map]
  exact List.length_filter_le _ _
theorem keysF_mem (q : Rn → Bool) (l : List Rn) (y : List UInt8) (h : y ∈ keysF q l) : ∃ x ∈ l, y = x.bytes := by
  unfold keysF at h
  rw [putsR_sort, (sortK_permR _).mem_iff] at h
  obtain ⟨x, hx, rfl⟩ := List.mem_map.1 h
  exact ⟨x, (List.mem_filter.1 hx).1, rfl⟩
theorem tw_step {α : Type} (f : α → Bool) : ∀ (ks : List α) (j : Nat), j ≤ (ks.takeWhile f).length → ∀ h : j < ks.length, (f ks[j] = true → j + 1 ≤ (ks.takeWhile f).length) ∧ (f ks[j] = false → j = (ks.takeWhile f).length) := by
  intro ks
  induction ks with
  | nil => intro j _ h; simp at h
  | cons y ks ih =>
    intro j hj h
    cases hf : f y with
    | true =>
      rw [List.takeWhile_cons_of_pos hf, List.length_cons] at hj ⊢
      match j with
      | 0 => exact ⟨fun _ => by omega, fun e => by simp [hf] at e⟩
      | j + 1 =>
        have := ih j (by omega) (by simpa using h)
        exact ⟨fun e => by have := this.1 (by simpa using e); omega, fun e => by have := this.2 (by simpa using e); omega⟩
    | false =>
      rw [List.takeWhile_cons_of_neg (by simp [hf])] at hj ⊢
      simp at hj
      subst hj
      exact ⟨fun e => by simp [hf] at e, fun _ => rfl⟩
theorem tw_len {α : Type} (f : α → Bool) (ks : List α) : (ks.takeWhile f).length ≤ ks.length := (List.takeWhile_sublist f).length_le
theorem tw_take {α : Type} (f : α → Bool) (ks : List α) : ks.take (ks.takeWhile f).length = ks.takeWhile f := by
  conv => lhs; rw [← List.takeWhile_append_dropWhile (p := f) (l := ks), List.takeWhile_append_dropWhile]
  exact List.prefix_iff_eq_take.1 (List.takeWhile_prefix f) |>.symm
theorem tw_drop {α : Type} (f : α → Bool) (ks : List α) : ks.drop (ks.takeWhile f).length = ks.dropWhile f := by
  have h : ks = ks.takeWhile f ++ ks.dropWhile f := List.takeWhile_append_dropWhile.symm
  conv => lhs; arg 2; rw [h]
  rw [List.drop_left]
theorem Own9.cap {W : World} {B : Nat} {A : Option Addr} {n cap : Nat} {ks : List (List UInt8)} (h : Own9 W B (.slice A n cap) ks) : ks.length ≤ cap := by
  rcases h.2 with ⟨e, h0⟩ | ⟨g, cap, cur, e, _, _, h1, _⟩
  · omega
  · cases e; exact h1
theorem insR_at (x : List UInt8) (ks : List (List UInt8)) : insR x ks = ks.take (ks.takeWhile fun y => decide (y < x)).length ++ [x] ++ ks.drop (ks.takeWhile fun y => decide (y < x)).length := by
  rw [tw_take, tw_drop]
  unfold insR
  simp

theorem Own9.lower {W : World} {B B' : Nat} {v : Value} {ks : List (List UInt8)} (h : Own9 W B v ks) (hB : B' ≤ B) : Own9 W B' v ks := by
  refine ⟨h.1, ?_⟩
  rcases h.2 with h | ⟨g, cap, cur, e, h0, h1⟩
  · exact .inl h
  · exact .inr ⟨g, cap, cur, e, Nat.le_trans hB h0, h1⟩
theorem grown_drewR {W w1 : World} {r : Option Nat} (hg : W.drew.grownBy w1 r) : W.grownBy w1 r := ⟨hg.os, hg.tape, hg.output, hg.size, hg.block⟩
theorem kents_keep {W w1 : World} {x : List UInt8} (hg : (W.alloc (.cells #[encStr x] 9)).grownBy w1 none) : KEnts w1 (some ⟨W.heap.size, 0, none⟩) [x] :=
  (KEnts.one W x).below ((Below.refl _ _).grown hg (Nat.le_refl _) (fun _ h => nomatch h))
section
variable {S : Nat → Prop} {p seed : Nat} {R : Rd} {w : World}
set_option maxRecDepth 100000 in
set_option maxHeartbeats 4000000 in
theorem refbucket_core (A : Option Addr) (cap : Nat) (L : List Rn) (hL : L.length ≤ 1000000) (hf : ∀ x ∈ L, x.key.size ≤ 281474976710656 ∧ x.sum < 4294967296) (sa sb at_ : Nat) (t : Nat) (ht : t = 0 ∨ t = 1) (s size : Nat) (hsz : size = if t = 1 then sb else sa) (hs : s < size) (hs6 : size ≤ 65536)
    (hb : Blk w p 36 #[.int .u32 seed, .slice A L.length cap, .int .i64 sa, .int .i64 sb, .int .i64 at_]) (hrow : RRow w (.slice A L.length cap) L) (q : Rn → Bool) (hq : ∀ x, q x = (x.nx == decide (t = 1) && decide (x.sum % size = s))) :
    Calls Try.prog 16 #[.pointer (some ⟨p, 0, none⟩), .int .i64 t, .int .i64 s] w fun e w' => ∃ u, e = .returned (.tuple #[u, .int .i64 0]) ∧ Own9 w' w.heap.size u (keysF q L) ∧ Below w.heap.size w w' := by
  have HB := Lib.hid hb
  have HROW := Lib.hid hrow
  have HF := Lib.hid hf
  have HQ := Lib.hid hq
  have c1 := hb.cell 1
  have c2 := hb.cell 2
  have c3 := hb.cell 3
  simp only [List.getElem?_toArray, List.getElem?_cons_succ, List.getElem?_cons_zero] at c1 c2 c3
  have hsz0 : 0 < size := by omega
  have hLi : (L.length : Int) ≤ 1000000 := by omega
  clear hb hrow hf hq
  have hs1 : (s : Int) < size := by omega
  rcases ht with rfl | rfl
  · simp only [if_neg (show ¬ (0 = 1) by omega)] at hsz
    subst hsz
    have e1 : decide ((s : Int) < 0) = false := by simp
    have e2 : decide (size ≤ s) = false := by simp; omega
    have e3 : decide ((size : Int) ≤ s) = false := by simp; omega
    go_enter Try.func16, Try.ntmps16
    go_wp2
    go_loopw [9, 10] (fun u i wr => ∃ k : Nat, i = .int .i64 k ∧ k ≤ L.length ∧ Own9 wr w.heap.size u (keysF q (L.take k)) ∧ Below w.heap.size w wr) (fun _ i _ => L.length - (intOf i).toNat)
    case atStart => exact ⟨0, rfl, by omega, World.ownsRow_nil _ _ _ _, Below.refl _ _⟩
    case round =>
      obtain ⟨k, rfl, hk, hO, hbel⟩ := hrel
      have HBEL := Lib.hid hbel
      have HO := Lib.hid hO
      have hB2 := HB.out.later hbel
      have d1 := hB2.cell 1
      have d2 := hB2.cell 2
      have d3 := hB2.cell 3
      simp only [List.getElem?_toArray, List.getElem?_cons_succ, List.getElem?_cons_zero] at d1 d2 d3
      clear hB2
      by_cases hlt : k < L.length
      · have hrow2 := HROW.out.keep (W' := wr) fun k hk => hbel.block k (HROW.out.lt hk)
        obtain ⟨g, hA, z0, z1, z2, z3, zf⟩ := hrow2.at (List.getElem?_eq_getElem hlt)
        subst hA
        obtain ⟨hx1, hx2⟩ := HF.out _ (List.getElem_mem hlt)
        have HY := Lib.hid (keysF_yes q L k hlt)
        have HN := Lib.hid (keysF_no q L k hlt)
        have hlen := keysF_len q (L.take k)
        rw [List.length_take] at hlen
        have hlen : (keysF q (L.take k)).length < 1000000 := by omega
        have HKB := Lib.hid (show ∀ y ∈ keysF q (L.take k), y.length ≤ 281474976710656 from fun y hy => by
          obtain ⟨z, hz, rfl⟩ := keysF_mem q _ y hy
          have := (HF.out z (List.mem_of_mem_take hz)).1
          unfold Rn.bytes
          simpa using this)
        have HQX := Lib.hid (HQ.out L[k])
        generalize keysF q (L.take k) = ks at *
        generalize L[k] = x at *
        obtain ⟨key, xv, xs, xn⟩ := x
        simp only at z0 z1 z2 z3 hx1 hx2
        have hkm : (k : Int) < 1000000 := by omega
        clear hrow2 c1 c2 c3 hbel hO
        have hxi : (xs : Int) < 4294967296 := by omega
        have hmi : (xs : Int).tmod size = ((xs % size : Nat) : Int) := (Int.ofNat_tmod _ _).symm
        have hmi2 : (xs : Int) % size = ((xs % size : Nat) : Int) := (Int.natCast_emod _ _).symm
        have hmlt : xs % size < size := Nat.mod_lt _ hsz0
        obtain ⟨md, hmd⟩ : ∃ md, md = xs % size := ⟨_, rfl⟩
        rw [← hmd] at hmi hmi2 hmlt
        have HMD := Lib.hid hmd
        have HX1 := Lib.hid hx1
        clear hx1
        clear hmd
        cases xn
        · by_cases hm : md = s
          · subst hm
            have hqt : q ⟨key, xv, xs, false⟩ = true := by rw [HQX.out, ← HMD.out]; simp
            have HKS := Lib.hid (HY.out hqt)
            obtain ⟨A', cap', rfl, _⟩ := HO.out.formR
            have hcap' : ks.length ≤ cap' := HO.out.cap
            go_upto_block 2 with fail
            obtain ⟨jn, hjn⟩ : ∃ jn, jn = (ks.takeWhile fun y => decide (y < key.data.toList)).length := ⟨_, rfl⟩
            have HJN := Lib.hid hjn
            have hjle : jn ≤ ks.length := by rw [hjn]; exact tw_len _ _
            clear hjn
            have HO1 := Lib.hid (HO.out.below (W' := wr.alloc (Obj.cells #[.string key, .int .i64 xv, .int .u32 xs, .bool false] 69)) ((Below.refl _ _).alloc (Nat.le_refl _) _))
            have HBL1 := Lib.hid (HBEL.out.alloc HBEL.out.size (Obj.cells #[.string key, .int .i64 xv, .int .u32 xs, .bool false] 69))
            have hz1 := (Blk.new wr 69 #[.string key, .int .i64 xv, .int .u32 xs, .bool false]).cell 0
            simp only [List.getElem?_toArray, List.getElem?_cons_zero] at hz1
            have HZ1 := Lib.hid hz1
            clear hz1
            go_cut [12] from 69 to 83 (fun kv wi => kv = .int .i64 jn ∧ Own9 wi w.heap.size (.slice A' ks.length cap') ks ∧ Below w.heap.size w wi ∧ wi.cell? ⟨wr.heap.size, 0, none⟩ = some (.string key))
            case first =>
              go_wp2_with fail
              go_loopw [12] (fun kv wi => ∃ j : Nat, kv = .int .i64 j ∧ j ≤ jn ∧ Own9 wi w.heap.size (.slice A' ks.length cap') ks ∧ Below w.heap.size w wi ∧ wi.cell? ⟨wr.heap.size, 0, none⟩ = some (.string key)) (fun kv _ => ks.length - (intOf kv).toNat)
              case atStart => exact ⟨0, rfl, Nat.zero_le _, HO1.out, HBL1.out, HZ1.out⟩
              case round =>
                obtain ⟨j, rfl, hj, ho, hbl, hzc⟩ := hrel
                have HOi := Lib.hid ho
                have HBi := Lib.hid hbl
                have HZi := Lib.hid hzc
                by_cases hjl : j < ks.length
                · have hji : (j : Int) < ks.length := by omega
                  obtain ⟨A2, cap2, e2, hc⟩ := ho.formR
                  cases e2
                  obtain ⟨g2, rfl, z⟩ := hc j hjl
                  have hst := tw_step (fun y => decide (y < key.data.toList)) ks j (by rw [← HJN.out]; exact hj) hjl
                  rw [← HJN.out] at hst
                  have hkl := HKB.out _ (List.getElem_mem hjl)
                  obtain ⟨bq, hbq⟩ : ∃ bq, bq = decide (ks[j] < key.data.toList) := ⟨_, rfl⟩
                  have HLESS := fun W => Lib.hid (show Calls Try.prog 33 #[.string ⟨ks[j].toArray⟩, .string key] W fun e w' => e = .returned (.bool bq) ∧ ∃ n, w' = W.drewN n by
                    rw [hbq]
                    exact lessq_any ⟨ks[j].toArray⟩ key (by simpa [ByteArray.size] using hkl) HX1.out W)
                  rw [← hbq] at hst
                  have HST := Lib.hid hst
                  unfold encStr at z
                  generalize (⟨ks[j].toArray⟩ : ByteArray) = sj at *
                  clear hst hbq hkl ho hbl hc
                  cases bq
                  · obtain rfl : jn = j := (HST.out.2 rfl).symm
                    clear HST
                    go_wp2
                    go_quiet ((go_at_call 33; exact Calls.quiet_of (HLESS _).out))
                    go_wp2
                    go_meet
                    exact ⟨rfl, HOi.out.below (below_drewN _ nq), HBi.out.trans ((below_drewN _ nq).mono HBi.out.size), HZi.out⟩
                  · have HJ1 := Lib.hid (HST.out.1 rfl)
                    clear HST
                    go_wp2
                    go_quiet ((go_at_call 33; exact Calls.quiet_of (HLESS _).out))
                    go_wp2
                    refine ⟨⟨j + 1, by go_num, HJ1.out, HOi.out.below (below_drewN _ nq), HBi.out.trans ((below_drewN _ nq).mono HBi.out.size), HZi.out⟩, by simp [intOf]; omega⟩
                · obtain rfl : jn = j := by omega
                  have hd : decide ((jn : Int) < ks.length) = false := by simp; omega
                  have hd2 : decide (jn < ks.length) = false := by simp; omega
                  clear ho hbl hj hjl
                  go_wp2
                  go_quiet (fail)
                  go_wp2
                  go_meet
                  exact ⟨rfl, HOi.out.below (below_drewN _ nq), HBi.out.trans ((below_drewN _ nq).mono HBi.out.size), HZi.out⟩
            case rest =>
              obtain ⟨rfl, ho, hbl, hzc⟩ := hcut
              have HE := Lib.hid (KEnts.of ho)
              have HT := Lib.hid (show (ks.take jn).length = jn by simp; omega)
              have HDL := Lib.hid (show (ks.drop jn).length = ks.length - jn from List.length_drop)
              have HBi := Lib.hid hbl
              have HOi := Lib.hid ho
              have hj1 : (jn : Int) ≤ cap' := by omega
              have hj2 : (jn : Int) ≤ ks.length := by omega
              have hj3 : (jn : Int) ≤ 1000000 := by omega
              have hszw := hbl.size
              clear ho hbl
              have HZc := Lib.hid hzc
              have hlx : wr.heap.size < wc.heap.size := World.block_lt_of_cell? wc ⟨wr.heap.size, 0, none⟩ hzc
              have HB0 := Lib.hid (Below.refl wc.heap.size wc)
              have HX0 := Lib.hid (KEnts.one wc key.data.toList)
              go_wp2
              go_region_law (first
                | (refine step_app_k rfl (.tmp 84) (.tmp 87) rfl rfl (n0 := wc.heap.size) (r := .slice none 0 0) (l := []) (xs := ks.take jn) (ad := A') (m := jn) (by simp [Act.eval, Act.put]) (by simp [Act.eval, Act.put]; rfl) HT.out.symm (World.ownsRow_nil _ _ _ _) (by first | exact (HE.out.take jn).below HB0.out.drew | exact (HE.out.take jn).below (HB0.out.alloc HB0.out.size _).drew) (by simp) (by rw [HT.out]; omega) (by first | exact HB0.out.size | exact (HB0.out.alloc HB0.out.size _).size) ?_
                   rintro v1 w1 ho1 hg1
                   first
                     | (have hb1 := HB0.out.grown (grown_drewR hg1) HB0.out.size (fun _ h => nomatch h)
                        skip)
                     | (have hb1 := (HB0.out.alloc HB0.out.size _).grown (grown_drewR hg1) (HB0.out.alloc HB0.out.size _).size (fun _ h => nomatch h)
                        have HX1 := Lib.hid (kents_keep (grown_drewR hg1)))
                   have hz1 := (hb1.cell (p := ⟨wr.heap.size, 0, none⟩) hlx).trans HZc.out
                   have HB1 := Lib.hid hb1
                   have HO1 := Lib.hid ho1
                   clear ho1 hg1 hb1)
                | (refine step_app_k rfl (.tmp 88) (.tmp 91) rfl rfl (n0 := wc.heap.size) (r := v1) (l := [] ++ ks.take jn) (xs := [key.data.toList]) (m := 1) (ad := some ⟨w1.heap.size, 0, none⟩) (cap := 1) rfl rfl rfl (World.ownsRow.alloc HO1.out _) (KEnts.one _ key.data.toList) (by simp; omega) (by simp) (HB1.out.alloc HB1.out.size _).size ?_
                   rintro v2 w2 ho2 hg2
                   have HO2 := Lib.hid ho2
                   have HB2 := Lib.hid ((HB1.out.alloc HB1.out.size _).grown hg2 (HB1.out.alloc HB1.out.size _).size (fun k e => (World.ownsRow.lt HO1.out k e).1))
                   clear ho2 hg2)
                | (refine step_app_k rfl (.tmp 88) (.tmp 91) rfl rfl (n0 := wc.heap.size) (r := v1) (l := [] ++ ks.take jn) (xs := [key.data.toList]) (m := 1) (ad := some ⟨wc.heap.size, 0, none⟩) (cap := 1) rfl rfl rfl HO1.out HX1.out (by simp; omega) (by simp) HB1.out.size ?_
                   rintro v2 w2 ho2 hg2
                   have HO2 := Lib.hid ho2
                   have HB2 := Lib.hid (HB1.out.grown hg2 HB1.out.size (fun k e => (World.ownsRow.lt HO1.out k e).1))
                   clear ho2 hg2))
              all_goals (
                have HDR := Lib.hid (HE.out.drop jn cap' hcap')
                have HL3 := Lib.hid (show ([] ++ ks.take jn ++ [key.data.toList]).length ≤ 1000000 by rw [List.nil_append, List.length_append, HT.out]; show jn + 1 ≤ 1000000; omega)
                have HL4 := Lib.hid (show (ks.drop jn).length ≤ 1000000 by rw [HDL.out]; omega)
                clear hx2 hxi hmi hmi2 hmlt hlx hz1 hzc hs6
                go_upto_region 9 with (
                  at_builtin
                  refine wpList_app_k rfl (.tmp 93) (.tmp 96) rfl rfl (n0 := wc.heap.size) (r := v2) (l := [] ++ ks.take jn ++ [key.data.toList]) (xs := ks.drop jn) rfl rfl HDL.out.symm HO2.out (HDR.out.below HB2.out) HL3.out HL4.out HB2.out.size ?_
                  rintro v3 w3 ho3 hg3
                  have HB3 := Lib.hid (HB2.out.grown hg3 HB2.out.size (fun k e => (World.ownsRow.lt HO2.out k e).1))
                  have HO3 := Lib.hid ho3
                  clear ho3 hg3)
                have hwk : IntKind.i64.wrap ((k : Int) + 1) = (k : Int) + 1 := IntWalk.i64_in _ (by omega)
                clear hL hLi hjle hj1 hj2 hj3 hszw hcap' d1 d2 d3 z0 z1 z2 z3 zf hlen hs hs1 e1 e2 e3 hkm
                go_wp2
                all_goals (
                  refine ⟨⟨k + 1, by go_num, hlt, ?_, HBi.out.trans (HB3.out.mono HBi.out.size)⟩, by simp [intOf]; omega⟩
                  have h := HO3.out
                  rw [HKS.out, insR_at]
                  show Own9 _ _ _ (ks.take (ks.takeWhile fun y => decide (y < key.data.toList)).length ++ [key.data.toList] ++ ks.drop (ks.takeWhile fun y => decide (y < key.data.toList)).length)
                  rw [← HJN.out]
                  rw [List.nil_append] at h
                  exact h.lower HBi.out.size))
          · have hqf : q ⟨key, xv, xs, false⟩ = false := by rw [HQX.out, ← HMD.out]; simp [hm]
            have HKS := Lib.hid (HN.out hqf)
            have hmb : ((md : Int) == (s : Int)) = false := by rw [beq_eq_false_iff_ne]; omega
            have hmb3 : ((md : Int) != (s : Int)) = true := by rw [bne_iff_ne]; omega
            clear hm hmi2 hmlt hx2 hs6 hL hs hk
            go_wp2
            refine ⟨⟨k + 1, by go_num, hlt, ?_, ?_⟩, by simp [intOf]; omega⟩
            · rw [HKS.out]; exact HO.out.below ((Below.refl _ _).alloc (Nat.le_refl _) _)
            · exact HBEL.out.alloc HBEL.out.size _
        · have hqf : q ⟨key, xv, xs, true⟩ = false := by rw [HQX.out]; simp
          have HKS := Lib.hid (HN.out hqf)
          go_wp2
          refine ⟨⟨k + 1, by go_num, hlt, ?_, ?_⟩, by simp [intOf]; omega⟩
          · rw [HKS.out]; exact HO.out.below ((Below.refl _ _).alloc (Nat.le_refl _) _)
          · exact HBEL.out.alloc HBEL.out.size _
      · obtain rfl : k = L.length := by omega
        rw [List.take_length] at HO
        go_wp2
        go_returns
        exact ⟨_, rfl, HO.out, HBEL.out⟩
  · simp only [if_true] at hsz
    subst hsz
    have e1 : decide ((s : Int) < 0) = false := by simp
    have e2 : decide (size ≤ s) = false := by simp; omega
    have e3 : decide ((size : Int) ≤ s) = false := by simp; omega
    go_enter Try.func16, Try.ntmps16
    go_wp2
    go_loopw [9, 10] (fun u i wr => ∃ k : Nat, i = .int .i64 k ∧ k ≤ L.length ∧ Own9 wr w.heap.size u (keysF q (L.take k)) ∧ Below w.heap.size w wr) (fun _ i _ => L.length - (intOf i).toNat)
    case atStart => exact ⟨0, rfl, by omega, World.ownsRow_nil _ _ _ _, Below.refl _ _⟩
    case round =>
      obtain ⟨k, rfl, hk, hO, hbel⟩ := hrel
      have HBEL := Lib.hid hbel
      have HO := Lib.hid hO
      have hB2 := HB.out.later hbel
      have d1 := hB2.cell 1
      have d2 := hB2.cell 2
      have d3 := hB2.cell 3
      simp only [List.getElem?_toArray, List.getElem?_cons_succ, List.getElem?_cons_zero] at d1 d2 d3
      clear hB2
      by_cases hlt : k < L.length
      · have hrow2 := HROW.out.keep (W' := wr) fun k hk => hbel.block k (HROW.out.lt hk)
        obtain ⟨g, hA, z0, z1, z2, z3, zf⟩ := hrow2.at (List.getElem?_eq_getElem hlt)
        subst hA
        obtain ⟨hx1, hx2⟩ := HF.out _ (List.getElem_mem hlt)
        have HY := Lib.hid (keysF_yes q L k hlt)
        have HN := Lib.hid (keysF_no q L k hlt)
        have hlen := keysF_len q (L.take k)
        rw [List.length_take] at hlen
        have hlen : (keysF q (L.take k)).length < 1000000 := by omega
        have HKB := Lib.hid (show ∀ y ∈ keysF q (L.take k), y.length ≤ 281474976710656 from fun y hy => by
          obtain ⟨z, hz, rfl⟩ := keysF_mem q _ y hy
          have := (HF.out z (List.mem_of_mem_take hz)).1
          unfold Rn.bytes
          simpa using this)
        have HQX := Lib.hid (HQ.out L[k])
        generalize keysF q (L.take k) = ks at *
        generalize L[k] = x at *
        obtain ⟨key, xv, xs, xn⟩ := x
        simp only at z0 z1 z2 z3 hx1 hx2
        have hkm : (k : Int) < 1000000 := by omega
        clear hrow2 c1 c2 c3 hbel hO
        have hxi : (xs : Int) < 4294967296 := by omega
        have hmi : (xs : Int).tmod size = ((xs % size : Nat) : Int) := (Int.ofNat_tmod _ _).symm
        have hmi2 : (xs : Int) % size = ((xs % size : Nat) : Int) := (Int.natCast_emod _ _).symm
        have hmlt : xs % size < size := Nat.mod_lt _ hsz0
        obtain ⟨md, hmd⟩ : ∃ md, md = xs % size := ⟨_, rfl⟩
        rw [← hmd] at hmi hmi2 hmlt
        have HMD := Lib.hid hmd
        have HX1 := Lib.hid hx1
        clear hx1
        clear hmd
        cases xn
        · have hqf : q ⟨key, xv, xs, false⟩ = false := by rw [HQX.out]; simp
          have HKS := Lib.hid (HN.out hqf)
          go_wp2
          refine ⟨⟨k + 1, by go_num, hlt, ?_, ?_⟩, by simp [intOf]; omega⟩
          · rw [HKS.out]; exact HO.out.below ((Below.refl _ _).alloc (Nat.le_refl _) _)
          · exact HBEL.out.alloc HBEL.out.size _
        · by_cases hm : md = s
          · subst hm
            have hqt : q ⟨key, xv, xs, true⟩ = true := by rw [HQX.out, ← HMD.out]; simp
            have HKS := Lib.hid (HY.out hqt)
            obtain ⟨A', cap', rfl, _⟩ := HO.out.formR
            have hcap' : ks.length ≤ cap' := HO.out.cap
            go_upto_block 2 with fail
            obtain ⟨jn, hjn⟩ : ∃ jn, jn = (ks.takeWhile fun y => decide (y < key.data.toList)).length := ⟨_, rfl⟩
            have HJN := Lib.hid hjn
            have hjle : jn ≤ ks.length := by rw [hjn]; exact tw_len _ _
            clear hjn
            have HO1 := Lib.hid (HO.out.below (W' := wr.alloc (Obj.cells #[.string key, .int .i64 xv, .int .u32 xs, .bool true] 69)) ((Below.refl _ _).alloc (Nat.le_refl _) _))
            have HBL1 := Lib.hid (HBEL.out.alloc HBEL.out.size (Obj.cells #[.string key, .int .i64 xv, .int .u32 xs, .bool true] 69))
            have hz1 := (Blk.new wr 69 #[.string key, .int .i64 xv, .int .u32 xs, .bool true]).cell 0
            simp only [List.getElem?_toArray, List.getElem?_cons_zero] at hz1
            have HZ1 := Lib.hid hz1
            clear hz1
            go_cut [12] from 69 to 83 (fun kv wi => kv = .int .i64 jn ∧ Own9 wi w.heap.size (.slice A' ks.length cap') ks ∧ Below w.heap.size w wi ∧ wi.cell? ⟨wr.heap.size, 0, none⟩ = some (.string key))
            case first =>
              go_wp2_with fail
              go_loopw [12] (fun kv wi => ∃ j : Nat, kv = .int .i64 j ∧ j ≤ jn ∧ Own9 wi w.heap.size (.slice A' ks.length cap') ks ∧ Below w.heap.size w wi ∧ wi.cell? ⟨wr.heap.size, 0, none⟩ = some (.string key)) (fun kv _ => ks.length - (intOf kv).toNat)
              case atStart => exact ⟨0, rfl, Nat.zero_le _, HO1.out, HBL1.out, HZ1.out⟩
              case round =>
                obtain ⟨j, rfl, hj, ho, hbl, hzc⟩ := hrel
                have HOi := Lib.hid ho
                have HBi := Lib.hid hbl
                have HZi := Lib.hid hzc
                by_cases hjl : j < ks.length
                · have hji : (j : Int) < ks.length := by omega
                  obtain ⟨A2, cap2, e2, hc⟩ := ho.formR
                  cases e2
                  obtain ⟨g2, rfl, z⟩ := hc j hjl
                  have hst := tw_step (fun y => decide (y < key.data.toList)) ks j (by rw [← HJN.out]; exact hj) hjl
                  rw [← HJN.out] at hst
                  have hkl := HKB.out _ (List.getElem_mem hjl)
                  obtain ⟨bq, hbq⟩ : ∃ bq, bq = decide (ks[j] < key.data.toList) := ⟨_, rfl⟩
                  have HLESS := fun W => Lib.hid (show Calls Try.prog 33 #[.string ⟨ks[j].toArray⟩, .string key] W fun e w' => e = .returned (.bool bq) ∧ ∃ n, w' = W.drewN n by
                    rw [hbq]
                    exact lessq_any ⟨ks[j].toArray⟩ key (by simpa [ByteArray.size] using hkl) HX1.out W)
                  rw [← hbq] at hst
                  have HST := Lib.hid hst
                  unfold encStr at z
                  generalize (⟨ks[j].toArray⟩ : ByteArray) = sj at *
                  clear hst hbq hkl ho hbl hc
                  cases bq
                  · obtain rfl : jn = j := (HST.out.2 rfl).symm
                    clear HST
                    go_wp2
                    go_quiet ((go_at_call 33; exact Calls.quiet_of (HLESS _).out))
                    go_wp2
                    go_meet
                    exact ⟨rfl, HOi.out.below (below_drewN _ nq), HBi.out.trans ((below_drewN _ nq).mono HBi.out.size), HZi.out⟩
                  · have HJ1 := Lib.hid (HST.out.1 rfl)
                    clear HST
                    go_wp2
                    go_quiet ((go_at_call 33; exact Calls.quiet_of (HLESS _).out))
                    go_wp2
                    refine ⟨⟨j + 1, by go_num, HJ1.out, HOi.out.below (below_drewN _ nq), HBi.out.trans ((below_drewN _ nq).mono HBi.out.size), HZi.out⟩, by simp [intOf]; omega⟩
                · obtain rfl : jn = j := by omega
                  have hd : decide ((jn : Int) < ks.length) = false := by simp; omega
                  have hd2 : decide (jn < ks.length) = false := by simp; omega
                  clear ho hbl hj hjl
                  go_wp2
                  go_quiet (fail)
                  go_wp2
                  go_meet
                  exact ⟨rfl, HOi.out.below (below_drewN _ nq), HBi.out.trans ((below_drewN _ nq).mono HBi.out.size), HZi.out⟩
            case rest =>
              obtain ⟨rfl, ho, hbl, hzc⟩ := hcut
              have HE := Lib.hid (KEnts.of ho)
              have HT := Lib.hid (show (ks.take jn).length = jn by simp; omega)
              have HDL := Lib.hid (show (ks.drop jn).length = ks.length - jn from List.length_drop)
              have HBi := Lib.hid hbl
              have HOi := Lib.hid ho
              have hj1 : (jn : Int) ≤ cap' := by omega
              have hj2 : (jn : Int) ≤ ks.length := by omega
              have hj3 : (jn : Int) ≤ 1000000 := by omega
              have hszw := hbl.size
              clear ho hbl
              have HZc := Lib.hid hzc
              have hlx : wr.heap.size < wc.heap.size := World.block_lt_of_cell? wc ⟨wr.heap.size, 0, none⟩ hzc
              have HB0 := Lib.hid (Below.refl wc.heap.size wc)
              have HX0 := Lib.hid (KEnts.one wc key.data.toList)
              go_wp2
              go_region_law (first
                | (refine step_app_k rfl (.tmp 84) (.tmp 87) rfl rfl (n0 := wc.heap.size) (r := .slice none 0 0) (l := []) (xs := ks.take jn) (ad := A') (m := jn) (by simp [Act.eval, Act.put]) (by simp [Act.eval, Act.put]; rfl) HT.out.symm (World.ownsRow_nil _ _ _ _) (by first | exact (HE.out.take jn).below HB0.out.drew | exact (HE.out.take jn).below (HB0.out.alloc HB0.out.size _).drew) (by simp) (by rw [HT.out]; omega) (by first | exact HB0.out.size | exact (HB0.out.alloc HB0.out.size _).size) ?_
                   rintro v1 w1 ho1 hg1
                   first
                     | (have hb1 := HB0.out.grown (grown_drewR hg1) HB0.out.size (fun _ h => nomatch h)
                        skip)
                     | (have hb1 := (HB0.out.alloc HB0.out.size _).grown (grown_drewR hg1) (HB0.out.alloc HB0.out.size _).size (fun _ h => nomatch h)
                        have HX1 := Lib.hid (kents_keep (grown_drewR hg1)))
                   have hz1 := (hb1.cell (p := ⟨wr.heap.size, 0, none⟩) hlx).trans HZc.out
                   have HB1 := Lib.hid hb1
                   have HO1 := Lib.hid ho1
                   clear ho1 hg1 hb1)
                | (refine step_app_k rfl (.tmp 88) (.tmp 91) rfl rfl (n0 := wc.heap.size) (r := v1) (l := [] ++ ks.take jn) (xs := [key.data.toList]) (m := 1) (ad := some ⟨w1.heap.size, 0, none⟩) (cap := 1) rfl rfl rfl (World.ownsRow.alloc HO1.out _) (KEnts.one _ key.data.toList) (by simp; omega) (by simp) (HB1.out.alloc HB1.out.size _).size ?_
                   rintro v2 w2 ho2 hg2
                   have HO2 := Lib.hid ho2
                   have HB2 := Lib.hid ((HB1.out.alloc HB1.out.size _).grown hg2 (HB1.out.alloc HB1.out.size _).size (fun k e => (World.ownsRow.lt HO1.out k e).1))
                   clear ho2 hg2)
                | (refine step_app_k rfl (.tmp 88) (.tmp 91) rfl rfl (n0 := wc.heap.size) (r := v1) (l := [] ++ ks.take jn) (xs := [key.data.toList]) (m := 1) (ad := some ⟨wc.heap.size, 0, none⟩) (cap := 1) rfl rfl rfl HO1.out HX1.out (by simp; omega) (by simp) HB1.out.size ?_
                   rintro v2 w2 ho2 hg2
                   have HO2 := Lib.hid ho2
                   have HB2 := Lib.hid (HB1.out.grown hg2 HB1.out.size (fun k e => (World.ownsRow.lt HO1.out k e).1))
                   clear ho2 hg2))
              all_goals (
                have HDR := Lib.hid (HE.out.drop jn cap' hcap')
                have HL3 := Lib.hid (show ([] ++ ks.take jn ++ [key.data.toList]).length ≤ 1000000 by rw [List.nil_append, List.length_append, HT.out]; show jn + 1 ≤ 1000000; omega)
                have HL4 := Lib.hid (show (ks.drop jn).length ≤ 1000000 by rw [HDL.out]; omega)
                clear hx2 hxi hmi hmi2 hmlt hlx hz1 hzc hs6
                go_upto_region 9 with (
                  at_builtin
                  refine wpList_app_k rfl (.tmp 93) (.tmp 96) rfl rfl (n0 := wc.heap.size) (r := v2) (l := [] ++ ks.take jn ++ [key.data.toList]) (xs := ks.drop jn) rfl rfl HDL.out.symm HO2.out (HDR.out.below HB2.out) HL3.out HL4.out HB2.out.size ?_
                  rintro v3 w3 ho3 hg3
                  have HB3 := Lib.hid (HB2.out.grown hg3 HB2.out.size (fun k e => (World.ownsRow.lt HO2.out k e).1))
                  have HO3 := Lib.hid ho3
                  clear ho3 hg3)
                have hwk : IntKind.i64.wrap ((k : Int) + 1) = (k : Int) + 1 := IntWalk.i64_in _ (by omega)
                clear hL hLi hjle hj1 hj2 hj3 hszw hcap' d1 d2 d3 z0 z1 z2 z3 zf hlen hs hs1 e1 e2 e3 hkm
                go_wp2
                all_goals (
                  refine ⟨⟨k + 1, by go_num, hlt, ?_, HBi.out.trans (HB3.out.mono HBi.out.size)⟩, by simp [intOf]; omega⟩
                  have h := HO3.out
                  rw [HKS.out, insR_at]
                  show Own9 _ _ _ (ks.take (ks.takeWhile fun y => decide (y < key.data.toList)).length ++ [key.data.toList] ++ ks.drop (ks.takeWhile fun y => decide (y < key.data.toList)).length)
                  rw [← HJN.out]
                  rw [List.nil_append] at h
                  exact h.lower HBi.out.size))
          · have hqf : q ⟨key, xv, xs, true⟩ = false := by rw [HQX.out, ← HMD.out]; simp [hm]
            have HKS := Lib.hid (HN.out hqf)
            have hmb : ((md : Int) == (s : Int)) = false := by rw [beq_eq_false_iff_ne]; omega
            have hmb3 : ((md : Int) != (s : Int)) = true := by rw [bne_iff_ne]; omega
            clear hm hmi2 hmlt hx2 hs6 hL hs hk
            go_wp2
            refine ⟨⟨k + 1, by go_num, hlt, ?_, ?_⟩, by simp [intOf]; omega⟩
            · rw [HKS.out]; exact HO.out.below ((Below.refl _ _).alloc (Nat.le_refl _) _)
            · exact HBEL.out.alloc HBEL.out.size _
      · obtain rfl : k = L.length := by omega
        rw [List.take_length] at HO
        go_wp2
        go_returns
        exact ⟨_, rfl, HO.out, HBEL.out⟩
end
end Go.Proofs.Ytifbambalfifaaa
