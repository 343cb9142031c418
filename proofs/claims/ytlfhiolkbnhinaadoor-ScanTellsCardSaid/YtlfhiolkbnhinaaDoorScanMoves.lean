/- ScanMoves: while a dict moves a scan tells each key once. -/
import Derived.Test.YtlfhiolkbnhinaaDoorSmall
import Derived.Deep.CutRange
import Derived.BigQuiet
namespace Go.Proofs.YtlfhiolkbnhinaaDoor
open Go.RowKit Go.Shelf Go.Sort
attribute [local go_sem] Oper.semAt_some

/-- Numbers in memory. -/
def Nums (W : World) (a : Option Addr) (l : List Int) : Prop := ∀ (i : Nat) (h : i < l.length), ∃ b off, a = some ⟨b, off, none⟩ ∧ W.cell? ⟨b, off + i, none⟩ = some (.int .i64 l[i])
theorem Nums.below {w W : World} {a : Option Addr} {l : List Int} (h : Nums w a l) (hb : Below w.heap.size w W) : Nums W a l := fun i hi => by
  obtain ⟨b, off, ha, h0⟩ := h i hi
  exact ⟨b, off, ha, (hb.cell (p := ⟨b, _, none⟩) (World.block_lt_of_cell? w ⟨b, off + i, none⟩ h0)).trans h0⟩

def keyM (i : Nat) : ByteArray := ⟨#[UInt8.ofNat (97 + i % 26), UInt8.ofNat (97 + i / 26)]⟩
theorem keyM_inj : ∀ i : Fin 200, ∀ j : Fin 200, keyM i.val = keyM j.val → i = j := by
  have h : ∀ i : Fin 200, (UInt8.ofNat (97 + i.val % 26)).toNat = 97 + i.val % 26 ∧ (UInt8.ofNat (97 + i.val / 26)).toNat = 97 + i.val / 26 := by decide +kernel
  intro i j he
  unfold keyM at he
  injection he with he
  injection he with he
  injection he with h1 h2
  injection h2 with h2
  have a1 := (h i).1
  have a2 := (h i).2
  have b1 := (h j).1
  have b2 := (h j).2
  rw [h1] at a1
  rw [h2] at a2
  apply Fin.ext
  omega

theorem str_two (W : World) (b c : UInt8) : (convert 61 9 (.slice (some ⟨W.heap.size, 0, none⟩) 2 2)).run Tryd.prog (W.alloc (.cells #[.int .u8 b.toNat, .int .u8 c.toNat] 5)) = .ok (.string ⟨#[b, c]⟩) (W.alloc (.cells #[.int .u8 b.toNat, .int .u8 c.toNat] 5)) := by
  have hB := Blk.new W 5 #[.int .u8 b.toNat, .int .u8 c.toNat]
  have := run_convert_bytes_back (P := Tryd.prog) (W.alloc (.cells #[.int .u8 b.toNat, .int .u8 c.toNat] 5)) 61 9 5 ⟨W.heap.size, 0, none⟩ 2 [b, c] Tryd.underlying61 Tryd.underlying5 Tryd.underlying9 (fun j hj => by
    match j, hj with
    | 0, _ => exact hB.cell 0
    | 1, _ => exact hB.cell 1
    | j + 2, hj => simp at hj; omega)
  exact this
theorem str_keyM (j : Nat) (hj : j < 200) (W : World) : (convert 61 9 (.slice (some ⟨W.heap.size, 0, none⟩) 2 2)).run Tryd.prog (W.alloc (.cells #[.int .u8 (97 + (j : Int) % 26), .int .u8 (97 + (j : Int) / 26)] 5)) = .ok (.string (keyM j)) (W.alloc (.cells #[.int .u8 (97 + (j : Int) % 26), .int .u8 (97 + (j : Int) / 26)] 5)) := by
  have h : ∀ i : Fin 200, (UInt8.ofNat (97 + i.val % 26)).toNat = 97 + i.val % 26 ∧ (UInt8.ofNat (97 + i.val / 26)).toNat = 97 + i.val / 26 := by decide +kernel
  obtain ⟨h1, h2⟩ := h ⟨j, hj⟩
  simp only at h1 h2
  have h3 := str_two W (UInt8.ofNat (97 + j % 26)) (UInt8.ofNat (97 + j / 26))
  rw [h1, h2] at h3
  have e1 : ((97 + j % 26 : Nat) : Int) = 97 + (j : Int) % 26 := by omega
  have e2 : ((97 + j / 26 : Nat) : Int) = 97 + (j : Int) / 26 := by omega
  rw [e1, e2] at h3
  exact h3

/-- A row of texts is no part of a dict. -/
theorem Own9.now {W W' : World} {n0 p seed : Nat} {v : Value} {l : List (List UInt8)} {S : Nat → Prop} {m : ByteArray → Option Int} {n : Sh} (h : Own9 W n0 v l) (g : IsNow S W p seed m n W') (hS : ∀ k, S k → CellB tyI W k) : Own9 W' n0 v l := by
  refine ⟨h.1, ?_⟩
  rcases h.2 with hn | ⟨b, cap, cur, rfl, hb, hg, rest⟩
  · exact .inl hn
  · exact .inr ⟨b, cap, cur, rfl, hb, (g.2.block b (Array.getElem?_eq_some_iff.1 hg).1 (fun hs => by
      obtain ⟨t, c, ht, hb⟩ := hS b hs
      have := Blk.ty (show Blk W b 9 cur from hg) hb
      subst this
      revert ht
      unfold tyI
      decide)).trans hg, rest⟩
theorem Own9.cell {W : World} {n0 : Nat} {v : Value} {l : List (List UInt8)} (h : Own9 W n0 v l) (k : Nat) (e : v.ownBlock = some k) : n0 ≤ k ∧ ¬ CellB tyI W k := by
  refine ⟨(World.ownsRow.lt h k e).1, ?_⟩
  rintro ⟨t, c, ht, hb⟩
  rcases h.2 with ⟨rfl, _⟩ | ⟨b, cap, cur, rfl, _, hg, _⟩
  · simp [Value.ownBlock] at e
  · obtain rfl : b = k := by simpa [Value.ownBlock] using e
    have := Blk.ty (show Blk W b 9 cur from hg) hb
    subst this
    revert ht
    unfold tyI
    decide
/-- A row of texts grows: the dict stays. -/
theorem Alone.grown {w W W' : World} {p seed : Nat} {m : ByteArray → Option Int} {n : Sh} {row : Option Nat} (h : Alone w p seed m n W) (g : W.grownBy W' row) (hr : ∀ k, row = some k → w.heap.size ≤ k ∧ ¬ CellB tyI W k) : Alone w p seed m n W' := by
  refine ⟨(h.1.far (Far.of_grown (S := fun k => row = some k) g (fun k e => .inl e)) (fun k hk e => (hr k e).2 hk.2)).wide (fun k hk => ⟨hk.1, hk.2.same (g.block k hk.2.lt (fun e => (hr k e.symm).2 hk.2))⟩) (fun _ hk => hk.2), h.2.grown g h.2.size (fun k e => (hr k e).1)⟩
theorem frontC_0 : frontC 0 = 0 := by unfold frontC; rw [Nat.zero_mod]; exact turn_zero
theorem front0V : Value.int .u32 0 = Value.int .u32 (frontC 0 : Nat) := by
  have h := frontC_0
  generalize frontC 0 = x at *
  subst h
  rfl
theorem frontEV : Value.int .u32 (frontC 4294967296 : Nat) = Value.int .u32 0 := by
  have h : frontC 4294967296 = 0 := by unfold frontC; rw [Nat.mod_self]; exact turn_zero
  generalize frontC 4294967296 = x at *
  subst h
  rfl
theorem keyB_ne {a b : List UInt8} (h : a ≠ b) : ((keyB a).toList == (keyB b).toList) = false := by
  rw [ByteArray.toList_eq, ByteArray.toList_eq, keyB_list, keyB_list]
  simpa using h
theorem nodup_ne {L : List (List UInt8)} (h : L.Nodup) {x y : Nat} (hx : x < L.length) (hy : y < x) : L[x] ≠ L[y]'(by omega) := by
  intro e
  have := (List.nodup_iff_pairwise_ne.1 h)
  have h2 := List.pairwise_iff_getElem.1 this y x (by omega) hx hy
  exact h2 e.symm
theorem iff_next {i F u : Nat} (hu : 4194304 ≤ u) : i + 1 = 0 ↔ F + u = 0 := ⟨fun h => absurd h (Nat.succ_ne_zero _), fun h => absurd h (by omega)⟩
theorem le_next {i F u : Nat} (hu : 4194304 ≤ u) (h : i * 4194304 ≤ F) : (i + 1) * 4194304 ≤ F + u := by rw [Nat.add_mul, Nat.one_mul]; exact Nat.add_le_add h hu
theorem frontC_end : frontC 4294967296 = 0 := by unfold frontC; rw [Nat.mod_self]; exact turn_zero
/-- The texts of a row, one by one. -/
theorem Own9.form {W : World} {n0 : Nat} {v : Value} {l : List (List UInt8)} (h : Own9 W n0 v l) : ∃ ua ucap, v = .slice ua l.length ucap ∧ ∀ t (ht : t < l.length), ∃ g, ua = some ⟨g, 0, none⟩ ∧ W.cell? ⟨g, t, none⟩ = some (.string (keyB l[t])) := by
  have hO := h
  rcases h.2 with ⟨h1, h2⟩ | ⟨g, cp, cur, h1, _, hgb, _⟩
  · exact ⟨none, 0, by rw [h2]; exact h1, fun t ht => by omega⟩
  · refine ⟨_, cp, h1, fun t ht => ⟨g, rfl, ?_⟩⟩
    unfold Own9 at hO
    rw [h1] at hO
    have := World.ownsRow.cellAt hO t (by omega)
    rw [this, List.getElem?_map, List.getElem?_eq_getElem ht]
    rfl

set_option maxRecDepth 100000 in
set_option maxHeartbeats 8000000 in
theorem moves_walk (seed : Nat) (hsd : seed < 4294967296) (nn : Int) (hnn : -9223372036854775808 ≤ nn ∧ nn ≤ 9223372036854775807) (a : Option Addr) (cap : Nat) (l : List Int) (_ : l.length ≤ 9223372036854775807) (_ : True)
    (w : World) (hEnv : Env w) (hE : Nums w a l) : Calls Tryd.prog 9 #[.int .u32 seed, .int .i64 nn, .slice a l.length cap] w fun e w' => e = .returned (.bool true) ∧ Below w.heap.size w w' := by
  have HE := Lib.hid hE
  have HV := Lib.hid hEnv
  clear hE
  by_cases hout : nn < 0 ∨ 200 < nn
  · have HSH := Lib.hid (shown_any w hEnv)
    clear hEnv
    rcases hout with h1 | h1
    · go_enter Tryd.func9, Tryd.ntmps9
      go_wp2_with fail
      refine HSH.out.mono ?_
      rintro e w1 ⟨rfl, hb1⟩
      go_wp2
      go_ret
      exact ⟨rfl, hb1⟩
    · go_enter Tryd.func9, Tryd.ntmps9
      go_wp2_with fail
      refine HSH.out.mono ?_
      rintro e w1 ⟨rfl, hb1⟩
      have h2 : ¬ nn < 0 := by omega
      go_wp2
      go_ret
      exact ⟨rfl, hb1⟩
  · obtain ⟨n, rfl⟩ : ∃ n : Nat, nn = n := ⟨nn.toNat, by omega⟩
    have hn200 : n ≤ 200 := by omega
    have h1 : ¬ (n : Int) < 0 := by omega
    have h2 : ¬ (200 : Int) < n := by omega
    clear hout hnn
    go_enter Tryd.func9, Tryd.ntmps9
    go_wp2_with fail
    refine (shown_any _ HV.out).mono ?_
    rintro e w1 ⟨rfl, hb1⟩
    have HB1 := Lib.hid hb1
    clear hb1 hEnv
    go_wp2_with fail
    refine (new_is seed _).mono ?_
    rintro e w2 ⟨p, rfl, h2, hb2⟩
    have hA := Alone.new HB1.out h2 hb2
    have HA := Lib.hid hA
    clear h2 hb2 hA
    go_wp2
    go_loopw [9] (fun i wr => ∃ (j : Nat) (m : ByteArray → Option Int) (sh : Sh), i = .int .i64 j ∧ j ≤ n ∧ Alone w p seed m sh wr ∧ sh.n = j ∧ sh.small ∧ ∀ k, (m k).isSome = true → ∃ t, t < j ∧ k = keyM t) (fun i _ => n - (intOf i).toNat)
    case atStart => exact ⟨0, _, _, rfl, by omega, HA.out, rfl, ⟨by show 4 ≤ 1024; omega, by show 0 ≤ 1024; omega⟩, fun k hk => by simp at hk⟩
    case round =>
      obtain ⟨j, m, sh, rfl, hj, hA, hsn, hsm, hks⟩ := hrel
      by_cases hlt : j < n
      · have hno : (m (keyM j)).isSome = false := by
          cases hh : (m (keyM j)).isSome with
          | false => rfl
          | true =>
            obtain ⟨t, ht, he⟩ := hks _ hh
            have := keyM_inj ⟨j, by omega⟩ ⟨t, by omega⟩ he
            simp at this
            omega
        have HAA := Lib.hid hA
        have HKS := Lib.hid hks
        have HSM := Lib.hid hsm
        have hcv := str_keyM j (by omega) wr
        have hbz := (Below.refl wr.heap.size wr).alloc (Nat.le_refl _) (Obj.cells #[Value.int IntKind.u8 (97 + (j : Int) % 26), Value.int IntKind.u8 (97 + (j : Int) / 26)] 5)
        have hAz := HAA.out.later hbz
        have HS := Lib.hid (set_is hsd hAz.1 (by omega) (keyM j) (by show 2 ≤ _; omega) j)
        rw [hno] at HS
        have HAZ := Lib.hid hAz
        clear hA hks hsm hno hAz hbz HAA
        go_wp2_with fail
        (with_reducible refine HS.out.mono ?_)
        rintro e w4 ⟨rfl, h4⟩
        have hA4 := Lib.hid (HAZ.out.now h4)
        clear h4 HS HAZ
        go_wp2
        refine ⟨⟨j + 1, _, _, by go_num, by omega, hA4.out, ?_, small_set HSM.out (by omega) false, fun k hk => ?_⟩, by simp [intOf]; omega⟩
        · rw [shset_n]; show sh.n + 1 = j + 1; omega
        · by_cases hkk : k = keyM j
          · exact ⟨j, by omega, hkk⟩
          · unfold putI at hk
            rw [if_neg hkk] at hk
            obtain ⟨t, ht, he⟩ := HKS.out k hk
            exact ⟨t, by omega, he⟩
      · obtain rfl : j = n := by omega
        have HAA := Lib.hid hA
        have HSM := Lib.hid hsm
        have hB0 : Below w.heap.size w wr := hA.2
        have HB0 := Lib.hid hB0
        clear hA hks hsm HB1 HA hlt hB0
        go_upto_region 12 with fail
        go_loopw [10, 11, 12] (fun lv cv iv wr => ∃ (i F : Nat) (Tl : List (List UInt8)) (sh' : Sh), iv = .int .i64 i ∧ cv = .int .u32 (frontC F) ∧ F ≤ 4294967296 ∧ (i = 0 ↔ F = 0) ∧ i * 4194304 ≤ F ∧ Own9 wr w.heap.size lv Tl ∧ Scanned seed m F Tl ∧ Alone w p seed m sh' wr ∧ sh'.n = j ∧ sh'.small ∧ F % unitN sh'.least = 0) (fun _ _ iv _ => 2000 - (intOf iv).toNat)
        case atStart => exact ⟨0, 0, [], sh, rfl, front0V, Nat.zero_le _, Iff.rfl, Nat.zero_le _, World.ownsRow_nil _ _ _ _, Scanned.start _ _, HAA.out, hsn, HSM.out, Nat.zero_mod _⟩
        case round =>
          clear HAA HSM hsn
          obtain ⟨i, F, Tl, sh', rfl, rfl, hF, hi0, hiF, hO, hT, hA, hsn, hsm, hFu⟩ := hrel
          have hcl := frontC_lt F
          have hsl := hT.len hA.1
          rcases Nat.lt_or_ge F 4294967296 with hF1 | hF1
          · obtain ⟨l1, l2⟩ := least_ok hA.1 hsm
            obtain ⟨u1, u2⟩ := unit_facts _ l1 l2
            obtain ⟨x1, x2⟩ := frontC_next _ F l1 hF1 hFu
            have hEw : Env wr := HV.out.below hA.2
            have hSC := scan_is hA.1 (by omega) hsm (frontC F) hcl hEw
            rw [x1, frontC_pos F hF1] at hSC
            have HSC := Lib.hid hSC
            have hi1 : (i : Int) < 3000 := by omega
            have hi2 : i < 2000 := by omega
            have hne : i ≠ 0 → frontC F ≠ 0 := fun h0 e => by
              have h1 := frontC_zero F e
              have h2 : F ≠ 0 := fun e => h0 (hi0.2 e)
              omega
            have HNE := Lib.hid hne
            have HO := Lib.hid hO
            have HT := Lib.hid hT
            have HAA := Lib.hid hA
            have HSM := Lib.hid hsm
            have HFU := Lib.hid hFu
            have HU := Lib.hid u2
            have HX := Lib.hid x2
            have HL1 := Lib.hid l1
            have HIF := Lib.hid hiF
            have HI0 := Lib.hid hi0
            clear hSC hne hO hT hA hsm hFu u1 u2 x1 x2 l1 l2 hEw hiF hi0 hF
            have hi01 : (((i : Int) == 0) = true) ∨ (((i : Int) == 0) = false ∧ (((frontC F : Nat) : Int) != 0) = true) := by
              by_cases h0 : i = 0
              · exact .inl (by simpa using h0)
              · exact .inr ⟨by simpa using h0, by have := HNE.out h0; simpa using this⟩
            generalize hc : frontC F = c at *
            have HC := Lib.hid hc
            clear hc HNE
            rcases hi01 with h0 | ⟨h0, h0'⟩
            all_goals (
              go_wp2_with fail
              (with_reducible refine HSC.out.mono ?_)
              rintro e w4 ⟨uu, L, rfl, hu, hb4, hTL⟩
              have hO4 := HO.out.below hb4
              have hA4 := HAA.out.later hb4
              have hT4 := HT.out.next (by have := HU.out; omega) HFU.out hTL
              have hlen := (hT4.len hA4.1).1
              rw [List.length_append] at hlen
              have hz4 := hb4.size
              have hzr := HAA.out.2.size
              obtain ⟨v5, w5, hrun, hO5, hg5⟩ := hO4.join hu (by omega) (by omega)
              have hA5 := hA4.grown hg5 (fun k e => hO4.cell k e)
              have hb5 := hA5.2
              have HO5 := Lib.hid hO5
              have HA5 := Lib.hid hA5
              have HT4 := Lib.hid hT4
              have HF2 : Hid ((F + unitN sh'.least) % unitN sh'.least = 0) := Lib.hid (by rw [Nat.add_mod_right]; exact HFU.out)
              have HEW := HE.out.below hb5
              have hnx := frontC_lt (F + unitN sh'.least)
              generalize hd : frontC (F + unitN sh'.least) = d at *
              have HD := Lib.hid hd
              clear hd hA4 hT4 hO4 hu hO5 hg5 hA5 HO HAA HSC hb4 hTL HT HFU hb5
              by_cases hst : i < l.length ∧ i < 100
              · obtain ⟨hs1, hs2⟩ := hst
                obtain ⟨bb, off, rfl, cx⟩ := HEW i hs1
                have hs1' : (i : Int) < l.length := by omega
                have hs2' : (i : Int) < 100 := by omega
                generalize l[i] = x at *
                have hq0 : 0 ≤ (IntKind.u64.wrap x).tmod 21 := by rw [IntKind.wrap_u64]; have h9 : 0 ≤ x % 18446744073709551616 := Int.emod_nonneg _ (by decide); exact Int.tmod_nonneg _ h9
                have hq1 : (IntKind.u64.wrap x).tmod 21 < 21 := by exact Int.tmod_lt_of_pos _ (by decide)
                generalize hqq : (IntKind.u64.wrap x).tmod 21 = q at *
                have hST := Lib.hid (step_is HA5.out.1 (by omega) q)
                clear HEW
                go_wp2_with (first | fail | (at_builtin; refine wpList_append_ran rfl _ _ 38 38 rfl rfl rfl hrun ?_))
                (with_reducible refine hST.out.mono ?_)
                rintro e w6 ⟨rfl, h6⟩
                have hA6 := Lib.hid (HA5.out.now h6)
                have hO6 := Lib.hid (HO5.out.now h6 (fun k hk => hk.2))
                clear h6 hST
                go_wp2
                refine ⟨⟨i + 1, F + unitN sh'.least, Tl ++ L, Sh.steps q.toNat sh', by go_num, by rw [HD.out], HX.out, iff_next HU.out, le_next HU.out HIF.out, hO6.out, HT4.out, hA6.out, by rw [steps_n]; exact hsn, small_steps HSM.out _, ?_⟩, by simp [intOf]; omega⟩
                exact unit_finer HL1.out (least_ok hA6.out.1 (small_steps HSM.out _)).1 (least_steps _ _) HF2.out
              · have hex : (l.length : Int) ≤ i ∨ ((i : Int) < l.length ∧ ¬ (i : Int) < 100) := by omega
                clear HEW hst
                rcases hex with hex | ⟨hex, hex2⟩
                all_goals (
                  go_wp2_with (first | fail | (at_builtin; refine wpList_append_ran rfl _ _ 38 38 rfl rfl rfl hrun ?_))
                  refine ⟨⟨i + 1, F + unitN sh'.least, Tl ++ L, sh', by go_num, by rw [HD.out], HX.out, iff_next HU.out, le_next HU.out HIF.out, HO5.out, HT4.out, HA5.out, hsn, HSM.out, HF2.out⟩, by simp [intOf]; omega⟩))
          · obtain rfl : F = 4294967296 := by omega
            have hlen := hT.len hA.1
            have hl2 := hlen.2 rfl
            have hnd := hT.nodup
            have hi01 : ((i : Int) == 0) = false := by
              have : i ≠ 0 := fun e => by have := hi0.1 e; omega
              simpa using this
            rw [frontEV]
            have HAA := Lib.hid hA
            obtain ⟨ua, ucap, rfl, hat⟩ := hO.form
            have HAT := Lib.hid hat
            have HND := Lib.hid hnd
            have HLN := Lib.hid (hl2.trans hsn)
            clear hA hT hO hat hFu hsm hi0 hiF hlen hl2 hnd hcl hsl hsn
            have hlj : Tl.length = j := HLN.out
            subst hlj
            have HB := Lib.hid HAA.out.2
            generalize wr = wa at *
            go_upto_region 20 with fail
            go_loopw [15] (fun iv wz => ∃ x : Nat, iv = .int .i64 x ∧ x ≤ Tl.length ∧ Below wa.heap.size wa wz ∧ ∀ a, wz.cell? a = wa.cell? a) (fun iv _ => Tl.length - (intOf iv).toNat)
            case atStart => exact ⟨0, rfl, by omega, Below.refl _ _, fun _ => rfl⟩
            case round =>
              obtain ⟨x, rfl, hx, hbz, hcz⟩ := hrel
              by_cases hxl : x < Tl.length
              · have hxi : (x : Int) < Tl.length := by omega
                obtain ⟨g, rfl, hcx⟩ := HAT.out x hxl
                have HBZ := Lib.hid hbz
                have HCZ := Lib.hid hcz
                have HCX := Lib.hid hcx
                clear hbz hcz hcx
                go_upto_region 23 with fail
                go_loopw [16] (fun iv wz => ∃ y : Nat, iv = .int .i64 y ∧ y ≤ x ∧ Below wa.heap.size wa wz ∧ ∀ a, wz.cell? a = wa.cell? a) (fun iv _ => x - (intOf iv).toNat)
                case atStart => exact ⟨0, rfl, by omega, HBZ.out, HCZ.out⟩
                case round =>
                  obtain ⟨y, rfl, hy, hby, hcy⟩ := hrel
                  by_cases hyl : y < x
                  · obtain ⟨g', he, hcy2⟩ := HAT.out y (by omega)
                    obtain rfl : g = g' := by injection he with he; injection he
                    have hcx2 := HCX.out
                    rw [← hcy] at hcx2 hcy2
                    have hne := keyB_ne (nodup_ne HND.out hxl hyl)
                    generalize keyB Tl[x] = sx at *
                    generalize keyB (Tl[y]'(by omega)) = sy at *
                    have HBY := Lib.hid hby
                    have HCY := Lib.hid hcy
                    have hyi : (y : Int) < x := by omega
                    have hyi2 : (y : Int) < Tl.length := by omega
                    clear hby hcy he
                    go_wp2
                    go_quiet (fail)
                    go_wp2
                    exact ⟨⟨y + 1, by go_num, by omega, HBY.out.trans ((below_drewN (Below.refl _ _) nq).mono HBY.out.size), fun a => HCY.out a⟩, by simp [intOf]; omega⟩
                  · obtain rfl : y = x := by omega
                    have HBY := Lib.hid hby
                    have HCY := Lib.hid hcy
                    clear hby hcy
                    go_wp2
                    exact ⟨⟨y + 1, by go_num, by omega, HBY.out, HCY.out⟩, by simp [intOf]; omega⟩
              · obtain rfl : x = Tl.length := by omega
                have HBZ := Lib.hid hbz
                clear hbz hcz
                go_wp2
                go_ret
                exact ⟨rfl, HB.out.trans (HBZ.out.mono HB.out.size)⟩
end Go.Proofs.YtlfhiolkbnhinaaDoor
