/- Whatever the levels, the same is told. -/
import Derived.Test.YtidiaomeahoapaaTwo
import Derived.Test.YtidiaomeahoapaaNumbers
import Derived.Deep.RegionHeld
namespace Go.Proofs.Ytidiaomeahoapaa
open Go.RowKit Go.Shelf
attribute [local go_sem] Oper.semAt_some

theorem pos_e2 (M : List En) (m : ByteArray) (s : Int) : posM M m s = ((M.map e2).takeWhile fun z => lessE z.1 z.2 m s).length := by
  unfold posM
  induction M with
  | nil => rfl
  | cons y M ih =>
    rw [List.map_cons]
    by_cases h : lessE y.1 y.2.1 m s = true
    · simp [e2, h]; simpa [e2] using ih
    · simp [e2, h]
theorem has_e2 (M : List En) (m : ByteArray) (s : Int) : hasM M m s = match (M.map e2)[posM M m s]? with
    | some z => decide (z.1 = m ∧ z.2 = s)
    | none => false := by
  unfold hasM
  rw [List.getElem?_map]
  cases M[posM M m s]? <;> rfl
theorem pos_eq {M N : List En} (h : M.map e2 = N.map e2) (m : ByteArray) (s : Int) : posM M m s = posM N m s := by rw [pos_e2, pos_e2, h]
theorem has_eq {M N : List En} (h : M.map e2 = N.map e2) (m : ByteArray) (s : Int) : hasM M m s = hasM N m s := by rw [has_e2, has_e2, h, pos_eq h]
theorem len_eq {M N : List En} (h : M.map e2 = N.map e2) : M.length = N.length := by simpa using congrArg List.length h
theorem insM_eq {M N : List En} (h : M.map e2 = N.map e2) (m : ByteArray) (s : Int) (l l' : Nat) : (insM M m s l).map e2 = (insM N m s l').map e2 := by
  unfold insM
  rw [List.map_append, List.map_append, List.map_cons, List.map_cons, List.map_take, List.map_take, List.map_drop, List.map_drop, h, pos_eq h]
  rfl
theorem cut_eq {M N : List En} (h : M.map e2 = N.map e2) (a b : Nat) : (cutM M a b).map e2 = (cutM N a b).map e2 := by
  unfold cutM
  rw [List.map_append, List.map_append, List.map_take, List.map_take, List.map_drop, List.map_drop, h]
theorem res_eq {M N : List En} (h : M.map e2 = N.map e2) (x : Ac) : resM x M = resM x N := by
  unfold resM
  rw [has_eq h, pos_eq h, len_eq h]
theorem eff_eq {M N : List En} (h : M.map e2 = N.map e2) (x : Ac) (l l' : Nat) : (effM x l M).map e2 = (effM x l' N).map e2 := by
  unfold effM
  rw [has_eq h, pos_eq h, len_eq h]
  split
  · split
    · exact h
    · exact insM_eq h _ _ _ _
  · split
    · split
      · exact cut_eq h _ _
      · exact h
    · split
      · exact h
      · split
        · exact cut_eq h _ _
        · exact h

/-- An act in memory. -/
abbrev AcS (b o : Nat) (x : Ac) (W : World) : Prop :=
  W.cell? ⟨b, o, none⟩ = some (.int .i64 x.d) ∧ W.cell? ⟨b, o + 1, none⟩ = some (.string x.m) ∧ W.cell? ⟨b, o + 2, none⟩ = some (.int .i64 x.s) ∧ W.cell? ⟨b, o + 3, none⟩ = some (.int .i64 x.l) ∧ W.cell? ⟨b, o + 4, none⟩ = some (.int .i64 x.f) ∧ W.cell? ⟨b, o + 5, none⟩ = some (.int .i64 x.t)
theorem Acts.acS {w : World} {a : Option Addr} {l : List Ac} (h : Acts w a l) {i : Nat} {x : Ac} (hx : l[i]? = some x) : ∃ b off, a = some ⟨b, off, none⟩ ∧ ∀ W, Below w.heap.size w W → AcS b (off + i * 6) x W := by
  obtain ⟨hi, rfl⟩ := List.getElem?_eq_some_iff.1 hx
  obtain ⟨b, off, e, hc⟩ := h i hi
  refine ⟨b, off, e, fun W hb => ?_⟩
  have key : ∀ j u, (l[i]).cells[j]? = some u → W.cell? ⟨b, off + i * 6 + j, none⟩ = some u := fun j u hj => by
    have := hc j u hj
    exact (hb.cell (World.block_lt_of_cell? w _ this)).trans this
  exact ⟨key 0 _ rfl, key 1 _ rfl, key 2 _ rfl, key 3 _ rfl, key 4 _ rfl, key 5 _ rfl⟩

theorem done_lev {w : World} {p : Nat} {L : List Nd} (h : Ls w p L) (hN : L.length ≤ 100000) (x : Ac) (hx : x.Fit) (l : Nat) (hl : 0 < l ∧ l ≤ 32) (v : Int) (hv : (l : Int) = v) (R : Int) (hR : resM x (L.map er) = R) :
    Calls Try.prog 23 #[.pointer (some ⟨p, 0, none⟩), .agg #[.int .i64 x.d, .string x.m, .int .i64 x.s, .int .i64 x.l, .int .i64 x.f, .int .i64 x.t], .int .i64 v] w fun e w' => e = .returned (.int .i64 R) ∧ Act1 w w' p L (effM x l (L.map er)) := by
  subst hv hR
  exact done_any h hN x hx l hl

theorem lev_wrap (n : Int) : IntKind.i64.wrap (1 + bits .and .i64 n 31) = ((lv n + 1 : Nat) : Int) := by
  rw [bits_31]
  have := lv_lt n
  rw [IntWalk.i64_in _ (by omega)]
  omega

/-- Two lists behind the same acts. -/
structure LevAt (w : World) (p q k : Nat) (W : World) : Prop where
  ex : ∃ K J, (K.map er).map e2 = (J.map er).map e2 ∧ Pair2 w.heap.size W p K q J ∧ K.length ≤ k
  below : Below w.heap.size w W
theorem LevAt.start {w w1 w2 w3 : World} (hb1 : Below w.heap.size w w1) (hb2 : Below w1.heap.size w1 w2) (h2 : Ls w2 w1.heap.size []) (hb3 : Below w2.heap.size w2 w3) (h3 : Ls w3 w2.heap.size []) : LevAt w w1.heap.size w2.heap.size 0 w3 := by
  have z1 := hb1.size
  have z2 := hb2.size
  have b2 := hb1.trans (hb2.mono z1)
  have key : ∀ p k, isB (hd p :: []) k → k = p := fun p k hk => by
    obtain ⟨x, hx, e⟩ := hk
    simp at hx
    subst hx
    exact e.symm
  refine ⟨⟨[], [], rfl, ⟨h2.later hb3, h3, fun k hk => ?_, fun k hk => ?_, fun k hk hk2 => ?_⟩, Nat.le_refl _⟩, b2.trans (hb3.mono b2.size)⟩
  · rw [key _ _ hk]; exact z1
  · rw [key _ _ hk]; exact Nat.le_trans z1 z2
  · have e1 := key _ _ hk
    have e2 := key _ _ hk2
    have := h2.sk.lt (k := w1.heap.size) ⟨_, List.mem_cons_self .., rfl⟩
    omega
theorem LevAt.next {w W1 W2 : World} {p q k lx ly : Nat} {K J K2 : List Nd} (x : Ac) (he : (K.map er).map e2 = (J.map er).map e2) (hk : K.length ≤ k) (hb : Below w.heap.size w W1) (hK : K2.map er = effM x lx (K.map er)) (hp : Pair2 w.heap.size W1 p K2 q J) (ha : Act1 W1 W2 q J (effM x ly (J.map er))) :
    ∃ J2, K2.length = J2.length ∧ Pair2 w.heap.size W2 p K2 q J2 ∧ LevAt w p q (k + 1) W2 := by
  obtain ⟨J2, h1, h2⟩ := hp.swap.act hb.size ha
  have h3 : (K2.map er).map e2 = (J2.map er).map e2 := by rw [hK, h1]; exact eff_eq he x lx ly
  refine ⟨J2, by simpa using len_eq h3, h2.swap, ⟨K2, J2, h3, h2.swap, ?_⟩, hb.trans (hp.swap.far hb.size ha)⟩
  have h4 := congrArg List.length hK
  have h5 := effM_len x lx (K.map er)
  simp only [List.length_map] at h4 h5
  omega

set_option maxRecDepth 100000 in
set_option maxHeartbeats 16000000 in
theorem levels_walk (a : Option Addr) (cap : Nat) (l : List Ac) (hn : l.length ≤ 9223372036854775807) (hu : ∀ x ∈ l, x.Fit) (ax : Option Addr) (capx : Nat) (lx : List Int) (ay : Option Addr) (capy : Nat) (ly : List Int) (w : World) (hA : Acts w a l) (hX : Ints w ax lx) (hY : Ints w ay ly) :
    Calls Try.prog 4 #[.slice a l.length cap, .slice ax lx.length capx, .slice ay ly.length capy] w fun e w' => e = .returned (.bool true) ∧ Below w.heap.size w w' := by
  have H10 := Lib.hid (shown_any w)
  have HN := fun w => Lib.hid (new_any w)
  have HU := Lib.hid hu
  have HA := Lib.hid hA
  have HX := Lib.hid hX
  have HY := Lib.hid hY
  clear hu hA hX hY
  go_enter Try.func4, Try.ntmps4
  go_wp2_with fail
  refine H10.out.mono ?_
  rintro e w1 ⟨rfl, hb1⟩
  have B1 := Lib.hid hb1
  clear H10 hb1
  go_wp2_with fail
  refine (HN w1).out.mono ?_
  rintro e w2 ⟨rfl, hb2, h2⟩
  have B2 := Lib.hid hb2
  have L2 := Lib.hid h2
  clear hb2 h2
  go_wp2_with fail
  refine (HN w2).out.mono ?_
  rintro e w3 ⟨rfl, hb3, h3⟩
  have HS := Lib.hid (LevAt.start B1.out B2.out L2.out hb3 h3)
  clear hb3 h3 B1 B2 L2 HN
  generalize w1.heap.size = p at *
  generalize w2.heap.size = q at *
  go_wp2_with fail
  go_loopw [10] (fun i wr => ∃ (k : Nat), i = .int .i64 k ∧ k ≤ min l.length 120 ∧ LevAt w p q k wr) (fun i _ => 120 - (intOf i).toNat)
  case atStart => exact ⟨0, rfl, by omega, HS.out⟩
  case round =>
    obtain ⟨k, rfl, hk, ⟨⟨K, J, he, hp, hKk⟩, hb⟩⟩ := hrel
    have hJk : J.length ≤ k := by
      have := len_eq he
      simp only [List.length_map] at this
      omega
    by_cases hlt : k < l.length ∧ k < 120
    · obtain ⟨hk1, hk2⟩ := hlt
      have hx : l[k]? = some l[k] := List.getElem?_eq_getElem hk1
      obtain ⟨b, off, rfl, hc⟩ := HA.out.acS hx
      have hfit := HU.out _ (List.getElem_mem hk1)
      generalize l[k] = x at *
      have HSX := Lib.hid hc
      have hS1 : AcS b (off + k * 6) x wr.drew := hc _ (hb.trans ((drewB wr 1).mono hb.size))
      obtain ⟨S1⟩ := Lib.hid hS1
      have hk3 : (k : Int) < l.length := by omega
      have hk4 : (k : Int) < 120 := by omega
      have HD1 := fun lx hlx v hv => Lib.hid (done_lev (hp.one.later (drewB wr 1)) (by omega) x hfit lx hlx v hv _ rfl)
      have HP := Lib.hid (hp.later (drewB wr 1))
      have HB := Lib.hid (hb.trans ((drewB wr 1).mono hb.size))
      have HR := Lib.hid (res_eq he x)
      have HE := Lib.hid he
      have HKk := Lib.hid hKk
      have HJk := Lib.hid hJk
      have HF := Lib.hid hfit
      have HB0 := Lib.hid hb
      clear hx hc hfit hp hb he hKk hJk HS HA HU
      generalize resM x (K.map er) = R at *

      by_cases hx1 : k < lx.length
      · by_cases hy1 : k < ly.length
        · skip
          obtain ⟨b1, o1, rfl, q1⟩ := HX.out k _ (List.getElem?_eq_getElem hx1)
          have p1 : wr.cell? ⟨b1, o1 + k, none⟩ = _ := (HB0.out.cell (World.block_lt_of_cell? w _ q1)).trans q1
          generalize lx[k] = nx at *
          have hwx : IntKind.i64.wrap (1 + bits .and .i64 nx 31) = ((lv nx + 1 : Nat) : Int) := lev_wrap nx
          have hx2 : (k : Int) < lx.length := by omega
          have HD := HD1 (lv nx + 1) (by have := lv_lt nx; omega) ((lv nx : Int) + 1) (by omega)
          clear q1
          obtain ⟨b2, o2, rfl, q2⟩ := HY.out k _ (List.getElem?_eq_getElem hy1)
          have p2 : wr.cell? ⟨b2, o2 + k, none⟩ = _ := (HB0.out.cell (World.block_lt_of_cell? w _ q2)).trans q2
          generalize ly[k] = ny at *
          have hwy : IntKind.i64.wrap (1 + bits .and .i64 ny 31) = ((lv ny + 1 : Nat) : Int) := lev_wrap ny
          have hy2 : (k : Int) < ly.length := by omega
          have HL := lv_lt ny
          have HDY := fun W (h : Ls W q J) => Lib.hid (done_lev h (by have := HJk.out; omega) x HF.out (lv ny + 1) (by omega) ((lv ny : Int) + 1) (by omega) R HR.out.symm)
          clear q2
          clear HD1 hx1 hy1
          go_wp2_with fail
          go_region_held (AcS b (off + k * 6) x) (first | exact S1 | exact S2 | assumption)
            (first
              | (go_at_call_of 23 (Value.pointer (some ⟨p, 0, none⟩)); refine HD.out.mono ?_; rintro e w5 ⟨rfl, ha⟩
                 obtain ⟨K2, hK2, hp2⟩ := HP.out.act HB.out.size ha
                 have hb5 := HB.out.trans ((HP.out).far HB.out.size ha)
                 have S2 := HSX.out _ hb5
                 have HD2 := HDY _ hp2.two)
              | (go_at_call_of 23 (Value.pointer (some ⟨q, 0, none⟩)); refine HD2.out.mono ?_; rintro e w6 ⟨rfl, ha2⟩
                 obtain ⟨J2, hlen, hp3, hN⟩ := LevAt.next x HE.out HKk.out hb5 hK2 hp2 ha2
                 have S3 := HSX.out _ hN.below
                 have HLK := Lib.hid (len_any p K2 rfl hp3.one.sk)
                 have HLJ := Lib.hid (len_any q J2 rfl hp3.two.sk)
                 rw [← hlen] at HLJ)
              | (go_at_call_of 14 (Value.pointer (some ⟨p, 0, none⟩)); refine HLK.out.mono ?_; rintro e w7 ⟨rfl, rfl⟩)
              | (go_at_call_of 14 (Value.pointer (some ⟨q, 0, none⟩)); refine HLJ.out.mono ?_; rintro e w7 ⟨rfl, rfl⟩))
          all_goals (
            go_wp2_with fail
            exact ⟨⟨k + 1, by go_num, by omega, hN⟩, by simp [intOf]; omega⟩)
        · skip
          obtain ⟨b1, o1, rfl, q1⟩ := HX.out k _ (List.getElem?_eq_getElem hx1)
          have p1 : wr.cell? ⟨b1, o1 + k, none⟩ = _ := (HB0.out.cell (World.block_lt_of_cell? w _ q1)).trans q1
          generalize lx[k] = nx at *
          have hwx : IntKind.i64.wrap (1 + bits .and .i64 nx 31) = ((lv nx + 1 : Nat) : Int) := lev_wrap nx
          have hx2 : (k : Int) < lx.length := by omega
          have HD := HD1 (lv nx + 1) (by have := lv_lt nx; omega) ((lv nx : Int) + 1) (by omega)
          clear q1
          have hy2 : ¬ (k : Int) < ly.length := by omega
          have HDY := fun W (h : Ls W q J) => Lib.hid (done_lev h (by have := HJk.out; omega) x HF.out 32 (by omega) 32 rfl R HR.out.symm)
          clear HD1 hx1 hy1
          go_wp2_with fail
          go_region_held (AcS b (off + k * 6) x) (first | exact S1 | exact S2 | assumption)
            (first
              | (go_at_call_of 23 (Value.pointer (some ⟨p, 0, none⟩)); refine HD.out.mono ?_; rintro e w5 ⟨rfl, ha⟩
                 obtain ⟨K2, hK2, hp2⟩ := HP.out.act HB.out.size ha
                 have hb5 := HB.out.trans ((HP.out).far HB.out.size ha)
                 have S2 := HSX.out _ hb5
                 have HD2 := HDY _ hp2.two)
              | (go_at_call_of 23 (Value.pointer (some ⟨q, 0, none⟩)); refine HD2.out.mono ?_; rintro e w6 ⟨rfl, ha2⟩
                 obtain ⟨J2, hlen, hp3, hN⟩ := LevAt.next x HE.out HKk.out hb5 hK2 hp2 ha2
                 have S3 := HSX.out _ hN.below
                 have HLK := Lib.hid (len_any p K2 rfl hp3.one.sk)
                 have HLJ := Lib.hid (len_any q J2 rfl hp3.two.sk)
                 rw [← hlen] at HLJ)
              | (go_at_call_of 14 (Value.pointer (some ⟨p, 0, none⟩)); refine HLK.out.mono ?_; rintro e w7 ⟨rfl, rfl⟩)
              | (go_at_call_of 14 (Value.pointer (some ⟨q, 0, none⟩)); refine HLJ.out.mono ?_; rintro e w7 ⟨rfl, rfl⟩))
          all_goals (
            go_wp2_with fail
            exact ⟨⟨k + 1, by go_num, by omega, hN⟩, by simp [intOf]; omega⟩)
      · by_cases hy1 : k < ly.length
        · skip
          have hx2 : ¬ (k : Int) < lx.length := by omega
          have HD := HD1 1 (by omega) 1 rfl
          obtain ⟨b2, o2, rfl, q2⟩ := HY.out k _ (List.getElem?_eq_getElem hy1)
          have p2 : wr.cell? ⟨b2, o2 + k, none⟩ = _ := (HB0.out.cell (World.block_lt_of_cell? w _ q2)).trans q2
          generalize ly[k] = ny at *
          have hwy : IntKind.i64.wrap (1 + bits .and .i64 ny 31) = ((lv ny + 1 : Nat) : Int) := lev_wrap ny
          have hy2 : (k : Int) < ly.length := by omega
          have HL := lv_lt ny
          have HDY := fun W (h : Ls W q J) => Lib.hid (done_lev h (by have := HJk.out; omega) x HF.out (lv ny + 1) (by omega) ((lv ny : Int) + 1) (by omega) R HR.out.symm)
          clear q2
          clear HD1 hx1 hy1
          go_wp2_with fail
          go_region_held (AcS b (off + k * 6) x) (first | exact S1 | exact S2 | assumption)
            (first
              | (go_at_call_of 23 (Value.pointer (some ⟨p, 0, none⟩)); refine HD.out.mono ?_; rintro e w5 ⟨rfl, ha⟩
                 obtain ⟨K2, hK2, hp2⟩ := HP.out.act HB.out.size ha
                 have hb5 := HB.out.trans ((HP.out).far HB.out.size ha)
                 have S2 := HSX.out _ hb5
                 have HD2 := HDY _ hp2.two)
              | (go_at_call_of 23 (Value.pointer (some ⟨q, 0, none⟩)); refine HD2.out.mono ?_; rintro e w6 ⟨rfl, ha2⟩
                 obtain ⟨J2, hlen, hp3, hN⟩ := LevAt.next x HE.out HKk.out hb5 hK2 hp2 ha2
                 have S3 := HSX.out _ hN.below
                 have HLK := Lib.hid (len_any p K2 rfl hp3.one.sk)
                 have HLJ := Lib.hid (len_any q J2 rfl hp3.two.sk)
                 rw [← hlen] at HLJ)
              | (go_at_call_of 14 (Value.pointer (some ⟨p, 0, none⟩)); refine HLK.out.mono ?_; rintro e w7 ⟨rfl, rfl⟩)
              | (go_at_call_of 14 (Value.pointer (some ⟨q, 0, none⟩)); refine HLJ.out.mono ?_; rintro e w7 ⟨rfl, rfl⟩))
          all_goals (
            go_wp2_with fail
            exact ⟨⟨k + 1, by go_num, by omega, hN⟩, by simp [intOf]; omega⟩)
        · skip
          have hx2 : ¬ (k : Int) < lx.length := by omega
          have HD := HD1 1 (by omega) 1 rfl
          have hy2 : ¬ (k : Int) < ly.length := by omega
          have HDY := fun W (h : Ls W q J) => Lib.hid (done_lev h (by have := HJk.out; omega) x HF.out 32 (by omega) 32 rfl R HR.out.symm)
          clear HD1 hx1 hy1
          go_wp2_with fail
          go_region_held (AcS b (off + k * 6) x) (first | exact S1 | exact S2 | assumption)
            (first
              | (go_at_call_of 23 (Value.pointer (some ⟨p, 0, none⟩)); refine HD.out.mono ?_; rintro e w5 ⟨rfl, ha⟩
                 obtain ⟨K2, hK2, hp2⟩ := HP.out.act HB.out.size ha
                 have hb5 := HB.out.trans ((HP.out).far HB.out.size ha)
                 have S2 := HSX.out _ hb5
                 have HD2 := HDY _ hp2.two)
              | (go_at_call_of 23 (Value.pointer (some ⟨q, 0, none⟩)); refine HD2.out.mono ?_; rintro e w6 ⟨rfl, ha2⟩
                 obtain ⟨J2, hlen, hp3, hN⟩ := LevAt.next x HE.out HKk.out hb5 hK2 hp2 ha2
                 have S3 := HSX.out _ hN.below
                 have HLK := Lib.hid (len_any p K2 rfl hp3.one.sk)
                 have HLJ := Lib.hid (len_any q J2 rfl hp3.two.sk)
                 rw [← hlen] at HLJ)
              | (go_at_call_of 14 (Value.pointer (some ⟨p, 0, none⟩)); refine HLK.out.mono ?_; rintro e w7 ⟨rfl, rfl⟩)
              | (go_at_call_of 14 (Value.pointer (some ⟨q, 0, none⟩)); refine HLJ.out.mono ?_; rintro e w7 ⟨rfl, rfl⟩))
          all_goals (
            go_wp2_with fail
            exact ⟨⟨k + 1, by go_num, by omega, hN⟩, by simp [intOf]; omega⟩)
    · have hsame : K.map en = J.map en := by rw [en_er, en_er, he]
      have hlen : K.length = J.length := by simpa using congrArg List.length hsame
      have hKl : J.length ≤ 100000 := by omega
      have F1 := Lib.hid hsame
      have F4 := Lib.hid hb
      have F5 := Lib.hid hKl
      have HL1 := Lib.hid (len_any p K rfl hp.one.sk)
      have HL2 := fun W (hb : Below wr.heap.size wr W) => Lib.hid (len_any q J rfl (hp.two.later hb).sk)
      have HR1 := Lib.hid (all_ls hp.one (by omega))
      have HR2 := fun W (hb : Below wr.heap.size wr W) => Lib.hid (all_ls (hp.two.later hb) hKl)
      rw [hlen] at HL1 HR1
      have hcond : ¬ (k : Int) < l.length ∨ ((k : Int) < l.length ∧ ¬ (k : Int) < 120) := by omega
      clear hsame hp hb hKl HS hlt hk he hKk hJk hlen HA HU HX HY
      rcases hcond with hc | ⟨hc, hc2⟩
      · go_wp2_with fail
        refine HL1.out.mono ?_
        rintro e w6 ⟨rfl, he⟩
        rw [he]
        clear he HL1
        go_wp2_with fail
        refine HR1.out.mono ?_
        rintro e w7 ⟨r1, rfl, o1, b7⟩
        have HL2' := HL2 w7 b7
        have HR2' := HR2 w7 b7
        have O1 := Lib.hid o1
        have B7 := Lib.hid b7
        clear HL2 HR2 HR1 o1 b7
        go_wp2_with fail
        refine HL2'.out.mono ?_
        rintro e w8 ⟨rfl, he⟩
        rw [he]
        clear he HL2'
        go_wp2_with fail
        refine HR2'.out.mono ?_
        rintro e w9 ⟨r2, rfl, o2, b9⟩
        have hSm := same_any r1 r2 (J.map en) (by have := F5.out; simp; omega) w9 (by
          have := O1.out.ents.later b9
          rwa [F1.out] at this) o2.ents
        have HSm := Lib.hid hSm
        have B9 := Lib.hid (B7.out.trans (b9.mono B7.out.size))
        clear HR2' o2 b9 hSm O1 B7
        go_wp2_with fail
        refine HSm.out.mono ?_
        rintro e w10 ⟨rfl, b10⟩
        have b10' := B9.out.trans (b10.mono B9.out.size)
        have BE := Lib.hid (F4.out.trans (b10'.mono F4.out.size))
        clear b10 b10' HSm B9
        go_wp2_with fail
        go_returns
        exact ⟨rfl, BE.out⟩
      · go_wp2_with fail
        refine HL1.out.mono ?_
        rintro e w6 ⟨rfl, he⟩
        rw [he]
        clear he HL1
        go_wp2_with fail
        refine HR1.out.mono ?_
        rintro e w7 ⟨r1, rfl, o1, b7⟩
        have HL2' := HL2 w7 b7
        have HR2' := HR2 w7 b7
        have O1 := Lib.hid o1
        have B7 := Lib.hid b7
        clear HL2 HR2 HR1 o1 b7
        go_wp2_with fail
        refine HL2'.out.mono ?_
        rintro e w8 ⟨rfl, he⟩
        rw [he]
        clear he HL2'
        go_wp2_with fail
        refine HR2'.out.mono ?_
        rintro e w9 ⟨r2, rfl, o2, b9⟩
        have hSm := same_any r1 r2 (J.map en) (by have := F5.out; simp; omega) w9 (by
          have := O1.out.ents.later b9
          rwa [F1.out] at this) o2.ents
        have HSm := Lib.hid hSm
        have B9 := Lib.hid (B7.out.trans (b9.mono B7.out.size))
        clear HR2' o2 b9 hSm O1 B7
        go_wp2_with fail
        refine HSm.out.mono ?_
        rintro e w10 ⟨rfl, b10⟩
        have b10' := B9.out.trans (b10.mono B9.out.size)
        have BE := Lib.hid (F4.out.trans (b10'.mono F4.out.size))
        clear b10 b10' HSm B9
        go_wp2_with fail
        go_returns
        exact ⟨rfl, BE.out⟩
end Go.Proofs.Ytidiaomeahoapaa
