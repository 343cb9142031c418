/- The reference's entries. -/
import Derived.Test.YtfladbfniihfmaaRefScore
import Derived.Deep.RegionLaw
namespace Go.Proofs.Ytfladbfniihfmaa
open Go.RowKit Go.Shelf
attribute [local go_sem] Oper.semAt_some

def scoreU (l : List UInt8) : Int := l.foldl (fun m b => (m * 256 + b.toNat) % 18446744073709551616) 0
theorem scoreU_fold (l : List UInt8) : ∀ x y : Int, wrap64 x = y → wrap64 (l.foldl (fun m b => (m * 256 + (b.toNat : Int)) % 18446744073709551616) x) = l.foldl (fun m b => wrap64 (m * 256 + b.toNat)) y := by
  induction l with
  | nil => exact fun x y h => h
  | cons c l ih =>
    intro x y h
    refine ih _ _ ?_
    subst h
    show wrap64 ((x * 256 + (c.toNat : Int)) % 18446744073709551616) = wrap64 (wrap64 x * 256 + (c.toNat : Int))
    unfold wrap64
    omega
theorem scoreU_L (l : List UInt8) : wrap64 (scoreU l) = scoreL l := scoreU_fold l 0 0 (by unfold wrap64; omega)
theorem scoreU_take (l : List UInt8) (k : Nat) (b : Nat) (h : k < l.length) (hb : (l[k]).toNat = b) : scoreU (l.take (k + 1)) = (scoreU (l.take k) * 256 + b) % 18446744073709551616 := by
  rw [List.take_succ_eq_append_getElem h]
  unfold scoreU
  rw [List.foldl_append]
  simp only [List.foldl_cons, List.foldl_nil]
  rw [hb]
theorem scoreU_in (l : List UInt8) : 0 ≤ scoreU l ∧ scoreU l < 18446744073709551616 := by
  unfold scoreU
  rcases List.eq_nil_or_concat l with rfl | ⟨l, c, rfl⟩
  · simp
  · rw [List.concat_eq_append, List.foldl_append]
    simp only [List.foldl_cons, List.foldl_nil]
    omega

theorem or_lowU (x : Int) (b : Nat) (hb : b < 256) : bits .or .u64 (x * 256 % 18446744073709551616) b = (x * 256 + b) % 18446744073709551616 := by
  have h1 : ∀ n : Int, IntKind.u64.wrap n = n % 18446744073709551616 := fun n => by
    simp [IntKind.wrap, IntKind.bits, IntKind.signed]
  have hw : ∀ n : Int, BitVec.ofInt 64 (n % 18446744073709551616) = BitVec.ofInt 64 n := fun n => by
    apply BitVec.eq_of_toNat_eq
    simp only [BitVec.toNat_ofInt]
    congr 1
    omega
  have hx : BitVec.ofInt 64 (x * 256) = BitVec.ofInt 64 x <<< 8 := by
    apply BitVec.eq_of_toNat_eq
    simp only [BitVec.toNat_ofInt, BitVec.toNat_shiftLeft, Nat.shiftLeft_eq]
    omega
  have hz : BitVec.ofInt 64 (x * 256) &&& BitVec.ofInt 64 (b : Int) = 0#64 := by
    rw [hx]
    apply BitVec.eq_of_getLsbD_eq
    intro i hi
    rw [BitVec.getLsbD_and, BitVec.getLsbD_shiftLeft]
    by_cases h8 : i < 8
    · simp [h8]
    · have : (BitVec.ofInt 64 (b : Int)).getLsbD i = false := by
        rw [BitVec.ofInt_natCast, BitVec.getLsbD_ofNat]
        rw [Nat.testBit_lt_two_pow (Nat.lt_of_lt_of_le hb (Nat.pow_le_pow_right (n := 2) (i := 8) (by decide) (show 8 ≤ i by omega)))]
        simp
      rw [this, Bool.and_false, BitVec.getLsbD_zero]
  unfold bits
  rw [h1]
  show ((BitVec.ofInt 64 (x * 256 % 18446744073709551616) ||| BitVec.ofInt 64 (b : Int)).toNat : Int) % 18446744073709551616 = _
  rw [hw, ← BitVec.add_eq_or_of_and_eq_zero _ _ hz]
  simp only [BitVec.toNat_add, BitVec.toNat_ofInt]
  omega

theorem or_lowV (x : Int) (b : Nat) (hb : b < 256) : bits .or .u64 (IntKind.u64.wrap (x * 256)) b = (x * 256 + b) % 18446744073709551616 := by
  have h1 : IntKind.u64.wrap (x * 256) = x * 256 % 18446744073709551616 := by simp [IntKind.wrap, IntKind.bits, IntKind.signed]
  rw [h1, or_lowU x b hb]

theorem byte_cut (p : ByteArray) (pos j : Nat) (hj : pos + j < p.size) : byte (p.extract pos p.size) j = byte p (pos + j) := by
  have h1 : j < (p.extract pos p.size).size := by simp; omega
  rw [← byte_eq _ j h1, ← byte_eq _ _ hj]
  simp [ByteArray.getElem_extract]

theorem goS_none {p : ByteArray} {m pos : Nat} (h : begunS p pos = none) : goS p (m + 1) pos = none := by unfold goS; rw [h]
theorem goS_back {p : ByteArray} {m pos : Nat} {c : Cut} (h : begunS p pos = some c) (hb : byte p (c.to - 1) ≠ c.m.size + 9) : goS p (m + 1) pos = none := by unfold goS; rw [h]; simp only; rw [if_neg hb]
theorem goS_next {p : ByteArray} {m pos : Nat} {c : Cut} (h : begunS p pos = some c) (hb : byte p (c.to - 1) = c.m.size + 9) : goS p (m + 1) pos = (goS p m c.to).map (c :: ·) := by
  rw [goS.eq_def]; simp only [h]; rw [if_pos hb]
theorem ents_no {p : ByteArray} (h : entriesS p = none) : rightB p = false ∧ entsOf p = [] := by
  constructor
  · unfold rightB; rw [h]; rfl
  · unfold entsOf packOf; rw [h]; rfl
theorem ents_yes {p : ByteArray} {l : List Cut} (h : entriesS p = some l) : rightB p = true ∧ entsOf p = l.map Cut.ent := by
  constructor
  · unfold rightB; rw [h]; rfl
  · unfold entsOf packOf; rw [h]; rfl
theorem isEmpty_dec (R : ByteArray) : R.toList.isEmpty = decide (R.size = 0) := by
  rw [ByteArray.toList_eq]
  obtain ⟨⟨l⟩⟩ := R
  cases l with
  | nil => rfl
  | cons a l => simp [ByteArray.size]
theorem eql_empty (R : ByteArray) (b : Bool) (h : b = decide (R.size = 0)) (W : World) : (binOp .eql 9 (.string R) (.string ⟨#[]⟩)).run Try.prog W = .ok (.bool b) W := by
  subst h
  simp [go_sem]
  rw [isEmpty_dec]
  simp
theorem neq_empty (R : ByteArray) (b : Bool) (h : b = decide (R.size ≠ 0)) (W : World) : (binOp .neq 9 (.string R) (.string ⟨#[]⟩)).run Try.prog W = .ok (.bool b) W := by
  subst h
  simp [go_sem]
  rw [isEmpty_dec]
  simp

set_option maxRecDepth 100000 in
set_option maxHeartbeats 8000000 in
theorem refEnts_any (p : ByteArray) (hp : p.size ≤ 281474976710656) (w : World) :
    Calls Try.prog 16 #[.string p] w fun e w' => ∃ r, e = .returned (.tuple #[r, .int .i64 (if rightB p then 0 else 50)]) ∧ Own35 w' w.heap.size r (entsOf p) ∧ Below w.heap.size w w' := by
  obtain ⟨i0, hi0, hz0, hz1, hz2⟩ := info_parts info35
  by_cases h2 : p.size < 2
  · have hno := ents_no (p := p) (by unfold entriesS countS; rw [if_pos h2]; rfl)
    rw [hno.1, hno.2, if_neg (by decide)]
    clear hno
    go_enter Try.func16, Try.ntmps16
    go_wp2
    go_ret2
    exact ⟨_, rfl, World.ownsRow_nil _ _ _ _, Below.refl _ _⟩
  · have h0 : 0 < p.size := by omega
    have h1 : 1 < p.size := by omega
    have e0 := byte_eq p 0 h0
    have e1 := byte_eq p 1 h1
    have l0 := byte_lt p 0
    have l1 := byte_lt p 1
    have HC : countS p = if 200 < byte p 0 * 256 + byte p 1 then (-1 : Int) else ((byte p 0 * 256 + byte p 1 : Nat) : Int) := by unfold countS; rw [if_neg h2]
    have HD := Lib.hid HC
    clear HC
    obtain ⟨n, hn⟩ : ∃ n, n = byte p 0 * 256 + byte p 1 := ⟨_, rfl⟩
    rw [← hn] at HD
    have hn2 : 256 * (byte p 0 : Int) + byte p 1 = n := by omega
    by_cases h200 : 200 < n
    · have hno := ents_no (p := p) (by unfold entriesS; rw [HD.out, if_pos h200]; rfl)
      rw [hno.1, hno.2, if_neg (by decide)]
      clear hno
      have h200i : (200 : Int) < n := by omega
      clear hn
      go_enter Try.func16, Try.ntmps16
      go_wp2
      go_region
      all_goals go_wp2
      all_goals go_ret2
      all_goals exact ⟨_, rfl, World.ownsRow_nil _ _ _ _, (Below.refl _ _).drew⟩
    · have hst : entriesS p = goS p n 2 := by unfold entriesS; rw [HD.out, if_neg h200, if_pos (by omega)]; rfl
      have HST := Lib.hid hst
      clear hst
      obtain ⟨er, her⟩ : ∃ er : Int, er = if rightB p then 0 else 50 := ⟨_, rfl⟩
      rw [← her]
      have HER := Lib.hid her
      have hnn : ¬ (200 : Int) < n := by omega
      clear her hn
      have hsl := fun W : World => run_slice_string (P := Try.prog) W 9 p .i64 .i64 2 p.size Try.underlying9 (by omega) (by omega) (by omega)
      rw [show ((2 : Int)).toNat = 2 by rfl, show ((p.size : Int)).toNat = p.size by omega] at hsl
      go_enter Try.func16, Try.ntmps16
      go_wp2
      go_region
      go_wp2
      have hw0 : Below w.heap.size w w.drew := (Below.refl _ _).drew
      have hs0 : w.drew.heap.size = w.heap.size := rfl
      have HW0 := Lib.hid hw0
      clear hw0 hsl
      go_loopw [5, 6, 7] (fun o r i wr => ∃ (k pos : Nat) (done : List Cut), i = .int .i64 k ∧ k ≤ n ∧ 2 ≤ pos ∧ pos ≤ p.size ∧ r = .string (p.extract pos p.size) ∧ done.length = k ∧ Hid (Below w.heap.size w wr) ∧ Hid (Own35 wr w.heap.size o (done.map Cut.ent)) ∧ Hid (entriesS p = (goS p (n - k) pos).map (done ++ ·)))
        (fun _ _ i _ => n - (intOf i).toNat)
      case atStart => exact ⟨0, 2, [], rfl, by omega, by omega, by omega, by rfl, rfl, HW0, Lib.hid (World.ownsRow_nil _ _ _ _), Lib.hid (by rw [HST.out]; simp)⟩
      case round =>
        obtain ⟨k, pos, done, rfl, hk, hp2, hps, rfl, hdl, HB, HO, HE⟩ := hrel
        by_cases hlt : k < n
        · obtain ⟨m, hm⟩ : ∃ m, n - k = m + 1 := ⟨n - k - 1, by omega⟩
          rw [hm] at HE
          obtain ⟨R, hR⟩ : ∃ R, R = p.extract pos p.size := ⟨_, rfl⟩
          have hRs : R.size = p.size - pos := by rw [hR]; simp
          rw [← hR]
          by_cases hpe : pos = p.size
          · have hno := ents_no (p := p) (by rw [HE.out, goS_none (by rw [hpe]; exact begunS_end p)]; rfl)
            have HN := Lib.hid (show er = 50 by rw [HER.out, hno.1]; rfl)
            have HN2 := Lib.hid hno.2
            have hq := eql_empty R true (by symm; rw [decide_eq_true_iff]; omega)
            clear hno HE
            go_wp2
            go_ret2
            rw [HN.out, HN2.out]
            exact ⟨_, rfl, World.ownsRow_nil _ _ _ _, HB.out⟩
          · have hpl : pos < p.size := by omega
            obtain ⟨b, hb⟩ : ∃ b, b = byte p pos := ⟨_, rfl⟩
            have hbl : b < 256 := by rw [hb]; exact byte_lt _ _
            have hR0 : 0 < R.size := by omega
            have i0e : R[0].toNat = b := by rw [byte_eq R 0 hR0, hR, byte_cut p pos 0 (by omega), hb]; rfl
            have hqe : R.toList.isEmpty = false := by rw [isEmpty_dec, decide_eq_false_iff_not]; omega
            have hqn : ¬ R.toList = [] := fun e => by rw [e] at hqe; simp at hqe
            have hq := eql_empty R false (by symm; rw [decide_eq_false_iff_not]; omega)
            by_cases hbad : 64 < b ∨ R.size < b + 10
            · have hno := ents_no (p := p) (by rw [HE.out, goS_none (by unfold begunS; rw [if_neg (by omega), if_pos (by rw [← hb]; omega)])]; rfl)
              have HN := Lib.hid (show er = 50 by rw [HER.out, hno.1]; rfl)
              have HN2 := Lib.hid hno.2
              clear hno HE hb
              have hRp : (R.size : Int) ≤ 281474976710656 := by omega
              clear hRs hR hpe hpl hps hm hp2 hdl HST HER HO
              by_cases h64 : 64 < b
              · have h64i : (64 : Int) < b := by omega
                clear hbad
                go_wp2
                go_ret2
                rw [HN.out, HN2.out]
                exact ⟨_, rfl, World.ownsRow_nil _ _ _ _, HB.out⟩
              · have h64i : ¬ (64 : Int) < b := by omega
                have hsh : (R.size : Int) < b + 10 := by omega
                clear hbad
                go_wp2
                go_ret2
                rw [HN.out, HN2.out]
                exact ⟨_, rfl, World.ownsRow_nil _ _ _ _, HB.out⟩
            · have h64i : ¬ (64 : Int) < b := by omega
              have hsh : ¬ (R.size : Int) < b + 10 := by omega
              have h9 : b + 9 < R.size := by omega
              obtain ⟨b9, hb9⟩ : ∃ b9, b9 = byte p (pos + (b + 9)) := ⟨_, rfl⟩
              have i9e : R[b + 9].toNat = b9 := by rw [byte_eq R (b + 9) h9, hR, byte_cut p pos (b + 9) (by omega), hb9]
              have hb9l : b9 < 256 := by rw [hb9]; exact byte_lt _ _
              have hbg : begunS p pos = some ⟨p.extract (pos + 1) (pos + 1 + b), scoreL ((p.data.toList.drop (pos + 1 + b)).take 8), pos, pos + b + 10⟩ := by
                unfold begunS; rw [if_neg (by omega), if_neg (by rw [← hb]; omega), ← hb]
              have hcs : (p.extract (pos + 1) (pos + 1 + b)).size = b := by simp; omega
              clear hbad
              by_cases hbk : b9 = b + 9
              · have hE2 : entriesS p = (goS p m (pos + b + 10)).map ((done ++ [⟨p.extract (pos + 1) (pos + 1 + b), scoreL ((p.data.toList.drop (pos + 1 + b)).take 8), pos, pos + b + 10⟩]) ++ ·) := by
                  rw [HE.out, goS_next hbg (by simp only; rw [hcs, show pos + b + 10 - 1 = pos + (b + 9) by omega, ← hb9]; exact hbk)]
                  simp only [Option.map_map]
                  congr 1
                  funext x
                  simp
                have HE2 := Lib.hid hE2
                have hx1 : R.extract 1 (1 + b) = p.extract (pos + 1) (pos + 1 + b) := by
                  rw [hR, ByteArray.extract_extract]
                  congr 1
                  omega
                have hx2 : R.extract (b + 10) R.size = p.extract (pos + b + 10) p.size := by
                  rw [hRs, hR, ByteArray.extract_extract]
                  congr 1 <;> omega
                have HX2 := Lib.hid hx2
                have HPB := Lib.hid (show pos + b + 10 ≤ p.size by omega)
                have HMAP := Lib.hid (show ∀ z, (done ++ [⟨p.extract (pos + 1) (pos + 1 + b), z, pos, pos + b + 10⟩] : List Cut).map Cut.ent = done.map Cut.ent ++ [(R.extract 1 (1 + b), z)] from fun z => by simp [Cut.ent, hx1])
                obtain ⟨L, hL⟩ : ∃ L, L = (p.data.toList.drop (pos + 1 + b)).take 8 := ⟨_, rfl⟩
                have hLl : L.length = 8 := by rw [hL]; simp; have := size_list p; simp at this; omega
                have hLb : ∀ (q : Nat) (h : q < L.length), (L[q]).toNat = byte p (pos + (1 + b + q)) := fun q h => by
                  have h3 : pos + (1 + b + q) < p.data.toList.length := by rw [size_list]; omega
                  unfold byte
                  rw [List.getD_eq_getElem?_getD, List.getElem?_eq_getElem h3]
                  subst hL
                  simp [show pos + 1 + b + q = pos + (1 + b + q) by omega]
                have HLB := Lib.hid hLb
                have hRb : ∀ q, q < 8 → ∀ (h : 1 + b + q < R.size), R[1 + b + q].toNat = byte p (pos + (1 + b + q)) := fun q hq h => by
                  rw [byte_eq R _ h, hR, byte_cut p pos (1 + b + q) (by omega)]
                have HRB := Lib.hid hRb
                rw [← hL] at HE2
                have hRp : (R.size : Int) ≤ 281474976710656 := by omega
                have hdn : (done.map Cut.ent).length = k := by simp [hdl]
                have hk2 : k ≤ 1000000000 := by omega
                obtain ⟨g7, cap7, w7, hrun, hown7, hgrow⟩ := app_ent hi0 hz0 hz1 hz2 HO.out (Below.refl _ _) (R.extract 1 (1 + b), scoreL L) (by rw [hdn]; exact hk2) HB.out.size
                have hb7 : Below w.heap.size w w7 := (HB.out.alloc HB.out.size _).grown hgrow (by have := HB.out.size; simp; omega) (fun k e => (World.ownsRow.lt HO.out k e).1)
                have H7 := Lib.hid hb7
                rw [hdn] at hrun hown7
                have HO7 := Lib.hid hown7
                have HRUN := Lib.hid hrun
                have hsl1 := fun W : World => run_slice_string (P := Try.prog) W 9 R .i64 .i64 1 (1 + b) Try.underlying9 (by omega) (by omega) (by omega)
                rw [show ((1 : Int)).toNat = 1 by rfl, show ((1 : Int) + b).toNat = 1 + b by omega] at hsl1
                subst hbk
                clear HE hb hb9 hbg hcs hE2 hx1 hx2 hLb hRb hb7 hown7 hgrow hrun
                clear hRs hR hpe hpl hps hp2 HST HER hL
                go_wp2
                go_loopw [9, 10] (fun v j wq => ∃ (q : Nat), j = .int .i64 q ∧ q ≤ 8 ∧ v = .int .u64 (scoreU (L.take q)) ∧ wq = wr) (fun _ j _ => 8 - (intOf j).toNat)
                case atStart => exact ⟨0, rfl, by omega, by simp [scoreU], rfl⟩
                case round =>
                  obtain ⟨q, rfl, hq8, rfl, rfl⟩ := hrel
                  by_cases hlq : q < 8
                  · have hix : 1 + b + q < R.size := by omega
                    have he := HRB.out q hlq hix
                    have hd := byte_lt p (pos + (1 + b + q))
                    have HS := Lib.hid (scoreU_take L q _ (by omega) (HLB.out q (by omega)))
                    have hsm := scoreU_in (L.take q)
                    generalize byte p (pos + (1 + b + q)) = d at *
                    generalize scoreU (L.take q) = sm at *
                    have h8 : (q : Int) < 8 := by omega
                    clear hsl1
                    go_wp2
                    exact ⟨⟨q + 1, by go_num, hlq, by rw [HS.out, or_lowV _ _ hd], trivial⟩, by simp [intOf]; omega⟩
                  · obtain rfl : q = 8 := by omega
                    have hsL : scoreU (L.take 8) = scoreU L := by rw [List.take_of_length_le (by omega)]
                    have hwr := scoreU_L L
                    rw [hsL]
                    have hb1 : (b : Int) + 10 ≤ R.size := by omega
                    go_wp2_with (at_builtin; refine wpList_append_ran rfl (.tmp 69) (.tmp 77) 22 22 rfl rfl rfl HRUN.out ?_)
                    refine ⟨⟨k + 1, pos + b + 10, done ++ [⟨p.extract (pos + 1) (pos + 1 + b), scoreL L, pos, pos + b + 10⟩], by go_num, hlt, by omega, HPB.out, ?_, by simp [hdl], H7, ?_, Lib.hid (by rw [HE2.out, show n - (k + 1) = m by omega])⟩, by simp [intOf]; omega⟩
                    · rw [← HX2.out]
                    · rw [HMAP.out]
                      exact HO7
              · have hno := ents_no (p := p) (by rw [HE.out, goS_back hbg (by simp only; rw [hcs, show pos + b + 10 - 1 = pos + (b + 9) by omega, ← hb9]; exact hbk)]; rfl)
                have HN := Lib.hid (show er = 50 by rw [HER.out, hno.1]; rfl)
                have HN2 := Lib.hid hno.2
                have hbki : ((b9 : Int) != b + 9) = true := by simp; omega
                have hRp : (R.size : Int) ≤ 281474976710656 := by omega
                clear hno HE hb hb9 hbg hcs
                clear hRs hR hpe hpl hps hm hp2 hdl HST HER HO
                go_wp2
                go_ret2
                rw [HN.out, HN2.out]
                exact ⟨_, rfl, World.ownsRow_nil _ _ _ _, HB.out⟩
        · obtain rfl : k = n := by omega
          rw [Nat.sub_self] at HE
          have hRs : (p.extract pos p.size).size = p.size - pos := by simp
          by_cases hpe : pos = p.size
          · have hyes := ents_yes (p := p) (l := done) (by rw [HE.out]; unfold goS; rw [if_pos hpe]; simp)
            have HN := Lib.hid (show er = 0 by rw [HER.out, hyes.1]; rfl)
            have HN2 := Lib.hid hyes.2
            have hqe : (p.extract pos p.size).toList.isEmpty = true := by rw [isEmpty_dec, decide_eq_true_iff]; omega
            have hq := neq_empty (p.extract pos p.size) false (by symm; rw [decide_eq_false_iff_not]; omega)
            generalize p.extract pos p.size = R at *
            clear hyes HE
            go_wp2
            go_ret2
            rw [HN.out, HN2.out]
            exact ⟨_, rfl, HO.out, HB.out⟩
          · have hno := ents_no (p := p) (by rw [HE.out]; unfold goS; rw [if_neg hpe]; rfl)
            have HN := Lib.hid (show er = 50 by rw [HER.out, hno.1]; rfl)
            have HN2 := Lib.hid hno.2
            have hqe : (p.extract pos p.size).toList.isEmpty = false := by rw [isEmpty_dec, decide_eq_false_iff_not]; omega
            have hqn : ¬ (p.extract pos p.size).toList = [] := fun e => by rw [e] at hqe; simp at hqe
            have hq := neq_empty (p.extract pos p.size) true (by symm; rw [decide_eq_true_iff]; omega)
            generalize p.extract pos p.size = R at *
            clear hno HE
            go_wp2
            go_ret2
            rw [HN.out, HN2.out]
            exact ⟨_, rfl, World.ownsRow_nil _ _ _ _, HB.out⟩
end Go.Proofs.Ytfladbfniihfmaa
