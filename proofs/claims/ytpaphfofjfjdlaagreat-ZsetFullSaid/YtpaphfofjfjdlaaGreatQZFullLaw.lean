/- ZsetFull: its walk. -/
import Derived.Test.YtpaphfofjfjdlaaGreatQZNil
import Derived.Test.YtpaphfofjfjdlaaGreatQZTwice
namespace Go.Proofs.YtpaphfofjfjdlaaGreat
open Go.RowKit Go.Shelf Sk
attribute [local go_sem] Oper.semAt_some

/-- The i-th member. -/
def kb (i : Nat) : ByteArray := ⟨#[UInt8.ofNat (i % 256), UInt8.ofNat (i / 256 % 256)]⟩
theorem kb_inj {i j : Nat} (hi : i < 65536) (hj : j < 65536) (h : kb i = kb j) : i = j := by
  have h' : [UInt8.ofNat (i % 256), UInt8.ofNat (i / 256 % 256)] = [UInt8.ofNat (j % 256), UInt8.ofNat (j / 256 % 256)] := congrArg (fun s : ByteArray => s.data.toList) h
  rw [List.cons.injEq, List.cons.injEq] at h'
  obtain ⟨h1, h2, _⟩ := h'
  have e1 := congrArg UInt8.toNat h1
  have e2 := congrArg UInt8.toNat h2
  simp only [UInt8.toNat_ofNat'] at e1 e2
  omega
theorem kb_size (i : Nat) : (kb i).size = 2 := rfl
theorem kb_zero : (⟨#[0, 0]⟩ : ByteArray) = kb 0 := rfl
theorem str_two (W : World) (b c : UInt8) : (convert 70 9 (.slice (some ⟨W.heap.size, 0, none⟩) 2 2)).run Tryz.prog (W.alloc (.cells #[.int .u8 b.toNat, .int .u8 c.toNat] 5)) = .ok (.string ⟨#[b, c]⟩) (W.alloc (.cells #[.int .u8 b.toNat, .int .u8 c.toNat] 5)) := by
  have h := run_convert_bytes_back (P := Tryz.prog) (W.alloc (.cells #[.int .u8 b.toNat, .int .u8 c.toNat] 5)) 70 9 5 ⟨W.heap.size, 0, none⟩ 2 [b, c] Tryz.underlying70 Tryz.underlying5 Tryz.underlying9
    (fun j hj => by
      match j, hj with
      | 0, _ => exact (Blk.new W 5 #[.int .u8 b.toNat, .int .u8 c.toNat]).cell 0
      | 1, _ => simp [Addr.add]
      | j + 2, hj => simp at hj; omega)
  exact h
theorem kb_str (i : Nat) (hi : i ≤ 1000) (W : World) : (convert 70 9 (.slice (some ⟨W.heap.size, 0, none⟩) 2 2)).run Tryz.prog (W.alloc (.cells #[.int .u8 ((i : Int) % 256), .int .u8 ((i : Int) / 256)] 5)) = .ok (.string (kb i)) (W.alloc (.cells #[.int .u8 ((i : Int) % 256), .int .u8 ((i : Int) / 256)] 5)) := by
  have h := str_two W (UInt8.ofNat (i % 256)) (UInt8.ofNat (i / 256 % 256))
  have e1 : ((UInt8.ofNat (i % 256)).toNat : Int) = (i : Int) % 256 := by simp
  have e2 : ((UInt8.ofNat (i / 256 % 256)).toNat : Int) = (i : Int) / 256 := by simp; omega
  rw [e1, e2] at h
  exact h
theorem and3 (i : Nat) : bits .and .i64 (i : Int) 3 = ((i % 4 : Nat) : Int) := by
  unfold bits
  show IntKind.i64.wrap ((BitVec.ofInt 64 (i : Int) &&& BitVec.ofInt 64 3).toNat : Int) = _
  have h3 : (BitVec.ofInt 64 3).toNat = 3 := by decide
  have h2 : ∀ x : Nat, x &&& 3 = x % 4 := fun x => Nat.and_two_pow_sub_one_eq_mod x 2
  rw [BitVec.toNat_and, h3, h2, BitVec.ofInt_natCast, BitVec.toNat_ofNat]
  have h5 : i % 2 ^ 64 % 4 = i % 4 := by omega
  rw [h5]
  exact IntWalk.i64_in _ (by omega)
theorem level3 (i : Nat) : IntKind.i64.wrap (1 + bits .and .i64 (i : Int) 3) = 1 + ((i % 4 : Nat) : Int) ∧ 1 ≤ 1 + ((i % 4 : Nat) : Int) ∧ 1 + ((i % 4 : Nat) : Int) ≤ 32 := by
  refine ⟨?_, by omega, by omega⟩
  rw [and3, IntWalk.i64_in _ (by omega)]

/-- What is there behind so many members. -/
structure FullAt (i : Nat) (E : List En) : Prop where
  len : E.length = min i 400
  has : ∀ m, hasE E m = true ↔ ∃ j, j < min i 400 ∧ m = kb j
theorem full_zero : FullAt 0 [] := ⟨rfl, fun m => ⟨(fun h => by cases h), (fun ⟨j, h, _⟩ => by omega)⟩⟩
theorem FullAt.new {i : Nat} {E : List En} (h : FullAt i E) (j : Nat) (hij : min i 400 ≤ j) (hj : j ≤ 1000) : hasE E (kb j) = false := by
  cases hh : hasE E (kb j) with
  | false => rfl
  | true =>
    obtain ⟨q, hq, he⟩ := (h.has _).1 hh
    have := kb_inj (by omega) (by omega) he
    omega
theorem FullAt.put {i : Nat} {E : List En} (h : FullAt i E) (hd : Dist E) (hi : i < 400) (sc : Int) : FullAt (i + 1) (addE E (kb i) sc) := by
  have hno := h.new i (by omega) (by omega)
  refine ⟨by rw [addE_len hd, hno, h.len]; simp; omega, fun m => ?_⟩
  rw [hasE_iff]
  constructor
  · rintro ⟨s, hs⟩
    rcases mem_addE.1 hs with e | ⟨hs, _⟩
    · exact ⟨i, by omega, by injection e⟩
    · obtain ⟨j, hj, e⟩ := (h.has m).1 (hasE_iff.2 ⟨s, hs⟩)
      exact ⟨j, by omega, e⟩
  · rintro ⟨j, hj, rfl⟩
    by_cases e : j = i
    · subst e; exact ⟨sc, mem_addE.2 (.inl rfl)⟩
    · obtain ⟨s, hs⟩ := hasE_iff.1 ((h.has (kb j)).2 ⟨j, by omega, rfl⟩)
      exact ⟨s, mem_addE.2 (.inr ⟨hs, fun e2 => e (kb_inj (by omega) (by omega) e2)⟩)⟩
theorem FullAt.same {i : Nat} {E : List En} (h : FullAt i E) (hi : 400 ≤ i) : FullAt (i + 1) E := ⟨by rw [h.len]; omega, fun m => by
  rw [h.has m, show min (i + 1) 400 = min i 400 by omega]⟩
/-- Adding the next member. -/
theorem here_next {w0 W : World} {s c i : Nat} {E : List En} (h : Here w0 W s c E) (hF : FullAt i E) (hi : i ≤ 500) (hc : c ≤ i) (lv : Int) (hlv : 1 ≤ lv ∧ lv ≤ 32) :
    Calls Tryz.prog 31 #[.pointer (some ⟨s, 0, none⟩), .string (kb i), .int .i64 i, .int .i64 lv] W fun e W' => ∃ bA nA, e = .returned (.tuple #[.bool bA, .int .i64 nA]) ∧ (nA == 0) = decide ((i : Int) < 400) ∧ ∃ c E, Here w0 W' s c E ∧ FullAt (i + 1) E ∧ c ≤ i + 1 := by
  have hno := hF.new i (by omega) (by omega)
  have hlen := hF.len
  by_cases h4 : i < 400
  · have hb : badB (kb i) lv = false := decide_eq_false (by rw [kb_size]; omega)
    refine (here_add h (by omega) (by have := h.good.2.2; omega) (kb i) i lv ⟨by omega, by omega⟩).mono ?_
    rintro e W' ⟨rfl, h2, _⟩
    refine ⟨_, _, rfl, ?_, _, _, h2, ?_, by omega⟩
    · unfold addN; rw [hb]; simp; omega
    · unfold addS; rw [hb]; exact hF.put h.good.1 h4 i
  · obtain ⟨S, isL, le, lm, h1, h3⟩ := h.ex
    refine (set_add_full h1 (by omega) (kb i) i lv (by rw [kb_size]; omega) hlv hno).mono ?_
    rintro e W' ⟨rfl, hb⟩
    refine ⟨_, _, rfl, ?_, c, E, h.later hb, hF.same (by omega), by omega⟩
    simp; omega
/-- Adding the first member again. -/
theorem here_again {w0 W : World} {s c i : Nat} {E : List En} (h : Here w0 W s c E) (hF : FullAt i E) (hi : 0 < i) (hi2 : i ≤ 500) (hc : c ≤ i) :
    Calls Tryz.prog 31 #[.pointer (some ⟨s, 0, none⟩), .string (kb 0), .int .i64 (-5), .int .i64 1] W fun e W' => e = .returned (.tuple #[.bool false, .int .i64 0]) ∧ ∃ c E, Here w0 W' s c E ∧ E.length = min i 400 := by
  have hhas : hasE E (kb 0) = true := (hF.has _).2 ⟨0, by omega, rfl⟩
  have hlen := hF.len
  have hal : (addE E (kb 0) (-5)).length = min i 400 := by rw [addE_len h.good.1, hhas]; simpa using hlen
  by_cases h4 : i < 400
  · have hb : badB (kb 0) 1 = false := decide_eq_false (by rw [kb_size]; omega)
    refine (here_add h (by omega) (by omega) (kb 0) (-5) 1 ⟨by omega, by omega⟩).mono ?_
    rintro e W' ⟨rfl, h2, _⟩
    refine ⟨?_, _, _, h2, ?_⟩
    · unfold addN addA; rw [hb, hhas]; rfl
    · unfold addS; rw [hb]; exact hal
  · obtain ⟨S, isL, le, lm, h1, h3⟩ := h.ex
    refine (set_add_there4 h1 (by omega) (by omega) (kb 0) (-5) 1 (by rw [kb_size]; omega) ⟨by omega, by omega⟩ ⟨by omega, by omega⟩ hhas).mono ?_
    rintro e W' ⟨rfl, hn⟩
    exact ⟨rfl, _, _, (here_now h h1 h3 hn).1, hal⟩

set_option maxRecDepth 100000 in
set_option maxHeartbeats 8000000 in
/-- ZsetFull. -/
theorem full_walk (en mn n : Int) (k : ByteArray) (w : World) :
    Calls Tryz.prog 8 #[.agg #[.int .i64 en, .int .i64 mn], .int .i64 n, .string k] w fun e w' => e = .returned (.bool true) ∧ Below w.heap.size w w' := by
  have hbX := alloc_below w (.cells #[.int .i64 en, .int .i64 mn] 23)
  have k0 := Blk.new w 23 #[.int .i64 en, .int .i64 mn]
  have HB0 := Lib.hid hbX
  have HK0 := Lib.hid (fun W (hb : Below (w.alloc (.cells #[.int .i64 en, .int .i64 mn] 23)).heap.size (w.alloc (.cells #[.int .i64 en, .int .i64 mn] 23)) W) => k0.later hb)
  have HS := fun W => Lib.hid (shown_any W)
  have HN := fun W => Lib.hid (set_new0 en mn _ _ rfl rfl 5 (by decide) W)
  clear hbX k0
  by_cases hout : n < 390 ∨ (390 ≤ n ∧ 410 < n)
  · rcases hout with h1 | ⟨h1, h2⟩
    all_goals go_enter Tryz.func8, Tryz.ntmps8
    all_goals go_wp2_with fail
    all_goals refine (HS _).out.mono ?_
    all_goals rintro e w1 ⟨rfl, hb1⟩
    all_goals have HB1 := Lib.hid (HB0.out.trans (hb1.mono HB0.out.size))
    all_goals clear hb1
    all_goals go_wp2
    all_goals go_ret
    all_goals exact ⟨rfl, HB1.out⟩
  · obtain ⟨N, rfl⟩ : ∃ N : Nat, n = (N : Int) := ⟨n.toNat, by omega⟩
    have n1 : (390 : Int) ≤ N := by omega
    have n2 : (N : Int) ≤ 410 := by omega
    clear hout
    go_enter Tryz.func8, Tryz.ntmps8
    simp only [List.append_eq, List.cons_append, List.nil_append]
    go_wp2_with fail
    refine (HS _).out.mono ?_
    rintro e w1 ⟨rfl, hb1⟩
    obtain ⟨d0, d1, _, _⟩ := facts2 (HK0.out w1 hb1)
    have HB1 := Lib.hid (HB0.out.trans (hb1.mono HB0.out.size))
    clear hb1 HS HK0 HB0
    go_wp2_with fail
    refine (HN _).out.mono ?_
    rintro e w2 ⟨s, S, rfl, h1, hS, hb2⟩
    have H2 := Lib.hid (show Here w w2 s 0 [] from ⟨⟨S, _, _, _, h1, fun j hj => Nat.le_trans HB1.out.size (hS j hj)⟩, HB1.out.trans (hb2.mono HB1.out.size)⟩)
    clear h1 hS hb2 HN HB1 d0 d1
    go_wp2_with fail
    go_loopw [9] (fun i wr => ∃ (j : Nat), i = .int .i64 j ∧ j ≤ N ∧ ∃ c E, Here w wr s c E ∧ FullAt j E ∧ c ≤ j) (fun i _ => N - (intOf i).toNat)
    case atStart => exact ⟨0, rfl, by omega, 0, [], H2.out, full_zero, by omega⟩
    case round =>
      clear H2
      obtain ⟨j, rfl, hj, c, E, hH, hF, hc⟩ := hrel
      by_cases hlt : j < N
      · have hlt' : (j : Int) < N := by omega
        have hcv := kb_str j (by omega)
        obtain ⟨l0, l1, l2⟩ := level3 j
        have HSS := Lib.hid (here_next (hH.later (alloc_below wr (.cells #[.int .u8 ((j : Int) % 256), .int .u8 ((j : Int) / 256)] 5))) hF (by omega) hc (1 + ((j % 4 : Nat) : Int)) ⟨l1, l2⟩)
        generalize 1 + ((j % 4 : Nat) : Int) = lv at *
        have q1 : (j : Int) ≤ 410 := by omega
        have q2 : (0 : Int) ≤ (j : Int) / 256 := by omega
        have q3 : (j : Int) / 256 ≤ 255 := by omega
        clear hH hF
        go_wp2_with fail
        (with_reducible refine HSS.out.mono ?_)
        rintro e w3 ⟨bA, nA, rfl, hq, c', E', h3, hF3, hc3⟩
        have H3 := Lib.hid (show ∃ c E, Here w w3 s c E ∧ FullAt (j + 1) E ∧ c ≤ j + 1 from ⟨c', E', h3, hF3, hc3⟩)
        clear h3 hF3 HSS hcv l0 hj hc
        by_cases h4 : (j : Int) < 400
        · rw [decide_eq_true h4] at hq
          go_wp2
          refine ⟨⟨j + 1, by go_num, by omega, H3.out⟩, by simp [intOf]; omega⟩
        · rw [decide_eq_false h4] at hq
          go_wp2
          refine ⟨⟨j + 1, by go_num, by omega, H3.out⟩, by simp [intOf]; omega⟩
      · obtain rfl : j = N := by omega
        have hle : ¬ (j : Int) < j := by omega
        have HAG := Lib.hid (here_again hH hF (by omega) (by omega) hc)
        have HNA := fun W => Lib.hid (nil_add k 1 1 W)
        have HNS := fun W => Lib.hid (nil_score k W)
        have HNR := fun W => Lib.hid (nil_rank k W)
        have HNB := fun W => Lib.hid (nil_between 0 0 0 0 false false W)
        have HNL := fun W => Lib.hid (nil_len W)
        have HNM := fun W => Lib.hid (nil_remove k W)
        have HNG := fun W => Lib.hid (nil_range 0 9 W)
        have HNC := fun W => Lib.hid (nil_cut 0 9 W)
        have HNE := fun W => Lib.hid (nil_enc W)
        have HNY := fun W => Lib.hid (nil_bytes W)
        rw [← kb_zero] at HAG
        clear hH hF hlt
        go_wp2_with fail
        refine HAG.out.mono ?_
        rintro e w3 ⟨rfl, c', E', h3, hl3⟩
        have HL := fun W (hb : Below w3.heap.size w3 W) => Lib.hid (here_len (h3.later hb))
        have HW := Lib.hid (fun W (hb : Below w3.heap.size w3 W) => (h3.later hb).below)
        rw [hl3] at HL
        clear HAG h3 hl3
        go_wp2_with fail
        refine (HNA _).out.mono ?_
        rintro e w4 ⟨rfl, rfl⟩
        go_wp2_with fail
        refine (HNS _).out.mono ?_
        rintro e w5 ⟨rfl, hb⟩
        have B5 := Lib.hid hb
        clear hb
        go_wp2_with fail
        refine (HNR _).out.mono ?_
        rintro e w6 ⟨rfl, hb⟩
        have B6 := Lib.hid (B5.out.trans (hb.mono B5.out.size))
        clear hb B5
        go_wp2_with fail
        refine (HNB _).out.mono ?_
        rintro e w7 ⟨rfl, hb⟩
        have B7 := Lib.hid (B6.out.trans (hb.mono B6.out.size))
        have HL7 := HL _ B7.out
        clear hb B6 HL
        by_cases h4 : j ≤ 400
        · have h5 : min (j : Int) 400 = j := by omega
          rw [Nat.min_eq_left h4] at HL7
          clear h4
          go_wp2_with fail
          refine HL7.out.mono ?_
          rintro e w8 ⟨rfl, hb⟩
          have B8 := Lib.hid (B7.out.trans (hb.mono B7.out.size))
          clear hb B7
          go_wp2_with fail
          refine (HNL _).out.mono ?_
          rintro e w9 ⟨rfl, hb⟩
          have B9 := Lib.hid (B8.out.trans (hb.mono B8.out.size))
          clear hb B8
          go_wp2_with fail
          refine (HNM _).out.mono ?_
          rintro e w10 ⟨rfl, hb⟩
          have B10 := Lib.hid (B9.out.trans (hb.mono B9.out.size))
          clear hb B9
          go_wp2_with fail
          refine (HNG _).out.mono ?_
          rintro e w11 ⟨a9, c9, rfl, hb⟩
          have B11 := Lib.hid (B10.out.trans (hb.mono B10.out.size))
          clear hb B10
          go_wp2_with fail
          refine (HNC _).out.mono ?_
          rintro e w12 ⟨rfl, hb⟩
          have B12 := Lib.hid (B11.out.trans (hb.mono B11.out.size))
          clear hb B11
          go_wp2_with fail
          refine (HNE _).out.mono ?_
          rintro e w13 ⟨rfl, rfl⟩
          go_wp2_with fail
          refine (HNY _).out.mono ?_
          rintro e w13 ⟨rfl, rfl⟩
          go_wp2_with fail
          go_ret
          exact ⟨by simp, HW.out _ B12.out⟩
        · have h5 : min (j : Int) 400 = 400 := by omega
          rw [Nat.min_eq_right (by omega)] at HL7
          clear h4
          go_wp2_with fail
          refine HL7.out.mono ?_
          rintro e w8 ⟨rfl, hb⟩
          have B8 := Lib.hid (B7.out.trans (hb.mono B7.out.size))
          clear hb B7
          go_wp2_with fail
          refine (HNL _).out.mono ?_
          rintro e w9 ⟨rfl, hb⟩
          have B9 := Lib.hid (B8.out.trans (hb.mono B8.out.size))
          clear hb B8
          go_wp2_with fail
          refine (HNM _).out.mono ?_
          rintro e w10 ⟨rfl, hb⟩
          have B10 := Lib.hid (B9.out.trans (hb.mono B9.out.size))
          clear hb B9
          go_wp2_with fail
          refine (HNG _).out.mono ?_
          rintro e w11 ⟨a9, c9, rfl, hb⟩
          have B11 := Lib.hid (B10.out.trans (hb.mono B10.out.size))
          clear hb B10
          go_wp2_with fail
          refine (HNC _).out.mono ?_
          rintro e w12 ⟨rfl, hb⟩
          have B12 := Lib.hid (B11.out.trans (hb.mono B11.out.size))
          clear hb B11
          go_wp2_with fail
          refine (HNE _).out.mono ?_
          rintro e w13 ⟨rfl, rfl⟩
          go_wp2_with fail
          refine (HNY _).out.mono ?_
          rintro e w13 ⟨rfl, rfl⟩
          go_wp2_with fail
          go_ret
          exact ⟨by simp, HW.out _ B12.out⟩
end Go.Proofs.YtpaphfofjfjdlaaGreat
