/- ZsetTwice: what is added again changes nothing. -/
import Derived.Test.YtpaphfofjfjdlaaGreatQZMade
namespace Go.Proofs.YtpaphfofjfjdlaaGreat
open Go.RowKit Go.Shelf Sk
attribute [local go_sem] Oper.semAt_some

theorem rm_put (E : List En) (k : ByteArray) (s : Int) : rmE (putE E k s) k = rmE E k := by
  unfold putE rmE
  rw [List.filter_append, List.filter_cons_of_neg (by simp), ← List.filter_append, List.take_append_drop]
theorem rm_rm (E : List En) (k : ByteArray) : rmE (rmE E k) k = rmE E k := by unfold rmE; rw [List.filter_filter]; simp
theorem rm_add (E : List En) (k : ByteArray) (s : Int) : rmE (addE E k s) k = rmE E k := by unfold addE; rw [rm_put, rm_rm]
theorem add_add (E : List En) (k : ByteArray) (s : Int) : addE (addE E k s) k s = addE E k s := by
  show putE (rmE (addE E k s) k) k s = putE (rmE E k) k s
  rw [rm_add]
theorem has_add (E : List En) (k : ByteArray) (s : Int) : hasE (addE E k s) k = true := hasE_iff.2 ⟨s, mem_addE.2 (.inl rfl)⟩
theorem has_rm (E : List En) (k : ByteArray) : hasE (rmE E k) k = false := by
  cases h : hasE (rmE E k) k with
  | false => rfl
  | true =>
    obtain ⟨s, hs⟩ := hasE_iff.1 h
    exact absurd rfl (mem_rmE.1 hs).2

/-- The set alone. -/
structure Here (w0 W : World) (s c : Nat) (E : List En) : Prop where
  ex : ∃ S isL le lm, SetIs W s S isL le lm c E ∧ (∀ j, S j → w0.heap.size ≤ j)
  below : Below w0.heap.size w0 W
def KeepRow (W W' : World) : Prop := ∀ n0 v l, Row W n0 v l → Row W' n0 v l
variable {w0 W W' : World} {s c : Nat} {E : List En}
theorem Here.later (h : Here w0 W s c E) (hb : Below W.heap.size W W') : Here w0 W' s c E := by
  obtain ⟨S, isL, le, lm, h1, h3⟩ := h.ex
  exact ⟨⟨S, isL, le, lm, h1.later hb, h3⟩, h.below.trans (hb.mono h.below.size)⟩
theorem Here.good (h : Here w0 W s c E) : Dist E ∧ E.length ≤ c ∧ c ≤ 10000 := by
  obtain ⟨S, isL, le, lm, h1, h3⟩ := h.ex
  exact ⟨h1.good.dist, h1.good.len, h1.good.cap⟩
theorem BothZ.here {r : Nat} {le lm : Int} (h : BothZ w0 W s r c le lm) : ∃ E, Here w0 W s c E := by
  obtain ⟨isL, E, h1, _⟩ := h.ex
  obtain ⟨S, g1, g2, g3⟩ := h1.ex
  exact ⟨E, ⟨S, isL, le, lm, g1, g3⟩, h1.below⟩
theorem here_now {S : Nat → Prop} {isL isL' : Bool} {le lm : Int} {c' : Nat} {E' : List En} (h : Here w0 W s c E) (h1 : SetIs W s S isL le lm c E) (h3 : ∀ j, S j → w0.heap.size ≤ j) (hn : SetNow W s S isL' le lm c' E' W') : Here w0 W' s c' E' ∧ KeepRow W W' := by
  obtain ⟨S', g1, g2, g3⟩ := hn
  refine ⟨⟨⟨S', isL', le, lm, g1, fun j hj => ?_⟩, h.below.trans (g3.below h3 h.below.size)⟩, fun n0 v l hr => hr.far g3 fun k cur _ hk => set_no h1 (.inr (.inr rfl)) hk⟩
  rcases g2 j hj with g | g
  · exact h3 j g
  · exact Nat.le_trans h.below.size g
theorem here_add (h : Here w0 W s c E) (h4 : E.length < 400) (hc : c + 1 ≤ 10000) (k : ByteArray) (sc lv : Int) (hs : Pk.scoreOk sc) :
    Calls Tryz.prog 31 #[.pointer (some ⟨s, 0, none⟩), .string k, .int .i64 sc, .int .i64 lv] W fun e W' => e = .returned (.tuple #[.bool (addA E k lv), .int .i64 (addN k lv)]) ∧ Here w0 W' s (c + 1) (addS E k sc lv) ∧ KeepRow W W' := by
  obtain ⟨S, isL, le, lm, h1, h3⟩ := h.ex
  exact (set_add h1 h4 hc k sc lv hs).mono fun _ _ ⟨he, hn⟩ => ⟨he, here_now h h1 h3 hn⟩
theorem here_remove (h : Here w0 W s c E) (k : ByteArray) (hk : k.size ≤ 281474976710656) :
    Calls Tryz.prog 32 #[.pointer (some ⟨s, 0, none⟩), .string k] W fun e W' => e = .returned (.bool (hasE E k)) ∧ Here w0 W' s c (rmE E k) ∧ KeepRow W W' := by
  obtain ⟨S, isL, le, lm, h1, h3⟩ := h.ex
  exact (set_remove h1 k hk).mono fun _ _ ⟨he, hn⟩ => ⟨he, here_now h h1 h3 hn⟩
theorem here_len (h : Here w0 W s c E) : Calls Tryz.prog 14 #[.pointer (some ⟨s, 0, none⟩)] W fun e W' => e = .returned (.int .i64 E.length) ∧ Below W.heap.size W W' := by
  obtain ⟨S, isL, le, lm, h1, h3⟩ := h.ex
  exact set_len h1
theorem here_range (h : Here w0 W s c E) : Calls Tryz.prog 16 #[.pointer (some ⟨s, 0, none⟩), .int .i64 0, .int .i64 E.length] W fun e W' => ∃ r, e = .returned r ∧ Row W' W.heap.size r E ∧ Below W.heap.size W W' := by
  obtain ⟨S, isL, le, lm, h1, h3⟩ := h.ex
  have := set_range h1 0 E.length
  rwa [subE_all] at this

set_option maxRecDepth 100000 in
set_option maxHeartbeats 8000000 in
theorem twice_walk (en mn : Int) (sd : Nat) (hsd : sd < 4294967296) (a : Option Addr) (cap : Nat) (l : List Ac) (hn : l.length ≤ 9223372036854775807) (hu : ∀ x ∈ l, x.Fit) (k : ByteArray) (hk : k.size ≤ 9223372036854775807) (sc : Int) (hsc : Pk.scoreOk sc) (w : World) (hA : Acts w a l) :
    Calls Tryz.prog 9 #[.agg #[.int .i64 en, .int .i64 mn], .int .u32 sd, .slice a l.length cap, .string k, .int .i64 sc] w fun e w' => e = .returned (.bool true) ∧ Below w.heap.size w w' := by
  have hbX := alloc_below w (.cells #[.int .i64 en, .int .i64 mn] 23)
  have k0 := Blk.new w 23 #[.int .i64 en, .int .i64 mn]
  have H10 := Lib.hid (shown_any (w.alloc (.cells #[.int .i64 en, .int .i64 mn] 23)))
  have HB0 := Lib.hid hbX
  have HK0 := Lib.hid (fun W (hb : Below (w.alloc (.cells #[.int .i64 en, .int .i64 mn] 23)).heap.size (w.alloc (.cells #[.int .i64 en, .int .i64 mn] 23)) W) => k0.later hb)
  have HM := fun W (hb : Below w.heap.size w W) => Lib.hid (made_any en mn _ _ rfl rfl sd hsd a cap l hn hu W (hA.later hb))
  have HD := fun W => Lib.hid (name_any k hk W)
  have hns := name_size k
  generalize nameB k = m at *
  clear hu hA hbX k0 hk
  go_enter Tryz.func9, Tryz.ntmps9
  go_wp2_with fail
  refine H10.out.mono ?_
  rintro e w1 ⟨rfl, hb1⟩
  obtain ⟨c0, c1, _, _⟩ := facts2 (HK0.out w1 hb1)
  have HM1 := HM w1 (HB0.out.trans (hb1.mono HB0.out.size))
  have HB1 := Lib.hid (HB0.out.trans (hb1.mono HB0.out.size))
  clear hb1 H10 HM
  go_wp2_with fail
  refine HM1.out.mono ?_
  rintro e w2 ⟨s, r, c, rfl, hc, h2⟩
  obtain ⟨E, hE⟩ := h2.here
  have HF := Lib.hid (show ∀ W, Below w1.heap.size w1 W → Below w.heap.size w W from fun W hb => HB1.out.trans (hb.mono HB1.out.size))
  have HRM := Lib.hid (here_remove hE m (by omega))
  have hEl := hE.good.2.1
  clear h2 hE HM1 HB1 HB0 HK0 c0 c1
  go_wp2_with fail
  refine (HD _).out.mono ?_
  rintro e w2' ⟨rfl, rfl⟩
  clear HD
  go_wp2_with fail
  refine HRM.out.mono ?_
  rintro e w3 ⟨rfl, h3, _⟩
  have hl3 : (rmE E m).length ≤ 100 := Nat.le_trans (List.length_filter_le _ _) (by omega)
  have HA1 := has_rm E m
  have HA2 := rm_add (rmE E m) m sc
  have HA3 := add_add (rmE E m) m sc
  have HA4 := has_add (rmE E m) m sc
  rw [rm_rm] at HA2
  have hl4 := addE_len h3.good.1 m sc
  rw [HA1] at hl4
  generalize hasE E m = b0 at *
  generalize rmE E m = E1 at *
  have HLN := Lib.hid (here_len h3)
  have H3 := Lib.hid h3
  clear HRM h3
  go_wp2_with fail
  refine HLN.out.mono ?_
  rintro e w4 ⟨rfl, hb4⟩
  have h4 := H3.out.later hb4
  have HRG := Lib.hid (here_range h4)
  have H4 := Lib.hid h4
  clear HLN hb4 H3 h4
  go_wp2_with fail
  refine HRG.out.mono ?_
  rintro e w5 ⟨was, rfl, hwas, hb5⟩
  have h5 := H4.out.later hb5
  have HAD := Lib.hid (here_add h5 (by omega) (by omega) m sc 1 hsc)
  have HWAS := Lib.hid hwas
  clear HRG H4 h5 hb5 hwas
  by_cases hbad : 64 < m.size
  · have e1 : addN m 1 = 2 := by unfold addN badB; rw [decide_eq_true (.inl hbad)]; rfl
    rw [e1] at HAD
    have hb64 : (64 : Int) < m.size := by omega
    generalize addA E1 m 1 = bA at *
    clear HA1 HA2 HA3 HA4 hl4
    go_wp2_with fail
    refine HAD.out.mono ?_
    rintro e w6 ⟨rfl, h6, _⟩
    have H6 := Lib.hid (HF.out w6 h6.below)
    clear HAD h6
    go_wp2_with fail
    go_returns
    exact ⟨rfl, H6.out⟩
  · have hb1 : badB m 1 = false := decide_eq_false (by omega)
    have hb7 : badB m 7 = false := decide_eq_false (by omega)
    have e1 : addN m 1 = 0 := by unfold addN; rw [hb1]; rfl
    have e2 : addA E1 m 1 = true := by unfold addA; rw [hb1, HA1]; rfl
    have e3 : addS E1 m sc 1 = addE E1 m sc := by unfold addS; rw [hb1]; rfl
    have f1 : addN m 7 = 0 := by unfold addN; rw [hb7]; rfl
    have f2 : addA (addE E1 m sc) m 7 = false := by unfold addA; rw [hb7, HA4]; rfl
    have f3 : addS (addE E1 m sc) m sc 7 = addE E1 m sc := by unfold addS; rw [hb7]; exact HA3
    rw [e1, e2, e3] at HAD
    generalize addE E1 m sc = E2 at *
    clear hb1 hb7 e1 e2 e3 HA1 HA3
    have hl5 : E2.length ≤ 400 := by rw [hl4]; simp; omega
    have hlt2 : E2.length < 400 := by rw [hl4]; simp; omega
    clear hl4
    go_wp2_with fail
    refine HAD.out.mono ?_
    rintro e w6 ⟨rfl, h6, kr6⟩
    have HW6 := Lib.hid (kr6 _ _ _ HWAS.out)
    have HLN := Lib.hid (here_len h6)
    have H6 := Lib.hid h6
    clear HAD h6 kr6 HWAS
    go_wp2_with fail
    refine HLN.out.mono ?_
    rintro e w7 ⟨rfl, hb7⟩
    have h7 := H6.out.later hb7
    have HRG := Lib.hid (here_range h7)
    have H7 := Lib.hid h7
    have HW7 := Lib.hid (HW6.out.later hb7)
    clear HLN H6 h7 hb7 HW6
    go_wp2_with fail
    refine HRG.out.mono ?_
    rintro e w8 ⟨now, rfl, hnow, hb8⟩
    have h8 := H7.out.later hb8
    have HAD := Lib.hid (here_add h8 hlt2 (by omega) m sc 7 hsc)
    rw [f1, f2, f3] at HAD
    have HW8 := Lib.hid (HW7.out.later hb8)
    have HN8 := Lib.hid hnow
    clear HRG H7 h8 hb8 hnow HW7 f1 f2 f3
    go_wp2_with fail
    refine HAD.out.mono ?_
    rintro e w9 ⟨rfl, h9, kr9⟩
    have HW9 := Lib.hid (kr9 _ _ _ HW8.out)
    have HN9 := Lib.hid (kr9 _ _ _ HN8.out)
    have HLN := Lib.hid (here_len h9)
    have H9 := Lib.hid h9
    clear HAD h9 kr9 HW8 HN8
    go_wp2_with fail
    refine HLN.out.mono ?_
    rintro e w10 ⟨rfl, hb10⟩
    have h10 := H9.out.later hb10
    have HRG := Lib.hid (here_range h10)
    have H10 := Lib.hid h10
    have HW10 := Lib.hid (HW9.out.later hb10)
    have HN10 := Lib.hid (HN9.out.later hb10)
    clear HLN H9 h10 hb10 HW9 HN9
    go_wp2_with fail
    refine HRG.out.mono ?_
    rintro e w11 ⟨again, rfl, hag, hb11⟩
    have h11 := H10.out.later hb11
    have HRM := Lib.hid (here_remove h11 m (by omega))
    rw [HA4, HA2] at HRM
    have HW11 := Lib.hid (HW10.out.later hb11)
    have HN11 := Lib.hid (HN10.out.later hb11)
    have HG11 := Lib.hid hag
    clear HRG H10 h11 hb11 hag HW10 HN10 HA4 HA2
    go_wp2_with fail
    refine HRM.out.mono ?_
    rintro e w12 ⟨rfl, h12, kr12⟩
    have HW12 := Lib.hid (kr12 _ _ _ HW11.out)
    have HS1 := Lib.hid (same_rows now again E2 (by omega) w12 (kr12 _ _ _ HN11.out) (kr12 _ _ _ HG11.out))
    have H12 := Lib.hid h12
    clear HRM h12 kr12 HW11 HN11 HG11
    go_wp2_with fail
    refine HS1.out.mono ?_
    rintro e w13 ⟨rfl, hb13⟩
    have h13 := H12.out.later hb13
    have HLN := Lib.hid (here_len h13)
    have H13 := Lib.hid h13
    have HW13 := Lib.hid (HW12.out.later hb13)
    clear HS1 H12 h13 hb13 HW12
    go_wp2_with fail
    refine HLN.out.mono ?_
    rintro e w14 ⟨rfl, hb14⟩
    have h14 := H13.out.later hb14
    have HRG := Lib.hid (here_range h14)
    have H14 := Lib.hid h14
    have HW14 := Lib.hid (HW13.out.later hb14)
    clear HLN H13 h14 hb14 HW13
    go_wp2_with fail
    refine HRG.out.mono ?_
    rintro e w15 ⟨end1, rfl, hend, hb15⟩
    have h15 := H14.out.later hb15
    have HS2 := Lib.hid (same_rows was end1 E1 (by omega) w15 (HW14.out.later hb15) hend)
    have H15 := Lib.hid h15
    clear HRG H14 h15 hb15 HW14 hend
    go_wp2_with fail
    refine HS2.out.mono ?_
    rintro e w16 ⟨rfl, hb16⟩
    have H16 := Lib.hid (HF.out w16 (H15.out.later hb16).below)
    clear HS2 H15 hb16
    go_wp2_with fail
    go_returns
    exact ⟨rfl, H16.out⟩
end Go.Proofs.YtpaphfofjfjdlaaGreat
