/- Least, the program's and the reference's. -/
import Derived.Test.YtpjggdmfgoajbaaLeast
import Derived.Test.YtpjggdmfgoajbaaLaws2
namespace Go.Proofs.Ytpjggdmfgoajbaa
open Go.RowKit Go.Shelf
attribute [local go_sem] Oper.semAt_some
attribute [local go_sem] field0

/-- Whether there is a use, and all are known. -/
def leastOk (l : List Use) (now : Int) : Bool := !l.isEmpty && !anyW l now
def leastA (l : List Use) (now : Int) : Int := if leastOk l now then leastN (cntsU l now) else 0
def leastE (l : List Use) (now : Int) : Int := if leastOk l now then 0 else 130
theorem all_of {l : List Use} {now : Int} (h : anyW l now = false) (hn : I64 now) : ∀ u ∈ l, Known u now := fun u hu => by
  unfold anyW at h
  rw [List.any_eq_false] at h
  have := h u hu
  exact known_of (by unfold okB; simpa using this) hn

set_option maxRecDepth 100000 in
theorem leasts_any (l : List Use) (hl : ∀ u ∈ l, I64U u) (hz : l.length ≤ 9223372036854775807) (now : Int) (hn : I64 now) (a : Option Addr) (cap : Nat) (w : World) (hU : Uses w a l) :
    Calls Try.prog 19 #[.slice a l.length cap, .int .i64 now] w fun e w' => e = .returned (.tuple #[.int .i64 (leastA l now), .int .i64 (leastE l now)]) ∧ Below w.heap.size w w' := by
  unfold leastA leastE leastOk
  have HK := fun w hU => Lib.hid (known_any a cap l hl hz now w hU)
  have HU := Lib.hid hU
  have HA := fun h => all_of (l := l) (now := now) h hn
  by_cases h0 : l.length = 0
  · obtain rfl : l = [] := List.length_eq_zero_iff.1 h0
    clear HK HA h0 hU
    simp only [List.isEmpty_nil, Bool.not_true, Bool.false_and, Bool.false_eq_true, if_false, List.length_nil]
    go_enter Try.func19, Try.ntmps19
    go_wp2
    go_ret2
    exact ⟨rfl, Below.refl _ _⟩
  · have he : l.isEmpty = false := by cases l <;> simp_all
    have hb0 : ((l.length : Int) == 0) = false := by simpa using h0
    rw [he]
    have hpos : 0 < l.length := by omega
    cases ha : anyW l now with
    | true =>
      rw [ha] at HK
      simp only [Bool.not_false, Bool.not_true, Bool.and_false, Bool.false_eq_true, if_false] at HK ⊢
      clear HA hU ha he
      go_enter Try.func19, Try.ntmps19
      go_wp2_with fail
      refine (HK _ HU.out).out.mono ?_
      rintro e w1 ⟨rfl, hb⟩
      have HB := Lib.hid hb
      clear hb
      go_wp2
      go_ret2
      exact ⟨rfl, HB.out⟩
    | false =>
      have hk := HA ha
      have HL := fun w hU => Lib.hid (least_any l now hk hpos hz a cap w hU)
      rw [ha] at HK
      simp only [Bool.not_false, Bool.and_true, if_true] at HK ⊢
      generalize leastN (cntsU l now) = p at *
      clear HA hU ha he hk
      go_enter Try.func19, Try.ntmps19
      go_wp2_with fail
      refine (HK _ HU.out).out.mono ?_
      rintro e w1 ⟨rfl, hb⟩
      have HB := Lib.hid hb
      clear hb
      go_wp2_with fail
      refine (HL _ (HU.out.below HB.out)).out.mono ?_
      rintro e w2 ⟨rfl, hb⟩
      have HB2 := Lib.hid (HB.out.trans (hb.mono HB.out.size))
      clear hb
      go_wp2
      go_ret2
      exact ⟨rfl, HB2.out⟩

/-- What the reference holds behind the first i uses. -/
def PartR (xs : List Int) (i : Nat) (p f : Int) : Prop := (i = 0 ∧ p = -1) ∨ (∃ (q : Nat) (h : q < xs.length), p = q ∧ q < i ∧ xs[q] = f ∧ (∀ (j : Nat) (h : j < xs.length), j < i → f ≤ xs[j]) ∧ ∀ (j : Nat) (h : j < q), f < xs[j])
theorem PartR.neg {xs : List Int} {i : Nat} {p f : Int} (h : PartR xs i p f) : (i = 0 ∧ p = -1) ∨ (0 ≤ p ∧ 0 < i ∧ p < i) := by
  rcases h with h | ⟨q, _, h1, h2, _⟩
  · exact .inl h
  · exact .inr ⟨by omega, by omega, by omega⟩
theorem PartR.less {xs : List Int} {i : Nat} {p f x : Int} (h : PartR xs i p f) (hx : xs[i]? = some x) (hlt : p < 0 ∨ x < f) : PartR xs (i + 1) i x := by
  obtain ⟨hi, he⟩ := List.getElem?_eq_some_iff.1 hx
  refine .inr ⟨i, hi, rfl, by omega, he, fun j hj hji => ?_, fun j hj => ?_⟩
  · by_cases e : j = i
    · subst e; omega
    · rcases h with ⟨h1, _⟩ | ⟨q, _, h1, h2, h3, h4, _⟩
      · omega
      · have := h4 j hj (by omega); omega
  · rcases h with ⟨h1, _⟩ | ⟨q, _, h1, h2, h3, h4, _⟩
    · omega
    · have := h4 j (by omega) hj; omega
theorem PartR.more {xs : List Int} {i : Nat} {p f x : Int} (h : PartR xs i p f) (hx : xs[i]? = some x) (h0 : ¬ p < 0) (hge : ¬ x < f) : PartR xs (i + 1) p f := by
  obtain ⟨hi, he⟩ := List.getElem?_eq_some_iff.1 hx
  rcases h with ⟨_, h1⟩ | ⟨q, h, h1, h2, h3, h4, h5⟩
  · omega
  · refine .inr ⟨q, h, h1, by omega, h3, fun j hj hji => ?_, h5⟩
    by_cases e : j = i
    · subst e; omega
    · exact h4 j hj (by omega)
theorem PartR.done {xs : List Int} {p f : Int} (h : PartR xs xs.length p f) (h0 : ¬ p < 0) : (leastN xs : Int) = p := by
  rcases h with ⟨_, h1⟩ | ⟨q, h, h1, h2, h3, h4, h5⟩
  · omega
  · rw [h1, IsLeast.eq (p := q) ⟨h, fun j hj => by rw [h3]; exact h4 j hj hj, fun j hj => by rw [h3]; exact h5 j hj⟩]

set_option maxRecDepth 100000 in
set_option maxHeartbeats 2000000 in
theorem refLeast_any (l : List Use) (hz : l.length ≤ 9223372036854775807) (now : Int) (hn : I64 now) (a : Option Addr) (cap : Nat) (w : World) (hU : Uses w a l) :
    Calls Try.prog 20 #[.slice a l.length cap, .int .i64 now] w fun e w' => e = .returned (.tuple #[.int .i64 (leastA l now), .int .i64 (leastE l now)]) ∧ Below w.heap.size w w' := by
  have HU := Lib.hid hU
  have HC := fun u w => Lib.hid (refCount_any u now hn w)
  have HX := Lib.hid (fun (i : Nat) (h : i < l.length) => cnts_at (now := now) h)
  have HLN := Lib.hid (cnts_len l now)
  have HAE : Hid (leastOk l now = false → leastA l now = 0 ∧ leastE l now = 130) := Lib.hid fun h => by unfold leastA leastE; rw [h]; exact ⟨rfl, rfl⟩
  have HAT : Hid (leastOk l now = true → leastA l now = leastN (cntsU l now) ∧ leastE l now = 0) := Lib.hid fun h => by unfold leastA leastE; rw [h]; exact ⟨rfl, rfl⟩
  generalize hxs : cntsU l now = xs at *
  generalize leastA l now = la at *
  generalize leastE l now = le at *
  clear hU hxs
  go_enter Try.func20, Try.ntmps20
  go_wp2
  go_loopw [6, 7, 8] (fun p f i wr => ∃ (k : Nat) (pp ff : Int), i = .int .i64 k ∧ p = .int .i64 pp ∧ f = .int .i64 ff ∧ k ≤ l.length ∧ PartR xs k pp ff ∧ Hid (∀ (j : Nat) (hj : j < l.length), j < k → wrongB l[j] now = false) ∧ Below w.heap.size w wr) (fun _ _ i _ => l.length - (intOf i).toNat)
  case atStart => exact ⟨0, -1, 0, rfl, rfl, rfl, by omega, .inl ⟨rfl, rfl⟩, Lib.hid fun j hj h => by omega, Below.refl _ _⟩
  case round =>
    obtain ⟨k, pp, ff, rfl, rfl, rfl, hk, hP, hall, hb⟩ := hrel
    by_cases hlt : k < l.length
    · obtain ⟨b, off, rfl, c0, c1⟩ := (HU.out.below hb) k hlt
      have hlt2 : (k : Int) < l.length := by omega
      have hx := HX.out k hlt
      have hneg := hP.neg
      have HP := Lib.hid hP
      have HB := Lib.hid hb
      have HW := Lib.hid (show wrongB l[k] now = false → ∀ (j : Nat) (hj : j < l.length), j < k + 1 → wrongB l[j] now = false from fun h j hj h2 => by
        by_cases e : j = k
        · subst e; exact h
        · exact hall.out j hj (by omega))
      have HT := Lib.hid (show wrongB l[k] now = true → leastOk l now = false from fun h => by
        unfold leastOk
        rw [show anyW l now = true from List.any_eq_true.2 ⟨_, List.getElem_mem hlt, h⟩]; simp)
      generalize l[k] = u at *
      have HCC := fun w => HC u w
      have hokd : okB u now = !wrongB u now := rfl
      cases hw : wrongB u now with
      | true =>
        rw [hw] at hokd
        rw [cnt_no hokd, err_no hokd] at HCC
        obtain ⟨e1, e2⟩ := HAE.out (HT.out hw)
        subst e1 e2
        obtain ⟨c, m⟩ := u
        unfold valU at HCC
        simp only at c0 c1 HCC
        clear hP hb hall hw hokd HW HT hx hneg HC
        go_wp2_with fail
        refine (HCC _).out.mono ?_
        rintro e w2 ⟨rfl, hb⟩
        have HB2 := Lib.hid (HB.out.trans (hb.mono HB.out.size))
        clear hb
        go_wp2
        go_ret2
        exact ⟨rfl, HB2.out⟩
      | false =>
        rw [hw] at hokd
        rw [cnt_ok hokd, err_ok hokd] at HCC
        have HW2 := Lib.hid (HW.out hw)
        have hcn := cnt_in (known_of hokd hn)
        generalize cntU u now = n at *
        have HXX := Lib.hid hx
        obtain ⟨c, m⟩ := u
        unfold valU at HCC
        simp only at c0 c1 HCC
        clear hP hb hall hw hokd HW HT hx HC
        have hcs : (pp < 0) ∨ (¬ pp < 0 ∧ n < ff) ∨ (¬ pp < 0 ∧ ¬ n < ff) := by omega
        have HCS := Lib.hid hcs
        clear hneg
        rcases hcs with h1 | ⟨h1, h2⟩ | ⟨h1, h2⟩
        · have HN := Lib.hid (HP.out.less HXX.out (.inl h1))
          go_wp2_with fail
          refine (HCC _).out.mono ?_
          rintro e w2 ⟨rfl, hb⟩
          have HB2 := Lib.hid (HB.out.trans (hb.mono HB.out.size))
          clear hb
          go_wp2
          go_roundw
          case rel => exact ⟨k + 1, k, n, by go_num, rfl, rfl, by omega, HN.out, HW2, HB2.out⟩
          case measure => simp [intOf]; omega
        · have HN := Lib.hid (HP.out.less HXX.out (.inr h2))
          go_wp2_with fail
          refine (HCC _).out.mono ?_
          rintro e w2 ⟨rfl, hb⟩
          have HB2 := Lib.hid (HB.out.trans (hb.mono HB.out.size))
          clear hb
          go_wp2
          go_roundw
          case rel => exact ⟨k + 1, k, n, by go_num, rfl, rfl, by omega, HN.out, HW2, HB2.out⟩
          case measure => simp [intOf]; omega
        · have HN := Lib.hid (HP.out.more HXX.out h1 h2)
          go_wp2_with fail
          refine (HCC _).out.mono ?_
          rintro e w2 ⟨rfl, hb⟩
          have HB2 := Lib.hid (HB.out.trans (hb.mono HB.out.size))
          clear hb
          go_wp2
          go_roundw
          case rel => exact ⟨k + 1, pp, ff, by go_num, rfl, rfl, by omega, HN.out, HW2, HB2.out⟩
          case measure => simp [intOf]; omega
    · obtain rfl : k = l.length := by omega
      have hnone := anyW_take hall.out (Nat.le_refl _)
      have hneg := hP.neg
      have HB := Lib.hid hb
      clear hb
      by_cases h0 : pp < 0
      · have hl0 : l = [] := List.length_eq_zero_iff.1 (by omega)
        obtain ⟨e1, e2⟩ := HAE.out (by rw [hl0]; rfl)
        subst e1 e2
        clear hneg hP hnone hall hl0
        go_wp2
        go_ret2
        exact ⟨rfl, HB.out⟩
      · have hne : l.isEmpty = false := by cases l <;> simp_all
        obtain ⟨e1, e2⟩ := HAT.out (by unfold leastOk; rw [hne, hnone]; rfl)
        have e3 := PartR.done (by rw [HLN.out]; exact hP) h0
        rw [e3] at e1
        subst e1 e2
        clear hneg hP hnone hall hne e3
        go_wp2
        go_ret2
        exact ⟨rfl, HB.out⟩
end Go.Proofs.Ytpjggdmfgoajbaa
