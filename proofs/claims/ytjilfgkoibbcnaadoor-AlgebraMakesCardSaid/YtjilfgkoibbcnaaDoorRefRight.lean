/- The reference's Right. -/
import Derived.Test.YtjilfgkoibbcnaaDoorFold
namespace Go.Proofs.YtjilfgkoibbcnaaDoor
open Go.RowKit Go.Shelf
attribute [local go_sem] Oper.semAt_some

theorem where_at (l : List Ent) (k : Nat) (hk : k < l.length) : whereE l l[k].1 = k ↔ ∀ (j : Nat) (h : j < k), l[j].1 ≠ l[k].1 := by
  unfold whereE
  cases hf : l.findIdx? (fun x => decide (x.1 = l[k].1)) with
  | none =>
    have := List.findIdx?_eq_none_iff.1 hf _ (List.getElem_mem hk)
    simp at this
  | some i =>
    obtain ⟨hi, h1, h2⟩ := List.findIdx?_eq_some_iff_getElem.1 hf
    have h1' : l[i].1 = l[k].1 := by simpa using h1
    constructor
    · intro e j hj
      have : i = k := Int.ofNat.inj e
      subst this
      have := h2 j hj
      simpa using this
    · intro h
      have hge : ¬ i < k := fun hlt => h i hlt h1'
      have hle : ¬ k < i := fun hlt => by
        have := h2 k hlt
        simp at this
      show (i : Int) = k
      omega
/-- What Right looks at in one place. -/
def fine (l : List Ent) (k : Nat) (hk : k < l.length) : Prop := (∀ h : 0 < k, ltE l[k - 1] l[k] = true) ∧ whereE l l[k].1 = k
theorem fine_of {l : List Ent} (h : rightP l = true) (k : Nat) (hk : k < l.length) : fine l k hk := by
  have hG := good_of_right h
  have hne : ∀ (i j : Nat) (hij : i < j) (hj : j < l.length), l[i].1 ≠ l[j].1 := fun i j hij hj => by
    have := (List.pairwise_iff_getElem.1 hG.nd) i j (by simp; omega) (by simpa using hj) hij
    simpa using this
  refine ⟨fun h0 => ?_, (where_at l k hk).2 fun j hj => hne j k hj hk⟩
  have h1 := (List.pairwise_iff_getElem.1 hG.srt) (k - 1) k (by omega) hk (by omega)
  rcases ltE_tri l[k - 1] l[k] with h2 | h2 | h2
  · exact h2
  · exact absurd (congrArg (·.1) h2) (hne (k - 1) k (by omega) hk)
  · rw [h2] at h1; cases h1
theorem right_of {l : List Ent} (h : ∀ (k : Nat) (hk : k < l.length), fine l k hk) : rightP l = true := by
  have hlt : ∀ (j i : Nat) (hij : i < j) (hj : j < l.length), ltE l[i] l[j] = true := by
    intro j
    induction j with
    | zero => intro i hij; omega
    | succ j ih =>
      intro i hij hj
      have h1 := (h (j + 1) hj).1 (by omega)
      by_cases e : i = j
      · subst e; exact h1
      · exact ltE_trans (ih i (by omega) (by omega)) h1
  refine Good.right ⟨?_, ?_⟩
  · refine List.pairwise_iff_getElem.2 fun i j hi hj hij => ?_
    have hj' : j < l.length := by simpa using hj
    have := (where_at l j hj').1 (h j hj').2 i hij
    simpa using this
  · refine List.pairwise_iff_getElem.2 fun i j hi hj hij => ?_
    rw [ltE_asymm (hlt j i hij hj)]
    rfl

set_option maxRecDepth 100000 in
set_option maxHeartbeats 4000000 in
theorem refRight_any (a : Option Addr) (cap : Nat) (l : List Ent) (hl : l.length ≤ 1000) (hz : ∀ e ∈ l, e.1.size ≤ 1000000) (w : World) (hE : Ents w a l) :
    Calls Tryd.prog 21 #[.slice a l.length cap] w fun e w' => e = .returned (.bool (rightP l)) ∧ Below w.heap.size w w' := by
  have HE := Lib.hid hE
  have HZ := Lib.hid hz
  clear hE hz
  go_enter Tryd.func21, Tryd.ntmps21
  go_wp2
  go_loopw [3] (fun i wr => ∃ (k : Nat), i = .int .i64 k ∧ k ≤ l.length ∧ Below w.heap.size w wr ∧ Hid (∀ (j : Nat) (hj : j < l.length), j < k → fine l j hj)) (fun i _ => l.length - (intOf i).toNat)
  case atStart => exact ⟨0, rfl, by omega, Below.refl _ _, Lib.hid fun j hj h => by omega⟩
  case round =>
    obtain ⟨k, rfl, hk, hb, hall⟩ := hrel
    by_cases hlt : k < l.length
    · obtain ⟨b, off, rfl, c0, c1⟩ := (HE.out.below hb) k hlt
      have q1 := fun y : Ext wr => y.cell c0
      have q2 := fun y : Ext wr => y.cell c1
      have hne := Ext.one wr
      have hk2 : (k : Int) < l.length := by omega
      have HF := fun y : Ext wr => Lib.hid ((find_any (some ⟨b, off, none⟩) cap l (by omega) l[k].1 y.w ((HE.out.below hb).below y.ok)).mono (R' := fun e w' => e = .returned (.int .i64 (whereE l l[k].1)) ∧ Below y.w.heap.size y.w w') fun e w' h => ⟨h.1, by rw [h.2]; exact Below.refl _ _⟩)
      have HB := Lib.hid hb
      by_cases hw : whereE l l[k].1 = k
      · rw [hw] at HF
        cases k with
        | zero =>
          simp only [Nat.zero_mul, Nat.add_zero] at q1 q2
          rw [show ((0 : Nat) : Int) = 0 from rfl] at HF
          have HN := Lib.hid (show ∀ (j : Nat) (hj : j < l.length), j < 0 + 1 → fine l j hj from fun j hj h => by
            obtain rfl : j = 0 := by omega
            exact ⟨fun h => by omega, hw⟩)
          generalize l[0] = e at *
          clear hall hb c0 c1 hw
          go_wp2_with fail
          refine region_ext (w1 := wr) (by kernel_rfl) (by kernel_rfl) (Below.refl _ _) ?_
          repeat go_big_quiet_step ((go_at_call 23; exact Ext.call _ (HF _).out))
          refine wpQuiet_nil ?_
          rintro _ ⟨y, rfl⟩
          have HY := Lib.hid (HB.out.trans (y.ok.mono HB.out.size))
          clear q1 q2 hne HF
          go_wp2_with fail
          exact ⟨⟨0 + 1, by go_num, by omega, HY.out, HN⟩, by simp [intOf]; omega⟩
        | succ k =>
          obtain ⟨b', off', hb', d0, d1⟩ := (HE.out.below hb) k (by omega)
          cases hb'
          have q3 := fun y : Ext wr => y.cell d0
          have q4 := fun y : Ext wr => y.cell d1
          have HL := fun y : Ext wr => Lib.hid (refLess_any l[k].1 l[k + 1].1 (by have := HZ.out _ (List.getElem_mem (show k < l.length by omega)); omega) (by have := HZ.out _ (List.getElem_mem hlt); omega) l[k].2 l[k + 1].2 y.w)
          cases hl2 : ltE l[k] l[k + 1] with
          | true =>
            rw [show ((l[k].1, l[k].2) : Ent) = l[k] from rfl, show ((l[k + 1].1, l[k + 1].2) : Ent) = l[k + 1] from rfl, hl2] at HL
            have HN := Lib.hid (show ∀ (j : Nat) (hj : j < l.length), j < k + 1 + 1 → fine l j hj from fun j hj h => by
              by_cases e : j = k + 1
              · subst e; exact ⟨fun _ => hl2, hw⟩
              · exact hall.out j hj (by omega))
            generalize l[k] = e' at *
            generalize l[k + 1] = e at *
            clear hall hb c0 c1 d0 d1 hw hl2
            go_wp2_with fail
            refine region_ext (w1 := wr) (by kernel_rfl) (by kernel_rfl) (Below.refl _ _) ?_
            repeat go_big_quiet_step (first | (go_at_call 23; exact Ext.call _ (HF _).out) | (go_at_call 33; exact Ext.call _ (HL _).out))
            refine wpQuiet_nil ?_
            rintro _ ⟨y, rfl⟩
            have HY := Lib.hid (HB.out.trans (y.ok.mono HB.out.size))
            clear q1 q2 q3 q4 hne HF HL
            go_wp2_with fail
            exact ⟨⟨k + 1 + 1, by go_num, by omega, HY.out, HN⟩, by simp [intOf]; omega⟩
          | false =>
            rw [show ((l[k].1, l[k].2) : Ent) = l[k] from rfl, show ((l[k + 1].1, l[k + 1].2) : Ent) = l[k + 1] from rfl, hl2] at HL
            have HN := Lib.hid (show rightP l = false by
              rw [Bool.eq_false_iff]
              intro h
              have := (fine_of h (k + 1) hlt).1 (by omega)
              simp only [Nat.add_sub_cancel] at this
              rw [this] at hl2; cases hl2)
            generalize l[k] = e' at *
            generalize l[k + 1] = e at *
            clear hall hb c0 c1 d0 d1 hw hl2
            go_wp2_with fail
            refine region_ext (w1 := wr) (by kernel_rfl) (by kernel_rfl) (Below.refl _ _) ?_
            repeat go_big_quiet_step (first | (go_at_call 23; exact Ext.call _ (HF _).out) | (go_at_call 33; exact Ext.call _ (HL _).out))
            refine wpQuiet_nil ?_
            rintro _ ⟨y, rfl⟩
            have HY := Lib.hid (HB.out.trans (y.ok.mono HB.out.size))
            clear q1 q2 q3 q4 hne HF HL
            go_wp2_with fail
            go_returns
            exact ⟨by rw [HN.out]; rfl, HY.out⟩
      · have HN := Lib.hid (show rightP l = false by
          rw [Bool.eq_false_iff]
          intro h
          exact hw (fine_of h k hlt).2)
        have hw2 : (whereE l l[k].1 == (k : Int)) = false := by simpa using hw
        cases k with
        | zero =>
          simp only [Nat.zero_mul, Nat.add_zero] at q1 q2
          rw [show ((0 : Nat) : Int) = 0 from rfl] at hw2
          generalize whereE l l[0].1 = q at *
          generalize l[0] = e at *
          clear hall hb c0 c1 hw
          go_wp2_with fail
          refine region_ext (w1 := wr) (by kernel_rfl) (by kernel_rfl) (Below.refl _ _) ?_
          repeat go_big_quiet_step ((go_at_call 23; exact Ext.call _ (HF _).out))
          refine wpQuiet_nil ?_
          rintro _ ⟨y, rfl⟩
          have HY := Lib.hid (HB.out.trans (y.ok.mono HB.out.size))
          clear q1 q2 hne HF
          go_wp2_with fail
          go_returns
          exact ⟨by rw [HN.out]; rfl, HY.out⟩
        | succ k =>
          obtain ⟨b', off', hb', d0, d1⟩ := (HE.out.below hb) k (by omega)
          cases hb'
          have q3 := fun y : Ext wr => y.cell d0
          have q4 := fun y : Ext wr => y.cell d1
          have HL := fun y : Ext wr => Lib.hid (refLess_any l[k].1 l[k + 1].1 (by have := HZ.out _ (List.getElem_mem (show k < l.length by omega)); omega) (by have := HZ.out _ (List.getElem_mem hlt); omega) l[k].2 l[k + 1].2 y.w)
          rw [show ((l[k].1, l[k].2) : Ent) = l[k] from rfl, show ((l[k + 1].1, l[k + 1].2) : Ent) = l[k + 1] from rfl] at HL
          generalize hbb : ltE l[k] l[k + 1] = bb at *
          generalize whereE l l[k + 1].1 = q at *
          generalize l[k] = e' at *
          generalize l[k + 1] = e at *
          clear hall hb c0 c1 d0 d1 hw hbb
          cases bb
          all_goals (
            go_wp2_with fail
            refine region_ext (w1 := wr) (by kernel_rfl) (by kernel_rfl) (Below.refl _ _) ?_
            repeat go_big_quiet_step (first | (go_at_call 23; exact Ext.call _ (HF _).out) | (go_at_call 33; exact Ext.call _ (HL _).out))
            refine wpQuiet_nil ?_
            rintro _ ⟨y, rfl⟩
            have HY := Lib.hid (HB.out.trans (y.ok.mono HB.out.size))
            clear q1 q2 q3 q4 hne HF HL
            go_wp2_with fail
            go_returns
            exact ⟨by rw [HN.out]; rfl, HY.out⟩)
    · obtain rfl : k = l.length := by omega
      have HN := Lib.hid (right_of fun j hj => hall.out j hj hj)
      have HB := Lib.hid hb
      clear hall hb
      go_wp2
      go_returns
      exact ⟨by rw [HN.out]; rfl, HB.out⟩
end Go.Proofs.YtjilfgkoibbcnaaDoor
