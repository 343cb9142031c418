/- made: a list behind acts. -/
import Derived.Test.YtidiaomeahoapaaDoneAny
namespace Go.Proofs.Ytidiaomeahoapaa
open Go.RowKit Go.Shelf
attribute [local go_sem] Oper.semAt_some

/-- The level of an act, less one. -/
def lv (n : Int) : Nat := (n % 32).toNat
theorem lv_lt (n : Int) : lv n < 32 := by unfold lv; omega
theorem bits_31 (n : Int) : bits .and .i64 n 31 = (lv n : Int) := by
  unfold bits
  show IntKind.i64.wrap ((BitVec.ofInt 64 n &&& BitVec.ofInt 64 31).toNat : Int) = _
  have h31 : (BitVec.ofInt 64 31).toNat = 31 := by decide
  have h2 : ∀ x : Nat, x &&& 31 = x % 32 := fun x => Nat.and_two_pow_sub_one_eq_mod x 5
  rw [BitVec.toNat_and, h31, h2, BitVec.toNat_ofInt]
  have h3 : ((n % ((2 ^ 64 : Nat) : Int)).toNat % 32) = (n % 32).toNat := by
    have : ((2 ^ 64 : Nat) : Int) = 18446744073709551616 := by decide
    rw [this]
    omega
  rw [h3]
  unfold lv
  exact IntWalk.i64_in _ (by omega)
def runM (l : List Ac) : List En := l.foldl (fun M x => effM x (lv x.l + 1) M) []
theorem insM_len (M : List En) (m : ByteArray) (s : Int) (l : Nat) : (insM M m s l).length = M.length + 1 := by
  have : posM M m s ≤ M.length := by unfold posM; exact (List.takeWhile_sublist _).length_le
  unfold insM; simp; omega
theorem cutM_len (M : List En) (a b : Nat) (h : a ≤ b) : (cutM M a b).length ≤ M.length := by unfold cutM; simp; omega
theorem effM_len (x : Ac) (l : Nat) (M : List En) : (effM x l M).length ≤ M.length + 1 := by
  unfold effM
  split
  · split
    · omega
    · rw [insM_len]; omega
  · split
    · split
      · exact Nat.le_trans (cutM_len _ _ _ (by omega)) (by omega)
      · omega
    · split
      · omega
      · split
        · exact Nat.le_trans (cutM_len _ _ _ (by omega)) (by omega)
        · omega
theorem runM_snoc (l : List Ac) (i : Nat) (x : Ac) (h : l[i]? = some x) : runM (l.take (i + 1)) = effM x (lv x.l + 1) (runM (l.take i)) := by
  obtain ⟨hi, he⟩ := List.getElem?_eq_some_iff.1 h
  unfold runM
  rw [List.take_succ_eq_append_getElem hi, he, List.foldl_append, List.foldl_cons, List.foldl_nil]

structure MadeAt (w0 : World) (q : Nat) (M : List En) (k : Nat) (W : World) : Prop where
  ex : ∃ L, L.map er = M ∧ Ls W q L ∧ Beyond w0.heap.size q L ∧ L.length ≤ k
  below : Below w0.heap.size w0 W
theorem MadeAt.act {w0 W W' : World} {q k : Nat} {L : List Nd} {M : List En} (hB : Beyond w0.heap.size q L) (hl : M.length ≤ k) (hb : Below w0.heap.size w0 W) (h : Act1 W W' q L M) : MadeAt w0 q M k W' := by
  obtain ⟨⟨L', h1, h2, h3⟩, hf⟩ := h
  refine ⟨⟨L', h1, h2, fun b hb' => ?_, ?_⟩, step_far hB hb hf⟩
  · rcases h3 b hb' with h | h
    · exact hB b h
    · exact Nat.le_trans hb.size h
  · have := congrArg List.length h1
    rw [List.length_map] at this
    omega

set_option maxRecDepth 100000 in
set_option maxHeartbeats 4000000 in
theorem made_any (a : Option Addr) (cap : Nat) (l : List Ac) (hn : l.length ≤ 9223372036854775807) (hu : ∀ x ∈ l, x.Fit) (w : World) (hA : Acts w a l) :
    Calls Try.prog 24 #[.slice a l.length cap] w fun e w' => ∃ q, e = .returned (.pointer (some ⟨q, 0, none⟩)) ∧ w.heap.size ≤ q ∧ MadeAt w q (runM (l.take 120)) 120 w' := by
  have HN := Lib.hid (new_any w)
  have HU := Lib.hid hu
  have HA := Lib.hid hA
  clear hu hA
  go_enter Try.func24, Try.ntmps24
  go_wp2_with fail
  refine HN.out.mono ?_
  rintro e w1 ⟨rfl, hb, hl1⟩
  have hm0 : MadeAt w w.heap.size (runM (l.take 0)) 0 w1 := ⟨⟨[], rfl, hl1, (by rintro k ⟨x, hx, rfl⟩; simp at hx; subst hx; exact Nat.le_refl _), Nat.le_refl _⟩, hb⟩
  have HM0 := Lib.hid hm0
  clear hb hl1 hm0 HN
  go_wp2_with fail
  go_loopw [4] (fun i wr => ∃ (k : Nat), i = .int .i64 k ∧ k ≤ min l.length 120 ∧ MadeAt w w.heap.size (runM (l.take k)) k wr) (fun i _ => 120 - (intOf i).toNat)
  case atStart => exact ⟨0, rfl, by omega, HM0.out⟩
  case round =>
    obtain ⟨k, rfl, hk, hM⟩ := hrel
    by_cases hlt : k < l.length ∧ k < 120
    · obtain ⟨hk1, hk2⟩ := hlt
      obtain ⟨b, off, rfl, hc⟩ := HA.out k hk1
      obtain ⟨⟨L, hL, hls, hby, hlen⟩, hbl⟩ := hM
      have hc6 : ∀ j u, (l[k]).cells[j]? = some u → wr.cell? ⟨b, off + k * 6 + j, none⟩ = some u := fun j u hj => by
        have := hc j u hj
        exact (hbl.cell (World.block_lt_of_cell? w _ this)).trans this
      have hfit := HU.out _ (List.getElem_mem hk1)
      have hsn := runM_snoc l k l[k] (List.getElem?_eq_getElem hk1)
      generalize l[k] = x at *
      have c0 := hc6 0 _ rfl
      have c1 := hc6 1 _ rfl
      have c2 := hc6 2 _ rfl
      have c3 := hc6 3 _ rfl
      have c4 := hc6 4 _ rfl
      have c5 := hc6 5 _ rfl
      have HD := Lib.hid (done_any (hls.later (drewB wr 1)) (by omega) x hfit (lv x.l + 1) (by have := lv_lt x.l; omega))
      rw [Nat.add_zero] at c0
      unfold Ac.val at HD
      have hb31 := bits_31 x.l
      have hwr : IntKind.i64.wrap (1 + bits .and .i64 x.l 31) = ((lv x.l + 1 : Nat) : Int) := by
        rw [hb31]
        have := lv_lt x.l
        rw [IntWalk.i64_in _ (by omega)]
        omega
      clear hb31
      have HBY := Lib.hid hby
      have HL := Lib.hid hL
      have HBL := Lib.hid hbl
      have HSN := Lib.hid hsn
      clear hc hc6 hfit hls hby hL hbl hsn HA HU
      obtain ⟨xd, xm, xs, xl, xf, xt⟩ := x
      simp only at c0 c1 c2 c3 c4 c5 HD hwr
      have hk3 : (k : Int) < l.length := by omega
      have hk4 : (k : Int) < 120 := by omega
      go_wp2_with fail
      go_region_with ((go_at_call 23; refine HD.out.mono ?_; rintro e w2 ⟨rfl, hact⟩; have HACT := Lib.hid hact; clear hact))
      all_goals (
        go_wp2_with fail
        refine ⟨⟨k + 1, by go_num, by omega, ?_⟩, by simp [intOf]; omega⟩
        rw [HSN.out]
        refine MadeAt.act HBY.out ?_ (HBL.out.trans ((drewB wr 1).mono HBL.out.size)) (HL.out ▸ HACT.out)
        have h1 := effM_len ⟨xd, xm, xs, xl, xf, xt⟩ (lv xl + 1) (runM (l.take k))
        have h2 := congrArg List.length HL.out
        rw [List.length_map] at h2
        omega)
    · have hke : k = min l.length 120 := by omega
      have hfin : MadeAt w w.heap.size (runM (l.take 120)) 120 wr := by
        have e1 : l.take k = l.take 120 := by
          rw [hke]
          by_cases h : l.length ≤ 120
          · rw [Nat.min_eq_left h, List.take_of_length_le (Nat.le_refl _), List.take_of_length_le h]
          · rw [Nat.min_eq_right (by omega)]
        rw [e1] at hM
        obtain ⟨⟨L, h1, h2, h3, h4⟩, h5⟩ := hM
        exact ⟨⟨L, h1, h2, h3, by omega⟩, h5⟩
      have HFN := Lib.hid hfin
      clear hM hfin
      by_cases hl : k < l.length
      · have h120 : ¬ (k : Int) < 120 := by omega
        have hl2 : (k : Int) < l.length := by omega
        go_wp2_with fail
        go_returns
        exact ⟨_, rfl, Nat.le_refl _, HFN.out⟩
      · have hl2 : ¬ (k : Int) < l.length := by omega
        go_wp2_with fail
        go_returns
        exact ⟨_, rfl, Nat.le_refl _, HFN.out⟩
end Go.Proofs.Ytidiaomeahoapaa
