/- Texts of one kind in one: RefNo, CutsLaw, RefM. -/
import Derived.Test.YtidiaomeahoapaaQ13
import Derived.Test.YtidiaomeahoapaaQ11
/- The reference's Insert and Spans that do nothing. -/
namespace Go.Proofs.Ytidiaomeahoapaa
open Go.RowKit Go.Shelf
attribute [local go_sem] Oper.semAt_some

theorem refInsert_level (r : Nat) (m : ByteArray) (s : Int) (l : Int) (hl : l < 1 ∨ 32 < l) (w : World) : Calls Try.prog 31 #[.pointer (some ⟨r, 0, none⟩), .agg #[.string m, .int .i64 s], .int .i64 l] w fun e w' => e = .returned (.int .i64 2) ∧ Below w.heap.size w w' := by
  have HB := Lib.hid (alloc_below w (Obj.cells #[.string m, .int .i64 s] 32))
  by_cases h1 : l < 1
  · clear hl
    go_enter Try.func31, Try.ntmps31
    go_wp2
    go_ret
    exact ⟨rfl, HB.out⟩
  · have h2 : 32 < l := by omega
    clear hl
    go_enter Try.func31, Try.ntmps31
    go_wp2
    go_ret
    exact ⟨rfl, HB.out⟩

set_option maxRecDepth 100000 in
set_option maxHeartbeats 4000000 in
theorem refInsert_has (r : Nat) (E : List Ent) (H : List Int) (hl : E.length ≤ 1000) (hz : ∀ z ∈ E, z.1.size ≤ 281474976710656) (m : ByteArray) (hm : m.size ≤ 281474976710656) (s : Int) (l : Int) (h0 : 1 ≤ l) (h32 : l ≤ 32) (w : World) (hR : RefAt w r E H) (hno : anyE E m s = true) :
    Calls Try.prog 31 #[.pointer (some ⟨r, 0, none⟩), .agg #[.string m, .int .i64 s], .int .i64 l] w fun e w' => e = .returned (.int .i64 90) ∧ Below w.heap.size w w' := by
  obtain ⟨a, c, a', c', kR, hc, hc', hE, hI⟩ := hR.ex
  have HSk := fun W (hb : Below w.heap.size w W) => Lib.hid (refSeek_any a c E (by omega) hz m hm s W ((hE.later hb).ents))
  rw [hno] at HSk
  generalize cntE E m s = F at *
  have hb0 := alloc_below w (Obj.cells #[.string m, .int .i64 s] 32)
  have KB := Blk.new w 32 #[.string m, .int .i64 s]
  obtain ⟨b0, b1, _, _⟩ := facts2 KB
  obtain ⟨c0, c1, f0, f1⟩ := facts2 (kR.later hb0)
  have HB0 := Lib.hid hb0
  have h6 : ¬ l < 1 := by omega
  have h7 : ¬ (32 : Int) < l := by omega
  clear hE hI kR hR hl hc hc' hz hm hno hb0 KB h0 h32
  go_enter Try.func31, Try.ntmps31
  go_wp2_with fail
  go_region_with ((go_at_call 33; refine (HSk _ (HB0.out.trans ((drewB _ 1).mono HB0.out.size))).out.mono ?_; rintro e w1 ⟨rfl, hb1⟩))
  all_goals (
    have hB1 := (HB0.out.trans ((drewB _ 1).mono HB0.out.size)).trans (hb1.mono (HB0.out.trans ((drewB _ 1).mono HB0.out.size)).size)
    have HB1 := Lib.hid hB1
    clear hb1 hB1 b0 b1 c0 c1 f0 f1 HSk
    go_wp2_with fail
    go_ret
    exact ⟨rfl, HB1.out⟩)

set_option maxRecDepth 100000 in
theorem refSpans_out (r : Nat) (E : List Ent) (H : List Int) (hl : H.length ≤ 1000) (v : Int) (hv : v < 1 ∨ 32 < v) (w : World) (hR : RefAt w r E H) :
    Calls Try.prog 22 #[.pointer (some ⟨r, 0, none⟩), .int .i64 v] w fun e w' => e = .returned (.slice none 0 0) ∧ w' = w := by
  obtain ⟨a, c, a', c', kR, hc, hc', hE, hI⟩ := hR.ex
  obtain ⟨c0, c1, _, _⟩ := facts2 kR
  clear hc hc' hE hI kR hR
  have hcases : H.length = 0 ∨ (0 < H.length ∧ v < 1) ∨ (0 < H.length ∧ ¬ v < 1 ∧ ¬ v ≤ 32) := by omega
  clear hv
  go_enter Try.func22, Try.ntmps22
  go_wp2_with fail
  go_loopw [5, 6, 7] (fun u _ i wr => i = .int .i64 0 ∧ u = .slice none 0 0 ∧ wr = w) (fun _ _ _ _ => 0)
  case atStart => exact ⟨rfl, rfl, rfl⟩
  case round =>
    obtain ⟨rfl, rfl, rfl⟩ := hrel
    rcases hcases with h | ⟨h, h2⟩ | ⟨h, h2, h3⟩
    · have hk : ¬ (0 : Int) < H.length := by omega
      go_wp2_with fail
      go_returns
      exact ⟨rfl, rfl⟩
    · have hk : (0 : Int) < H.length := by omega
      have h4 : ¬ 1 ≤ v := by omega
      go_wp2_with fail
      go_returns
      exact ⟨rfl, rfl⟩
    · have hk : (0 : Int) < H.length := by omega
      have h4 : 1 ≤ v := by omega
      go_wp2_with fail
      go_returns
      exact ⟨rfl, rfl⟩
end Go.Proofs.Ytidiaomeahoapaa
/- What is cut at once is cut one by one. -/
namespace Go.Proofs.Ytidiaomeahoapaa
open Go.RowKit Go.Shelf
attribute [local go_sem] Oper.semAt_some

theorem cutM_self (M : List En) (a : Nat) : cutM M a a = M := List.take_append_drop a M
theorem cutM_get (M : List En) (a k : Nat) (h : a + k < M.length) : (cutM M a (a + k))[a]? = M[a + k]? := by
  unfold cutM
  have h1 : (M.take a).length = a := by simp; omega
  rw [List.getElem?_append_right (by omega), h1, Nat.sub_self, List.getElem?_drop]
  rfl
theorem cutM_succ (M : List En) (a k : Nat) (h : a + k < M.length) : cutM (cutM M a (a + k)) a (a + 1) = cutM M a (a + (k + 1)) := by
  unfold cutM
  have h1 : (M.take a).length = a := by simp; omega
  rw [List.take_append_of_le_length (by omega), List.take_of_length_le (by omega), List.drop_append, List.drop_of_length_le (by omega), h1, List.nil_append, List.drop_drop]
  congr 2
  omega
theorem sub_len (E : List Ent) (f t : Int) : (sub E f t).length = to0 t E.length - from0 f := by
  unfold sub to0
  simp; omega
theorem sub_get {M : List En} {f t : Int} {k : Nat} (h : k < (sub (M.map e2) f t).length) : from0 f + k < M.length ∧ ∃ y, M[from0 f + k]? = some y ∧ (sub (M.map e2) f t)[k]? = some (e2 y) := by
  have h2 := h
  rw [sub_len, List.length_map] at h2
  have h3 : from0 f + k < M.length := by unfold to0 at h2; omega
  refine ⟨h3, _, List.getElem?_eq_getElem h3, ?_⟩
  unfold sub
  rw [List.getElem?_take_of_lt (by rw [List.length_map]; exact h2), List.getElem?_drop, List.getElem?_map, List.getElem?_eq_getElem h3]
  rfl
theorem sub_num (M : List En) (f t : Int) : (if from0 f < to0 t M.length then (to0 t M.length : Int) - from0 f else 0) = ((sub (M.map e2) f t).length : Int) := by
  rw [sub_len, List.length_map]
  split <;> omega
theorem sub_end (M : List En) (f t : Int) : (if from0 f < to0 t M.length then cutM M (from0 f) (to0 t M.length) else M) = cutM M (from0 f) (from0 f + (sub (M.map e2) f t).length) := by
  rw [sub_len, List.length_map]
  split
  · rename_i h
    rw [show from0 f + (to0 t M.length - from0 f) = to0 t M.length by omega]
  · rename_i h
    rw [show from0 f + (to0 t M.length - from0 f) = from0 f by omega, cutM_self]

/-- Behind k deletes. -/
structure CutAt (w : World) (q1 : Nat) (L1 : List Nd) (q2 n0 : Nat) (r : Value) (M : List En) (f t : Int) (k : Nat) (W : World) : Prop where
  ex : ∃ K, K.map er = cutM M (from0 f) (from0 f + k) ∧ Pair2 w.heap.size W q1 L1 q2 K
  own : Own32 W n0 r (sub (M.map e2) f t)
  below : Below w.heap.size w W
theorem CutAt.next {w W W' : World} {q1 q2 n0 k : Nat} {L1 K : List Nd} {r : Value} {M : List En} {f t : Int}
    (hK : K.map er = cutM M (from0 f) (from0 f + k)) (hp : Pair2 w.heap.size W q1 L1 q2 K) (ho : Own32 W n0 r (sub (M.map e2) f t)) (hb : Below w.heap.size w W)
    (h : from0 f + k < M.length) (ha : Act1 W W' q2 K (cutM (K.map er) (from0 f) (from0 f + 1))) : CutAt w q1 L1 q2 n0 r M f t (k + 1) W' := by
  rw [hK, cutM_succ M _ k h] at ha
  obtain ⟨K', h1, h2⟩ := hp.swap.act hb.size ha
  exact ⟨⟨K', h1, h2.swap⟩, ha.own hp.two ho, hb.trans (hp.swap.far hb.size ha)⟩
theorem cut_here {W : World} {q : Nat} {K : List Nd} {M : List En} {f : Int} {k : Nat} {y : En} (h : Ls W q K) (hK : K.map er = cutM M (from0 f) (from0 f + k)) (hk : from0 f + k < M.length) (hy : M[from0 f + k]? = some y) :
    hasM (K.map er) y.1 y.2.1 = true ∧ posM (K.map er) y.1 y.2.1 = from0 f := by
  have h1 : (K.map er)[from0 f]? = some y := by rw [hK, cutM_get _ _ _ hk, hy]
  rw [List.getElem?_map] at h1
  obtain ⟨x, hx, rfl⟩ := Option.map_eq_some_iff.1 h1
  rw [has_er, pos_er]
  exact (pos_self h.srt hx).symm
theorem CutAt.start {w w1 w2 w3 w4 w5 : World} {q1 q2 n0 : Nat} {L1 L2 : List Nd} {r : Value} {M : List En} {f t : Int}
    (hb1 : Below w.heap.size w w1) (hb2 : Below w1.heap.size w1 w2) (hb3 : Below w2.heap.size w2 w3) (hb4 : Below w3.heap.size w3 w4)
    (l1 : Ls w2 q1 L1) (y1 : Beyond w1.heap.size q1 L1) (m2 : L2.map er = M) (l2 : Ls w3 q2 L2) (y2 : Beyond w2.heap.size q2 L2)
    (ho : Own32 w4 n0 r (sub (M.map e2) f t)) (ha : Act1 w4 w5 q1 L1 (if from0 f < to0 t M.length then cutM M (from0 f) (to0 t M.length) else M)) :
    ∃ L1', L1'.map er = cutM M (from0 f) (from0 f + (sub (M.map e2) f t).length) ∧ CutAt w q1 L1' q2 n0 r M f t 0 w5 := by
  have z1 := hb1.size
  have z2 := hb2.size
  have z3 := hb3.size
  have b2 := hb1.trans (hb2.mono z1)
  have b3 := b2.trans (hb3.mono b2.size)
  have b4 := b3.trans (hb4.mono b3.size)
  have hp : Pair2 w.heap.size w3 q1 L1 q2 L2 := ⟨l1.later hb3, l2, fun k hk => Nat.le_trans z1 (y1 k hk), fun k hk => Nat.le_trans (Nat.le_trans z1 z2) (y2 k hk), fun k hk hk2 => by
    have := l1.sk.lt hk
    have := y2 k hk2
    omega⟩
  have hp4 := hp.later hb4
  rw [sub_end] at ha
  obtain ⟨L', h1, h2⟩ := hp4.act b4.size ha
  refine ⟨L', h1, ⟨L2, ?_, h2⟩, ha.own hp4.one ho, b4.trans (hp4.far b4.size ha)⟩
  rw [m2, Nat.add_zero, cutM_self]

set_option maxRecDepth 100000 in
set_option maxHeartbeats 8000000 in
theorem cuts_walk (a : Option Addr) (cap : Nat) (l : List Ac) (hn : l.length ≤ 9223372036854775807) (hu : ∀ x ∈ l, x.Fit) (f t : Int) (w : World) (hA : Acts w a l) :
    Calls Try.prog 9 #[.slice a l.length cap, .int .i64 f, .int .i64 t] w fun e w' => e = .returned (.bool true) ∧ Below w.heap.size w w' := by
  have H10 := Lib.hid (shown_any w)
  have HM := fun w1 (hb : Below w.heap.size w w1) => Lib.hid (made_any a cap l hn hu w1 (hA.far (fun b o ho => (hb.block b (Array.getElem?_eq_some_iff.1 ho).1).trans ho)))
  clear hn hu hA
  go_enter Try.func9, Try.ntmps9
  go_wp2_with fail
  refine H10.out.mono ?_
  rintro e w1 ⟨rfl, hb1⟩
  have HM1 := HM w1 hb1
  have HB1 := Lib.hid hb1
  clear H10 hb1
  generalize hM : runM (l.take 120) = M at *
  go_wp2_with fail
  refine HM1.out.mono ?_
  rintro e w2 ⟨q1, rfl, hq1, ⟨⟨L1, m1, l1, y1, len1⟩, bl1⟩⟩
  have HM2 := HM w2 (HB1.out.trans (bl1.mono HB1.out.size))
  have A1 := Lib.hid m1
  have A2 := Lib.hid l1
  have A3 := Lib.hid y1
  have A4 := Lib.hid len1
  have A5 := Lib.hid bl1
  clear HM HM1 m1 l1 y1 len1 bl1 hq1
  go_wp2_with fail
  refine HM2.out.mono ?_
  rintro e w3 ⟨q2, rfl, hq2, ⟨⟨L2, m2, l2, y2, len2⟩, bl2⟩⟩
  have hR := range_ls (A2.out.later bl2) (by have := A4.out; omega) f t
  rw [en_er, A1.out] at hR
  have HR := Lib.hid hR
  have B1 := Lib.hid m2
  have B2 := Lib.hid l2
  have B3 := Lib.hid y2
  have B5 := Lib.hid bl2
  clear HM2 m2 l2 y2 len2 bl2 hq2 hR
  go_wp2_with fail
  refine HR.out.mono ?_
  rintro e w4 ⟨r, rfl, ho, hb4⟩
  have hC := cut_act ((A2.out.later B5.out).later hb4) (by have := A4.out; omega) f t
  rw [A1.out] at hC
  rw [sub_num M f t] at hC
  have HC := Lib.hid hC
  obtain ⟨a1, c1, e1⟩ := ho.ents.form
  subst e1
  have C1 := Lib.hid ho
  have C2 := Lib.hid hb4
  have hE120 : (sub (M.map e2) f t).length ≤ 120 := by
    have h1 := congrArg List.length A1.out
    have h2 := A4.out
    rw [List.length_map] at h1
    rw [sub_len, List.length_map]
    unfold to0
    omega
  clear HR hC ho hb4
  go_wp2_with fail
  refine HC.out.mono ?_
  rintro e w5 ⟨rfl, ha⟩
  obtain ⟨L3, n1, hs⟩ := CutAt.start HB1.out A5.out B5.out C2.out A2.out A3.out B1.out B2.out B3.out C1.out ha
  have N1 := Lib.hid n1
  have HS := Lib.hid hs
  have hMl : M.length ≤ 120 := by
    have h1 := congrArg List.length A1.out
    have h2 := A4.out
    rw [List.length_map] at h1
    omega
  have HML := Lib.hid hMl
  clear HC ha n1 hs C1 C2 A1 A2 A3 A4 A5 B1 B2 B3 B5 HB1 hM hMl
  obtain ⟨E, hE⟩ : ∃ E, E = sub (M.map e2) f t := ⟨_, rfl⟩
  have HE := Lib.hid hE
  rw [← hE] at hE120
  rw [← hE]
  clear hE
  go_wp2_with fail
  go_loopw [12] (fun i wr => ∃ (k : Nat), i = .int .i64 k ∧ k ≤ E.length ∧ CutAt w q1 L3 q2 w3.heap.size (.slice a1 E.length c1) M f t k wr) (fun i _ => E.length - (intOf i).toNat)
  case atStart => exact ⟨0, rfl, by omega, by rw [HE.out]; exact HS.out⟩
  case round =>
    obtain ⟨k, rfl, hk, ⟨⟨K, hK, hp⟩, ho, hb⟩⟩ := hrel
    rw [← HE.out] at ho
    have hKl : K.length ≤ 100000 := by
      have h1 := congrArg List.length hK
      rw [List.length_map] at h1
      have h2 := cutM_len M (from0 f) (from0 f + k) (by omega)
      have := HML.out
      omega
    by_cases hlt : k < E.length
    · obtain ⟨hkM, y, hy, hx⟩ := sub_get (M := M) (f := f) (t := t) (k := k) (by rw [← HE.out]; exact hlt)
      rw [← HE.out] at hx
      obtain ⟨g, c, e1, p0, p1⟩ := ho.ents.at' k _ hx
      cases e1
      obtain ⟨u1, u2⟩ := cut_here hp.two hK hkM hy
      have hD := delete_act hp.two hKl y.1 y.2.1
      rw [u1, u2] at hD
      have HD := Lib.hid hD
      have D1 := Lib.hid hK
      have D2 := Lib.hid hp
      have D3 := Lib.hid ho
      have D4 := Lib.hid hb
      have D5 := Lib.hid hkM
      obtain ⟨ym, ys, yl⟩ := y
      have hk2 : (k : Int) < E.length := by omega
      simp only [e2] at p0 p1 HD
      clear hK hp ho hb hkM hy hx u1 u2 hD HS N1 HML
      go_wp2_with fail
      refine HD.out.mono ?_
      rintro e w6 ⟨rfl, ha⟩
      have HA := Lib.hid ha
      clear HD ha
      go_wp2_with fail
      refine ⟨⟨k + 1, by go_num, hlt, ?_⟩, by simp [intOf]; omega⟩
      exact CutAt.next D1.out D2.out (HE.out ▸ D3.out) D4.out D5.out HA.out
    · obtain rfl : k = E.length := by omega
      have hsame : L3.map er = K.map er := by rw [N1.out, hK, HE.out]
      have hl3 : L3.length = K.length := by simpa using congrArg List.length hsame
      have F1 := Lib.hid hsame
      have F2 := Lib.hid hp
      have F4 := Lib.hid hb
      have F5 := Lib.hid hKl
      have HL1 := fun W (hb : Below wr.heap.size wr W) => Lib.hid (len_any q1 L3 rfl (hp.one.later hb).sk)
      have HL2 := fun W (hb : Below wr.heap.size wr W) => Lib.hid (len_any q2 K rfl (hp.two.later hb).sk)
      have HR1 := Lib.hid (all_ls hp.one (by omega))
      have HR2 := fun W (hb : Below wr.heap.size wr W) => Lib.hid (all_ls (hp.two.later hb) hKl)
      rw [hl3] at HL1 HR1
      have HV1 := fun W (hb : Below wr.heap.size wr W) => Lib.hid (levels_ls (hp.one.later hb))
      have HV2 := fun W (hb : Below wr.heap.size wr W) => Lib.hid (levels_ls (hp.two.later hb))
      rw [lvs_er hsame] at HV1
      have HL1' := HL1 wr (Below.refl _ _)
      clear hsame hp hb hKl ho hK HS N1 HML hlt hk
      go_wp2_with fail
      refine HL1'.out.mono ?_
      rintro e w6 ⟨rfl, he⟩
      rw [he]
      clear he HL1' HL1
      go_wp2_with fail
      refine HR1.out.mono ?_
      rintro e w7 ⟨r1, rfl, o1, b7⟩
      have HL2' := HL2 w7 b7
      have HR2' := HR2 w7 b7
      have O1 := Lib.hid o1
      have B7 := Lib.hid b7
      clear HL2 HR2 HR1 o1 b7
      go_wp2_with fail
      refine HL2'.out.mono ?_
      rintro e w8 ⟨rfl, he⟩
      rw [he]
      clear he HL2'
      go_wp2_with fail
      refine HR2'.out.mono ?_
      rintro e w9 ⟨r2, rfl, o2, b9⟩
      have hSm := same_any r1 r2 (K.map en) (by have := F5.out; simp; omega) w9 (by
        have := O1.out.ents.later b9
        rwa [en_er, F1.out, ← en_er] at this) o2.ents
      have HSm := Lib.hid hSm
      have B9 := Lib.hid (B7.out.trans (b9.mono B7.out.size))
      clear HR2' o2 b9 hSm O1 B7
      go_wp2_with fail
      refine HSm.out.mono ?_
      rintro e w10 ⟨rfl, b10⟩
      have b10' := B9.out.trans (b10.mono B9.out.size)
      have HW1 := HV1 _ b10'
      have HW2 := HV2 _ b10'
      have BE := Lib.hid (F4.out.trans (b10'.mono F4.out.size))
      clear HV1 HV2 b10 b10' HSm B9
      go_wp2_with fail
      refine HW1.out.mono ?_
      rintro e w11 ⟨rfl, he⟩
      rw [he]
      clear he
      go_wp2_with fail
      refine HW2.out.mono ?_
      rintro e w12 ⟨rfl, he⟩
      rw [he]
      clear he
      go_wp2_with fail
      go_returns
      exact ⟨rfl, BE.out⟩
end Go.Proofs.Ytidiaomeahoapaa
/- The reference's list holds what the program's list holds. -/
namespace Go.Proofs.Ytidiaomeahoapaa
open Go.RowKit Go.Shelf
attribute [local go_sem] Oper.semAt_some

def lI (y : En) : Int := (y.2.2 : Int)
def RefM (W : World) (r : Nat) (M : List En) : Prop := RefAt W r (M.map e2) (M.map lI)
def Small (M : List En) : Prop := ∀ y ∈ M, y.1.size ≤ 281474976710656
/-- In their order. -/
def SrtM (M : List En) : Prop := M.Pairwise fun x y => lessE x.1 x.2.1 y.1 y.2.1 = true
theorem srt_er {L : List Nd} (h : Srt L) : SrtM (L.map er) := by
  unfold SrtM
  rw [List.pairwise_map]
  exact h
theorem cnt_M {L : List Nd} (h : Srt L) (m : ByteArray) (s : Int) : cntE ((L.map er).map e2) m s = posM (L.map er) m s ∧ anyE ((L.map er).map e2) m s = hasM (L.map er) m s := by
  rw [← en_er, cnt_pos h, any_has h, pos_er, has_er]
  exact ⟨rfl, rfl⟩
theorem RefM.at_ins {W : World} {r : Nat} {M : List En} {m : ByteArray} {s : Int} {l : Nat} (h : RefAt W r ((M.map e2).take (posM M m s) ++ (m, s) :: (M.map e2).drop (posM M m s)) ((M.map lI).take (posM M m s) ++ (l : Int) :: (M.map lI).drop (posM M m s))) : RefM W r (insM M m s l) := by
  unfold RefM insM
  rw [List.map_append, List.map_append, List.map_cons, List.map_cons, List.map_take, List.map_take, List.map_drop, List.map_drop]
  exact h
theorem RefM.at_cut {W : World} {r : Nat} {M : List En} {a b : Nat} (h : RefAt W r ((M.map e2).take a ++ (M.map e2).drop b) ((M.map lI).take a ++ (M.map lI).drop b)) : RefM W r (cutM M a b) := by
  unfold RefM cutM
  rw [List.map_append, List.map_append, List.map_take, List.map_take, List.map_drop, List.map_drop]
  exact h
theorem Small.e2 {M : List En} (h : Small M) : ∀ z ∈ M.map e2, z.1.size ≤ 281474976710656 := fun z hz => by
  obtain ⟨y, hy, rfl⟩ := List.mem_map.1 hz
  exact h y hy

/-- What an Insert tells and leaves, whatever the level. -/
def insR (M : List En) (m : ByteArray) (s : Int) (l : Int) : Int := if l < 1 ∨ 32 < l then 2 else if hasM M m s then 90 else 0
def insE (M : List En) (m : ByteArray) (s : Int) (l : Int) : List En := if l < 1 ∨ 32 < l then M else if hasM M m s then M else insM M m s l.toNat
def delE (M : List En) (m : ByteArray) (s : Int) : List En := if hasM M m s then cutM M (posM M m s) (posM M m s + 1) else M
def cutR (M : List En) (f t : Int) : Int := if from0 f < to0 t M.length then (to0 t M.length : Int) - from0 f else 0
def cutE (M : List En) (f t : Int) : List En := if from0 f < to0 t M.length then cutM M (from0 f) (to0 t M.length) else M

section
variable {w : World} {p r : Nat} {L : List Nd}
theorem insert_raw (h : Ls w p L) (hN : L.length ≤ 100000) (m : ByteArray) (hm : m.size ≤ 281474976710656) (s : Int) (l : Int) :
    Calls Try.prog 27 #[.pointer (some ⟨p, 0, none⟩), .agg #[.string m, .int .i64 s], .int .i64 l] w fun e w' => e = .returned (.int .i64 (insR (L.map er) m s l)) ∧ Act1 w w' p L (insE (L.map er) m s l) := by
  unfold insR insE
  by_cases hl : l < 1 ∨ 32 < l
  · simp only [if_pos hl]
    exact (insert_level p m s l hl w).mono fun e w' hp => ⟨hp.1, Act1.same h hp.2⟩
  · simp only [if_neg hl]
    have := insert_act h hN m hm s l.toNat (by omega)
    rwa [show ((l.toNat : Nat) : Int) = l by omega] at this
theorem refInsert_raw (hs : Srt L) (hN : L.length ≤ 1000) (hz : Small (L.map er)) (hr : RefM w r (L.map er)) (m : ByteArray) (hm : m.size ≤ 281474976710656) (s : Int) (l : Int) :
    Calls Try.prog 31 #[.pointer (some ⟨r, 0, none⟩), .agg #[.string m, .int .i64 s], .int .i64 l] w fun e w' => e = .returned (.int .i64 (insR (L.map er) m s l)) ∧ RefM w' r (insE (L.map er) m s l) ∧ Far (fun k => k = r) w w' := by
  obtain ⟨c1, c2⟩ := cnt_M hs m s
  unfold insR insE
  by_cases hl : l < 1 ∨ 32 < l
  · simp only [if_pos hl]
    exact (refInsert_level r m s l hl w).mono fun e w' hp => ⟨hp.1, hr.later hp.2, Far.of_below hp.2⟩
  · simp only [if_neg hl]
    cases hh : hasM (L.map er) m s with
    | true =>
      exact (refInsert_has r _ _ (by simpa using hN) hz.e2 m hm s l (by omega) (by omega) w hr (by rw [c2, hh])).mono fun e w' hp => ⟨hp.1, hr.later hp.2, Far.of_below hp.2⟩
    | false =>
      have := refInsert_new r _ _ (by simpa using hN) (by simp) hz.e2 m hm s l.toNat (by omega) (by omega) w hr (by rw [c2, hh])
      rw [show ((l.toNat : Nat) : Int) = l by omega, c1] at this
      refine this.mono fun e w' hp => ⟨hp.1, RefM.at_ins (l := l.toNat) ?_, hp.2.2⟩
      rw [show ((l.toNat : Nat) : Int) = l by omega]
      exact hp.2.1
theorem refDelete_raw (hs : Srt L) (hN : L.length ≤ 1000) (hz : Small (L.map er)) (hr : RefM w r (L.map er)) (m : ByteArray) (hm : m.size ≤ 281474976710656) (s : Int) :
    Calls Try.prog 32 #[.pointer (some ⟨r, 0, none⟩), .agg #[.string m, .int .i64 s]] w fun e w' => e = .returned (.bool (hasM (L.map er) m s)) ∧ RefM w' r (delE (L.map er) m s) ∧ Far (fun k => k = r) w w' := by
  obtain ⟨c1, c2⟩ := cnt_M hs m s
  have := refDelete_any r _ _ (by simpa using hN) (by simp) hz.e2 m hm s w hr
  rw [c1, c2] at this
  refine this.mono fun e w' hp => ⟨hp.1, ?_, hp.2.2.2⟩
  unfold delE
  cases hh : hasM (L.map er) m s with
  | true => exact RefM.at_cut (hp.2.2.1 hh)
  | false => exact hp.2.1 hh
theorem refCut_raw (hN : L.length ≤ 1000) (hr : RefM w r (L.map er)) (f t : Int) :
    Calls Try.prog 34 #[.pointer (some ⟨r, 0, none⟩), .int .i64 f, .int .i64 t] w fun e w' => e = .returned (.int .i64 (cutR (L.map er) f t)) ∧ RefM w' r (cutE (L.map er) f t) ∧ Far (fun k => k = r) w w' := by
  have := refCut_any r _ _ (by simpa using hN) (by simp) f t w hr
  refine this.mono fun e w' hp => ?_
  have hlen : ((L.map er).map e2).length = (L.map er).length := by simp
  rw [hlen] at hp
  unfold cutR cutE
  generalize L.map er = M at *
  by_cases h : from0 f < to0 t M.length
  · rw [if_pos h, if_pos h]
    have e1 : frN f M.length = from0 f := by unfold frN; unfold from0 to0 at *; omega
    have e3 : toN f t M.length = to0 t M.length := by unfold toN; rw [e1]; unfold from0 to0 at *; omega
    rw [e1, e3] at hp
    exact ⟨hp.1, RefM.at_cut hp.2.1, hp.2.2⟩
  · rw [if_neg h, if_neg h]
    have e1 : toN f t M.length = frN f M.length := by unfold toN frN; unfold from0 to0 at *; omega
    rw [e1] at hp
    refine ⟨by rw [hp.1]; simp, ?_, hp.2.2⟩
    have h2 := RefM.at_cut hp.2.1
    rwa [cutM_self] at h2
end
end Go.Proofs.Ytidiaomeahoapaa
