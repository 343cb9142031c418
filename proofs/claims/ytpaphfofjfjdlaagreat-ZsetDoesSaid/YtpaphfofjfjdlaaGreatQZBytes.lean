/- A set: its size, of a list too; scores. -/
import Derived.Test.YtpaphfofjfjdlaaGreatQZFind
import Derived.Test.YtpaphfofjfjdlaaGreatQZF
namespace Go.Proofs.YtpaphfofjfjdlaaGreat
open Go.RowKit Go.Shelf Sk
attribute [local go_sem] Oper.semAt_some

/-- The size of a list of entries. -/
def szL : List En → Nat
  | [] => 0
  | e :: r => 64 + 2 * e.1.size + szL r
theorem szL_append (a b : List En) : szL (a ++ b) = szL a + szL b := by
  induction a with
  | nil => simp [szL]
  | cons e r ih => simp only [List.cons_append, szL, ih]; omega
theorem szL_take {E : List En} {i : Nat} {x : En} (h : E[i]? = some x) : szL (E.take (i + 1)) = szL (E.take i) + (64 + 2 * x.1.size) := by
  obtain ⟨hi, he⟩ := List.getElem?_eq_some_iff.1 h
  rw [List.take_succ_eq_append_getElem hi, szL_append, he]
  simp [szL]
theorem szL_le {E : List En} (h : ∀ e ∈ E, e.1.size ≤ 64) : szL E ≤ 192 * E.length := by
  induction E with
  | nil => simp [szL]
  | cons e r ih =>
    have h1 := h e (by simp)
    have h2 := ih fun e he => h e (by simp [he])
    simp only [szL, List.length_cons]; omega

variable {w w' w1 w2 : World} {s b l p q sd c : Nat} {D D1 : Nat → Prop} {L L1 : List Nd} {m : ByteArray → Option Int} {n : Dc.Sh} {le lm : Int} {E : List En}
set_option maxRecDepth 100000 in
set_option maxHeartbeats 4000000 in
theorem bytes_walk (fv : Nat) (E : List En) (hl : E.length ≤ 1000000) (hz : ∀ e ∈ E, e.1.size ≤ 64) (w : World) (HT : ∀ W, Below w.heap.size w W → Hid (Calls Tryz.prog 46 #[.iface 106 (.pointer (some ⟨fv, 0, none⟩))] W (Thru W E))) :
    Calls Tryz.prog 161 #[.pointer (some ⟨fv, 0, none⟩)] w fun e w' => e = .returned (.int .i64 (szL E)) ∧ Below w.heap.size w w' := by
  refine (callsIn_wide (n := 6)).1 (callsIn_of_wp_marks Tryz.func161 rfl trivial ?_ rfl)
  refine wpIn_wide.2 ?_
  simp only [Tryz.ntmps161, List.size_toArray, List.length_cons, List.length_nil, Nat.reduceAdd, Nat.reduceSub, Array.replicate_succ, Array.replicate_zero, List.push_toArray, List.append_toArray, List.nil_append, List.cons_append]
  have hB0 : Below w.heap.size w (w.alloc (Obj.cells #[Value.int .i64 0] 3)) := alloc_below _ _
  have k0 := Blk.new w 3 #[Value.int .i64 0]
  have HTA := HT _ hB0
  go_wp2_with fail
  have hsz : (w.alloc (Obj.cells #[Value.int .i64 0] 3)).heap.size = w.heap.size + 1 := by simp
  generalize w.alloc (Obj.cells #[Value.int .i64 0] 3) = w1 at *
  refine HTA.out.mono ?_
  rintro e w2 ⟨bx, r, rfl, hbx, hbs, hr, hb2⟩
  have k0 := k0.later hb2
  have hB := hB0.trans (hb2.mono hB0.size)
  have hseq := vals_any E (by omega) r w1.heap.size bx [w.heap.size] w2 hr (by intro k hk; simp at hk; omega) hbx
  have hz2 := hb2.size
  have HZ := Lib.hid hz
  have HLL := Lib.hid (show ∀ i, szL (E.take i) ≤ 192 * E.length from fun i => Nat.le_trans (szL_le fun e he => hz e (List.mem_of_mem_take he)) (by simp only [List.length_take]; omega))
  clear HT HTA hB0 hr hbx hz
  go_wp2_with fail
  refine (wpIn_wide (n := 6)).1 (Zr.range_x (gf := 68) (lb := #[.pointer (some ⟨bx, 0, none⟩)]) (encs := encE) (xs := E) (L := [w.heap.size]) rfl (enters_of Tryz.func68 (by kernel_rfl) rfl) hseq (fun _ _ => rfl)
    (fun i W => Below w.heap.size w W ∧ Blk W w.heap.size 3 #[.int .i64 (szL (E.take i))])
    (fun _ _ _ => False)
    ?hI ?hIx ?h0 (fun i x a' W => ∃ q, (∃ u, a' = { tmps := #[.pointer (some ⟨fv, 0, none⟩), undef, .int .i64 0, .pointer (some ⟨w.heap.size, 0, none⟩), .pointer (some ⟨q, 0, none⟩), .pointer (some ⟨fv, 0, none⟩), .iface 106 (.pointer (some ⟨fv, 0, none⟩)),
          .func (.func 68) #[] #[.pointer (some ⟨bx, 0, none⟩)], u, undef, undef, undef, undef, undef, undef, undef, undef], defers := [] }) ∧ Blk W q 48 #[.string x.1, .int .i64 x.2])
    (fun _ _ _ => own_ex fun _ => (own_pure _ _).and (own_blk _ _ _ _)) ?assign ?body ?done ?stop)
  case hI => exact (own_below _ w (by omega)).and (own_blk _ _ _ _)
  case hIx => exact fun c => own_pure _ _
  case h0 => exact ⟨hB, k0⟩
  case assign =>
    rintro l i ⟨xm, xs⟩ W K hx' ⟨hb, q0⟩ hK
    clear hseq
    unfold encE
    gi_wp2
    refine hK _ _ ((KeepsOthers.alloc _ _).from _) (Zr.KeepC.of_below ((Below.refl _ _).alloc (Nat.le_refl _) _)) ⟨hb.alloc hb.size _, q0.alloc _⟩ ⟨_, ⟨_, rfl⟩, Blk.new _ _ _⟩
  case body =>
    rintro l i ⟨xm, xs⟩ a' W hx' ⟨hb, q0⟩ ⟨q, ⟨u, rfl⟩, q6⟩
    clear hseq
    simp only at q6
    have hxm : xm.size ≤ 64 := HZ.out _ (List.mem_of_getElem? hx')
    have hst := szL_take hx'
    have hle := HLL.out i
    simp only at hst
    obtain ⟨c1, c2⟩ := facts1 q0
    obtain ⟨d0, d1, _⟩ := facts2 q6
    have Q0 := Lib.hid q0
    have HB := Lib.hid hb
    have HST := Lib.hid hst
    generalize szL (E.take i) = k at *
    clear q0 q6 hx' hb hst
    gi_wp2
    refine ⟨(KeepsOthers.setCell _ _ _).from _, Zr.KeepC.set _ _ _ _ (by simp), HB.out.setCell (p := ⟨w.heap.size, 0, none⟩) (Nat.le_refl _) _, ?_⟩
    rw [HST.out]
    have := Q0.out.set 0 (.int .i64 ((k + (64 + 2 * xm.size) : Nat) : Int))
    simp only [Int.natCast_add, Int.natCast_mul] at this ⊢
    exact this
  case done =>
    rintro D W hD ⟨hb, q0⟩ hK
    rw [List.take_length] at q0
    clear hseq
    obtain ⟨c1, c2⟩ := facts1 q0
    have HK := Lib.hid hK
    have HB := Lib.hid hb
    clear hK q0 hb
    simp only [Exit.inBlock, Exit.then]
    go_wp2
    exact Zr.leave (v := .int .i64 (szL E)) rfl HK.out (by simp [results, Tryz.results161, go_sem]) ⟨rfl, below_put HB.out (by omega) _⟩
  case stop =>
    rintro D c j W hD hI hK
    exact hI.elim
theorem bytes_l (h : LSet w s l p q D L m n le lm sd c E) : Calls Tryz.prog 20 #[.pointer (some ⟨s, 0, none⟩)] w fun e w' => e = .returned (.int .i64 (szL E)) ∧ Below w.heap.size w w' := by
  obtain ⟨⟨e0, _⟩, _⟩ := facts4 h.blk
  have hlen := h.len
  have hln := h.lenN
  have HB := Lib.hid (bytes_walk l E (by omega) (fun e he => (h.good.each e he).1) w fun W hb => Lib.hid (by have := l_thru (h.li.later hb) hln; rw [h.en] at this; exact this))
  clear h
  go_enter Tryz.func20, Tryz.ntmps20
  go_wp2_with fail
  refine HB.out.mono ?_
  rintro e w1 ⟨rfl, hb⟩
  go_wp2_with fail
  go_ret
  exact ⟨rfl, hb⟩
/-- A set's size. -/
def szS (isL : Bool) (E : List En) : Nat := if isL then szL E else (Pk.packB E).size
theorem set_bytes {S : Nat → Prop} {isL : Bool} (h : SetIs w s S isL le lm c E) : Calls Tryz.prog 20 #[.pointer (some ⟨s, 0, none⟩)] w fun e w' => e = .returned (.int .i64 (szS isL E)) ∧ Below w.heap.size w w' := by
  obtain ⟨sd, ⟨rfl, b, h, _⟩ | ⟨rfl, l, p, q, D, L, m, n, h, _⟩⟩ := h
  · exact (bytes_p h).mono fun _ _ ⟨he, hb⟩ => ⟨he, by rw [hb]; exact Below.refl _ _⟩
  · exact bytes_l h

/-- A member's score, 0 if it is not there. -/
def scE (E : List En) (k : ByteArray) : Int := match whE E k with
  | none => 0
  | some i => (E.getD i (⟨#[]⟩, 0)).2
theorem sc_p {E : List En} (hv : ValidE E) (k : ByteArray) : (Pk.getS (Pk.packB E) (Pk.whereS E k)).1.2 = scE E k ∧ ((Pk.getS (Pk.packB E) (Pk.whereS E k)).2 == 0) = (whE E k).isSome := by
  have h := score_p hv k
  unfold scE
  cases hq : whE E k with
  | none => rw [hq] at h; rw [h]; exact ⟨rfl, rfl⟩
  | some i =>
    rw [hq] at h
    obtain ⟨v, hx, hg⟩ := h
    rw [hg]
    simp [List.getD_eq_getElem?_getD, hx]
theorem sc_l {E : List En} (hm : MapOf m E) (k : ByteArray) : (m k).getD 0 = scE E k ∧ (m k).isSome = (whE E k).isSome := by
  have h := map_get hm k
  unfold scE
  cases hq : whE E k with
  | none => rw [hq] at h; rw [h]; exact ⟨rfl, rfl⟩
  | some i =>
    rw [hq] at h
    obtain ⟨v, hx, hg⟩ := h
    rw [hx]
    simp [List.getD_eq_getElem?_getD, hg]
theorem ps_score (h : PSet w s b le lm sd c E) (k : ByteArray) : Calls Tryz.prog 25 #[.pointer (some ⟨s, 0, none⟩), .string k] w fun e w' => e = .returned (.tuple #[.int .i64 (scE E k), .bool (whE E k).isSome]) ∧ Below w.heap.size w w' := by
  have HN := Lib.hid (now_s h.blk)
  have HS := Lib.hid (p_score h.pk k)
  rw [(sc_p h.pk.ok k).1, (sc_p h.pk.ok k).2] at HS
  clear h
  generalize (whE E k).isSome = bb at *
  generalize scE E k = ii at *
  go_enter Tryz.func25, Tryz.ntmps25
  go_wp2_with fail
  refine HN.out.mono ?_
  rintro e w1 ⟨rfl, rfl⟩
  go_wp2_with fail
  refine HS.out.mono ?_
  rintro e w1 ⟨rfl, hb⟩
  go_wp2_with fail
  go_ret2
  exact ⟨rfl, hb⟩
theorem ls_score (h : LSet w s l p q D L m n le lm sd c E) (k : ByteArray) (hk : k.size ≤ 281474976710656) : Calls Tryz.prog 25 #[.pointer (some ⟨s, 0, none⟩), .string k] w fun e w' => e = .returned (.tuple #[.int .i64 (scE E k), .bool (whE E k).isSome]) ∧
    ∃ D1 n1, LSet w' s l p q D1 L m n1 le lm sd c E ∧ LStep w w' l p L D L D1 := by
  have HN := Lib.hid (now_s h.blk)
  have hcap := h.good.cap
  have hnn := h.n
  have HS := Lib.hid (l_score h.li (by omega) k hk)
  rw [(sc_l h.map k).1, (sc_l h.map k).2] at HS
  have HF := fun w1 (hd : Dc.IsNow D w q sd m n.step1 w1) => Lib.hid (show ∃ D1 n1, LSet w1 s l p q D1 L m n1 le lm sd c E ∧ LStep w w1 l p L D L D1 from ⟨_, _, h.dict hd (by rw [step1_c]; exact hnn), LStep.dict hd⟩)
  clear h hk hcap hnn
  generalize (whE E k).isSome = bb at *
  generalize scE E k = ii at *
  go_enter Tryz.func25, Tryz.ntmps25
  go_wp2_with fail
  refine HN.out.mono ?_
  rintro e w1 ⟨rfl, rfl⟩
  go_wp2_with fail
  refine HS.out.mono ?_
  rintro e w2 ⟨rfl, hd⟩
  have HF2 := HF w2 hd
  clear hd HF
  go_wp2_with fail
  go_ret2
  exact ⟨rfl, HF2.out⟩
theorem set_score {S : Nat → Prop} {isL : Bool} (h : SetIs w s S isL le lm c E) (k : ByteArray) (hk : k.size ≤ 281474976710656) : Calls Tryz.prog 25 #[.pointer (some ⟨s, 0, none⟩), .string k] w fun e w' => e = .returned (.tuple #[.int .i64 (scE E k), .bool (whE E k).isSome]) ∧ SetNow w s S isL le lm c E w' := by
  have h0 := h
  obtain ⟨sd, ⟨rfl, b, h, hS⟩ | ⟨rfl, l, p, q, D, L, m, n, h, hS⟩⟩ := h
  · exact (ps_score h k).mono fun _ _ ⟨he, hb⟩ => ⟨he, SetNow.same h0 hb⟩
  · exact (ls_score h k hk).mono fun _ _ ⟨he, D1, n1, h1, hs⟩ => ⟨he, SetNow.list hS h1 hs⟩
end Go.Proofs.YtpaphfofjfjdlaaGreat
