/- DictDoes: what acts tell, and the tables behind each of them. -/
import Derived.Test.YtifbambalfifaaaDid
import Derived.Test.YtifbambalfifaaaRtexts
import Derived.Test.YtifbambalfifaaaRbkt
import Derived.Test.YtifbambalfifaaaOpen
namespace Go.Proofs.Ytifbambalfifaaa.Both
open Go.RowKit Go.Shelf
attribute [local go_sem] Oper.semAt_some

theorem alike_new : Alike newD ⟨[], 4, 0, 0⟩ := ⟨rfl, by rw [show newD.a.flatten = [] by decide +kernel]; exact List.Perm.refl _, by rw [show newD.b.flatten = [] by decide +kernel]; exact List.Perm.refl _⟩
theorem Pair.new {w w1 w2 w3 : World} {p q seed : Nat} (hb1 : Below w.heap.size w w1) (h2 : Rep tyI w2 p (fresh tyI w1 w2) seed newD) (hb2 : Below w1.heap.size w1 w2) (h3 : RRep w3 q (fresh tyR w2 w3) seed ⟨[], 4, 0, 0⟩) (hb3 : Below w2.heap.size w2 w3) : Pair w p q seed 0 newD ⟨[], 4, 0, 0⟩ w3 := by
  have h12 := hb1.trans (hb2.mono hb1.size)
  refine ⟨(h2.later hb3).wide (fun k hk => ⟨.inr (Nat.le_trans hb1.size (hk.1.resolve_left (fun h => h))), hk.2.same (hb3.block k hk.2.lt)⟩) (fun _ hk => hk.2), h3.wide (fun k hk => ⟨.inr (Nat.le_trans h12.size (hk.1.resolve_left (fun h => h))), hk.2⟩) (fun _ hk => hk.2), h12.trans (hb3.mono h12.size), ?_, alike_new, by decide +kernel, fun x hx => ?_⟩
  · exact (Like.new tyI seed).1
  · have : newD.nodes = [] := by decide +kernel
    rw [this] at hx
    cases hx

def rowK (rows : List (List Nd)) (s : Nat) : List (List UInt8) := sortK ((rows.getD s []).map bytesK)
theorem rowK_len (rows : List (List Nd)) (s : Nat) : (rowK rows s).length ≤ rows.flatten.length := by
  unfold rowK
  rw [(sortK_perm _).length_eq, List.length_map, List.getD_eq_getElem?_getD]
  cases h : rows[s]? with
  | none => simp
  | some r => exact row_le rows r (List.mem_of_getElem? h)
theorem refbucket_like {S : Nat → Prop} {p seed : Nat} {D : Dc} {R : Rd} {w : World} (h : RRep w p S seed R) (ok : R.Ok) (hk : ∀ x ∈ R.L, x.key.size ≤ 281474976710656) (al : Alike D R) (inv : Inv tyI seed D) (t : Nat) (ht : t = 0 ∨ t = 1) (s : Nat) (hs : s < (rowsT D t).length) (W : World) (hb : Below w.heap.size w W) :
    Calls Try.prog 16 #[.pointer (some ⟨p, 0, none⟩), .int .i64 t, .int .i64 s] W fun e w' => ∃ u, e = .returned (.tuple #[u, .int .i64 0]) ∧ Own9 w' W.heap.size u (rowK (rowsT D t) s) ∧ Below W.heap.size W w' := by
  obtain ⟨eA, eB, _, _⟩ := al.len
  obtain ⟨r1, r2⟩ := al.row inv s
  rcases ht with rfl | rfl
  · have hs1 : s < D.a.length := hs
    have h1 := refbucket_in (h.later hb) ok hk 0 (.inl rfl) s (by rw [if_neg (by omega), eA]; exact hs1)
    have h2 : rowK (rowsT D 0) s = sortK ((R.L.filter (inSlot R 0 s)).map fun x => x.key.data.toList) := by
      refine (r1 hs1).trans ?_
      rw [List.filter_filter]
      congr 3
      funext x
      unfold inSlot
      cases x.nx <;> simp
    rw [h2]
    exact h1
  · have hs1 : s < D.b.length := hs
    have h1 := refbucket_in (h.later hb) ok hk 1 (.inr rfl) s (by rw [if_pos rfl, eB]; exact hs1)
    have h2 : rowK (rowsT D 1) s = sortK ((R.L.filter (inSlot R 1 s)).map fun x => x.key.data.toList) := by
      refine (r2 hs1).trans ?_
      rw [List.filter_filter]
      congr 3
      funext x
      unfold inSlot
      cases x.nx <;> simp
    rw [h2]
    exact h1

/-- What Bucket tells, there and there. -/
def BucketTold (P : FuncId) (p : Nat) (t s : Int) (ks : List (List UInt8)) (e0 : Int) (W : World) : Prop :=
  Calls Try.prog P #[.pointer (some ⟨p, 0, none⟩), .int .i64 t, .int .i64 s] W fun e w' => ∃ u, e = .returned (.tuple #[u, .int .i64 e0]) ∧ Own9 w' W.heap.size u ks ∧ Below W.heap.size W w'
theorem own_none (W : World) (B : Nat) : Own9 W B (.slice none 0 0) [] := World.ownsRow_nil _ _ _ _
theorem bucket_told {w W : World} {p q seed k : Nat} {D : Dc} {R : Rd} (h : Pair w p q seed k D R W) (hk : k ≤ 1000) (t : Int) (s : Nat) :
    ∃ ks e0, ks.length ≤ 1000000 ∧ BucketTold 15 p t s ks e0 W ∧ ∀ W1, Below W.heap.size W W1 → BucketTold 16 q t s ks e0 W1 := by
  obtain ⟨eA, eB, _, _⟩ := h.like.len
  have hdn := h.dn
  have hdk := h.n
  have hok := h.inv.ok.n
  have inn : ∀ tn : Nat, tn = 0 ∨ tn = 1 → s < (rowsT D tn).length → ∃ ks e0, ks.length ≤ 1000000 ∧ BucketTold 15 p tn s ks e0 W ∧ ∀ W1, Below W.heap.size W W1 → BucketTold 16 q tn s ks e0 W1 := fun tn htn hs => by
    refine ⟨rowK (rowsT D tn) s, 0, ?_, ?_, fun W1 hb => refbucket_like h.b (h.rok (by omega)) (fun x hx => Nat.le_trans (h.rshort x hx) (by omega)) h.like h.inv tn htn s hs W1 hb⟩
    · refine Nat.le_trans (rowK_len _ _) ?_
      rcases htn with rfl | rfl
      · show D.a.flatten.length ≤ _; omega
      · show D.b.flatten.length ≤ _; omega
    · refine (bucket_in h.a h.inv.ok (by omega) tn htn s _ (List.getElem?_eq_getElem hs)).mono fun e w' hw => ?_
      obtain ⟨u, he, ho, hb⟩ := hw
      refine ⟨u, he, ?_, hb⟩
      unfold rowK
      rw [List.getD_eq_getElem?_getD, List.getElem?_eq_getElem hs]
      exact ho
  have out : (t < 0 ∨ 1 < t ∨ (s : Int) < 0 ∨ (t = 0 ∧ (D.a.length : Int) ≤ s) ∨ (t = 1 ∧ (D.b.length : Int) ≤ s)) → ∃ ks e0, ks.length ≤ 1000000 ∧ BucketTold 15 p t s ks e0 W ∧ ∀ W1, Below W.heap.size W W1 → BucketTold 16 q t s ks e0 W1 := fun hr => by
    refine ⟨[], 2, by simp, (bucket_out h.a t s hr).mono fun e w' hw => ?_, fun W1 hb => (refbucket_out (h.b.later hb) t s (by rw [eA, eB]; exact hr)).mono fun e w' hw => ?_⟩
    · obtain ⟨he, rfl⟩ := hw; exact ⟨_, he, own_none _ _, Below.refl _ _⟩
    · obtain ⟨he, rfl⟩ := hw; exact ⟨_, he, own_none _ _, Below.refl _ _⟩
  by_cases h0 : t = 0
  · subst h0
    by_cases hs : s < D.a.length
    · exact inn 0 (.inl rfl) hs
    · exact out (by omega)
  · by_cases h1 : t = 1
    · subst h1
      by_cases hs : s < D.b.length
      · exact inn 1 (.inr rfl) hs
      · exact out (by omega)
    · exact out (by omega)

set_option maxRecDepth 100000 in
set_option maxHeartbeats 8000000 in
theorem does_walk (seed : Nat) (hsd : seed < 4294967296) (a : Option Addr) (cap : Nat) (l : List (Int × ByteArray × Int)) (_ : l.length ≤ 9223372036854775807) (hz : ∀ x ∈ l, x.2.1.size ≤ 9223372036854775807)
    (w : World) (hE : Acts w a l) : Calls Try.prog 3 #[.int .u32 seed, .slice a l.length cap] w fun e w' => e = .returned (.bool true) ∧ Below w.heap.size w w' := by
  have HE := Lib.hid hE
  clear hE
  go_enter Try.func3, Try.ntmps3
  go_wp2_with fail
  refine (shown_any _).mono ?_
  rintro e w1 ⟨rfl, hb1⟩
  have HB1 := Lib.hid hb1
  clear hb1
  go_wp2_with fail
  refine (new_any seed _).mono ?_
  rintro e w2 ⟨p, rfl, h2, hb2⟩
  have H2 := Lib.hid h2
  have HB2 := Lib.hid hb2
  clear h2 hb2
  go_wp2_with fail
  refine (refnew_any seed _).mono ?_
  rintro e w3 ⟨q, rfl, h3, hb3⟩
  have HP := Lib.hid (Pair.new HB1.out H2.out HB2.out h3 hb3)
  clear h3 hb3 H2 HB2 HB1
  go_wp2
  go_loopw [8] (fun i wr => ∃ (j : Nat) (D : Dc) (R : Rd), i = .int .i64 j ∧ j ≤ l.length ∧ j ≤ 150 ∧ Pair w p q seed j D R wr) (fun i _ => l.length - (intOf i).toNat)
  case atStart => exact ⟨0, _, _, rfl, by omega, by omega, HP.out⟩
  case round =>
    obtain ⟨j, D, R, rfl, hj, hj100, hP⟩ := hrel
    by_cases hlt : j < l.length ∧ j < 150
    · obtain ⟨hjl, hj8⟩ := hlt
      obtain ⟨b, off, rfl, c0, c1, c2⟩ := (HE.out.below hP.below) j hjl
      have hACS := Lib.hid (fun (W : World) (hb : Below w.heap.size w W) => HE.out.below hb j hjl)
      have hsz := hz _ (List.getElem_mem hjl)
      generalize l[j] = x at *
      obtain ⟨d, kk, vv⟩ := x
      simp only at c0 c1 c2 hsz hACS
      have hDID := Lib.hid (did_any hsd hP (by omega) d kk hsz vv)
      have hj8' : (j : Int) < 150 := by omega
      clear hP
      go_wp2_with fail
      (with_reducible refine hDID.out.mono ?_)
      rintro e w4 ⟨rfl, R', hP⟩
      clear hDID
      generalize effD seed D d (cutK kk) vv = D2 at *
      have hSZ := Lib.hid (sizes_of hP.a)
      have HP4 := Lib.hid hP
      clear hP c0 c1 c2
      go_wp2_with fail
      (with_reducible refine hSZ.out.mono ?_)
      rintro e w5 ⟨rfl, hb5⟩
      have hP := HP4.out.later hb5
      have HLEN : ∀ n, Hid (Calls Try.prog 14 #[.pointer (some ⟨p, 0, none⟩)] (w5.drewN n) fun e w' => e = .returned (.int .i64 D2.n) ∧ w' = w5.drewN n) := fun n => Lib.hid (len_any (hP.a.later (below_drewN _ n)))
      obtain ⟨eA, eB, eP, eL⟩ := hP.like.len
      obtain ⟨v, hm, _⟩ := hP.b
      obtain ⟨r0, r1, r2, r3, r4, _⟩ := ref_facts hm
      obtain ⟨Ad, cp, rfl, _⟩ := hm.row.form
      rw [eA] at r2
      rw [eB] at r3
      rw [eP] at r4
      rw [eL] at r1
      obtain ⟨b', off', e', c0, c1, c2⟩ := hACS.out w5 hP.below
      cases e'
      have HP5 := Lib.hid hP
      clear hm eA eB eP eL hb5 hP HP4 hSZ r0
      go_wp2
      go_quiet ((go_at_call 14; exact Calls.quiet_of_same (HLEN _).out))
      obtain ⟨s, hs, hs40⟩ : ∃ s : Nat, (IntKind.u64.wrap vv).tmod 40 = (s : Int) ∧ (s : Int) < 40 := by
        have h : 0 ≤ IntKind.u64.wrap vv := by rw [IntKind.wrap_u64]; omega
        rw [Int.tmod_eq_emod_of_nonneg h]
        exact ⟨(IntKind.u64.wrap vv % 40).toNat, by omega, by omega⟩
      go_wp2
      clear hs hs40 r1 r2 r3 r4 c0 c1 c2 hACS HLEN
      have HPQ := Lib.hid (HP5.out.later (below_drewN w5 nq))
      clear HP5
      go_loopw [14] (fun tv wr => ∃ t : Int, tv = .int .i64 t ∧ -1 ≤ t ∧ t ≤ 3 ∧ Pair w p q seed (j + 1) D2 R' wr) (fun tv _ => (3 - intOf tv).toNat)
      case atStart => exact ⟨-1, rfl, by omega, by omega, HPQ.out⟩
      case round =>
        obtain ⟨t, rfl, ht0, ht3, hP⟩ := hrel
        by_cases ht : t < 3
        · obtain ⟨ks, e0, hkl, hB, hR⟩ := bucket_told hP (by omega) t s
          unfold BucketTold at hB hR
          have HB := Lib.hid hB
          have HR := Lib.hid hR
          have HP6 := Lib.hid hP
          clear hB hR hP HPQ
          go_wp2_with fail
          refine HB.out.mono ?_
          rintro e w6 ⟨u, rfl, ho, hb6⟩
          have HO := Lib.hid ho
          have HB6 := Lib.hid hb6
          have hR6 := Lib.hid (HR.out w6 hb6)
          clear ho hb6 HB HR
          go_wp2_with fail
          refine hR6.out.mono ?_
          rintro e w7 ⟨u2, rfl, ho2, hb7⟩
          have hT := Lib.hid (texts_sameR (HO.out.below hb7) ho2 hkl)
          have HP7 := Lib.hid (HP6.out.later (HB6.out.trans (hb7.mono HB6.out.size)))
          clear ho2 hb7 hR6 HB6 HP6
          go_wp2_with fail
          refine hT.out.mono ?_
          rintro e w8 ⟨rfl, hb8⟩
          have HP8 := Lib.hid (HP7.out.later hb8)
          clear hb8 hT HP7 HO
          go_wp2
          exact ⟨⟨t + 1, by go_num, by omega, by omega, HP8.out⟩, by simp [intOf]; omega⟩
        · have HP6 := Lib.hid hP
          clear hP HPQ
          go_wp2
          exact ⟨⟨j + 1, _, _, by go_num, by omega, by omega, HP6.out⟩, by simp [intOf]; omega⟩
    · have hex : (l.length : Int) ≤ j ∨ ((j : Int) < l.length ∧ (j : Int) = 150) := by omega
      have HPP := Lib.hid hP.below
      clear hP
      rcases hex with hex | ⟨hex, hex2⟩
      all_goals (
        go_wp2
        go_returns
        exact ⟨rfl, HPP.out⟩)
end Go.Proofs.Ytifbambalfifaaa.Both
