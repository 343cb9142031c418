/- Bucket, and all buckets. -/
import Derived.Test.YtifbambalfifaaaKeys
namespace Go.Proofs.Ytifbambalfifaaa
open Go.RowKit Go.Shelf Go.Sort
attribute [local go_sem] Oper.semAt_some

section
variable {S : Nat → Prop} {p seed : Nat} {D : Dc} {w : World}

def rowsT (D : Dc) (t : Nat) : List (List Nd) := if t = 0 then D.a else D.b
set_option maxHeartbeats 1000000 in
theorem bucket_in (h : Rep tyI w p S seed D) (ok : D.Ok tyI) (hn : D.n ≤ 1000000) (t : Nat) (ht : t = 0 ∨ t = 1) (s : Nat) (r : List Nd) (hr : (rowsT D t)[s]? = some r) :
    Calls Try.prog 15 #[.pointer (some ⟨p, 0, none⟩), .int .i64 t, .int .i64 s] w fun e w' => ∃ u, e = .returned (.tuple #[u, .int .i64 0]) ∧ Own9 w' w.heap.size u (sortK (r.map bytesK)) ∧ Below w.heap.size w w' := by
  obtain ⟨g0, g1, A1, va, vb, hm, hf, hc⟩ := h
  obtain ⟨c0, c1, c2, c3, c4, f0, f1, f3, f4⟩ := dict_facts hm
  have hal := isS_pos ok.a
  have htot := ok.n
  have fin : ∀ (g : Nat) (vs : List Value) (rows : List (List Nd)), TabAt tyI w g vs rows → rows[s]? = some r → rows.length ≤ 65536 → (∀ r ∈ rows, ∀ x ∈ r, x.fine tyI) → rows.flatten.length ≤ 1000000 → w.cell? ⟨p, t, none⟩ = some (.slice (some ⟨g, 0, none⟩) rows.length rows.length) →
      Calls Try.prog 15 #[.pointer (some ⟨p, 0, none⟩), .int .i64 t, .int .i64 s] w fun e w' => ∃ u, e = .returned (.tuple #[u, .int .i64 0]) ∧ Own9 w' w.heap.size u (sortK (r.map bytesK)) ∧ Below w.heap.size w w' := by
    intro g vs rows hT hrs hlen hfine hfl hcell
    have hsl := (List.getElem?_eq_some_iff.1 hrs).1
    have hlv : s < vs.length := by rw [hT.len]; exact hsl
    have hv : vs[s]? = some vs[s] := List.getElem?_eq_getElem hlv
    have hR := hT.row s _ r hv hrs
    have hc2 : w.cell? ⟨g, s, none⟩ = some vs[s] := by rw [hT.blk.cell]; simp [hlv]
    have hrl := row_le rows r (List.mem_of_getElem? hrs)
    have HKS := Lib.hid (keys_any _ r w hR (by omega) (hfine r (List.mem_of_getElem? hrs)))
    have hsi : (s : Int) < rows.length := by omega
    have hli : (rows.length : Int) ≤ 65536 := by omega
    clear hm hf hc c0 c1 c2 c3 c4 f0 f1 f3 f4 hT hR hrs hv htot hal ok hr hfine
    generalize vs[s] = v at *
    rcases ht with rfl | rfl
    all_goals (
      go_enter Try.func15, Try.ntmps15
      go_wp2_with fail
      (with_reducible refine HKS.out.mono ?_)
      rintro e w2 ⟨u, rfl, h1, h2⟩
      have H1 := Lib.hid h1
      have H2 := Lib.hid h2
      clear h1 h2
      go_wp2
      go_ret2
      exact ⟨_, rfl, H1.out, H2.out⟩)
  rcases ht with rfl | rfl
  · exact fin g0 va D.a hm.ta hr (by omega) (fun r hr => ok.fine r (.inl hr)) (by omega) c0
  · have hb : D.b ≠ [] := fun e => by
      have hr' : D.b[s]? = some r := hr
      rw [e] at hr'; simp at hr'
    have hbl := isS_pos (ok.b hb)
    rcases hm.tb with ⟨h1, _⟩ | ⟨_, hA, _, htb⟩
    · exact absurd h1 hb
    · rw [hA] at c1
      exact fin g1 vb D.b htb hr (by omega) (fun r hr => ok.fine r (.inr hr)) (by omega) c1
theorem bucket_out (h : Rep tyI w p S seed D) (t s : Int) (hr : t < 0 ∨ 1 < t ∨ s < 0 ∨ (t = 0 ∧ (D.a.length : Int) ≤ s) ∨ (t = 1 ∧ (D.b.length : Int) ≤ s)) :
    Calls Try.prog 15 #[.pointer (some ⟨p, 0, none⟩), .int .i64 t, .int .i64 s] w fun e w' => e = .returned (.tuple #[.slice none 0 0, .int .i64 2]) ∧ w' = w := by
  obtain ⟨g0, g1, A1, va, vb, hm, hf, hc⟩ := h
  obtain ⟨c0, c1, c2, c3, c4, f0, f1, f3, f4⟩ := dict_facts hm
  clear hm hf hc
  by_cases h1 : t < 0
  · go_enter Try.func15, Try.ntmps15
    go_wp2
    go_ret2
    exact ⟨rfl, rfl⟩
  · by_cases h2 : 1 < t
    · go_enter Try.func15, Try.ntmps15
      go_wp2
      go_ret2
      exact ⟨rfl, rfl⟩
    · by_cases h3 : s < 0
      · go_enter Try.func15, Try.ntmps15
        go_wp2
        go_ret2
        exact ⟨rfl, rfl⟩
      · rcases hr with hr | hr | hr | ⟨rfl, hr⟩ | ⟨rfl, hr⟩
        · exact absurd hr h1
        · exact absurd hr h2
        · exact absurd hr h3
        all_goals (
          clear h1 h2
          go_enter Try.func15, Try.ntmps15
          go_wp2
          go_ret2
          exact ⟨rfl, rfl⟩)

/-- The keys of rows, row by row, each in the order of its bytes. -/
def allK (rows : List (List Nd)) : List (List UInt8) := rows.flatMap fun r => sortK (r.map bytesK)
theorem allK_take (rows : List (List Nd)) (k : Nat) (r : List Nd) (h : rows[k]? = some r) : allK (rows.take (k + 1)) = allK (rows.take k) ++ sortK (r.map bytesK) := by
  obtain ⟨hi, rfl⟩ := List.getElem?_eq_some_iff.1 h
  unfold allK
  rw [List.take_succ_eq_append_getElem hi, List.flatMap_append]
  simp
theorem sortK_perm (l : List (List UInt8)) : (sortK l).Perm l := List.mergeSort_perm _ _
theorem allK_perm (rows : List (List Nd)) : (allK rows).Perm (rows.flatten.map bytesK) := by
  induction rows with
  | nil => exact List.Perm.refl _
  | cons r rows ih =>
    show (sortK (r.map bytesK) ++ allK rows).Perm ((r ++ rows.flatten).map bytesK)
    rw [List.map_append]
    exact (sortK_perm _).append ih
theorem allK_len (rows : List (List Nd)) : (allK rows).length = rows.flatten.length := by rw [(allK_perm rows).length_eq, List.length_map]
theorem take_flat (rows : List (List Nd)) (k : Nat) : (rows.take k).flatten.length ≤ rows.flatten.length := by
  have h : rows.flatten = (rows.take k).flatten ++ (rows.drop k).flatten := by rw [← List.flatten_append, List.take_append_drop]
  have := congrArg List.length h
  rw [List.length_append] at this
  omega

/-- A row onto a row of texts. -/
theorem Own9.join {W : World} {n0 n1 : Nat} {v u : Value} {ks js : List (List UInt8)} (hv : Own9 W n0 v ks) (hu : Own9 W n1 u js) (hl : ks.length + js.length ≤ 1000000) (hn : n0 ≤ W.heap.size) :
    ∃ v' W', (Builtin.append_ #[39, 39] 39 #[v, u]).run Try.prog W = .ok v' W' ∧ Own9 W' n0 v' (ks ++ js) ∧ W.grownBy W' v.ownBlock := by
  obtain ⟨i0, hi0, hz0, hz1, hz2⟩ := info_parts info9
  rcases hu.2 with ⟨rfl, h0⟩ | ⟨g, cap, cur, rfl, _, hgb, h1, h2, h3, h4⟩
  · have hj : js = [] := List.eq_nil_of_length_eq_zero h0
    subst hj
    exact ⟨v, W, run_append_owned_none (P := Try.prog) W n0 39 39 9 i0 1 Try.underlying39 hi0 v _ _ hv, by rw [List.append_nil]; exact hv, World.grownBy.refl W _⟩
  · obtain ⟨v', w', hrun, r1, r2, _, _⟩ := run_append_own_at (P := Try.prog) W n0 39 39 9 i0 (.string ⟨#[]⟩) 1 16 Try.underlying39 hi0 hz0 hz1 hz2 rfl (by decide) v _ _ hv ⟨g, 0, none⟩ js.length cap (js.map encStr) (by simp)
      (hu.cells rfl) (by intro x hx; obtain ⟨b, _, rfl⟩ := List.mem_map.1 hx; rfl) (by unfold maxLen; omega) (by omega) hn
    refine ⟨v', w', hrun, ?_, r2⟩
    unfold Own9
    rw [List.map_append, List.length_append]
    exact r1

theorem wpList_append_ran {P : Program} {w w' : World} {ops : Array Oper} {rest : List Oper} {o : Oper} {a : Act} {Q : Exit → Act → World → Prop} {v xv v' : Value} (hgd : o.guard = none) (s x : Operand) (t u : TypeId)
    (ho : o.op = Op.call { callee := Callee.builtin Builtin.append, args := #[s, x], argTypes := #[t, u] }) (hs : a.eval s = v) (hx : a.eval x = xv) (hrun : (Builtin.append_ #[t, u] o.type #[v, xv]).run P w = .ok v' w')
    (h : wpList P ops Q rest (a.put o.dst v') w') : wpList P ops Q (o :: rest) a w := by
  refine wpList_plain hgd fun K hK => ?_
  unfold Oper.wp execOp
  simp only [ho, resolve, invoke, builtin, Sem.run_bind, Sem.run_pure, Result.andThen_ok, List.map_toArray, List.map_cons, List.map_nil, hs, hx, hrun]
  exact hK _ _ h

set_option maxRecDepth 100000 in
set_option maxHeartbeats 4000000 in
theorem buckets_any (h : Rep tyI w p S seed D) (ok : D.Ok tyI) (hn : D.n ≤ 1000000) :
    Calls Try.prog 21 #[.pointer (some ⟨p, 0, none⟩)] w fun e w' => ∃ u, e = .returned u ∧ Own9 w' w.heap.size u (allK D.a ++ allK D.b) ∧ Below w.heap.size w w' := by
  have hal := isS_pos ok.a
  have hbl : D.b.length ≤ 65536 := by
    by_cases hb : D.b = []
    · rw [hb]; simp
    · have := isS_pos (ok.b hb); omega
  have htot := ok.n
  have HSZ := Lib.hid (sizes_of h)
  have HBK := fun W (hb : Below w.heap.size w W) t ht s r hr => Lib.hid (bucket_in (h.later hb) ok hn t ht s r hr)
  have hai : (D.a.length : Int) ≤ 65536 := by omega
  have hbi : (D.b.length : Int) ≤ 65536 := by omega
  clear h
  go_enter Try.func21, Try.ntmps21
  go_wp2_with fail
  (with_reducible refine HSZ.out.mono ?_)
  rintro e w1 ⟨rfl, hb1⟩
  have HB1 := Lib.hid hb1
  clear hb1
  go_wp2
  go_loopw [6, 7] (fun lv i wr => ∃ k : Nat, i = .int .i64 k ∧ k ≤ D.a.length ∧ Own9 wr w.heap.size lv (allK (D.a.take k)) ∧ Below w.heap.size w wr) (fun _ i _ => D.a.length - (intOf i).toNat)
  case atStart => exact ⟨0, rfl, by omega, World.ownsRow_nil _ _ _ _, HB1.out⟩
  case round =>
    obtain ⟨k, rfl, hk, hO, hb⟩ := hrel
    by_cases hlt : k < D.a.length
    · have hr : D.a[k]? = some D.a[k] := List.getElem?_eq_getElem hlt
      have hBK := HBK wr hb 0 (.inl rfl) k _ hr
      have HNX := Lib.hid (allK_take D.a k _ hr)
      have hl1 := take_flat D.a (k + 1)
      have hl2 := allK_len (D.a.take (k + 1))
      rw [HNX.out, List.length_append] at hl2
      generalize D.a[k] = r at *
      have HO := Lib.hid hO
      have HB := Lib.hid hb
      have hlt' : (k : Int) < D.a.length := by omega
      have hk0 : ((0 : Nat) : Int) = 0 := rfl
      rw [hk0] at hBK
      clear hr hO hb hk0
      go_wp2_with fail
      (with_reducible refine hBK.out.mono ?_)
      rintro e w2 ⟨u, rfl, hu, hb2⟩
      have hO2 := HO.out.below hb2
      have hz := HB.out.size
      have hz2 := hb2.size
      obtain ⟨v7, w7, hrun, hO7, hg7⟩ := hO2.join hu (by omega) (by omega)
      have hb7 : Below w.heap.size w w7 := (HB.out.trans (hb2.mono HB.out.size)).grown hg7 (by omega) (fun k e => (World.ownsRow.lt hO2 k e).1)
      have HO7 := Lib.hid hO7
      have HB7 := Lib.hid hb7
      clear hb2 hO2 hg7 hO7 hb7 hu
      go_wp2_with (at_builtin; refine wpList_append_ran rfl _ _ 39 39 rfl rfl rfl hrun ?_)
      refine ⟨⟨k + 1, by go_num, hlt, ?_, HB7.out⟩, by simp [intOf]; omega⟩
      rw [HNX.out]
      exact HO7.out
    · obtain rfl : k = D.a.length := by omega
      rw [List.take_length] at hO
      have HO := Lib.hid hO
      have HB := Lib.hid hb
      clear hO hb
      go_wp2
      go_loopw [6, 10] (fun lv i wr => ∃ k : Nat, i = .int .i64 k ∧ k ≤ D.b.length ∧ Own9 wr w.heap.size lv (allK D.a ++ allK (D.b.take k)) ∧ Below w.heap.size w wr) (fun _ i _ => D.b.length - (intOf i).toNat)
      case atStart => exact ⟨0, rfl, by omega, by rw [show allK D.a ++ allK (D.b.take 0) = allK D.a from List.append_nil _]; exact HO.out, HB.out⟩
      case round =>
        obtain ⟨k, rfl, hk, hO, hb⟩ := hrel
        by_cases hlt : k < D.b.length
        · have hr : D.b[k]? = some D.b[k] := List.getElem?_eq_getElem hlt
          have hBK := HBK wr hb 1 (.inr rfl) k _ hr
          have HNX := Lib.hid (allK_take D.b k _ hr)
          have hl1 := take_flat D.b (k + 1)
          have hl2 := allK_len (D.b.take (k + 1))
          have hl3 := allK_len D.a
          rw [HNX.out, List.length_append] at hl2
          generalize D.b[k] = r at *
          have HO2 := Lib.hid hO
          have HB2 := Lib.hid hb
          have hlt' : (k : Int) < D.b.length := by omega
          have hk0 : ((1 : Nat) : Int) = 1 := rfl
          rw [hk0] at hBK
          clear hr hO hb hk0
          go_wp2_with fail
          (with_reducible refine hBK.out.mono ?_)
          rintro e w2 ⟨u, rfl, hu, hb2⟩
          have hO2 := HO2.out.below hb2
          have hz := HB2.out.size
          have hz2 := hb2.size
          obtain ⟨v7, w7, hrun, hO7, hg7⟩ := hO2.join hu (by rw [List.length_append]; omega) (by omega)
          have hb7 : Below w.heap.size w w7 := (HB2.out.trans (hb2.mono HB2.out.size)).grown hg7 (by omega) (fun k e => (World.ownsRow.lt hO2 k e).1)
          have HO7 := Lib.hid hO7
          have HB7 := Lib.hid hb7
          clear hb2 hO2 hg7 hO7 hb7 hu
          go_wp2_with (at_builtin; refine wpList_append_ran rfl _ _ 39 39 rfl rfl rfl hrun ?_)
          refine ⟨⟨k + 1, by go_num, hlt, ?_, HB7.out⟩, by simp [intOf]; omega⟩
          rw [HNX.out, ← List.append_assoc]
          exact HO7.out
        · obtain rfl : k = D.b.length := by omega
          rw [List.take_length] at hO
          have HO2 := Lib.hid hO
          have HB2 := Lib.hid hb
          clear hO hb
          go_wp2
          go_ret
          exact ⟨_, rfl, HO2.out, HB2.out⟩
end
end Go.Proofs.Ytifbambalfifaaa
