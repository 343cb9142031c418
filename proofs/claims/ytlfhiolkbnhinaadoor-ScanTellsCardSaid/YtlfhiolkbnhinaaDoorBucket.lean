/- Bucket, and all buckets. -/
import Derived.Test.YtlfhiolkbnhinaaDoorKeys
namespace Go.Proofs.YtlfhiolkbnhinaaDoor
open Go.RowKit Go.Shelf Go.Sort
attribute [local go_sem] Oper.semAt_some

section
variable {S : Nat → Prop} {p seed : Nat} {D : Dc} {w : World}

def rowsT (D : Dc) (t : Nat) : List (List Nd) := if t = 0 then D.a else D.b
set_option maxHeartbeats 1000000 in
theorem bucket_in (h : Rep tyI w p S seed D) (ok : D.Ok tyI) (hn : D.n ≤ 1000000) (t : Nat) (ht : t = 0 ∨ t = 1) (s : Nat) (r : List Nd) (hr : (rowsT D t)[s]? = some r) :
    Calls Tryd.prog 63 #[.pointer (some ⟨p, 0, none⟩), .int .i64 t, .int .i64 s] w fun e w' => ∃ u, e = .returned (.tuple #[u, .int .i64 0]) ∧ Own9 w' w.heap.size u (sortK (r.map bytesK)) ∧ Below w.heap.size w w' := by
  obtain ⟨g0, g1, A1, va, vb, hm, hf, hc⟩ := h
  obtain ⟨c0, c1, c2, c3, c4, f0, f1, f3, f4⟩ := dict_facts hm
  have hal := isS_pos ok.a
  have htot := ok.n
  have fin : ∀ (g : Nat) (vs : List Value) (rows : List (List Nd)), TabAt tyI w g vs rows → rows[s]? = some r → rows.length ≤ 65536 → (∀ r ∈ rows, ∀ x ∈ r, x.fine tyI) → rows.flatten.length ≤ 1000000 → w.cell? ⟨p, t, none⟩ = some (.slice (some ⟨g, 0, none⟩) rows.length rows.length) →
      Calls Tryd.prog 63 #[.pointer (some ⟨p, 0, none⟩), .int .i64 t, .int .i64 s] w fun e w' => ∃ u, e = .returned (.tuple #[u, .int .i64 0]) ∧ Own9 w' w.heap.size u (sortK (r.map bytesK)) ∧ Below w.heap.size w w' := by
    intro g vs rows hT hrs hlen hfine hfl hcell
    have hsl := (List.getElem?_eq_some_iff.1 hrs).1
    have hlv : s < vs.length := by rw [hT.len]; exact hsl
    have hv : vs[s]? = some vs[s] := List.getElem?_eq_getElem hlv
    have hR := hT.row s _ r hv hrs
    have hc2 : w.cell? ⟨g, s, none⟩ = some vs[s] := by rw [hT.blk.cell]; simp [hlv]
    have hrl := row_le rows r (List.mem_of_getElem? hrs)
    have HKS := Lib.hid (keys_any _ r w hR (by omega) (hfine r (List.mem_of_getElem? hrs)))
    have hsi : (s : Int) < rows.length := by omega
    have hli : (rows.length : Int) ≤ 65536 := by omega
    clear hm hf hc c0 c1 c2 c3 c4 f0 f1 f3 f4 hT hR hrs hv htot hal ok hr hfine
    generalize vs[s] = v at *
    rcases ht with rfl | rfl
    all_goals (
      go_enter Tryd.func63, Tryd.ntmps63
      go_wp2_with fail
      (with_reducible refine HKS.out.mono ?_)
      rintro e w2 ⟨u, rfl, h1, h2⟩
      have H1 := Lib.hid h1
      have H2 := Lib.hid h2
      clear h1 h2
      go_wp2
      go_ret2
      exact ⟨_, rfl, H1.out, H2.out⟩)
  rcases ht with rfl | rfl
  · exact fin g0 va D.a hm.ta hr (by omega) (fun r hr => ok.fine r (.inl hr)) (by omega) c0
  · have hb : D.b ≠ [] := fun e => by
      have hr' : D.b[s]? = some r := hr
      rw [e] at hr'; simp at hr'
    have hbl := isS_pos (ok.b hb)
    rcases hm.tb with ⟨h1, _⟩ | ⟨_, hA, _, htb⟩
    · exact absurd h1 hb
    · rw [hA] at c1
      exact fin g1 vb D.b htb hr (by omega) (fun r hr => ok.fine r (.inr hr)) (by omega) c1
theorem bucket_out (h : Rep tyI w p S seed D) (t s : Int) (hr : t < 0 ∨ 1 < t ∨ s < 0 ∨ (t = 0 ∧ (D.a.length : Int) ≤ s) ∨ (t = 1 ∧ (D.b.length : Int) ≤ s)) :
    Calls Tryd.prog 63 #[.pointer (some ⟨p, 0, none⟩), .int .i64 t, .int .i64 s] w fun e w' => e = .returned (.tuple #[.slice none 0 0, .int .i64 2]) ∧ w' = w := by
  obtain ⟨g0, g1, A1, va, vb, hm, hf, hc⟩ := h
  obtain ⟨c0, c1, c2, c3, c4, f0, f1, f3, f4⟩ := dict_facts hm
  clear hm hf hc
  by_cases h1 : t < 0
  · go_enter Tryd.func63, Tryd.ntmps63
    go_wp2
    go_ret2
    exact ⟨rfl, rfl⟩
  · by_cases h2 : 1 < t
    · go_enter Tryd.func63, Tryd.ntmps63
      go_wp2
      go_ret2
      exact ⟨rfl, rfl⟩
    · by_cases h3 : s < 0
      · go_enter Tryd.func63, Tryd.ntmps63
        go_wp2
        go_ret2
        exact ⟨rfl, rfl⟩
      · rcases hr with hr | hr | hr | ⟨rfl, hr⟩ | ⟨rfl, hr⟩
        · exact absurd hr h1
        · exact absurd hr h2
        · exact absurd hr h3
        all_goals (
          clear h1 h2
          go_enter Tryd.func63, Tryd.ntmps63
          go_wp2
          go_ret2
          exact ⟨rfl, rfl⟩)

/-- The keys of rows, row by row, each in the order of its bytes. -/
def allK (rows : List (List Nd)) : List (List UInt8) := rows.flatMap fun r => sortK (r.map bytesK)
theorem allK_take (rows : List (List Nd)) (k : Nat) (r : List Nd) (h : rows[k]? = some r) : allK (rows.take (k + 1)) = allK (rows.take k) ++ sortK (r.map bytesK) := by
  obtain ⟨hi, rfl⟩ := List.getElem?_eq_some_iff.1 h
  unfold allK
  rw [List.take_succ_eq_append_getElem hi, List.flatMap_append]
  simp
theorem sortK_perm (l : List (List UInt8)) : (sortK l).Perm l := List.mergeSort_perm _ _
theorem allK_perm (rows : List (List Nd)) : (allK rows).Perm (rows.flatten.map bytesK) := by
  induction rows with
  | nil => exact List.Perm.refl _
  | cons r rows ih =>
    show (sortK (r.map bytesK) ++ allK rows).Perm ((r ++ rows.flatten).map bytesK)
    rw [List.map_append]
    exact (sortK_perm _).append ih
theorem allK_len (rows : List (List Nd)) : (allK rows).length = rows.flatten.length := by rw [(allK_perm rows).length_eq, List.length_map]
theorem take_flat (rows : List (List Nd)) (k : Nat) : (rows.take k).flatten.length ≤ rows.flatten.length := by
  have h : rows.flatten = (rows.take k).flatten ++ (rows.drop k).flatten := by rw [← List.flatten_append, List.take_append_drop]
  have := congrArg List.length h
  rw [List.length_append] at this
  omega

/-- A row onto a row of texts. -/
theorem Own9.join {W : World} {n0 n1 : Nat} {v u : Value} {ks js : List (List UInt8)} (hv : Own9 W n0 v ks) (hu : Own9 W n1 u js) (hl : ks.length + js.length ≤ 1000000) (hn : n0 ≤ W.heap.size) :
    ∃ v' W', (Builtin.append_ #[38, 38] 38 #[v, u]).run Tryd.prog W = .ok v' W' ∧ Own9 W' n0 v' (ks ++ js) ∧ W.grownBy W' v.ownBlock := by
  obtain ⟨i0, hi0, hz0, hz1, hz2⟩ := info_parts info9
  rcases hu.2 with ⟨rfl, h0⟩ | ⟨g, cap, cur, rfl, _, hgb, h1, h2, h3, h4⟩
  · have hj : js = [] := List.eq_nil_of_length_eq_zero h0
    subst hj
    exact ⟨v, W, run_append_owned_none (P := Tryd.prog) W n0 38 38 9 i0 1 Tryd.underlying38 hi0 v _ _ hv, by rw [List.append_nil]; exact hv, World.grownBy.refl W _⟩
  · obtain ⟨v', w', hrun, r1, r2, _, _⟩ := run_append_own_at (P := Tryd.prog) W n0 38 38 9 i0 (.string ⟨#[]⟩) 1 16 Tryd.underlying38 hi0 hz0 hz1 hz2 rfl (by decide) v _ _ hv ⟨g, 0, none⟩ js.length cap (js.map encStr) (by simp)
      (hu.cells rfl) (by intro x hx; obtain ⟨b, _, rfl⟩ := List.mem_map.1 hx; rfl) (by unfold maxLen; omega) (by omega) hn
    refine ⟨v', w', hrun, ?_, r2⟩
    unfold Own9
    rw [List.map_append, List.length_append]
    exact r1

theorem wpList_append_ran {P : Program} {w w' : World} {ops : Array Oper} {rest : List Oper} {o : Oper} {a : Act} {Q : Exit → Act → World → Prop} {v xv v' : Value} (hgd : o.guard = none) (s x : Operand) (t u : TypeId)
    (ho : o.op = Op.call { callee := Callee.builtin Builtin.append, args := #[s, x], argTypes := #[t, u] }) (hs : a.eval s = v) (hx : a.eval x = xv) (hrun : (Builtin.append_ #[t, u] o.type #[v, xv]).run P w = .ok v' w')
    (h : wpList P ops Q rest (a.put o.dst v') w') : wpList P ops Q (o :: rest) a w := by
  refine wpList_plain hgd fun K hK => ?_
  unfold Oper.wp execOp
  simp only [ho, resolve, invoke, builtin, Sem.run_bind, Sem.run_pure, Result.andThen_ok, List.map_toArray, List.map_cons, List.map_nil, hs, hx, hrun]
  exact hK _ _ h

end
end Go.Proofs.YtlfhiolkbnhinaaDoor
