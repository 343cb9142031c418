/- DictKeys: all buckets together are the keys, each once. -/
import Derived.Test.YtifbambalfifaaaBucket
import Derived.Test.YtifbambalfifaaaOpen
namespace Go.Proofs.Ytifbambalfifaaa
open Go.RowKit Go.Shelf Go.Sort
attribute [local go_sem] Oper.semAt_some

theorem bytes_inj {a b : ByteArray} (h : a.data.toList = b.data.toList) : a = b := ByteArray.ext (Array.toList_inj.1 h)
theorem count_one (l : List (List UInt8)) (h : l.Nodup) : ∀ x ∈ l, l.count x = 1 := by
  induction l with
  | nil => intro x hx; simp at hx
  | cons y l ih =>
    intro x hx
    rw [List.nodup_cons] at h
    by_cases e : x = y
    · subst e
      rw [List.count_cons_self, List.count_eq_zero.2 h.1]
    · rw [List.count_cons_of_ne (fun h => e h.symm)]
      exact ih h.2 x ((List.mem_cons.1 hx).resolve_left e)
theorem buckets_is {w : World} {p seed : Nat} {S : Nat → Prop} {m : ByteArray → Option Int} {n : Sh} (h : Is w p S seed m n) (hn : n.n ≤ 1000000) :
    Calls Try.prog 21 #[.pointer (some ⟨p, 0, none⟩)] w fun e w' => ∃ u L, e = .returned u ∧ Own9 w' w.heap.size u L ∧ L.length = n.n ∧ (∀ k : ByteArray, L.count k.data.toList = bif (m k).isSome then 1 else 0) ∧ Below w.heap.size w w' := by
  obtain ⟨D, h1, h2, h3⟩ := h
  have hn' : D.n ≤ 1000000 := by rw [← h3] at hn; exact hn
  refine (buckets_any h1 h2.1.ok hn').mono fun e w' ⟨u, he, hO, hb⟩ => ⟨u, _, he, hO, ?_, fun k => ?_, hb⟩
  · rw [List.length_append, allK_len, allK_len, ← h3]
    exact h2.1.ok.n.symm
  · have hp : (allK D.a ++ allK D.b).Perm (D.nodes.map bytesK) := by
      unfold Dc.nodes
      rw [List.map_append]
      exact (allK_perm _).append (allK_perm _)
    rw [hp.count_eq]
    have hu : (D.nodes.map bytesK).Nodup := by
      have h4 : D.nodes.map bytesK = (D.nodes.map Nd.key).map (fun k => k.data.toList) := by rw [List.map_map]; rfl
      rw [h4]
      exact List.Pairwise.map _ (fun a b hab e => hab (bytes_inj e)) h2.1.uniq
    cases hm : m k with
    | none =>
      show _ = 0
      rw [List.count_eq_zero]
      intro hin
      obtain ⟨x, hx, hk⟩ := List.mem_map.1 hin
      have := (h2.2 k x.v).1 ⟨x, hx, bytes_inj hk, rfl⟩
      simp [hm] at this
    | some v =>
      show _ = 1
      obtain ⟨x, hx, hk, _⟩ := (h2.2 k (.int .i64 v)).2 (by simp [hm])
      have hin : k.data.toList ∈ D.nodes.map bytesK := List.mem_map.2 ⟨x, hx, by unfold bytesK; rw [hk]⟩
      exact count_one _ hu _ hin

theorem count_take (L : List (List UInt8)) (k : List UInt8) (j : Nat) (h : j < L.length) : (L.take (j + 1)).count k = (L.take j).count k + if L[j] = k then 1 else 0 := by
  rw [List.take_succ_eq_append_getElem h, List.count_append, List.count_singleton]
  congr 1
  by_cases e : L[j] = k <;> simp [e]
theorem str_eq (l : List UInt8) (k : ByteArray) (b : Bool) (h : decide (l = k.data.toList) = b) (W : World) : (binOp .eql 9 (encStr l) (.string k)).run Try.prog W = .ok (.bool b) W := by
  have h2 : decide ((⟨l.toArray⟩ : ByteArray).toList = k.toList) = b := by
    rw [ByteArray.toList_eq, ByteArray.toList_eq]
    simpa using h
  subst h2
  unfold encStr
  simp [go_sem]
  rw [Bool.eq_iff_iff]
  simp

set_option maxRecDepth 100000 in
set_option maxHeartbeats 8000000 in
theorem keys_walk (seed : Nat) (hsd : seed < 4294967296) (a : Option Addr) (cap : Nat) (l : List (Int × ByteArray × Int)) (hl : l.length ≤ 9223372036854775807) (hz : ∀ x ∈ l, x.2.1.size ≤ 9223372036854775807)
    (w : World) (hE : Acts w a l) : Calls Try.prog 4 #[.int .u32 seed, .slice a l.length cap] w fun e w' => e = .returned (.bool true) ∧ Below w.heap.size w w' := by
  have HE := Lib.hid hE
  clear hE
  go_enter Try.func4, Try.ntmps4
  go_wp2_with fail
  refine (shown_any _).mono ?_
  rintro e w1 ⟨rfl, hb1⟩
  have HB1 := Lib.hid hb1
  clear hb1
  go_wp2_with fail
  refine (new_is seed _).mono ?_
  rintro e w2 ⟨p, rfl, h2, hb2⟩
  have hA := Alone.new HB1.out h2 hb2
  have HA := Lib.hid hA
  clear h2 hb2 hA
  go_wp2
  go_loopw [7] (fun i wr => ∃ (j : Nat) (m : ByteArray → Option Int) (n : Sh), i = .int .i64 j ∧ j ≤ l.length ∧ j ≤ 100 ∧ Alone w p seed m n wr ∧ n.n ≤ j) (fun i _ => l.length - (intOf i).toNat)
  case atStart => exact ⟨0, _, _, rfl, by omega, by omega, HA.out, by simp⟩
  case round =>
    obtain ⟨j, m, n, rfl, hj, hj80, hA, hn⟩ := hrel
    by_cases hlt : j < l.length ∧ j < 100
    · obtain ⟨hjl, hj8⟩ := hlt
      have hact := (HE.out.below hA.2) j hjl
      obtain ⟨b, off, rfl, c0, c1, c2⟩ := hact
      have hAct := HE.out j hjl
      have hsz := hz _ (List.getElem_mem hjl)
      have hn' : n.n + 1 ≤ 1000000 := by omega
      generalize l[j] = x at *
      obtain ⟨d, kk, vv⟩ := x
      simp only at c0 c1 c2 hsz hAct
      have HACT : ∀ W, Below w.heap.size w W → Hid (W.cell? ⟨b, off + j * 3, none⟩ = some (.int .i64 d)) := fun W hb => Lib.hid (by
        obtain ⟨b', off', e, q0, _, _⟩ := hAct
        cases e
        exact (hb.cell (p := ⟨b, off + j * 3, none⟩) (World.block_lt_of_cell? w ⟨b, off + j * 3, none⟩ q0)).trans q0)
      have HAA := Lib.hid hA
      have HKEY := fun w => Lib.hid (key_any kk hsz w)
      have hkz := cutK_size kk
      have hj8' : (j : Int) < 100 := by omega
      by_cases hd : (IntKind.u64.wrap d).tmod 8 < 4
      · have hdd : decide ((IntKind.u64.wrap d).tmod 8 < 4) = true := by simpa using hd
        have HS := Lib.hid (set_is hsd hA.1 hn' (cutK kk) (by omega) vv)
        have hset : ((putI m (cutK kk) vv) (cutK kk)).isSome = true := by simp [putI]
        clear hA hd hAct
        go_wp2_with fail
        (with_reducible refine (HKEY _).out.mono ?_)
        rintro e w3 ⟨rfl, rfl⟩
        go_wp2_with fail
        (with_reducible refine HS.out.mono ?_)
        rintro e w3 ⟨rfl, h3⟩
        have h4 := HAA.out.now h3
        have hN : (n.set (m (cutK kk)).isSome).n ≤ j + 1 := by rw [shset_n]; cases (m (cutK kk)).isSome <;> simp <;> omega
        generalize putI m (cutK kk) vv = m' at *
        generalize n.set (m (cutK kk)).isSome = n' at *
        have hBK := buckets_is h4.1 (by omega)
        have HBK := Lib.hid hBK
        have H4 := Lib.hid h4
        have HSET := Lib.hid hset
        clear hBK h4 h3 hset HS
        go_wp2_with fail
        (with_reducible refine HBK.out.mono ?_)
        rintro e w4 ⟨u, L, rfl, hO, hLn, hcnt, hb4⟩
        have hA4 := H4.out.later hb4
        have HL := Lib.hid (len_is hA4.1)
        rw [← hLn] at HL hN
        have hc1 := hcnt (cutK kk)
        rw [HSET.out] at hc1
        have HC1 := Lib.hid hc1
        have HLN := Lib.hid hLn
        have hL6 : L.length ≤ 1000000 := by omega
        obtain ⟨ua, ucap, rfl, hat⟩ : ∃ ua ucap, u = .slice ua L.length ucap ∧ ∀ t, t < L.length → ∃ g, ua = some ⟨g, 0, none⟩ ∧ w4.cell? ⟨g, t, none⟩ = some (encStr (L.getD t [])) := by
          rcases hO.2 with ⟨h1, h2⟩ | ⟨g, cp, cur, h1, _, hgb, _⟩
          · exact ⟨none, 0, by rw [h2]; exact h1, fun t ht => by omega⟩
          · refine ⟨_, cp, h1, fun t ht => ⟨g, rfl, ?_⟩⟩
            have hO' := hO
            unfold Own9 at hO'
            rw [h1] at hO'
            have := World.ownsRow.cellAt hO' t (by omega)
            rw [this, List.getElem?_map, List.getElem?_eq_getElem ht, List.getD_eq_getElem?_getD, List.getElem?_eq_getElem ht]
            rfl
        have HAT := Lib.hid hat
        have HA4 := Lib.hid hA4
        have hLi : (L.length : Int) ≤ 1000000 := by omega
        clear hO hLn hcnt hb4 hA4 hc1 hat
        go_wp2_with fail
        (with_reducible refine HL.out.mono ?_)
        rintro e w5 ⟨rfl, rfl⟩
        go_wp2
        go_loopw [10, 11] (fun cv tv wr => ∃ t : Nat, tv = .int .i64 t ∧ t ≤ L.length ∧ cv = .int .i64 ((L.take t).count (cutK kk).data.toList : Nat) ∧ wr = w5) (fun _ tv _ => L.length - (intOf tv).toNat)
        case atStart => exact ⟨0, rfl, by omega, rfl, rfl⟩
        case round =>
          obtain ⟨t, rfl, ht, rfl, rfl⟩ := hrel
          by_cases htl : t < L.length
          · obtain ⟨g, rfl, hcell⟩ := HAT.out t htl
            have hgd : L.getD t [] = L[t] := by rw [List.getD_eq_getElem?_getD, List.getElem?_eq_getElem htl]; rfl
            have hct := count_take L (cutK kk).data.toList t htl
            rw [hgd] at hcell
            have hcb : (L.take t).count (cutK kk).data.toList ≤ L.length := Nat.le_trans List.count_le_length (by rw [List.length_take]; omega)
            have hcb' : (((L.take t).count (cutK kk).data.toList : Nat) : Int) ≤ 1000000 := by omega
            by_cases he : L[t] = (cutK kk).data.toList
            · obtain ⟨sb, hsb⟩ : ∃ sb : ByteArray, sb = ⟨L[t].toArray⟩ := ⟨_, rfl⟩
              have hen : encStr L[t] = .string sb := by rw [hsb, encStr]
              have hse : (sb.toList == (cutK kk).toList) = true := by rw [hsb, ByteArray.toList_eq, ByteArray.toList_eq]; simpa using he
              rw [hen] at hcell
              rw [if_pos he] at hct
              have HCT := Lib.hid hct
              clear hct he hgd hsb hen
              go_wp2
              refine ⟨⟨t + 1, by go_num, by omega, ?_, trivial⟩, by simp [intOf]; omega⟩
              rw [HCT.out]
              go_num
            · obtain ⟨sb, hsb⟩ : ∃ sb : ByteArray, sb = ⟨L[t].toArray⟩ := ⟨_, rfl⟩
              have hen : encStr L[t] = .string sb := by rw [hsb, encStr]
              have hse : (sb.toList == (cutK kk).toList) = false := by rw [hsb, ByteArray.toList_eq, ByteArray.toList_eq]; simpa using he
              rw [hen] at hcell
              rw [if_neg he] at hct
              have HCT := Lib.hid hct
              clear hct he hgd hsb hen
              go_wp2
              refine ⟨⟨t + 1, by go_num, by omega, ?_, trivial⟩, by simp [intOf]; omega⟩
              rw [HCT.out, Nat.add_zero]
          · obtain rfl : t = L.length := by omega
            rw [List.take_length, HC1.out]
            have hq := (HACT _ HA4.out.2).out
            clear HC1 HAT
            go_wp2
            refine ⟨⟨j + 1, _, _, by go_num, by omega, by omega, HA4.out, by have := HLN.out; omega⟩, by simp [intOf]; omega⟩
      · have hdd : decide ((IntKind.u64.wrap d).tmod 8 < 4) = false := by simpa using hd
        have HS := Lib.hid (del_is hsd hA.1 (by omega) (cutK kk) (by omega))
        have hset : ((remI m (cutK kk)) (cutK kk)).isSome = false := by simp [remI]
        clear hA hd hAct
        go_wp2_with fail
        (with_reducible refine (HKEY _).out.mono ?_)
        rintro e w3 ⟨rfl, rfl⟩
        go_wp2_with fail
        (with_reducible refine HS.out.mono ?_)
        rintro e w3 ⟨rfl, h3, _⟩
        have h4 := HAA.out.now h3
        have hN : (n.del (m (cutK kk)).isSome).n ≤ j + 1 := by rw [shdel_n]; cases (m (cutK kk)).isSome <;> simp <;> omega
        generalize remI m (cutK kk) = m' at *
        generalize n.del (m (cutK kk)).isSome = n' at *
        have hBK := buckets_is h4.1 (by omega)
        have HBK := Lib.hid hBK
        have H4 := Lib.hid h4
        have HSET := Lib.hid hset
        clear hBK h4 h3 hset HS
        go_wp2_with fail
        (with_reducible refine HBK.out.mono ?_)
        rintro e w4 ⟨u, L, rfl, hO, hLn, hcnt, hb4⟩
        have hA4 := H4.out.later hb4
        have HL := Lib.hid (len_is hA4.1)
        rw [← hLn] at HL hN
        have hc1 := hcnt (cutK kk)
        rw [HSET.out] at hc1
        have HC1 := Lib.hid hc1
        have HLN := Lib.hid hLn
        have hL6 : L.length ≤ 1000000 := by omega
        obtain ⟨ua, ucap, rfl, hat⟩ : ∃ ua ucap, u = .slice ua L.length ucap ∧ ∀ t, t < L.length → ∃ g, ua = some ⟨g, 0, none⟩ ∧ w4.cell? ⟨g, t, none⟩ = some (encStr (L.getD t [])) := by
          rcases hO.2 with ⟨h1, h2⟩ | ⟨g, cp, cur, h1, _, hgb, _⟩
          · exact ⟨none, 0, by rw [h2]; exact h1, fun t ht => by omega⟩
          · refine ⟨_, cp, h1, fun t ht => ⟨g, rfl, ?_⟩⟩
            have hO' := hO
            unfold Own9 at hO'
            rw [h1] at hO'
            have := World.ownsRow.cellAt hO' t (by omega)
            rw [this, List.getElem?_map, List.getElem?_eq_getElem ht, List.getD_eq_getElem?_getD, List.getElem?_eq_getElem ht]
            rfl
        have HAT := Lib.hid hat
        have HA4 := Lib.hid hA4
        have hLi : (L.length : Int) ≤ 1000000 := by omega
        clear hO hLn hcnt hb4 hA4 hc1 hat
        go_wp2_with fail
        (with_reducible refine HL.out.mono ?_)
        rintro e w5 ⟨rfl, rfl⟩
        go_wp2
        go_loopw [10, 11] (fun cv tv wr => ∃ t : Nat, tv = .int .i64 t ∧ t ≤ L.length ∧ cv = .int .i64 ((L.take t).count (cutK kk).data.toList : Nat) ∧ wr = w5) (fun _ tv _ => L.length - (intOf tv).toNat)
        case atStart => exact ⟨0, rfl, by omega, rfl, rfl⟩
        case round =>
          obtain ⟨t, rfl, ht, rfl, rfl⟩ := hrel
          by_cases htl : t < L.length
          · obtain ⟨g, rfl, hcell⟩ := HAT.out t htl
            have hgd : L.getD t [] = L[t] := by rw [List.getD_eq_getElem?_getD, List.getElem?_eq_getElem htl]; rfl
            have hct := count_take L (cutK kk).data.toList t htl
            rw [hgd] at hcell
            have hcb : (L.take t).count (cutK kk).data.toList ≤ L.length := Nat.le_trans List.count_le_length (by rw [List.length_take]; omega)
            have hcb' : (((L.take t).count (cutK kk).data.toList : Nat) : Int) ≤ 1000000 := by omega
            by_cases he : L[t] = (cutK kk).data.toList
            · obtain ⟨sb, hsb⟩ : ∃ sb : ByteArray, sb = ⟨L[t].toArray⟩ := ⟨_, rfl⟩
              have hen : encStr L[t] = .string sb := by rw [hsb, encStr]
              have hse : (sb.toList == (cutK kk).toList) = true := by rw [hsb, ByteArray.toList_eq, ByteArray.toList_eq]; simpa using he
              rw [hen] at hcell
              rw [if_pos he] at hct
              have HCT := Lib.hid hct
              clear hct he hgd hsb hen
              go_wp2
              refine ⟨⟨t + 1, by go_num, by omega, ?_, trivial⟩, by simp [intOf]; omega⟩
              rw [HCT.out]
              go_num
            · obtain ⟨sb, hsb⟩ : ∃ sb : ByteArray, sb = ⟨L[t].toArray⟩ := ⟨_, rfl⟩
              have hen : encStr L[t] = .string sb := by rw [hsb, encStr]
              have hse : (sb.toList == (cutK kk).toList) = false := by rw [hsb, ByteArray.toList_eq, ByteArray.toList_eq]; simpa using he
              rw [hen] at hcell
              rw [if_neg he] at hct
              have HCT := Lib.hid hct
              clear hct he hgd hsb hen
              go_wp2
              refine ⟨⟨t + 1, by go_num, by omega, ?_, trivial⟩, by simp [intOf]; omega⟩
              rw [HCT.out, Nat.add_zero]
          · obtain rfl : t = L.length := by omega
            rw [List.take_length, HC1.out]
            have hq := (HACT _ HA4.out.2).out
            clear HC1 HAT
            go_wp2
            refine ⟨⟨j + 1, _, _, by go_num, by omega, by omega, HA4.out, by have := HLN.out; omega⟩, by simp [intOf]; omega⟩
    · have hex : (l.length : Int) ≤ j ∨ ((j : Int) < l.length ∧ (j : Int) = 100) := by omega
      have HA3 := Lib.hid hA
      clear hA hlt
      rcases hex with hex | ⟨hex, hex2⟩
      all_goals (
        go_wp2
        go_ret
        exact ⟨rfl, HA3.out.2⟩)
end Go.Proofs.Ytifbambalfifaaa
