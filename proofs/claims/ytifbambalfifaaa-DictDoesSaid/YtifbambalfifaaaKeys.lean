/- The keys of a row, in the order of their bytes; Bucket; all buckets. -/
import Derived.Test.YtifbambalfifaaaLaw
import Derived.Sort.OwnSorted
namespace Go.Proofs.Ytifbambalfifaaa
open Go.RowKit Go.Shelf Go.Sort
attribute [local go_sem] Oper.semAt_some

def bytesK (x : Nd) : List UInt8 := x.key.data.toList
def sortK (l : List (List UInt8)) : List (List UInt8) := l.mergeSort fun x y => decide (x ≤ y)
/-- A row of texts. -/
def Own9 (W : World) (base : Nat) (v : Value) (ks : List (List UInt8)) : Prop := W.ownsRow base 9 1 v ks.length (ks.map encStr)
theorem enc_key (x : Nd) : encStr (bytesK x) = .string x.key := rfl
theorem info9 : (Try.prog.info? 9).map (fun i => (i.zero, i.size, i.bytes)) = some (some (.string ⟨#[]⟩), 1, 16) := by kernel_rfl
theorem Own9.below {W W' : World} {base : Nat} {v : Value} {ks : List (List UInt8)} (h : Own9 W base v ks) (hb : Below W.heap.size W W') : Own9 W' base v ks :=
  h.kept (row := none) ⟨hb.os, hb.tape, hb.output, hb.size, fun k hk _ => hb.block k hk⟩ (by
    cases hv : v.ownBlock with
    | none => exact .inl rfl
    | some k => exact .inr (by simp))

set_option maxRecDepth 100000 in
set_option maxHeartbeats 4000000 in
theorem keys_any (v : Value) (r : List Nd) (w : World) (hR : RowAt tyI w v r) (hl : r.length ≤ 1000000) (hf : ∀ x ∈ r, x.fine tyI) :
    Calls Try.prog 32 #[v] w fun e w' => ∃ u, e = .returned u ∧ Own9 w' w.heap.size u (sortK (r.map bytesK)) ∧ Below w.heap.size w w' := by
  obtain ⟨i0, hi0, hz0, hz1, hz2⟩ := info_parts info9
  have hrl := Lib.hid hl
  have HR := Lib.hid hR
  have HF := Lib.hid hf
  obtain ⟨A, cap, rfl, hcap, hmax, _⟩ := hR.form
  have hl2 : (r.length : Int) ≤ 1000000 := by omega
  clear hR hf
  go_enter Try.func32, Try.ntmps32
  go_wp2
  go_loopw [3, 8] (fun lv i wr => ∃ k : Nat, i = .int .i64 k ∧ k ≤ r.length ∧ Own9 wr w.heap.size lv ((r.take k).map bytesK) ∧ Below w.heap.size w wr) (fun _ i _ => r.length - (intOf i).toNat)
  case atStart => exact ⟨0, rfl, by omega, World.ownsRow_nil _ _ _ _, Below.refl _ _⟩
  case round =>
    obtain ⟨k, rfl, hk, hO, hb⟩ := hrel
    by_cases hlt : k < r.length
    · have hx : r[k]? = some r[k] := List.getElem?_eq_getElem hlt
      obtain ⟨A', cap', he, _, _, hat⟩ := (HR.out.far (S := fun _ => False) (W' := wr) ⟨hb.os, hb.tape, hb.output, hb.size, fun k hk _ => hb.block k hk⟩ (fun _ _ h => h)).form
      obtain ⟨gv, hA, hob, c0, c1, c2, _⟩ := hat k _ hx
      cases he
      subst hA
      have hfx := HF.out _ (List.getElem_mem hlt)
      have hnx : (r.take (k + 1)).map bytesK = (r.take k).map bytesK ++ [bytesK r[k]] := by rw [List.take_succ_eq_append_getElem hlt, List.map_append]; rfl
      have hkl : ((r.take k).map bytesK).length = k := by simp; omega
      have HNX := Lib.hid hnx
      clear hnx hx
      generalize r[k] = x at *
      obtain ⟨sum, key, vv⟩ := x
      obtain ⟨_, nv, hnv⟩ := hfx
      simp only at c0 c1 c2 hnv
      subst hnv
      have hzb := hb.size
      have hO2 := (hO.below (W' := wr.alloc (Obj.cells #[.int .u32 sum, .string key, .int .i64 nv] 75)) ((Below.refl _ _).alloc (Nat.le_refl _) _)).alloc (Obj.cells #[.string key] 9)
      have HO2 := Lib.hid hO2
      clear hO hO2 hat
      go_wp2_with (at_builtin; refine wpList_append_own _ rfl _ _ 39 rfl w.heap.size 9 i0 (.string ⟨#[]⟩) 1 16 Try.underlying39 hi0 hz0 hz1 hz2 rfl (by decide) _ _ _ rfl HO2.out ⟨wr.heap.size + 1, 0, none⟩ 1 1 [.string key] (by simp [Act.eval]) rfl (by have := cell_one_new (wr.alloc (Obj.cells #[.int .u32 sum, .string key, .int .i64 nv] 75)) (.string key) 9; simpa using this) (by simp [Value.oneCell']) (by unfold maxLen; omega) (by omega) (by simp; omega) ?_; intro v7 w7 hown7 hgrow _)
      have hb7 : Below w.heap.size w w7 := ((hb.alloc hb.size _).alloc (by simp; omega) _).grown hgrow (by simp; omega) (fun k e => (World.ownsRow.lt HO2.out k e).1)
      have HB7 := Lib.hid hb7
      have HO7 := Lib.hid hown7
      clear hb7 hown7 hgrow
      go_wp2
      refine ⟨⟨k + 1, by go_num, hlt, ?_, HB7.out⟩, by simp [intOf]; omega⟩
      have := HO7.out
      unfold Own9
      rw [HNX.out, List.map_append, List.length_append]
      exact this
    · obtain rfl : k = r.length := by omega
      rw [List.take_length] at hO
      have hsl : (sortK (r.map bytesK)).length = (r.map bytesK).length := by unfold sortK; simp
      have HSL := Lib.hid hsl
      clear hsl
      rcases hO.2 with ⟨hnil, h0⟩ | ⟨g, cap2, cur, hv, hbase, hgb, h1, h2, h3, h4⟩
      · subst hnil
        have hr0 : sortK (r.map bytesK) = [] := List.eq_nil_of_length_eq_zero (by rw [HSL.out]; exact h0)
        have HR0 := Lib.hid hr0
        have HB := Lib.hid hb
        clear hO hb hr0 h0
        go_wp2_with fail
        (with_reducible refine (Try.slices_Sort_string_none none 0 _).mono ?_)
        rintro e w8 ⟨rfl, rfl⟩
        go_wp2
        go_ret
        exact ⟨_, rfl, by unfold Own9; rw [HR0.out]; exact World.ownsRow_nil _ _ _ _, HB.out⟩
      · subst hv
        have hgl : g < wr.heap.size := (Array.getElem?_eq_some_iff.1 hgb).1
        have hS := Try.slices_Sort_string g 0 cap2 (r.map bytesK) wr (holds_of_block hgb (by simpa using h4)) hgl (by simp; omega)
        rw [List.length_map] at hS h1
        have HS := Lib.hid hS
        have HB := Lib.hid hb
        have HGB := Lib.hid hgb
        have H4 := Lib.hid h4
        have hfin : ∀ n os, Hid (Own9 (Sort.grow (putRow encStr (Sort.ahead wr n) g 0 (sortK (r.map bytesK)).toArray) os) w.heap.size (.slice (some ⟨g, 0, none⟩) r.length cap2) (sortK (r.map bytesK)) ∧ Below w.heap.size w (Sort.grow (putRow encStr (Sort.ahead wr n) g 0 (sortK (r.map bytesK)).toArray) os)) := fun n os => Lib.hid (by
          have e1 := ownsRow_sorted (n := n) (os := os) (ss := r.map bytesK) (ts := sortK (r.map bytesK)) (by rw [HSL.out]) hbase HGB.out (by rw [List.length_map]; exact h1) h2 h3
          refine ⟨?_, HB.out.grown (grownBy_sorted _) HB.out.size (fun k e => by cases e; exact hbase)⟩
          unfold Own9
          rw [HSL.out, List.length_map]
          rw [List.length_map] at e1
          exact e1)
        clear hO hb hgb hS h1 h2 h3 h4 hgl
        rw [List.length_map]
        go_wp2_with fail
        (with_reducible refine HS.out.mono ?_)
        rintro e w8 ⟨rfl, n8, os8, rfl⟩
        have HFN := hfin n8 os8
        unfold sortK at HFN
        go_wp2
        go_ret
        exact ⟨_, rfl, HFN.out⟩
end Go.Proofs.Ytifbambalfifaaa
