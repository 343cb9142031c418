/- The walk of PackFinds. -/
import Derived.Test.YtfladbfniihfmaaTurns
namespace Go.Proofs.Ytfladbfniihfmaa
open Go.RowKit Go.Shelf
attribute [local go_sem] Oper.semAt_some

theorem where_none {l : List Ent} {m : ByteArray} (h : ∀ (j : Nat) (e : Ent), j < l.length → l[j]? = some e → e.1 ≠ m) : whereS l m = -1 := by
  unfold whereS
  rw [List.findIdx?_eq_none_iff.2 fun c hc => ?_]
  obtain ⟨j, hj, rfl⟩ := List.mem_iff_getElem.1 hc
  simpa using h j _ hj (List.getElem?_eq_getElem hj)
theorem where_some {l : List Ent} {m : ByteArray} {i : Nat} {x : Ent} (hx : l[i]? = some x) (hm : x.1 = m) (h : ∀ (j : Nat) (e : Ent), j < i → l[j]? = some e → e.1 ≠ m) : whereS l m = i := by
  unfold whereS
  obtain ⟨hi, rfl⟩ := List.getElem?_eq_some_iff.1 hx
  rw [List.findIdx?_eq_some_iff_getElem.2 ⟨hi, by simpa using hm, fun j hj => by simpa using h j _ hj (List.getElem?_eq_getElem (by omega))⟩]

set_option maxHeartbeats 2000000 in
theorem refFind_any (a : Option Addr) (cap : Nat) (l : List Ent) (hl : l.length ≤ 9223372036854775807) (mem : ByteArray) (w : World) (hE : Ents w a l) :
    Calls Try.prog 26 #[.slice a l.length cap, .string mem] w fun e w' => e = .returned (.int .i64 (whereS l mem)) ∧ w' = w := by
  go_enter Try.func26, Try.ntmps26
  go_wp2
  go_loopw [5] (fun i wr => ∃ (k : Nat), i = .int .i64 k ∧ k ≤ l.length ∧ wr = w ∧ ∀ (j : Nat) (e : Ent), j < k → l[j]? = some e → e.1 ≠ mem)
    (fun i _ => l.length - (intOf i).toNat)
  case atStart => exact ⟨0, rfl, by omega, rfl, fun j e hj => by omega⟩
  case round =>
    obtain ⟨k, rfl, hk, rfl, hf⟩ := hrel
    by_cases hlt : k < l.length
    · obtain ⟨b, off, rfl, c0, c1⟩ := hE k hlt
      have hx : l[k]? = some l[k] := List.getElem?_eq_getElem hlt
      have HX := Lib.hid hx
      generalize l[k] = x at *
      have HE := Lib.hid hE
      have HF := Lib.hid hf
      clear hE hx hf
      by_cases hm : x.1 = mem
      · have hbeq : (x.1.toList == mem.toList) = true := by rw [hm]; simp
        have HW := Lib.hid (where_some HX.out hm HF.out)
        clear hm HX
        generalize x.1 = xm at *
        go_wp2
        go_ret
        rw [HW.out]
        exact ⟨rfl, rfl⟩
      · have hbeq : (x.1.toList == mem.toList) = false := by
          rw [Bool.eq_false_iff]
          intro h
          rw [ByteArray.toList_eq, ByteArray.toList_eq] at h
          exact hm (ByteArray.ext (Array.ext' (by simpa using h)))
        have HM := Lib.hid hm
        clear hm
        go_wp2
        refine ⟨⟨k + 1, by go_num, hlt, trivial, fun j e hj he => ?_⟩, by simp [intOf]; omega⟩
        by_cases ej : j = k
        · subst ej
          have := HX.out
          rw [he] at this
          cases this
          exact HM.out
        · exact HF.out j e (by omega) he
    · obtain rfl : k = l.length := by omega
      have HW := Lib.hid (where_none hf)
      clear hf
      go_wp2
      go_ret
      rw [HW.out]
      exact ⟨rfl, rfl⟩

set_option maxRecDepth 100000 in
set_option maxHeartbeats 4000000 in
theorem finds_walk (a : Option Addr) (cap : Nat) (l : List Ent) (hl : l.length ≤ 9223372036854775807) (hz : ∀ e ∈ l, e.1.size ≤ 9223372036854775807 ∧ scoreOk e.2) (mem : ByteArray) (w : World) (hE : Ents w a l) :
    Calls Try.prog 6 #[.slice a l.length cap, .string mem] w fun e w' => e = .returned (.bool true) ∧ Below w.heap.size w w' := by
  have HS := fun w => Lib.hid (shown_any w)
  have HF := fun w hE => Lib.hid (few_any a cap l hl (fun e he => (hz e he).1) w hE)
  have hF := few_each (fun e he => (hz e he).2)
  have hFl := few_length l
  have HP := fun a cap w hE => Lib.hid (pack_any a cap (fewS l) (by omega) (fun e he => by have := hF e he; omega) w hE)
  have hps := packR_size (fewS l) (fun e he => (hF e he).2)
  have HD := fun w => Lib.hid (find_any (packR (fewS l)).1 mem (by omega) w)
  have HRF := fun a cap w hE => Lib.hid (refFind_any a cap (fewS l) (by omega) mem w hE)
  have hc : ((packR (fewS l)).2 = 0 ∧ entsOf (packR (fewS l)).1 = fewS l) ∨ (¬ (packR (fewS l)).2 = 0 ∧ entsOf (packR (fewS l)).1 = []) := by
    rcases packR_cases (fewS l) (fun e he => (hF e he).2) with ⟨hv, h⟩ | ⟨h, h2⟩
    · rw [h]; exact .inl ⟨rfl, ents_packB hv⟩
    · rw [h]; exact .inr ⟨by omega, by unfold entsOf; rw [packOf_wrong rightB_empty]; rfl⟩
  generalize (packR (fewS l)).2 = E at *
  generalize (packR (fewS l)).1 = P at *
  generalize fewS l = F at *
  have HEE := Lib.hid hE
  clear hE hF hz hps
  rcases hc with ⟨rfl, he⟩ | ⟨hE0, he⟩
  · rw [he] at HD
    generalize whereS F mem = r at *
    clear he
    go_enter Try.func6, Try.ntmps6
    go_wp2_with fail
    refine (HS _).out.mono ?_
    rintro e w1 ⟨rfl, hb1⟩
    have HE1 := Lib.hid (HEE.out.below hb1)
    have HB1 := Lib.hid hb1
    clear hb1
    go_wp2_with fail
    refine (HF _ HE1.out).out.mono ?_
    rintro e w2 ⟨r2, rfl, ho2, hb2⟩
    have HB2 := Lib.hid (HB1.out.trans (hb2.mono HB1.out.size))
    obtain ⟨ra, rc, rfl, hE2⟩ := own35_form ho2
    have HE2 := Lib.hid hE2
    clear hb2 ho2 hE2
    go_wp2_with fail
    refine (HP _ _ _ HE2.out).out.mono ?_
    rintro e w3 ⟨rfl, hb3⟩
    have HB3 := Lib.hid (HB2.out.trans (hb3.mono HB2.out.size))
    have HE3 := Lib.hid (HE2.out.below hb3)
    clear hb3
    go_wp2_with fail
    refine (HD _).out.mono ?_
    rintro e w4 ⟨rfl, hb4⟩
    have HB4 := Lib.hid (HB3.out.trans (hb4.mono HB3.out.size))
    have HE4 := Lib.hid (HE3.out.below hb4)
    clear hb4
    go_wp2_with fail
    refine (HRF _ _ _ HE4.out).out.mono ?_
    rintro e w5 ⟨rfl, rfl⟩
    go_wp2_with fail
    go_ret
    exact ⟨rfl, HB4.out⟩
  · rw [he, show whereS [] mem = -1 from rfl] at HD
    clear he
    go_enter Try.func6, Try.ntmps6
    go_wp2_with fail
    refine (HS _).out.mono ?_
    rintro e w1 ⟨rfl, hb1⟩
    have HE1 := Lib.hid (HEE.out.below hb1)
    have HB1 := Lib.hid hb1
    clear hb1
    go_wp2_with fail
    refine (HF _ HE1.out).out.mono ?_
    rintro e w2 ⟨r2, rfl, ho2, hb2⟩
    have HB2 := Lib.hid (HB1.out.trans (hb2.mono HB1.out.size))
    obtain ⟨ra, rc, rfl, hE2⟩ := own35_form ho2
    have HE2 := Lib.hid hE2
    clear hb2 ho2 hE2
    go_wp2_with fail
    refine (HP _ _ _ HE2.out).out.mono ?_
    rintro e w3 ⟨rfl, hb3⟩
    have HB3 := Lib.hid (HB2.out.trans (hb3.mono HB2.out.size))
    clear hb3
    go_wp2_with fail
    refine (HD _).out.mono ?_
    rintro e w4 ⟨rfl, hb4⟩
    have HB4 := Lib.hid (HB3.out.trans (hb4.mono HB3.out.size))
    clear hb4
    go_wp2_with fail
    go_ret
    exact ⟨rfl, HB4.out⟩
end Go.Proofs.Ytfladbfniihfmaa
