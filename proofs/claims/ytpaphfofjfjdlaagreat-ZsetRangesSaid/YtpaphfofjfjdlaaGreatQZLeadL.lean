/- How many entries, from the first one on, are what a search asks for: of a list, of a set. -/
import Derived.Test.YtpaphfofjfjdlaaGreatQZF
import Derived.Test.YtpaphfofjfjdlaaGreatQBdEq
namespace Go.Proofs.YtpaphfofjfjdlaaGreat
open Go.RowKit Go.Shelf Sk
attribute [local go_sem] Oper.semAt_some

variable {w w' w1 w2 : World} {s b l p q sd c : Nat} {D D1 : Nat → Prop} {L L1 : List Nd} {m : ByteArray → Option Int} {n : Dc.Sh} {le lm : Int} {E : List En}
set_option maxRecDepth 100000 in
theorem l_ask (h : LAt w l p q D sd L m n) (hN : L.length ≤ 100000) {A : Nat} {cb : Array Value} {k : Nat} (ha : Ask w A cb (L.map en) k) {q0 q1 : Nat} (k0 : Blk w q0 77 #[.iface 106 (.pointer (some ⟨l, 0, none⟩))]) (k1 : Blk w q1 85 #[.func (.func A) #[] cb]) (i : Nat) (hi : i < L.length) :
    Calls Tryz.prog 54 #[.int .i64 i, .pointer (some ⟨q0, 0, none⟩), .pointer (some ⟨q1, 0, none⟩)] w fun e w' => e = .returned (.bool (decide (k ≤ i))) ∧ Below w.heap.size w w' := by
  rw [← not_le]
  have HA := Lib.hid (at_any p L rfl h.ls.sk rfl (by simp; omega) i L[i] (List.getElem?_eq_getElem hi))
  have hx : (L.map en)[i]? = some (en L[i]) := by simp [hi]
  have hen : en L[i] = (L[i].m, L[i].s) := rfl
  rw [hen] at hx
  generalize L[i].m = xm at *
  generalize L[i].s = xs at *
  have hme := meth_at (facts2 h.blk).1
  have HC := Lib.hid ha.call
  have eg := ha.enter
  have HX := Lib.hid hx
  have K1 := Lib.hid k1
  obtain ⟨e0, _⟩ := facts1 k0
  clear h ha hx k0 k1 hen
  go_enter Tryz.func54, Tryz.ntmps54
  go_wp2_with fail
  refine HA.out.mono ?_
  rintro e w1 ⟨rfl, hb⟩
  have kN := Blk.new w1 48 #[.string xm, .int .i64 xs]
  have hb2 := hb.trans ((alloc_below w1 (Obj.cells #[.string xm, .int .i64 xs] 48)).mono hb.size)
  have HQ := Lib.hid (HC.out _ hb2 i (xm, xs) HX.out)
  obtain ⟨e1, _⟩ := facts1 (K1.out.later hb2)
  obtain ⟨e2, e3, _, _⟩ := facts2 kN
  have HB2 := Lib.hid hb2
  clear hb hb2 HC HX K1 kN HA
  go_wp2_with (go_at_fn A; refine HQ.out.mono ?_; rintro e w2 ⟨rfl, hb3⟩)
  go_ret
  exact ⟨rfl, HB2.out.trans (hb3.mono HB2.out.size)⟩
set_option maxRecDepth 100000 in
theorem l_lead (h : LAt w l p q D sd L m n) (hN : L.length ≤ 100000) {A : Nat} {cb : Array Value} {k : Nat} (ha : Ask w A cb (L.map en) k) :
    Calls Tryz.prog 41 #[.iface 106 (.pointer (some ⟨l, 0, none⟩)), .func (.func A) #[] cb] w fun e w' => e = .returned (.int .i64 k) ∧ Below w.heap.size w w' := by
  obtain ⟨w1, hw1⟩ : ∃ w1, w1 = (w.alloc (.cells #[.iface 106 (.pointer (some ⟨l, 0, none⟩))] 77)).alloc (.cells #[.func (.func A) #[] cb] 85) := ⟨_, rfl⟩
  have hb1 : Below w.heap.size w w1 := by rw [hw1]; exact (alloc_below _ _).trans ((alloc_below _ _).mono (by simp))
  have k0 : Blk w1 w.heap.size 77 #[.iface 106 (.pointer (some ⟨l, 0, none⟩))] := by rw [hw1]; exact (Blk.new _ _ _).alloc _
  have k1 : Blk w1 (w.heap.size + 1) 85 #[.func (.func A) #[] cb] := by
    rw [hw1]
    have := Blk.new (w.alloc (.cells #[.iface 106 (.pointer (some ⟨l, 0, none⟩))] 77)) 85 #[.func (.func A) #[] cb]
    simpa using this
  have h1 := h.later hb1
  have HL := Lib.hid (len_any p L rfl h1.ls.sk)
  have hle : k ≤ L.length := by have := ha.le; rwa [List.length_map] at this
  have HS := fun W (hb : Below w1.heap.size w1 W) => Lib.hid (search_any (.pointer (some ⟨w.heap.size, 0, none⟩)) (.pointer (some ⟨w.heap.size + 1, 0, none⟩)) L.length k hle (by omega) W
    (fun W' hb' i hi => l_ask (h1.later (hb.trans (hb'.mono hb.size))) hN ((ha.later hb1).later (hb.trans (hb'.mono hb.size))) (k0.later (hb.trans (hb'.mono hb.size))) (k1.later (hb.trans (hb'.mono hb.size))) i hi))
  have hme := meth_len (facts2 h1.blk).1
  obtain ⟨e0, _⟩ := facts1 k0
  have HB1 := Lib.hid hb1
  have HW := Lib.hid hw1
  clear h ha k0 k1 hb1 h1 hle
  rw [hw1] at HL e0 hme
  clear hw1
  go_enter Tryz.func41, Tryz.ntmps41
  go_wp2_with fail
  refine HL.out.mono ?_
  rintro e w2 ⟨rfl, rfl⟩
  rw [← HW.out]
  have HS2 := HS w1 (Below.refl _ _)
  clear HS HL
  go_wp2_with fail
  refine HS2.out.mono ?_
  rintro e w3 ⟨rfl, hb3⟩
  go_wp2_with fail
  go_ret
  exact ⟨rfl, HB1.out.trans (hb3.mono HB1.out.size)⟩

/-- The form of a set. -/
def FormIs (W : World) (fv : Value) (E : List En) : Prop := (∃ b, fv = .iface 73 (.pointer (some ⟨b, 0, none⟩)) ∧ PackAt W b E) ∨ (∃ l p q D sd L m n, fv = .iface 106 (.pointer (some ⟨l, 0, none⟩)) ∧ LAt W l p q D sd L m n ∧ L.map en = E ∧ L.length ≤ 100000)
theorem FormIs.later {fv : Value} (h : FormIs w fv E) (hb : Below w.heap.size w w') : FormIs w' fv E := by
  rcases h with ⟨b, rfl, h⟩ | ⟨l, p, q, D, sd, L, m, n, rfl, h, h2⟩
  · exact .inl ⟨b, rfl, h.later hb⟩
  · exact .inr ⟨l, p, q, D, sd, L, m, n, rfl, h.later hb, h2⟩
theorem form_lead {fv : Value} (h : FormIs w fv E) {A : Nat} {cb : Array Value} {k : Nat} (ha : Ask w A cb E k) : Calls Tryz.prog 41 #[fv, .func (.func A) #[] cb] w fun e w' => e = .returned (.int .i64 k) ∧ Below w.heap.size w w' := by
  rcases h with ⟨b, rfl, h⟩ | ⟨l, p, q, D, sd, L, m, n, rfl, h, rfl, hN⟩
  · exact p_lead h ha
  · exact l_lead h hN ha
theorem set_now {S : Nat → Prop} {isL : Bool} (h : SetIs w s S isL le lm c E) : ∃ fv, Blk w s 79 (SetC fv le lm (Classical.choose h)) ∧ FormIs w fv E ∧ Calls Tryz.prog 39 #[.pointer (some ⟨s, 0, none⟩)] w fun e w' => e = .returned fv ∧ w' = w := by
  rcases Classical.choose_spec h with ⟨_, b, h1, _⟩ | ⟨_, l, p, q, D, L, m, n, h1, _⟩
  · exact ⟨_, h1.blk, .inl ⟨b, rfl, h1.pk⟩, now_s h1.blk⟩
  · exact ⟨_, h1.blk, .inr ⟨l, p, q, D, _, L, m, n, rfl, h1.li, h1.en, h1.lenN⟩, now_s h1.blk⟩
end Go.Proofs.YtpaphfofjfjdlaaGreat
