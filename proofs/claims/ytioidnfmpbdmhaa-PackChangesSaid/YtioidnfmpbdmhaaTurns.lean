/- The walk of PackTurns. -/
import Derived.Test.YtioidnfmpbdmhaaFew
import Derived.Test.YtioidnfmpbdmhaaWrong
namespace Go.Proofs.Ytioidnfmpbdmhaa
open Go.RowKit Go.Shelf
attribute [local go_sem] Oper.semAt_some

theorem rightB_empty : rightB ⟨#[]⟩ = false := by decide +kernel

theorem fewE_size (e : Ent) : (fewE e).1.size ≤ 70 := by unfold fewE; simp; omega
theorem few_each {l : List Ent} (h : ∀ e ∈ l, scoreOk e.2) : ∀ e ∈ fewS l, e.1.size ≤ 70 ∧ scoreOk e.2 := fun e he => by
  unfold fewS at he
  obtain ⟨x, hx, rfl⟩ := List.mem_map.1 he
  exact ⟨fewE_size x, h x (List.mem_of_mem_take hx)⟩
theorem few_length (l : List Ent) : (fewS l).length ≤ 210 := by unfold fewS; simp; omega

/-- What Pack tells: a pack, or an error. -/
theorem packR_cases (F : List Ent) (h : ∀ e ∈ F, scoreOk e.2) : (Valid F ∧ packR F = (packB F, 0)) ∨ ((packR F).1 = ⟨#[]⟩ ∧ ((packR F).2 = 51 ∧ 200 < F.length ∨ (packR F).2 = 2 ∧ F.length ≤ 200 ∧ fitS F = false)) := by
  unfold packR
  by_cases h2 : 200 < F.length
  · rw [if_pos h2]; exact .inr ⟨rfl, .inl ⟨rfl, h2⟩⟩
  · rw [if_neg h2]
    cases hf : fitS F with
    | false => exact .inr ⟨rfl, .inr ⟨rfl, by omega, rfl⟩⟩
    | true => exact .inl ⟨⟨by omega, fun e he => ⟨fitS_each hf e he, h e he⟩⟩, rfl⟩

theorem valid_put {L : List Ent} (h : Valid L) {x : Ent} (hx : x.1.size ≤ 64) (hs : scoreOk x.2) (hl : L.length < 200) (k : Nat) : Valid (L.take k ++ [x] ++ L.drop k) := by
  refine ⟨by simp; omega, fun e he => ?_⟩
  simp only [List.mem_append, List.mem_cons, List.not_mem_nil, or_false] at he
  rcases he with (he | rfl) | he
  · exact h.each e (List.mem_of_mem_take he)
  · exact ⟨hx, hs⟩
  · exact h.each e (List.mem_of_mem_drop he)
theorem valid_cut {L : List Ent} (h : Valid L) (k : Nat) : Valid (L.take k ++ L.drop (k + 1)) := by
  refine ⟨by have := h.many; simp; omega, fun e he => ?_⟩
  simp only [List.mem_append] at he
  rcases he with he | he
  · exact h.each e (List.mem_of_mem_take he)
  · exact h.each e (List.mem_of_mem_drop he)

theorem insR_cases (p : ByteArray) (at_ : Int) (x : Ent) (_ : scoreOk x.2) :
    (∃ k : Nat, at_ = k ∧ rightB p = true ∧ (entsOf p).length < 200 ∧ k ≤ (entsOf p).length ∧ x.1.size ≤ 64 ∧ insR p at_ x = (packB ((entsOf p).take k ++ [x] ++ (entsOf p).drop k), 0)) ∨ ((insR p at_ x).1 = ⟨#[]⟩ ∧ ((insR p at_ x).2 = 2 ∨ (insR p at_ x).2 = 50 ∨ (insR p at_ x).2 = 51)) := by
  unfold insR
  cases hr : rightB p with
  | false => exact .inr ⟨rfl, .inr (.inl rfl)⟩
  | true =>
    have hv := valid_of hr
    rw [if_pos rfl]
    by_cases h200 : (entsOf p).length = 200
    · rw [if_pos h200]; exact .inr ⟨rfl, .inr (.inr rfl)⟩
    · rw [if_neg h200]
      by_cases hb : at_ < 0 ∨ ((entsOf p).length : Int) < at_ ∨ 64 < x.1.size
      · rw [if_pos hb]; exact .inr ⟨rfl, .inl rfl⟩
      · rw [if_neg hb]
        refine .inl ⟨at_.toNat, by omega, rfl, by have := hv.many; omega, by omega, by omega, rfl⟩
theorem delR_cases (p : ByteArray) (at_ : Int) :
    (∃ k : Nat, at_ = k ∧ rightB p = true ∧ k < (entsOf p).length ∧ delR p at_ = (packB ((entsOf p).take k ++ (entsOf p).drop (k + 1)), 0) ∧ getS p at_ = ((entsOf p).getD k (⟨#[]⟩, 0), 0)) ∨ ((delR p at_).1 = ⟨#[]⟩ ∧ (getS p at_).1 = (⟨#[]⟩, 0) ∧ (getS p at_).2 = (delR p at_).2 ∧ ((delR p at_).2 = 2 ∨ (delR p at_).2 = 50)) := by
  unfold delR getS
  cases hr : rightB p with
  | false => exact .inr ⟨rfl, rfl, rfl, .inr rfl⟩
  | true =>
    rw [if_pos rfl, if_pos rfl]
    by_cases hb : at_ < 0 ∨ ((entsOf p).length : Int) ≤ at_
    · rw [if_pos hb, if_pos hb]; exact .inr ⟨rfl, rfl, rfl, .inl rfl⟩
    · rw [if_neg hb, if_neg hb]
      exact .inl ⟨at_.toNat, by omega, rfl, by omega, rfl, rfl⟩

theorem empty_size : (⟨#[]⟩ : ByteArray).size = 0 := rfl
theorem valid_size {L : List Ent} (h : Valid L) : (packB L).size ≤ 100000 := size_packB (fun e he => (h.each e he).1) (by have := h.many; omega)
theorem insR_size (p : ByteArray) (at_ : Int) (x : Ent) (hs : scoreOk x.2) : (insR p at_ x).1.size ≤ 100000 := by
  rcases insR_cases p at_ x hs with ⟨k, _, hr, hl, _, hx, h⟩ | ⟨h, _⟩
  · rw [h]; exact valid_size (valid_put (valid_of hr) hx hs hl k)
  · rw [h]; decide
theorem delR_size (p : ByteArray) (at_ : Int) : (delR p at_).1.size ≤ 100000 := by
  rcases delR_cases p at_ with ⟨k, _, hr, _, h, _⟩ | ⟨h, _⟩
  · rw [h]; exact valid_size (valid_cut (valid_of hr) k)
  · rw [h]; decide
theorem packR_size (F : List Ent) (h : ∀ e ∈ F, scoreOk e.2) : (packR F).1.size ≤ 100000 := by
  rcases packR_cases F h with ⟨hv, h⟩ | ⟨h, _⟩
  · rw [h]; exact valid_size hv
  · rw [h]; decide

theorem getD_ok (p : ByteArray) (at_ : Int) : (getS p at_).1.1.size ≤ 64 ∧ scoreOk (getS p at_).1.2 := by
  rcases delR_cases p at_ with ⟨k, _, hr, hk, _, h⟩ | ⟨_, h, _⟩
  · rw [h, List.getD_eq_getElem?_getD, List.getElem?_eq_getElem hk]
    exact (valid_of hr).each _ (List.getElem_mem hk)
  · rw [h]; exact ⟨by decide, by unfold scoreOk; omega⟩

theorem cut_put (L : List Ent) (x : Ent) (k : Nat) (hk : k ≤ L.length) : (L.take k ++ [x] ++ L.drop k).take k ++ (L.take k ++ [x] ++ L.drop k).drop (k + 1) = L := by
  have h1 : (L.take k).length = k := by simp; omega
  rw [List.append_assoc, List.take_left' h1]
  have h2 : (L.take k ++ ([x] ++ L.drop k)).drop (k + 1) = L.drop k := by
    rw [← List.drop_drop, List.drop_left' h1]; rfl
  rw [h2, List.take_append_drop]
theorem put_cut (L : List Ent) (k : Nat) (hk : k < L.length) (d : Ent) : (L.take k ++ L.drop (k + 1)).take k ++ [L.getD k d] ++ (L.take k ++ L.drop (k + 1)).drop k = L := by
  have h1 : (L.take k).length = k := by simp; omega
  rw [List.take_left' h1, List.drop_left' h1, List.getD_eq_getElem?_getD, List.getElem?_eq_getElem hk]
  simp

theorem turns_one (p : ByteArray) (at_ : Int) (x : Ent) (hs : scoreOk x.2) (h : (insR p at_ x).2 = 0) : delR (insR p at_ x).1 at_ = (p, 0) := by
  rcases insR_cases p at_ x hs with ⟨k, rfl, hr, hl, hk, hx, hi⟩ | ⟨_, hi⟩
  · rw [hi]
    have hv := valid_put (valid_of hr) hx hs hl k
    have he := ents_packB hv
    unfold delR
    rw [if_pos (right_packB hv), he, if_neg (by simp; omega), Int.toNat_natCast, cut_put _ _ _ hk, ← pack_of_right hr]
  · omega
theorem turns_two (p : ByteArray) (at_ : Int) (h : (getS p at_).2 = 0) : insR (delR p at_).1 at_ (getS p at_).1 = (p, 0) := by
  rcases delR_cases p at_ with ⟨k, rfl, hr, hk, hd, hg⟩ | ⟨_, _, hg, hd⟩
  · have hok := getD_ok p (k : Int)
    rw [hg] at hok
    rw [hd, hg]
    have hv := valid_cut (valid_of hr) k
    have he := ents_packB hv
    have hm := (valid_of hr).many
    have hlen : ((entsOf p).take k ++ (entsOf p).drop (k + 1)).length = (entsOf p).length - 1 := by simp; omega
    unfold insR
    rw [if_pos (right_packB hv), he, hlen, if_neg (by omega), if_neg (by omega), Int.toNat_natCast, put_cut _ _ hk, ← pack_of_right hr]
  · omega

set_option maxRecDepth 100000 in
set_option maxHeartbeats 4000000 in
theorem turns_walk (a : Option Addr) (cap : Nat) (l : List Ent) (hl : l.length ≤ 9223372036854775807) (hz : ∀ e ∈ l, e.1.size ≤ 9223372036854775807 ∧ scoreOk e.2) (at_ : Int) (hat : -9223372036854775808 ≤ at_ ∧ at_ ≤ 9223372036854775807) (x : Ent) (hx : x.1.size ≤ 9223372036854775807) (hxs : scoreOk x.2) (w : World) (hE : Ents w a l) :
    Calls Try.prog 7 #[.slice a l.length cap, .int .i64 at_, .agg #[.string x.1, .int .i64 x.2]] w fun e w' => e = .returned (.bool true) ∧ Below w.heap.size w w' := by
  have HS := fun w => Lib.hid (shown_any w)
  have HF := fun w hE => Lib.hid (few_any a cap l hl (fun e he => (hz e he).1) w hE)
  have hF := few_each (fun e he => (hz e he).2)
  have hFl := few_length l
  have HP := fun a cap w hE => Lib.hid (pack_any a cap (fewS l) (by omega) (fun e he => by have := hF e he; omega) w hE)
  have hps := packR_size (fewS l) (fun e he => (hF e he).2)
  have hE0 : (packR (fewS l)).2 = 0 ∨ ¬ ((packR (fewS l)).2 = 0) := by omega
  generalize (packR (fewS l)).2 = E at *
  generalize (packR (fewS l)).1 = P at *
  have HI := fun w => Lib.hid (insert_any P (by omega) at_ hat x hx w)
  have HD := fun w => Lib.hid (delete_any (insR P at_ x).1 (by have := insR_size P at_ x hxs; omega) at_ w)
  have HG := fun w => Lib.hid (get_any P (by omega) at_ w)
  have HD2 := fun w => Lib.hid (delete_any P (by omega) at_ w)
  have hy := getD_ok P at_
  have HI2 := fun w => Lib.hid (insert_any (delR P at_).1 (by have := delR_size P at_; omega) at_ hat (getS P at_).1 (by omega) w)
  have hgi : (getS P at_).2 = (delR P at_).2 := by
    rcases delR_cases P at_ with ⟨k, _, _, _, h1, h2⟩ | ⟨_, _, h, _⟩
    · rw [h1, h2]
    · exact h
  have h1 : (insR P at_ x).2 = 0 → (delR (insR P at_ x).1 at_).2 = 0 ∧ (delR (insR P at_ x).1 at_).1 = P := fun h => by rw [turns_one P at_ x hxs h]; exact ⟨rfl, rfl⟩
  have h2 : (delR P at_).2 = 0 → (insR (delR P at_).1 at_ (getS P at_).1).2 = 0 ∧ (insR (delR P at_).1 at_ (getS P at_).1).1 = P := fun h => by rw [turns_two P at_ (by rw [hgi]; exact h)]; exact ⟨rfl, rfl⟩
  rw [hgi] at HG
  generalize (insR (delR P at_).1 at_ (getS P at_).1).2 = j at *
  generalize (insR (delR P at_).1 at_ (getS P at_).1).1 = D at *
  generalize (delR P at_).2 = i at *
  generalize (delR P at_).1 = C at *
  generalize (delR (insR P at_ x).1 at_).2 = g at *
  generalize (delR (insR P at_ x).1 at_).1 = B at *
  generalize (insR P at_ x).2 = f at *
  generalize (insR P at_ x).1 = A at *
  generalize (getS P at_).1.1 = ym at *
  generalize (getS P at_).1.2 = ys at *
  generalize fewS l = F at *
  clear hgi hy
  have hB0 := (Below.refl w.heap.size w).alloc (Nat.le_refl _) (Obj.cells #[Value.string x.1, Value.int IntKind.i64 x.2] 35)
  have k0 := Blk.new w 35 #[Value.string x.1, Value.int IntKind.i64 x.2]
  have hE1 := hE.below ((Below.refl w.heap.size w).alloc (Nat.le_refl _) (Obj.cells #[Value.string x.1, Value.int IntKind.i64 x.2] 35))
  have HEE := Lib.hid hE1
  clear hE hE1
  go_enter Try.func7, Try.ntmps7
  go_wp2_with fail
  refine (HS _).out.mono ?_
  rintro e w1 ⟨rfl, hb1⟩
  have hB1 := hB0.trans (hb1.mono hB0.size)
  have k1 := k0.later hb1
  have HE1 := Lib.hid (HEE.out.below hb1)
  clear hb1
  go_wp2_with fail
  refine (HF _ HE1.out).out.mono ?_
  rintro e w2 ⟨r, rfl, ho2, hb2⟩
  have hB2 := hB1.trans (hb2.mono hB1.size)
  have k2 := k1.later hb2
  obtain ⟨ra, rc, rfl, hE2⟩ := own35_form ho2
  have HE2 := Lib.hid hE2
  clear hb2 ho2 hE2
  go_wp2_with fail
  refine (HP _ _ _ HE2.out).out.mono ?_
  rintro e w3 ⟨rfl, hb3⟩
  have hB3 := hB2.trans (hb3.mono hB2.size)
  have k3 := k2.later hb3
  clear hb3
  obtain ⟨e30, e31, _⟩ := facts2 k3
  go_wp2_with fail
  refine (HI _).out.mono ?_
  rintro e w4 ⟨rfl, hb4⟩
  have hB4 := hB3.trans (hb4.mono hB3.size)
  clear hb4
  go_wp2_with fail
  refine (HD _).out.mono ?_
  rintro e w5 ⟨rfl, hb5⟩
  have hB5 := hB4.trans (hb5.mono hB4.size)
  clear hb5
  have hcase : (¬ E = 0) ∨ (E = 0 ∧ ¬ f = 0) ∨ (E = 0 ∧ f = 0 ∧ g = 0 ∧ B = P) := by
    by_cases e1 : E = 0
    · by_cases e2 : f = 0
      · exact .inr (.inr ⟨e1, e2, h1 e2⟩)
      · exact .inr (.inl ⟨e1, e2⟩)
    · exact .inl e1
  have hcase2 : (¬ i = 0) ∨ (i = 0 ∧ j = 0 ∧ D = P) := by
    by_cases e1 : i = 0
    · exact .inr ⟨e1, h2 e1⟩
    · exact .inl e1
  have HB5 := Lib.hid hB5
  clear h1 h2 hE0 HI HD HP HF HS hB0 hB1 hB2 hB3 hB4 hB5 k0 k1 k2 k3 e30 e31 HE1 HE2 HEE hz hl hF hFl hps
  rcases hcase with q1 | ⟨rfl, q1⟩ | ⟨rfl, rfl, rfl, rfl⟩
  all_goals rcases hcase2 with q2 | ⟨rfl, rfl, rfl⟩
  all_goals (
    go_wp2_with fail
    refine (HG _).out.mono ?_
    rintro e w6 ⟨rfl, hb6⟩
    have hB6 := HB5.out.trans (hb6.mono HB5.out.size)
    have k6 := Blk.new w6 35 #[Value.string ym, Value.int IntKind.i64 ys]
    have hB6' := hB6.alloc hB6.size (Obj.cells #[Value.string ym, Value.int IntKind.i64 ys] 35)
    clear hb6
    go_wp2_with fail
    refine (HD2 _).out.mono ?_
    rintro e w7 ⟨rfl, hb7⟩
    have hB7 := hB6'.trans (hb7.mono hB6'.size)
    obtain ⟨e60, e61, _⟩ := facts2 (k6.later hb7)
    clear hb7 k6
    go_wp2_with fail
    refine (HI2 _).out.mono ?_
    rintro e w8 ⟨rfl, hb8⟩
    have HB8 := Lib.hid (hB7.trans (hb8.mono hB7.size))
    clear hb8 hB7 hB6 hB6'
    go_wp2_with fail
    go_ret
    exact ⟨rfl, HB8.out⟩)
end Go.Proofs.Ytioidnfmpbdmhaa
