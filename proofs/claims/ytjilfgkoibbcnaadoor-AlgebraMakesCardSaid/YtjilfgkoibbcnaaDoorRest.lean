/- What is left of the first set. -/
import Derived.Test.YtjilfgkoibbcnaaDoorMixed
namespace Go.Proofs.YtjilfgkoibbcnaaDoor
open Go.RowKit Go.Shelf
attribute [local go_sem] Oper.semAt_some

/-- Putting together, whatever comes in. -/
theorem mixed_any (a0 a1 : Addr) (agg least : Int) (ws : List Int) (hw64 : ∀ x ∈ ws, I64 x) (ls : List (List Ent)) (hls : OkS ls) (aw a : Option Addr) (cw cap : Nat) (w : World) (hE : Env a0 a1 w) (hS : Sets w a ls) (hW : Nums w aw ws) :
    Calls Tryd.prog 25 #[.slice aw ws.length cw, .int .i64 agg, .int .i64 least, .slice a ls.length cap] w fun e w' => ∃ mv ev, e = .returned (.tuple #[mv, ev]) ∧ Below w.heap.size w w' ∧ MixIs a0 a1 w' mv ev (mixR agg ws least ls) := by
  by_cases h : (agg = 1 ∨ agg = 2 ∨ agg = 3) ∧ ws.length = ls.length ∧ rightsP ls = true
  · rw [show mixR agg ws least ls = some (mixF agg.toNat ws (sharedS least ls)) from if_pos h]
    obtain ⟨h1, h2, h3⟩ := h
    have hg : isG agg.toNat := by rcases h1 with rfl | rfl | rfl <;> simp [isG]
    have := mixed_good a0 a1 agg.toNat hg least ws hw64 ls hls aw a cw cap w hE hS hW h2 h3
    rwa [show ((agg.toNat : Nat) : Int) = agg by rcases h1 with rfl | rfl | rfl <;> rfl] at this
  · have h2 : mixR agg ws least ls = none := if_neg h
    rw [h2]
    exact mixed_bad a0 a1 agg least ws ls hls aw a cw cap w hE hS h2

/-- Members taken out, one behind the other. -/
def delAll (M : List Ent) (xs : List (Nat × Ent)) : List Ent := xs.foldl (fun M x => delM M x.2.1) M
theorem delAll_snoc (M : List Ent) (xs : List (Nat × Ent)) (x : Nat × Ent) : delAll M (xs ++ [x]) = delM (delAll M xs) x.2.1 := by unfold delAll; rw [List.foldl_append]; rfl
theorem delAll_len (xs : List (Nat × Ent)) : ∀ M : List Ent, (delAll M xs).length ≤ M.length := by
  induction xs with
  | nil => intro M; exact Nat.le_refl _
  | cons x xs ih => intro M; exact Nat.le_trans (ih _) (List.length_filter_le _ _)
/-- What is left: no sets (none), or scores. -/
def restP (ls : List (List Ent)) : Option (List Ent) := if rightsP ls = true then some (delAll (scoresM (ls.headD [])) (seqOf ls.tail)) else none
/-- .. in memory. -/
def RestIs (a0 : Addr) (W : World) (mv ev : Value) : Option (List Ent) → Prop
  | none => ev = .iface 124 (.pointer (some a0))
  | some M => ev = .nilIface ∧ ∃ c, mv = .map (some c) ∧ MapIs W 2 c M

theorem sets_tail {W : World} {g off : Nat} {l : List Ent} {ls : List (List Ent)} (h : Sets W (some ⟨g, off, none⟩) (l :: ls)) : Sets W (some ⟨g, off + 1, none⟩) ls := fun k hk => by
  obtain ⟨g', off', c, v, h1, h2, h3, h4⟩ := h (k + 1) (by simpa using hk)
  cases h1
  exact ⟨g, off + 1, c, v, rfl, h2, by rw [← h3]; congr 1; omega, by simpa using h4⟩

set_option maxRecDepth 100000 in
set_option maxHeartbeats 4000000 in
theorem rest_bad (a0 a1 : Addr) (ls : List (List Ent)) (hls : OkS ls) (hr : rightsP ls = false) (a : Option Addr) (cap : Nat) (w : World) (hE : Env a0 a1 w) (hS : Sets w a ls) :
    Calls Tryd.prog 27 #[.slice a ls.length cap] w fun e w' => ∃ mv ev, e = .returned (.tuple #[mv, ev]) ∧ Below w.heap.size w w' ∧ ev = .iface 124 (.pointer (some a0)) := by
  have HR := fun W hS => Lib.hid (rights_any ls hls a cap W hS)
  rw [hr] at HR
  have HE := Lib.hid hE
  have HS := Lib.hid hS
  clear hE hS hls hr
  go_enter Tryd.func27, Tryd.ntmps27
  go_wp2_with fail
  refine (HR _ HS.out).out.mono ?_
  rintro e w1 ⟨rfl, hb⟩
  have g0 := (HE.out.later hb).g0
  have HB := Lib.hid hb
  clear hb
  go_wp2_with fail
  go_quiet (fail)
  go_wp2
  go_ret2
  exact ⟨_, _, rfl, HB.out.trans ((drewB _ _).mono HB.out.size), rfl⟩

set_option maxRecDepth 100000 in
set_option maxHeartbeats 4000000 in
theorem rest_good (l : List Ent) (ls : List (List Ent)) (hls : OkS (l :: ls)) (hr : rightsP (l :: ls) = true) (a : Option Addr) (cap : Nat) (hcap : (l :: ls).length ≤ cap) (w : World) (hS : Sets w a (l :: ls)) :
    Calls Tryd.prog 27 #[.slice a (l :: ls).length cap] w fun e w' => ∃ p, e = .returned (.tuple #[.map (some p), .nilIface]) ∧ Below w.heap.size w w' ∧ MapIs w' 2 p (delAll (scoresM l) (seqOf ls)) := by
  have HR := fun W hS => Lib.hid (rights_any (l :: ls) hls a cap W hS)
  rw [hr] at HR
  have hl1 := hls.1
  have hlk : OkL l := (hls.2 l (by simp)).2
  have hlsk : OkS ls := ⟨by have := hls.1; simp at this; omega, fun x hx => hls.2 x (by simp [hx])⟩
  obtain ⟨g, off, c0, v0, rfl, _⟩ := hS 0 (by simp)
  have HS := Lib.hid hS
  clear hS hls hr
  refine (callsIn_wide (n := 6)).1 (callsIn_of_wp_marks Tryd.func27 rfl trivial ?_ rfl)
  refine wpIn_wide.2 ?_
  simp only [Tryd.ntmps27, List.size_toArray, List.length_cons, List.length_nil, Nat.reduceAdd, Nat.reduceSub, Array.replicate_succ, Array.replicate_zero, List.push_toArray, List.append_toArray, List.nil_append, List.cons_append]
  go_wp2_with fail
  refine (HR _ HS.out).out.mono ?_
  rintro e w1 ⟨rfl, hb⟩
  have HB1 := Lib.hid hb
  have hS1 := HS.out.later hb
  obtain ⟨g', off', c, v, hga, hgc, hcv, hO⟩ := hS1 0 (by simp)
  cases hga
  obtain ⟨ar, cr, rfl, hEr, _, _, _⟩ := Own.slice hO
  have hcell : w1.cell? ⟨g, off, none⟩ = some (.slice ar l.length cr) := by simp [World.cell?, hgc]; simpa using hcv
  have HS1 := Lib.hid hS1
  have H30 := Lib.hid (scoresOf_any ar cr l hlk w1 hEr)
  clear hb hS1 hgc hcv hO hEr HR HS
  go_wp2_with fail
  refine H30.out.mono ?_
  rintro e w2 ⟨p, rfl, hp, hM, hb⟩
  have HB2 := Lib.hid (HB1.out.trans (hb.mono HB1.out.size))
  have HS2 := Lib.hid (HS1.out.later hb)
  have HM2 := Lib.hid hM
  have hb1 := HB1.out.size
  clear hM hb H30 hcell HS1
  go_wp2_with fail
  · refine (through_any _ _ _ _).mono ?_
    rintro e w3 ⟨rfl, rfl⟩
    go_wp2_with fail
    obtain ⟨n, hn⟩ : ∃ n, w2.heap.size = n := ⟨_, rfl⟩
    obtain ⟨at', ct', hat, hSt⟩ : ∃ at' ct', (if cap = 1 then Value.slice (some ⟨g, off, none⟩) ls.length 0 else Value.slice (some ⟨g, off + 1, none⟩) ls.length (cap - 1)) = .slice at' ls.length ct' ∧ Sets w2 at' ls := by
      by_cases h1 : cap = 1
      · rw [if_pos h1]
        obtain rfl : ls = [] := List.length_eq_zero_iff.1 (by simp at hcap; omega)
        exact ⟨_, _, rfl, fun k hk => by simp at hk⟩
      · rw [if_neg h1]
        exact ⟨_, _, rfl, sets_tail HS2.out⟩
    first
      | rw [if_pos (by assumption)] at hat
      | rw [if_neg (by assumption)] at hat
    rw [hat]
    obtain ⟨w3, hw3⟩ : ∃ w3, ((w2.alloc (Obj.cells #[Value.map (some p)] 43)).alloc (Obj.cells #[Value.slice at' ls.length ct'] 22)) = w3 := ⟨_, rfl⟩
    have k0 : Blk w3 n 43 #[.map (some p)] := by
      rw [← hw3, ← hn]
      exact (Blk.new w2 43 #[.map (some p)]).alloc _
    have k1 : Blk w3 (n + 1) 22 #[.slice at' ls.length ct'] := by
      have := Blk.new (w2.alloc (Obj.cells #[Value.map (some p)] 43)) 22 #[Value.slice at' ls.length ct']
      rwa [World.size_alloc, hw3, hn] at this
    have hB : Below w2.heap.size w2 w3 := by
      rw [← hw3]
      exact ((Below.refl _ _).alloc (Nat.le_refl _) _).alloc (by simp) _
    have hsz : w3.heap.size = n + 2 := by rw [← hw3, ← hn]; simp
    have kM := HM2.out.later hB
    have hBw := HB2.out.trans (hB.mono HB2.out.size)
    have hpn : p < n := by have := HM2.out.lt; omega
    have hwn : w.heap.size ≤ p := by omega
    rw [hw3]
    try rw [hn]
    have HSq := Lib.hid (thru_any ls hlsk at' ct' (n + 1) [p] w3 (hSt.later hB) k1)
    clear hw3 hSt k1 hB HM2 HS2 HB2
    have hzm : ∀ (i : Nat) x, (seqOf ls)[i]? = some x → x.2.1.size ≤ 1000000 := fun i x hx => (seqOf_ok hlsk (List.mem_of_getElem? hx)).2.1
    have hpl : (scoresM l).length ≤ 1000000 := by
      have := scoresM_take l l.length
      rw [List.take_of_length_le (Nat.le_refl _)] at this
      have := hlk.1
      omega
    have hMl : ∀ i, (delAll (scoresM l) ((seqOf ls).take i)).length ≤ 1000000 := fun i => Nat.le_trans (delAll_len _ _) hpl
    refine (wpIn_wide (n := 6)).1 (range_x (gf := 56) (lb := #[.pointer (some ⟨n + 1, 0, none⟩)]) (encs := encP) (xs := seqOf ls) (L := [p]) rfl (enters_of Tryd.func56 (by kernel_rfl) rfl) HSq.out (fun _ _ => rfl)
      (fun i W => Below w.heap.size w W ∧ Blk W n 43 #[.map (some p)] ∧ MapIs W 2 p (delAll (scoresM l) ((seqOf ls).take i)))
      (fun _ _ _ => False)
      ?hI1 (fun _ => own_pure _ _) ?h01 (fun i x a' W => ∃ q, (∃ u0 u7 u11 u12 u13 u14 u15 u16 u18 u19, a' = { tmps := #[u0, undef, Value.map none, Value.nilIface, Value.pointer (some { block := n, off := 0 }), undef, Value.pointer (some { block := q, off := 0 }),
          u7, Value.bool true, Value.bool false, undef, u11, u12, u13, u14, u15, u16, Value.func (Fn.func 56) #[] #[Value.pointer (some { block := n + 1, off := 0 })], u18, u19, undef, undef, undef, undef], defers := [] }) ∧ Blk W q 38 #[.string x.2.1, .int .i64 x.2.2])
      (fun _ _ _ => own_ex fun _ => (own_pure _ _).and (own_blk _ _ _ _)) ?assign1 ?body1 ?done1 (fun _ _ _ _ _ h _ => h.elim))
    case hI1 => exact (own_below _ w (by omega)).and ((own_blk _ _ _ _).and (MapIs.own _ _ _ (by omega) _))
    case h01 => exact ⟨hBw, k0, kM⟩
    case assign1 =>
      rintro l' i x W K hx' ⟨hb, q0, q2⟩ hK
      unfold encP
      clear HSq
      gi_wp2
      have hbw := alloc_below W (Obj.cells #[Value.string x.2.1, Value.int IntKind.i64 x.2.2] 38)
      exact hK _ _ ((KeepsOthers.alloc _ _).from _) (KeepC.of_below hbw) ⟨hb.alloc hb.size _, q0.alloc _, q2.alloc _⟩ ⟨_, ⟨_, _, _, _, _, _, _, _, _, _, rfl⟩, Blk.new _ _ _⟩
    case body1 =>
      rintro l' i x a' W hx' ⟨hb, q0, q2⟩ ⟨q, ⟨u0, u7, u11, u12, u13, u14, u15, u16, u18, u19, rfl⟩, qe⟩
      have hil : i < (seqOf ls).length := (List.getElem?_eq_some_iff.1 hx').1
      have hnx : delAll (scoresM l) ((seqOf ls).take (i + 1)) = delM (delAll (scoresM l) ((seqOf ls).take i)) x.2.1 := by
        rw [List.take_succ_eq_append_getElem hil, delAll_snoc, (List.getElem?_eq_some_iff.1 hx').2]
      have hm := hzm i x hx'
      obtain ⟨i', e⟩ := x
      obtain ⟨m, sc⟩ := e
      simp only at *
      obtain ⟨c3, _⟩ := facts1 q0
      obtain ⟨d0, d1, _, _⟩ := facts2 qe
      have HN := Lib.hid hnx
      have HQ2 := Lib.hid q2
      have HKB := Lib.hid (show Below w.heap.size w W ∧ Blk W n 43 #[.map (some p)] from ⟨hb, q0⟩)
      clear hx' hnx hb q0 q2 qe HSq k0 kM hBw hzm hMl
      gi_wp2_with (
        gi_at_delete
        refine wpListIn_del rfl _ _ 43 rfl 2 Tryd.underlying43 (b := p) rfl HQ2.out m rfl hm ?_
        intro W1 hM1 hg1
        have HM1 := Lib.hid hM1
        have HG1 := Lib.hid hg1
        clear hM1 hg1)
      obtain ⟨hb, q0⟩ := HKB.out
      have hg := HG1.out
      exact ⟨KeepsFrom.of_grownBy hg (fun j e => by cases e; omega), keepc_map HQ2.out hg, hb.grown hg hb.size (fun k e => by cases e; omega), q0.turned hg (by simp; omega), by rw [HN.out]; exact HM1.out⟩
    case done1 =>
      rintro D W hD ⟨hb, q0, q2⟩ hK
      have HK := Lib.hid hK
      rw [List.take_of_length_le (Nat.le_refl _)] at q2
      obtain ⟨c3, _⟩ := facts1 q0
      have HQ := Lib.hid (show Below w.heap.size w W ∧ MapIs W 2 p (delAll (scoresM l) (seqOf ls)) from ⟨hb, q2⟩)
      clear hK hb q0 q2 HSq k0 kM hBw hzm hMl
      simp only [Exit.inBlock]
      go_wp2
      refine leave rfl HK.out (v := .tuple #[.map (some p), .nilIface]) (by simp [results, Tryd.results27, go_sem]) ⟨p, rfl, below_put HQ.out.1 (by omega) _, MapIs.put HQ.out.2 HK.out _⟩
  · refine (through_any _ _ _ _).mono ?_
    rintro e w3 ⟨rfl, rfl⟩
    go_wp2_with fail
    obtain ⟨n, hn⟩ : ∃ n, w2.heap.size = n := ⟨_, rfl⟩
    obtain ⟨at', ct', hat, hSt⟩ : ∃ at' ct', (if cap = 1 then Value.slice (some ⟨g, off, none⟩) ls.length 0 else Value.slice (some ⟨g, off + 1, none⟩) ls.length (cap - 1)) = .slice at' ls.length ct' ∧ Sets w2 at' ls := by
      by_cases h1 : cap = 1
      · rw [if_pos h1]
        obtain rfl : ls = [] := List.length_eq_zero_iff.1 (by simp at hcap; omega)
        exact ⟨_, _, rfl, fun k hk => by simp at hk⟩
      · rw [if_neg h1]
        exact ⟨_, _, rfl, sets_tail HS2.out⟩
    first
      | rw [if_pos (by assumption)] at hat
      | rw [if_neg (by assumption)] at hat
    rw [hat]
    obtain ⟨w3, hw3⟩ : ∃ w3, ((w2.alloc (Obj.cells #[Value.map (some p)] 43)).alloc (Obj.cells #[Value.slice at' ls.length ct'] 22)) = w3 := ⟨_, rfl⟩
    have k0 : Blk w3 n 43 #[.map (some p)] := by
      rw [← hw3, ← hn]
      exact (Blk.new w2 43 #[.map (some p)]).alloc _
    have k1 : Blk w3 (n + 1) 22 #[.slice at' ls.length ct'] := by
      have := Blk.new (w2.alloc (Obj.cells #[Value.map (some p)] 43)) 22 #[Value.slice at' ls.length ct']
      rwa [World.size_alloc, hw3, hn] at this
    have hB : Below w2.heap.size w2 w3 := by
      rw [← hw3]
      exact ((Below.refl _ _).alloc (Nat.le_refl _) _).alloc (by simp) _
    have hsz : w3.heap.size = n + 2 := by rw [← hw3, ← hn]; simp
    have kM := HM2.out.later hB
    have hBw := HB2.out.trans (hB.mono HB2.out.size)
    have hpn : p < n := by have := HM2.out.lt; omega
    have hwn : w.heap.size ≤ p := by omega
    rw [hw3]
    try rw [hn]
    have HSq := Lib.hid (thru_any ls hlsk at' ct' (n + 1) [p] w3 (hSt.later hB) k1)
    clear hw3 hSt k1 hB HM2 HS2 HB2
    have hzm : ∀ (i : Nat) x, (seqOf ls)[i]? = some x → x.2.1.size ≤ 1000000 := fun i x hx => (seqOf_ok hlsk (List.mem_of_getElem? hx)).2.1
    have hpl : (scoresM l).length ≤ 1000000 := by
      have := scoresM_take l l.length
      rw [List.take_of_length_le (Nat.le_refl _)] at this
      have := hlk.1
      omega
    have hMl : ∀ i, (delAll (scoresM l) ((seqOf ls).take i)).length ≤ 1000000 := fun i => Nat.le_trans (delAll_len _ _) hpl
    refine (wpIn_wide (n := 6)).1 (range_x (gf := 56) (lb := #[.pointer (some ⟨n + 1, 0, none⟩)]) (encs := encP) (xs := seqOf ls) (L := [p]) rfl (enters_of Tryd.func56 (by kernel_rfl) rfl) HSq.out (fun _ _ => rfl)
      (fun i W => Below w.heap.size w W ∧ Blk W n 43 #[.map (some p)] ∧ MapIs W 2 p (delAll (scoresM l) ((seqOf ls).take i)))
      (fun _ _ _ => False)
      ?hI2 (fun _ => own_pure _ _) ?h02 (fun i x a' W => ∃ q, (∃ u0 u7 u11 u12 u13 u14 u15 u16 u18 u19, a' = { tmps := #[u0, undef, Value.map none, Value.nilIface, Value.pointer (some { block := n, off := 0 }), undef, Value.pointer (some { block := q, off := 0 }),
          u7, Value.bool true, Value.bool false, undef, u11, u12, u13, u14, u15, u16, Value.func (Fn.func 56) #[] #[Value.pointer (some { block := n + 1, off := 0 })], u18, u19, undef, undef, undef, undef], defers := [] }) ∧ Blk W q 38 #[.string x.2.1, .int .i64 x.2.2])
      (fun _ _ _ => own_ex fun _ => (own_pure _ _).and (own_blk _ _ _ _)) ?assign2 ?body2 ?done2 (fun _ _ _ _ _ h _ => h.elim))
    case hI2 => exact (own_below _ w (by omega)).and ((own_blk _ _ _ _).and (MapIs.own _ _ _ (by omega) _))
    case h02 => exact ⟨hBw, k0, kM⟩
    case assign2 =>
      rintro l' i x W K hx' ⟨hb, q0, q2⟩ hK
      unfold encP
      clear HSq
      gi_wp2
      have hbw := alloc_below W (Obj.cells #[Value.string x.2.1, Value.int IntKind.i64 x.2.2] 38)
      exact hK _ _ ((KeepsOthers.alloc _ _).from _) (KeepC.of_below hbw) ⟨hb.alloc hb.size _, q0.alloc _, q2.alloc _⟩ ⟨_, ⟨_, _, _, _, _, _, _, _, _, _, rfl⟩, Blk.new _ _ _⟩
    case body2 =>
      rintro l' i x a' W hx' ⟨hb, q0, q2⟩ ⟨q, ⟨u0, u7, u11, u12, u13, u14, u15, u16, u18, u19, rfl⟩, qe⟩
      have hil : i < (seqOf ls).length := (List.getElem?_eq_some_iff.1 hx').1
      have hnx : delAll (scoresM l) ((seqOf ls).take (i + 1)) = delM (delAll (scoresM l) ((seqOf ls).take i)) x.2.1 := by
        rw [List.take_succ_eq_append_getElem hil, delAll_snoc, (List.getElem?_eq_some_iff.1 hx').2]
      have hm := hzm i x hx'
      obtain ⟨i', e⟩ := x
      obtain ⟨m, sc⟩ := e
      simp only at *
      obtain ⟨c3, _⟩ := facts1 q0
      obtain ⟨d0, d1, _, _⟩ := facts2 qe
      have HN := Lib.hid hnx
      have HQ2 := Lib.hid q2
      have HKB := Lib.hid (show Below w.heap.size w W ∧ Blk W n 43 #[.map (some p)] from ⟨hb, q0⟩)
      clear hx' hnx hb q0 q2 qe HSq k0 kM hBw hzm hMl
      gi_wp2_with (
        gi_at_delete
        refine wpListIn_del rfl _ _ 43 rfl 2 Tryd.underlying43 (b := p) rfl HQ2.out m rfl hm ?_
        intro W1 hM1 hg1
        have HM1 := Lib.hid hM1
        have HG1 := Lib.hid hg1
        clear hM1 hg1)
      obtain ⟨hb, q0⟩ := HKB.out
      have hg := HG1.out
      exact ⟨KeepsFrom.of_grownBy hg (fun j e => by cases e; omega), keepc_map HQ2.out hg, hb.grown hg hb.size (fun k e => by cases e; omega), q0.turned hg (by simp; omega), by rw [HN.out]; exact HM1.out⟩
    case done2 =>
      rintro D W hD ⟨hb, q0, q2⟩ hK
      have HK := Lib.hid hK
      rw [List.take_of_length_le (Nat.le_refl _)] at q2
      obtain ⟨c3, _⟩ := facts1 q0
      have HQ := Lib.hid (show Below w.heap.size w W ∧ MapIs W 2 p (delAll (scoresM l) (seqOf ls)) from ⟨hb, q2⟩)
      clear hK hb q0 q2 HSq k0 kM hBw hzm hMl
      simp only [Exit.inBlock]
      go_wp2
      refine leave rfl HK.out (v := .tuple #[.map (some p), .nilIface]) (by simp [results, Tryd.results27, go_sem]) ⟨p, rfl, below_put HQ.out.1 (by omega) _, MapIs.put HQ.out.2 HK.out _⟩
end Go.Proofs.YtjilfgkoibbcnaaDoor
