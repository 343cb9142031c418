/- Scores of sets, put together. -/
import Derived.Test.YtjilfgkoibbcnaaDoorShared
import Derived.Test.YtjilfgkoibbcnaaDoorSched
import Derived.Laws.EntriesVeiled
namespace Go.Proofs.YtjilfgkoibbcnaaDoor
open Go.RowKit Go.Shelf
attribute [local go_sem] Oper.semAt_some

/-- Are there sets, and nothing but sets? -/
def rightsP (ls : List (List Ent)) : Bool := decide (0 < ls.length) && ls.all rightP

set_option maxRecDepth 100000 in
set_option maxHeartbeats 1000000 in
theorem rights_any (ls : List (List Ent)) (hls : OkS ls) (a : Option Addr) (cap : Nat) (w : World) (hS : Sets w a ls) :
    Calls Tryd.prog 38 #[.slice a ls.length cap] w fun e w' => e = .returned (.bool (rightsP ls)) ∧ Below w.heap.size w w' := by
  have hl1 := hls.1
  have HL := Lib.hid hls
  have HS := Lib.hid hS
  clear hls hS
  go_enter Tryd.func38, Tryd.ntmps38
  go_wp2
  go_loopw [7] (fun i wr => ∃ (k : Nat), i = .int .i64 k ∧ k ≤ ls.length ∧ Below w.heap.size w wr ∧ Hid ((ls.take k).all rightP = true)) (fun i _ => ls.length - (intOf i).toNat)
  case atStart => exact ⟨0, rfl, by omega, Below.refl _ _, Lib.hid (by simp)⟩
  case round =>
    obtain ⟨k, rfl, hk, hb, hall⟩ := hrel
    by_cases hlt : k < ls.length
    · obtain ⟨g, off, c, v, rfl, hg, hc, hO⟩ := (HS.out.later hb) k hlt
      have hcell : wr.cell? ⟨g, off + k, none⟩ = some v := by simp [World.cell?, hg, hc]
      obtain ⟨ar, cr, rfl, hEr, _, _, _⟩ := Own.slice hO
      have hok := (HL.out.2 _ (List.getElem_mem hlt)).2
      have hlt2 : (k : Int) < ls.length := by omega
      have htk : ls.take (k + 1) = ls.take k ++ [ls[k]] := List.take_succ_eq_append_getElem hlt
      have hin : ls[k] ∈ ls := List.getElem_mem hlt
      generalize ls[k] = l at *
      have HR := Lib.hid (right_one ar cr l hok wr hEr)
      have HB := Lib.hid hb
      cases hr : rightP l with
      | true =>
        rw [hr] at HR
        have HN := Lib.hid (show (ls.take (k + 1)).all rightP = true by rw [htk, List.all_append, hall.out]; simp [hr])
        clear hg hc hO hEr hok htk hin hr hb
        go_wp2_with fail
        refine HR.out.mono ?_
        rintro e w1 ⟨rfl, hb⟩
        have HB1 := Lib.hid (HB.out.trans (hb.mono HB.out.size))
        clear hb
        go_wp2_with fail
        exact ⟨⟨k + 1, by go_num, hlt, HB1.out, HN⟩, by simp [intOf]; omega⟩
      | false =>
        rw [hr] at HR
        have HN := Lib.hid (show rightsP ls = false by
          unfold rightsP
          have : ls.all rightP = false := by rw [Bool.eq_false_iff]; intro h; rw [List.all_eq_true.1 h l hin] at hr; cases hr
          rw [this, Bool.and_false])
        clear hg hc hO hEr hok htk hin hr hb
        go_wp2_with fail
        refine HR.out.mono ?_
        rintro e w1 ⟨rfl, hb⟩
        have HB1 := Lib.hid (HB.out.trans (hb.mono HB.out.size))
        clear hb
        go_wp2_with fail
        go_ret
        rw [HN.out]
        exact ⟨rfl, HB1.out⟩
    · obtain rfl : k = ls.length := by omega
      have HN := Lib.hid (show rightsP ls = decide (0 < ls.length) by
        have := hall.out
        rw [List.take_of_length_le (Nat.le_refl _)] at this
        unfold rightsP
        rw [this, Bool.and_true])
      have HB := Lib.hid hb
      clear hb hall
      go_wp2
      go_ret
      rw [HN.out]
      exact ⟨rfl, HB.out⟩

/-- Numbers that lie at an address. -/
def Nums (W : World) (a : Option Addr) (ws : List Int) : Prop := ∀ (k : Nat) (h : k < ws.length), ∃ g off, a = some ⟨g, off, none⟩ ∧ W.cell? ⟨g, off + k, none⟩ = some (.int .i64 ws[k])
theorem Nums.later {W W' : World} {a : Option Addr} {ws : List Int} (h : Nums W a ws) (hb : Below W.heap.size W W') : Nums W' a ws := fun k hk => by
  obtain ⟨g, off, h1, h2⟩ := h k hk
  exact ⟨g, off, h1, (hb.cell (p := ⟨g, _, none⟩) (World.block_lt_of_cell? W ⟨g, _, none⟩ h2)).trans h2⟩

/-- Scores put in, one behind the other. -/
def mixF (g : Nat) (ws : List Int) (xs : List (Nat × Ent)) : Option (List Ent) := xs.foldl (fun acc x => acc.bind fun M => putS g M x.2 (ws.getD x.1 0)) (some [])
theorem mixF_snoc (g : Nat) (ws : List Int) (xs : List (Nat × Ent)) (x : Nat × Ent) : mixF g ws (xs ++ [x]) = (mixF g ws xs).bind fun M => putS g M x.2 (ws.getD x.1 0) := by unfold mixF; rw [List.foldl_append]; rfl
theorem mixF_none (g : Nat) (ws : List Int) (xs ys : List (Nat × Ent)) (h : mixF g ws xs = none) : mixF g ws (xs ++ ys) = none := by
  induction ys using snoc_ind with
  | h0 => rw [List.append_nil]; exact h
  | hs ys y ih => rw [← List.append_assoc, mixF_snoc, ih]; rfl
theorem putS_len {g : Nat} {M M' : List Ent} {e : Ent} {wt : Int} (h : putS g M e wt = some M') : M'.length ≤ M.length + 1 := by
  unfold putS at h
  split at h
  · cases hm : getM M e.1 with
    | none => rw [hm] at h; cases h; exact len_put _ _ _
    | some old =>
      rw [hm] at h
      simp only at h
      split at h
      · cases h; exact len_put _ _ _
      · cases h
  · cases h
theorem mixF_facts (g : Nat) (ws : List Int) (xs : List (Nat × Ent)) : ∀ M, mixF g ws xs = some M → NumM M ∧ M.length ≤ xs.length := by
  induction xs using snoc_ind with
  | h0 => intro M h; cases h; exact ⟨fun x hx => by simp at hx, by simp⟩
  | hs xs x ih =>
    intro M h
    rw [mixF_snoc] at h
    obtain ⟨M0, h0, h1⟩ := Option.bind_eq_some_iff.1 h
    obtain ⟨i1, i2⟩ := ih M0 h0
    refine ⟨i1.puts h1, ?_⟩
    have := putS_len h1
    rw [List.length_append]
    simp only [List.length_singleton]
    omega

/-- What putting together comes to: no sets (none), too much (some none), or scores. -/
def mixR (agg : Int) (ws : List Int) (least : Int) (ls : List (List Ent)) : Option (Option (List Ent)) :=
  if (agg = 1 ∨ agg = 2 ∨ agg = 3) ∧ ws.length = ls.length ∧ rightsP ls = true then some (mixF agg.toNat ws (sharedS least ls)) else none
/-- .. in memory. -/
def MixIs (a0 a1 : Addr) (W : World) (mv ev : Value) : Option (Option (List Ent)) → Prop
  | none => ev = .iface 124 (.pointer (some a0))
  | some none => ev = .iface 124 (.pointer (some a1))
  | some (some M) => ev = .nilIface ∧ ∃ c, mv = .map (some c) ∧ MapIs W 2 c M

theorem drewB (W : World) (n : Nat) : Below W.heap.size W (W.drewN n) := ⟨rfl, rfl, rfl, Nat.le_refl _, fun _ _ => rfl⟩
theorem eql_nilFunc (W : World) : (binOp .eql 58 .nilFunc .nilFunc).run Tryd.prog W = .ok (.bool true) W := by kernel_rfl
theorem eql_func (f : Nat) (W : World) : (binOp .eql 58 (.func (.func f) #[] #[]) .nilFunc).run Tryd.prog W = .ok (.bool false) W := by kernel_rfl

set_option maxRecDepth 100000 in
set_option maxHeartbeats 4000000 in
theorem mixed_bad (a0 a1 : Addr) (agg least : Int) (ws : List Int) (ls : List (List Ent)) (hls : OkS ls) (aw a : Option Addr) (cw cap : Nat) (w : World) (hE : Env a0 a1 w) (hS : Sets w a ls) (hm : mixR agg ws least ls = none) :
    Calls Tryd.prog 25 #[.slice aw ws.length cw, .int .i64 agg, .int .i64 least, .slice a ls.length cap] w fun e w' => ∃ mv ev, e = .returned (.tuple #[mv, ev]) ∧ Below w.heap.size w w' ∧ ev = .iface 124 (.pointer (some a0)) := by
  have hl1 := hls.1
  have HJ := fun W => Lib.hid (joining_any agg W)
  have q1 := eql_nilFunc
  have q2 := eql_func
  by_cases hg : agg = 1 ∨ agg = 2 ∨ agg = 3
  · simp only [if_pos hg] at HJ
    unfold fvG at HJ
    generalize 48 + agg.toNat = f at *
    by_cases hlen : ws.length = ls.length
    · have hr : rightsP ls = false := by
        unfold mixR at hm
        split at hm
        · cases hm
        · rename_i h
          rw [Bool.eq_false_iff]; intro h2; exact h ⟨hg, hlen, h2⟩
      have HR := fun W hS => Lib.hid (rights_any ls hls a cap W hS)
      rw [hr] at HR
      have hl2 : ((ws.length : Int) != (ls.length : Int)) = false := by simp; omega
      have HE := Lib.hid hE
      have HS := Lib.hid hS
      clear hm hg hS hls hE hr hlen
      go_enter Tryd.func25, Tryd.ntmps25
      go_wp2_with fail
      refine wp_scope_straight ?_
      go_wp2_with fail
      refine (HJ _).out.mono ?_
      rintro e w1 ⟨rfl, rfl⟩
      have hB0 : Below w.heap.size w ((w.alloc (Obj.cells #[Value.slice aw ws.length cw] 23)).alloc (Obj.cells #[Value.func (Fn.func f) #[] #[]] 58)) := ((Below.refl _ _).alloc (Nat.le_refl _) _).alloc (by simp) _
      have HB0 := Lib.hid hB0
      clear hB0
      go_wp2_with fail
      refine (HR _ (HS.out.later HB0.out)).out.mono ?_
      rintro e w1 ⟨rfl, hb⟩
      have hB : Below w.heap.size w w1 := HB0.out.trans (hb.mono HB0.out.size)
      have g0 := (HE.out.later hB).g0
      have HB := Lib.hid hB
      clear hb hB
      go_wp2_with fail
      go_quiet (fail)
      go_wp2
      simp only [Exit.noGoto]
      go_ret2
      exact ⟨_, _, rfl, HB.out.trans ((drewB _ _).mono HB.out.size), rfl⟩
    · have hl2 : ((ws.length : Int) != (ls.length : Int)) = true := by simp; omega
      have HE := Lib.hid hE
      clear hm hg hS hls hE hlen
      go_enter Tryd.func25, Tryd.ntmps25
      go_wp2_with fail
      refine wp_scope_straight ?_
      go_wp2_with fail
      refine (HJ _).out.mono ?_
      rintro e w1 ⟨rfl, rfl⟩
      go_wp2_with fail
      obtain ⟨w1, hw1⟩ : ∃ w1, (w.alloc (Obj.cells #[Value.slice aw ws.length cw] 23)).alloc (Obj.cells #[Value.func (Fn.func f) #[] #[]] 58) = w1 := ⟨_, rfl⟩
      have hB : Below w.heap.size w w1 := by rw [← hw1]; exact ((Below.refl _ _).alloc (Nat.le_refl _) _).alloc (by simp) _
      have g0 := (HE.out.later hB).g0
      rw [hw1]
      go_quiet (fail)
      go_wp2
      simp only [Exit.noGoto]
      go_ret2
      exact ⟨_, _, rfl, hB.trans ((drewB _ _).mono hB.size), rfl⟩
  · simp only [if_neg hg] at HJ
    have HE := Lib.hid hE
    clear hm hg hS hls hE
    go_enter Tryd.func25, Tryd.ntmps25
    go_wp2_with fail
    refine wp_scope_straight ?_
    go_wp2_with fail
    refine (HJ _).out.mono ?_
    rintro e w1 ⟨rfl, rfl⟩
    go_wp2_with fail
    obtain ⟨w1, hw1⟩ : ∃ w1, (w.alloc (Obj.cells #[Value.slice aw ws.length cw] 23)).alloc (Obj.cells #[Value.nilFunc] 58) = w1 := ⟨_, rfl⟩
    have hB : Below w.heap.size w w1 := by rw [← hw1]; exact ((Below.refl _ _).alloc (Nat.le_refl _) _).alloc (by simp) _
    have g0 := (HE.out.later hB).g0
    rw [hw1]
    go_quiet (fail)
    go_wp2
    simp only [Exit.noGoto]
    go_ret2
    exact ⟨_, _, rfl, hB.trans ((drewB _ _).mono hB.size), rfl⟩

/-- What a round's loads read. -/
structure Loads (n p q gw o : Nat) (wv : Value) (f : Nat) (m : ByteArray) (sc wt : Int) (W : World) : Prop where
  l0 : W.cell? ⟨p + 1, 0, none⟩ = some (.map (some p))
  l1 : W.cell? ⟨q, 0, none⟩ = some (.string m)
  l2 : W.cell? ⟨q, 1, none⟩ = some (.int .i64 sc)
  l3 : W.cell? ⟨n, 0, none⟩ = some wv
  l4 : W.cell? ⟨gw, o, none⟩ = some (.int .i64 wt)
  l5 : W.cell? ⟨n + 1, 0, none⟩ = some (.func (.func f) #[] #[])
theorem cell_setOther {W : World} {b b' o o' : Nat} {u v : Value} (h : W.cell? ⟨b, o, none⟩ = some v) (hne : b ≠ b') : (W.setCell ⟨b', o', none⟩ u).cell? ⟨b, o, none⟩ = some v := by
  rw [World.cell?_of_block (w := W) (Below.heap_setCell W ⟨b', o', none⟩ u b hne)]
  exact h
theorem keepc_set {W : World} {b : Nat} {t : TypeId} {c : Array Value} {L : List Nat} (h : Blk W b t c) (ht : ¬ itT t) (o : Nat) (u : Value) : KeepC L W (W.setCell ⟨b, o, none⟩ u) := by
  refine ⟨by simp [World.setCell], fun k c' t' ht' hk => ?_, fun k es c' _ hk => ?_⟩
  · refine (Below.heap_setCell _ _ _ k (fun e => ?_)).trans hk
    simp only at e
    subst e
    rw [show W.heap[k]? = _ from h] at hk
    simp at hk
    exact ht (hk.2 ▸ ht')
  · refine (Below.heap_setCell _ _ _ k (fun e => ?_)).trans hk
    simp only at e
    subst e
    rw [show W.heap[k]? = _ from h] at hk
    cases hk
theorem neq_nil_iface (a : Addr) (W : World) : (binOp .neq 45 (.iface 124 (.pointer (some a))) .nilIface).run Tryd.prog W = .ok (.bool true) W := by kernel_rfl
theorem loads_turned {n p q gw o : Nat} {wv : Value} {f : Nat} {m : ByteArray} {sc wt : Int} {W W5 : World} (k0 : Blk W n 23 #[wv]) (k1 : Blk W (n + 1) 58 #[.func (.func f) #[] #[]]) (k3 : Blk W (p + 1) 43 #[.map (some p)]) (kq : Blk W q 38 #[.string m, .int .i64 sc])
    (cw : W.cell? ⟨gw, o, none⟩ = some (.int .i64 wt)) (hg : W.grownBy W5 (some p)) (h1 : n ≠ p) (h2 : n + 1 ≠ p) (h4 : q ≠ p) (h5 : gw ≠ p) :
    Loads n p q gw o wv f m sc wt W5 ∧ ∀ (b : Nat) (u : Value), n ≠ b → n + 1 ≠ b → p + 1 ≠ b → q ≠ b → gw ≠ b → Loads n p q gw o wv f m sc wt (W5.setCell ⟨b, 0, none⟩ u) := by
  have j0 := (k0.turned hg (by simpa using h1)).cell 0
  have j1 := (k1.turned hg (by simpa using h2)).cell 0
  have j3 := (k3.turned hg (by simp)).cell 0
  have jq := kq.turned hg (by simpa using h4)
  have jq0 := jq.cell 0
  have jq1 := jq.cell 1
  have jw := hg.cell cw (by simpa using h5)
  simp at j0 j1 j3 jq0 jq1
  exact ⟨⟨j3, jq0, jq1, j0, jw, j1⟩, fun b u n0 n1 n3 nq nw => ⟨cell_setOther j3 n3, cell_setOther jq0 nq, cell_setOther jq1 nq, cell_setOther j0 n0, cell_setOther jw nw, cell_setOther j1 n1⟩⟩
set_option maxRecDepth 100000 in
set_option maxHeartbeats 4000000 in
theorem mixed_good (a0 a1 : Addr) (g : Nat) (hg : isG g) (least : Int) (ws : List Int) (hw64 : ∀ x ∈ ws, I64 x) (ls : List (List Ent)) (hls : OkS ls) (aw a : Option Addr) (cw cap : Nat) (w : World) (hE : Env a0 a1 w) (hS : Sets w a ls) (hW : Nums w aw ws) (hlen : ws.length = ls.length) (hr : rightsP ls = true) :
    Calls Tryd.prog 25 #[.slice aw ws.length cw, .int .i64 g, .int .i64 least, .slice a ls.length cap] w fun e w' => ∃ mv ev, e = .returned (.tuple #[mv, ev]) ∧ Below w.heap.size w w' ∧ MixIs a0 a1 w' mv ev (some (mixF g ws (sharedS least ls))) := by
  have hl1 := hls.1
  have hmm := @run_makeMap Tryd.prog
  have HJ := fun W => Lib.hid (joining_any (g : Int) W)
  have q2 := eql_func
  have hgg : (g : Int) = 1 ∨ (g : Int) = 2 ∨ (g : Int) = 3 := by rcases hg with rfl | rfl | rfl <;> simp
  simp only [if_pos hgg, Int.toNat_natCast] at HJ
  unfold fvG at HJ
  obtain ⟨f, hf⟩ : ∃ f, 48 + g = f := ⟨_, rfl⟩
  rw [hf] at HJ
  have HR := fun W hS => Lib.hid (rights_any ls hls a cap W hS)
  rw [hr] at HR
  have HSh := fun W hS => Lib.hid (shared_any least ls hls a cap W hS)
  have hl2 : ((ws.length : Int) != (ls.length : Int)) = false := by simp; omega
  have HE := Lib.hid hE
  have HS := Lib.hid hS
  have HWs := Lib.hid hW
  have HLS := Lib.hid hls
  have HLEN := Lib.hid hlen
  clear hE hS hW hls hr hlen hgg
  refine (callsIn_wide (n := 6)).1 (callsIn_of_wp_marks Tryd.func25 rfl trivial ?_ rfl)
  refine wpIn_wide.2 ?_
  simp only [Tryd.ntmps25, List.size_toArray, List.length_cons, List.length_nil, Nat.reduceAdd, Nat.reduceSub, Array.replicate_succ, Array.replicate_zero, List.push_toArray, List.append_toArray, List.nil_append, List.cons_append]
  go_wp2_with fail
  refine wp_scope_straight ?_
  go_wp2_with fail
  refine (HJ _).out.mono ?_
  rintro e w1 ⟨rfl, rfl⟩
  obtain ⟨n, hn⟩ : ∃ n, w.heap.size = n := ⟨_, rfl⟩
  obtain ⟨w2, hw2⟩ : ∃ w2, (w.alloc (Obj.cells #[Value.slice aw ws.length cw] 23)).alloc (Obj.cells #[Value.func (Fn.func f) #[] #[]] 58) = w2 := ⟨_, rfl⟩
  have hB0 : Below w.heap.size w w2 := by rw [← hw2]; exact ((Below.refl _ _).alloc (Nat.le_refl _) _).alloc (by simp) _
  have k0 : Blk w2 n 23 #[Value.slice aw ws.length cw] := by rw [← hw2, ← hn]; exact (Blk.new w 23 _).alloc _
  have k1 : Blk w2 (n + 1) 58 #[Value.func (Fn.func f) #[] #[]] := by
    have := Blk.new (w.alloc (Obj.cells #[Value.slice aw ws.length cw] 23)) 58 #[Value.func (Fn.func f) #[] #[]]
    rwa [World.size_alloc, hw2, hn] at this
  have hw2s : w2.heap.size = n + 2 := by rw [← hw2, ← hn]; simp
  have HB0 := Lib.hid hB0
  have HK0 := Lib.hid k0
  have HK1 := Lib.hid k1
  have c0 := k0.cell 0
  have c1 := k1.cell 0
  simp at c0 c1
  clear hB0 k0 k1
  go_wp2_with fail
  refine (HR _ (HS.out.later HB0.out)).out.mono ?_
  rintro e w3 ⟨rfl, hb⟩
  have hB3 : Below w.heap.size w w3 := HB0.out.trans (hb.mono HB0.out.size)
  have k0 := HK0.out.later hb
  have k1 := HK1.out.later hb
  have c2 := k0.cell 0
  have c3 := k1.cell 0
  simp at c2 c3
  have HB3 := Lib.hid hB3
  have HK0' := Lib.hid k0
  have HK1' := Lib.hid k1
  have h3s := hb.size
  rw [hw2s] at h3s
  have HWN := Lib.hid hn
  clear hb hB3 k0 k1 c0 c1 hn hw2s hw2 HB0 HK0 HK1 HR
  go_wp2_with fail
  obtain ⟨p, hp⟩ : ∃ p, w3.heap.size = p := ⟨_, rfl⟩
  obtain ⟨w4, hw4⟩ : ∃ w4, (((w3.alloc (Obj.map #[] 0)).alloc (Obj.cells #[Value.map (some p)] 43)).alloc (Obj.cells #[Value.nilIface] 45)) = w4 := ⟨_, rfl⟩
  have hB4 : Below w3.heap.size w3 w4 := by rw [← hw4]; exact (((Below.refl _ _).alloc (Nat.le_refl _) _).alloc (by simp) _).alloc (by simp only [World.size_alloc]; omega) _
  have k2 : MapIs w4 2 p [] := by
    rw [← hw4, ← hp]; exact ((MapIs.made w3 2).alloc _).alloc _
  have k3 : Blk w4 (p + 1) 43 #[.map (some p)] := by
    have := (Blk.new (w3.alloc (Obj.map #[] 0)) 43 #[Value.map (some p)]).alloc (Obj.cells #[Value.nilIface] 45)
    rwa [World.size_alloc, hw4, hp] at this
  have k4 : Blk w4 (p + 1 + 1) 45 #[.nilIface] := by
    have := Blk.new ((w3.alloc (Obj.map #[] 0)).alloc (Obj.cells #[Value.map (some p)] 43)) 45 #[.nilIface]
    rwa [World.size_alloc, World.size_alloc, hw4, hp] at this
  have hs4 : w4.heap.size = p + 3 := by rw [← hw4, ← hp]; simp
  have hB40 : Below w.heap.size w w4 := HB3.out.trans (hB4.mono HB3.out.size)
  have k0 := HK0'.out.later hB4
  have k1 := HK1'.out.later hB4
  have HQ4 := Lib.hid (show Below w.heap.size w w4 ∧ Blk w4 n 23 #[Value.slice aw ws.length cw] ∧ Blk w4 (n + 1) 58 #[Value.func (Fn.func f) #[] #[]] ∧ MapIs w4 2 p [] ∧ Blk w4 (p + 1) 43 #[.map (some p)] ∧ Blk w4 (p + 1 + 1) 45 #[.nilIface] from ⟨hB40, k0, k1, k2, k3, k4⟩)
  clear hB4 hB40 k0 k1 k2 k3 k4 HB3 HK0' HK1' c2 c3 hmm q2 HJ
  rw [hp, hw4]
  rw [hp] at h3s
  refine wp_label ?_
  clear hp hw4
  go_wp2_with fail
  refine (HSh _ (HS.out.later HQ4.out.1)).out.mono ?_
  rintro e w5 ⟨b1, b2, b3, c, rfl, j1, j2, j3, jM, hcs, hb⟩
  have HQ5 := Lib.hid (show Below w.heap.size w w5 ∧ Blk w5 n 23 #[Value.slice aw ws.length cw] ∧ Blk w5 (n + 1) 58 #[Value.func (Fn.func f) #[] #[]] ∧ Blk w5 (p + 1) 43 #[.map (some p)] ∧ Blk w5 (p + 1 + 1) 45 #[.nilIface] ∧ MapIs w5 2 p [] from by
    obtain ⟨r0, r1, r2, r3, r4, r5⟩ := HQ4.out
    exact ⟨r0.trans (hb.mono r0.size), r1.later hb, r2.later hb, r4.later hb, r5.later hb, r3.later hb⟩)
  have hcp : c ∉ [p] := by simp; omega
  have HSq := Lib.hid (shares_any least ls HLS.out a cap b1 b2 b3 c [p] hcp w5 (HS.out.later HQ5.out.1) j1 j2 j3 jM)
  have h5s : p + 3 ≤ w5.heap.size := by have := hb.size; omega
  clear j1 j2 j3 jM hb HSh HQ4 hcs hcp hs4
  go_wp2_with fail
  have hpm : ∀ (i : Nat) x, (sharedS least ls)[i]? = some x → x.1 < ls.length ∧ x.2.1.size ≤ 1000000 ∧ I64 x.2.2 ∧ i < 1000000 := fun i x hx => by
    have hm := List.mem_of_getElem? hx
    obtain ⟨o1, o2, o3⟩ := seqOf_ok HLS.out (List.mem_filter.1 hm).1
    have h1 := seqOf_len HLS.out
    have h2 : (sharedS least ls).length ≤ (seqOf ls).length := List.length_filter_le _ _
    have h3 := (List.getElem?_eq_some_iff.1 hx).1
    exact ⟨o1, o2, o3, by omega⟩
  have hmix : Tryd.prog.follows .mixedOrders = true := by kernel_rfl
  refine (wpIn_wide (n := 6)).1 (range_x (gf := 52) (lb := #[.pointer (some ⟨b1, 0, none⟩), .pointer (some ⟨b2, 0, none⟩), .pointer (some ⟨b3, 0, none⟩)]) (encs := encP) (xs := sharedS least ls) (L := [p]) rfl (enters_of Tryd.func52 (by kernel_rfl) rfl) HSq.out (fun _ _ => rfl)
    (fun i W => ∃ M, mixF g ws ((sharedS least ls).take i) = some M ∧ Below w.heap.size w W ∧ Blk W n 23 #[Value.slice aw ws.length cw] ∧ Blk W (n + 1) 58 #[Value.func (Fn.func f) #[] #[]] ∧ Blk W (p + 1) 43 #[.map (some p)] ∧ Blk W (p + 1 + 1) 45 #[.nilIface] ∧ MapIs W 2 p M)
    (fun k _ W => k = .exit 0 ∧ mixF g ws (sharedS least ls) = none ∧ Below w.heap.size w W ∧ Blk W (p + 1) 43 #[.map (some p)] ∧ Blk W (p + 1 + 1) 45 #[.iface 124 (.pointer (some a1))])
    ?hI ?hIx ?h0 (fun i x a' W => ∃ q, (∃ u36 u37, a' = { tmps := #[Value.slice aw ws.length cw, Value.int IntKind.i64 ↑g, Value.int IntKind.i64 least,
          Value.slice a ls.length cap, Value.pointer (some { block := n, off := 0 }), undef, undef, undef,
          Value.map none, Value.nilIface, Value.pointer (some { block := n + 1, off := 0 }),
          Value.pointer (some { block := p + 1, off := 0 }), Value.pointer (some { block := p + 1 + 1, off := 0 }),
          .int .i64 x.1, Value.pointer (some { block := q, off := 0 }), Value.int IntKind.i64 ↑g, Value.func (Fn.func f) #[] #[], Value.func (Fn.func f) #[] #[],
          Value.bool false, Value.bool false, Value.slice aw ws.length cw, Value.int IntKind.i64 ↑ws.length,
          Value.slice a ls.length cap, Value.int IntKind.i64 ↑ls.length, Value.bool false, Value.bool false,
          Value.bool false, Value.slice a ls.length cap, Value.bool true, Value.bool false, Value.bool false, undef,
          Value.map (some p), Value.int IntKind.i64 least, Value.slice a ls.length cap,
          Value.func (Fn.func 52) #[] #[Value.pointer (some { block := b1, off := 0 }), Value.pointer (some { block := b2, off := 0 }), Value.pointer (some { block := b3, off := 0 })],
          u36, u37, undef, undef, undef, undef, undef, undef, undef, undef, undef, undef, undef, undef], defers := [] }) ∧ Blk W q 38 #[.string x.2.1, .int .i64 x.2.2])
    (fun _ _ _ => own_ex fun _ => (own_pure _ _).and (own_blk _ _ _ _)) ?assign ?body ?done ?stop)
  case hI => exact own_ex fun M => (own_pure _ _).and ((own_below _ w (by have := HQ5.out.1.size; omega)).and ((own_blk _ _ _ _).and ((own_blk _ _ _ _).and ((own_blk _ _ _ _).and ((own_blk _ _ _ _).and (MapIs.own _ _ _ (by omega) (fun _ => M)))))))
  case hIx => exact fun k => (own_pure _ _).and ((own_pure _ _).and ((own_below _ w (by have := HQ5.out.1.size; omega)).and ((own_blk _ _ _ _).and (own_blk _ _ _ _))))
  case h0 => exact ⟨[], rfl, HQ5.out⟩
  case assign =>
    rintro l i x W K hx' ⟨M, hM, hb, q0, q1, q3, q4, qM⟩ hK
    unfold encP
    clear HSq
    gi_wp2
    have hbw := alloc_below W (Obj.cells #[Value.string x.2.1, Value.int IntKind.i64 x.2.2] 38)
    exact hK _ _ ((KeepsOthers.alloc _ _).from _) (KeepC.of_below hbw) ⟨M, hM, hb.alloc hb.size _, q0.alloc _, q1.alloc _, q3.alloc _, q4.alloc _, qM.alloc _⟩ ⟨_, ⟨_, _, rfl⟩, Blk.new _ _ _⟩
  case body =>
    rintro l i x a' W hx' ⟨M, hM, hb, q0, q1, q3, q4, qM⟩ ⟨q, ⟨u36, u37, rfl⟩, qe⟩
    obtain ⟨o1, o2, o3, o4⟩ := hpm i x hx'
    have hxw : x.1 < ws.length := by have := HLEN.out; omega
    obtain ⟨gw, ow, rfl, cwt0⟩ := HWs.out x.1 hxw
    have hgn : gw < n := by have := World.block_lt_of_cell? w ⟨gw, _, none⟩ cwt0; have := HWN.out; simp only at *; omega
    have cwt : W.cell? ⟨gw, ow + x.1, none⟩ = some (.int .i64 ws[x.1]) := (hb.cell (p := ⟨gw, _, none⟩) (by have := HWN.out; simp only; omega)).trans cwt0
    clear cwt0
    have hget : ws.getD x.1 0 = ws[x.1] := by simp [List.getD_eq_getElem?_getD, hxw]
    have h64 := hw64 _ (List.getElem_mem hxw)
    obtain ⟨hN, hML⟩ := mixF_facts g ws _ M hM
    rw [List.length_take] at hML
    have hnx : mixF g ws ((sharedS least ls).take (i + 1)) = putS g M x.2 ws[x.1] := by
      obtain ⟨hi, hx2⟩ := List.getElem?_eq_some_iff.1 hx'
      rw [List.take_succ_eq_append_getElem hi, mixF_snoc, hM, Option.bind_some, hx2, hget]
    have hpre : mixF g ws ((sharedS least ls).take (i + 1)) = none → mixF g ws (sharedS least ls) = none := fun h => by
      rw [← List.take_append_drop (i + 1) (sharedS least ls)]
      exact mixF_none g ws _ _ h
    generalize ws[x.1] = wt at *
    have HP := fun (W : World) hE hI => Lib.hid (put_any g hg a0 a1 p M hN (by omega) x.2 o2 o3 wt h64 W hE hI)
    unfold fvG at HP
    rw [hf] at HP
    obtain ⟨c0, _⟩ := facts1 q0
    obtain ⟨c1, _⟩ := facts1 q1
    obtain ⟨c3, _⟩ := facts1 q3
    obtain ⟨d0, d1, _, _⟩ := facts2 qe
    have HEW := Lib.hid (HE.out.later hb)
    have HKB := Lib.hid (show Below w.heap.size w W ∧ Blk W n 23 #[Value.slice (some ⟨gw, ow, none⟩) ws.length cw] ∧ Blk W (n + 1) 58 #[Value.func (Fn.func f) #[] #[]] ∧ Blk W (p + 1) 43 #[.map (some p)] ∧ Blk W (p + 1 + 1) 45 #[.nilIface] ∧ MapIs W 2 p M from ⟨hb, q0, q1, q3, q4, qM⟩)
    obtain ⟨i', e⟩ := x
    obtain ⟨m, sc⟩ := e
    simp only at *
    have hi2 : (i' : Int) < ws.length := by omega
    have hi0 : (0 : Int) ≤ i' := by omega
    have hqp : q ≠ p := fun e9 => by
      obtain ⟨es, c9, hb9⟩ := qM.blk
      rw [← e9] at hb9
      rw [show W.heap[q]? = _ from qe] at hb9; cases hb9
    have hqp2 : q ≠ p + 1 + 1 := fun e9 => by
      have h8 : W.heap[q]? = some (.cells #[.string m, .int .i64 sc] 38 (0, 0)) := qe
      rw [e9, show W.heap[p + 1 + 1]? = some (.cells #[.nilIface] 45 (0, 0)) from q4] at h8
      simp at h8
    have S0 : Loads n p q gw (ow + i') (.slice (some ⟨gw, ow, none⟩) ws.length cw) f m sc wt W.drew := ⟨c3, d0, d1, c0, cwt, c1⟩
    have HQE := Lib.hid qe
    have HCW := Lib.hid cwt
    cases hp : putS g M (m, sc) wt with
    | some M' =>
      rw [hp] at hnx HP
      simp only at HP
      have HN := Lib.hid hnx
      have HPD := HP W.drew (HEW.out.later (Below.refl W.heap.size W).drew) HKB.out.2.2.2.2.2
      clear hx' hb q0 q1 q3 q4 qM qe HSq hnx hpre hM hN hML hget hp hpm o1 o2 o3 o4 HP cwt
      gi_wp2_with fail
      refine Sched.region_sched_in [(0, true), (1, true), (2, true), (3, true), (4, true), (5, true), (6, true), (7, false), (8, false)] (Loads n p q gw (ow + i') (.slice (some ⟨gw, ow, none⟩) ws.length cw) f m sc wt) (by kernel_rfl) (by kernel_rfl) (by kernel_rfl) (fun ⟨_, _, h⟩ => h) rfl (by kernel_rfl) (fun _ _ _ _ _ h => h) S0 ?_
      intro L hL
      simp only [Sched.picks, List.getElem?_toArray, List.getElem?_cons_zero, List.getElem?_cons_succ] at hL
      subst hL
      repeat (first
        | (refine Sched.sched_take (v := ?_) (by rfl) ?_ ?_
           rotate_left
           (focus (intro w' hSw; obtain ⟨l0, l1, l2, l3, l4, l5⟩ := hSw; go_simp; (try with_reducible rfl); done))
           simp only [Act.put, List.setIfInBounds_toArray, List.set_cons_zero, List.set_cons_succ]))
      refine Sched.sched_do (by rfl) fun K' hK => ?_
      go_simp
      go_at_call 40; refine HPD.out.mono ?_; rintro e W5 ⟨hg5, rfl, hM5⟩
      have z4 := (HKB.out.2.2.2.2.1).drew.turned hg5 (by simp; omega)
      obtain ⟨z0, z1⟩ := facts1 z4
      have HL5 := Lib.hid (loads_turned (HKB.out.2.1.drew) (HKB.out.2.2.1.drew) (HKB.out.2.2.2.1.drew) HQE.out.drew HCW.out hg5 (by omega) (by omega) hqp (by omega))
      have HG5 := Lib.hid hg5
      have HM5 := Lib.hid hM5
      have HZ4 := Lib.hid z4
      clear HPD hg5 hM5 z4
      refine hK _ _ HL5.out.1 ?_
      clear hK K'
      refine Sched.sched_do (by rfl) fun K' hK => ?_
      go_simp
      refine hK _ _ (HL5.out.2 _ _ (by omega) (by omega) (by omega) hqp2 (by omega)) ?_
      clear hK K'
      refine Sched.sched_nil ?_
      gi_wp2
      obtain ⟨hb, q0, q1, q3, q4, qM⟩ := HKB.out
      have hg := HG5.out
      have hbw : Below w.heap.size w W.drew := hb.drew
      have hb5 := hbw.grown hg hbw.size (fun k e => by cases e; have := HWN.out; omega)
      exact ⟨(keeps_drew _ _).trans ((KeepsFrom.of_grownBy hg (fun j e => by cases e; omega)).trans ((KeepsOthers.setCell _ _ _).from _)),
        (keepc_drew _ _).trans ((keepc_map (W := W.drew) (e := 2) (M := M) (show MapIs W.drew 2 p M from qM) hg).trans (keepc_set (t := 45) HZ4.out (by unfold itT; decide) _ _)), _, HN.out, hb5.setCell (p := ⟨p + 1 + 1, 0, none⟩) (by have := HWN.out; simp only; omega) _,
        (q0.drew.turned hg (by simp; omega)).setOther 0 _ (by omega), (q1.drew.turned hg (by simp; omega)).setOther 0 _ (by omega), (q3.drew.turned hg (by simp)).setOther 0 _ (by omega), HZ4.out.set 0 _, HM5.out.kept (grownBy_setCell' _ _ _) (by simp; omega)⟩
    | none =>
      rw [hp] at hnx HP
      simp only at HP
      have HN := Lib.hid (hpre hnx)
      have HPD := HP W.drew (HEW.out.later (Below.refl W.heap.size W).drew) HKB.out.2.2.2.2.2
      clear hx' hb q0 q1 q3 q4 qM qe HSq hnx hpre hM hN hML hget hp hpm o1 o2 o3 o4 HP cwt
      gi_wp2_with fail
      refine Sched.region_sched_in [(0, true), (1, true), (2, true), (3, true), (4, true), (5, true), (6, true), (7, false), (8, false)] (Loads n p q gw (ow + i') (.slice (some ⟨gw, ow, none⟩) ws.length cw) f m sc wt) (by kernel_rfl) (by kernel_rfl) (by kernel_rfl) (fun ⟨_, _, h⟩ => h) rfl (by kernel_rfl) (fun _ _ _ _ _ h => h) S0 ?_
      intro L hL
      simp only [Sched.picks, List.getElem?_toArray, List.getElem?_cons_zero, List.getElem?_cons_succ] at hL
      subst hL
      repeat (first
        | (refine Sched.sched_take (v := ?_) (by rfl) ?_ ?_
           rotate_left
           (focus (intro w' hSw; obtain ⟨l0, l1, l2, l3, l4, l5⟩ := hSw; go_simp; (try with_reducible rfl); done))
           simp only [Act.put, List.setIfInBounds_toArray, List.set_cons_zero, List.set_cons_succ]))
      refine Sched.sched_do (by rfl) fun K' hK => ?_
      go_simp
      go_at_call 40; refine HPD.out.mono ?_; rintro e W5 ⟨hg5, rfl, hM5⟩
      have z4 := (HKB.out.2.2.2.2.1).drew.turned hg5 (by simp; omega)
      obtain ⟨z0, z1⟩ := facts1 z4
      have HL5 := Lib.hid (loads_turned (HKB.out.2.1.drew) (HKB.out.2.2.1.drew) (HKB.out.2.2.2.1.drew) HQE.out.drew HCW.out hg5 (by omega) (by omega) hqp (by omega))
      have HG5 := Lib.hid hg5
      have HZ4 := Lib.hid z4
      clear HPD hg5 hM5 z4
      refine hK _ _ HL5.out.1 ?_
      clear hK K'
      refine Sched.sched_do (by rfl) fun K' hK => ?_
      go_simp
      refine hK _ _ (HL5.out.2 _ _ (by omega) (by omega) (by omega) hqp2 (by omega)) ?_
      clear hK K'
      refine Sched.sched_nil ?_
      have qne := neq_nil_iface a1
      gi_wp2
      obtain ⟨hb, q0, q1, q3, q4, qM⟩ := HKB.out
      have hg := HG5.out
      have hbw : Below w.heap.size w W.drew := hb.drew
      have hb5 := hbw.grown hg hbw.size (fun k e => by cases e; have := HWN.out; omega)
      exact ⟨(keeps_drew _ _).trans ((KeepsFrom.of_grownBy hg (fun j e => by cases e; omega)).trans ((KeepsOthers.setCell _ _ _).from _)), rfl, HN.out, hb5.setCell (p := ⟨p + 1 + 1, 0, none⟩) (by have := HWN.out; simp only; omega) _,
        (q3.drew.turned hg (by simp)).setOther 0 _ (by omega), HZ4.out.set 0 _⟩
  case done =>
    rintro D W hD ⟨M, hM, hb, q0, q1, q3, q4, qM⟩ hK
    have HK := Lib.hid hK
    rw [List.take_of_length_le (Nat.le_refl _)] at hM
    obtain ⟨c3, _⟩ := facts1 q3
    obtain ⟨c4, _⟩ := facts1 q4
    have HQ := Lib.hid (show mixF g ws (sharedS least ls) = some M ∧ Below w.heap.size w W ∧ MapIs W 2 p M from ⟨hM, hb, qM⟩)
    clear hK hM hb q0 q1 q3 q4 qM HSq hpm
    simp only [Exit.inBlock]
    go_wp2
    go_quiet (fail)
    go_wp2
    simp only [Exit.noGoto]
    refine leave rfl (W := W.drewN _) HK.out (v := .tuple #[.map (some p), .nilIface]) (by simp [results, Tryd.results25, go_sem]) ⟨_, _, rfl, ?_, ?_⟩
    · exact below_put (W := W.drewN _) (HQ.out.2.1.trans ((drewB _ _).mono HQ.out.2.1.size)) (by have := HQ5.out.1.size; omega) _
    · rw [HQ.out.1]
      refine ⟨rfl, p, rfl, MapIs.put (W := W.drewN _) (D := D) (ds := some []) ?_ HK.out _⟩
      exact HQ.out.2.2.later (drewB _ _)
  case stop =>
    rintro D k i W hD ⟨rfl, hM, hb, q3, q4⟩ hK
    have HK := Lib.hid hK
    obtain ⟨c3, _⟩ := facts1 q3
    obtain ⟨c4, _⟩ := facts1 q4
    have HQ := Lib.hid (show mixF g ws (sharedS least ls) = none ∧ Below w.heap.size w W from ⟨hM, hb⟩)
    clear hK hM hb q3 q4 HSq hpm
    refine wpIn_wide.2 ?_
    go_wp2
    go_quiet (fail)
    go_wp2
    simp only [Exit.noGoto]
    refine leave rfl (W := W.drewN _) HK.out (v := .tuple #[.map (some p), .iface 124 (.pointer (some a1))]) (by simp [results, Tryd.results25, go_sem]) ⟨_, _, rfl, ?_, ?_⟩
    · exact below_put (W := W.drewN _) (HQ.out.2.trans ((drewB _ _).mono HQ.out.2.size)) (by have := HQ5.out.1.size; omega) _
    · rw [HQ.out.1]
      exact rfl
end Go.Proofs.YtjilfgkoibbcnaaDoor
