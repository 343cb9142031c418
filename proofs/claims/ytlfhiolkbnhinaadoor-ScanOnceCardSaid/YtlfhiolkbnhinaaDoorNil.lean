/- A nil dict: nothing is told. -/
import Derived.Test.YtlfhiolkbnhinaaDoorScan
namespace Go.Proofs.YtlfhiolkbnhinaaDoor
open Go.RowKit Go.Shelf Go.Sort
attribute [local go_sem] Oper.semAt_some

theorem no0 : isS ((0 : Nat) : Int) = false := by decide +kernel
set_option maxRecDepth 100000 in
set_option maxHeartbeats 4000000 in
theorem cursors_none (num s c : Nat) (hs : isS (s : Int) = false) (hc : c < 4294967296) (B1 B2 : Nat) (w : World) (h1 : Blk w B1 22 #[.int .u32 c]) (h2 : Blk w B2 76 #[.int .i64 num, .int .i64 s]) (L : List Nat) :
    Sc.SeqX Tryd.prog 72 #[.pointer (some ⟨B1, 0, none⟩), .pointer (some ⟨B2, 0, none⟩)] encT [] L w := by
  intro l J Jx W hW hJ hJx hY hJ0
  have k1 := h1.later hW
  have K2 := Lib.hid (h2.later hW)
  obtain ⟨d1, e1⟩ := facts1 k1
  have e2 : W.cell? ⟨B2, 1, none⟩ = some (.int .i64 s) := K2.out.cell 1
  have HSL := fun W => Lib.hid (show Calls Tryd.prog 68 #[.int .u32 c, .int .i64 s] W fun e w' => e = .returned (.tuple #[.int .i64 0, .int .i64 2]) ∧ Below W.heap.size W w' by
    have := slot_any c hc s W
    unfold slotS at this
    rwa [if_neg (by rw [hs]; decide)] at this)
  have HNX := fun W => Lib.hid (next_none c s hs W)
  clear hY h1 h2 k1
  refine callsIn_of_wp Tryd.func72 rfl trivial ?_ rfl
  simp only [Tryd.ntmps72, List.size_toArray, List.length_cons, List.length_nil, Nat.reduceAdd, Nat.reduceSub, Array.replicate_succ, Array.replicate_zero, List.push_toArray, List.append_toArray, List.nil_append, List.cons_append]
  gi_wp2
  gi_loopw [4, 5] (fun av mv wr => (av = .int .u32 c ∧ mv = .bool true ∧ wr = W ∧ J 0 wr) ∨ (mv = .bool false ∧ J 0 wr)) (fun _ mv _ => match mv with | .bool true => 1 | _ => 0)
  case atStart => exact .inl ⟨rfl, rfl, rfl, hJ0⟩
  case round =>
    rcases hrel with ⟨rfl, rfl, rfl, hJi⟩ | ⟨rfl, hJi⟩
    · gi_wp2_with fail
      refine ⟨trivial, ?_⟩
      refine callsIn_wide.2 (Calls.mono (HSL _).out ?_)
      rintro e w2 ⟨rfl, hb2⟩
      have e3 : w2.cell? ⟨B2, 1, none⟩ = some (.int .i64 s) := (K2.out.later hb2).cell 1
      have hJ2 := hJ _ _ _ hJi hb2
      clear hb2 hJi
      gi_wp2_with fail
      refine ⟨trivial, ?_⟩
      refine callsIn_wide.2 (Calls.mono (HNX _).out ?_)
      rintro e w3 ⟨rfl, hb3⟩
      have hJ3 := hJ _ _ _ hJ2 hb3
      clear hb3 hJ2
      gi_wp2
      refine ⟨fun _ h => (by cases h), ?_⟩
      gi_wp2
      exact ⟨.inr ⟨rfl, hJ3⟩, by decide⟩
    · gi_wp2
      go_end0
      exact ⟨⟨_, rfl⟩, .inl hJi⟩

set_option maxRecDepth 100000 in
set_option maxHeartbeats 4000000 in
theorem stretch_nil (t s g c : Nat) (hs : isS (s : Int) = false) (hc : c < 4294967296) (w : World) : Calls Tryd.prog 38 #[.pointer none, tabV (t, s), .int .u32 c, .int .u32 g] w fun e w' => ∃ u, e = .returned (.tuple #[u, .int .u32 (0 : Nat)]) ∧ Own9 w' w.heap.size u [] ∧ Below w.heap.size w w' := by
  refine (callsIn_wide (n := 6)).1 (callsIn_of_wp_marks Tryd.func38 rfl trivial ?_ rfl)
  refine wpIn_wide.2 ?_
  simp only [Tryd.ntmps38, List.size_toArray, List.length_cons, List.length_nil, Nat.reduceAdd, Nat.reduceSub, Array.replicate_succ, Array.replicate_zero, List.push_toArray, List.append_toArray, List.nil_append, List.cons_append]
  have HMK := fun W => Lib.hid (slotsT_any (t, s) c W)
  unfold tabV at HMK ⊢
  simp only at HMK ⊢
  go_wp2
  refine wp_scope_straight ?_
  go_wp2
  refine wp_label ?_
  go_wp2_with fail
  (with_reducible refine (HMK _).out.mono ?_)
  rintro e w1 ⟨rfl, rfl⟩
  go_wp2
  obtain ⟨w1, hw1⟩ : ∃ w1, (((((((w.alloc (Obj.cells #[Value.pointer none] 30)).alloc (Obj.cells #[Value.int IntKind.i64 ↑t, Value.int IntKind.i64 ↑s] 76)).alloc (Obj.cells #[Value.int IntKind.u32 ↑g] 22)).alloc (Obj.cells #[Value.slice none 0 0] 38)).alloc (Obj.cells #[Value.int IntKind.u32 0] 22)).alloc (Obj.cells #[Value.int IntKind.i64 ↑t, Value.int IntKind.i64 ↑s] 76)).alloc (Obj.cells #[Value.int IntKind.u32 ↑c] 22)) = w1 := ⟨_, rfl⟩
  have k0 : Blk w1 (w.heap.size) 30 #[Value.pointer none] := by
    rw [← hw1]
    have := ((((((Blk.new w 30 #[Value.pointer none]).alloc (Obj.cells #[Value.int IntKind.i64 ↑t, Value.int IntKind.i64 ↑s] 76)).alloc (Obj.cells #[Value.int IntKind.u32 ↑g] 22)).alloc (Obj.cells #[Value.slice none 0 0] 38)).alloc (Obj.cells #[Value.int IntKind.u32 0] 22)).alloc (Obj.cells #[Value.int IntKind.i64 ↑t, Value.int IntKind.i64 ↑s] 76)).alloc (Obj.cells #[Value.int IntKind.u32 ↑c] 22)
    (try simp only [World.size_alloc] at this)
    exact this
  have k1 : Blk w1 (w.heap.size + 1) 76 #[Value.int IntKind.i64 ↑t, Value.int IntKind.i64 ↑s] := by
    rw [← hw1]
    have := (((((Blk.new (w.alloc (Obj.cells #[Value.pointer none] 30)) 76 #[Value.int IntKind.i64 ↑t, Value.int IntKind.i64 ↑s]).alloc (Obj.cells #[Value.int IntKind.u32 ↑g] 22)).alloc (Obj.cells #[Value.slice none 0 0] 38)).alloc (Obj.cells #[Value.int IntKind.u32 0] 22)).alloc (Obj.cells #[Value.int IntKind.i64 ↑t, Value.int IntKind.i64 ↑s] 76)).alloc (Obj.cells #[Value.int IntKind.u32 ↑c] 22)
    (try simp only [World.size_alloc] at this)
    exact this
  have k2 : Blk w1 (w.heap.size + 1 + 1) 22 #[Value.int IntKind.u32 ↑g] := by
    rw [← hw1]
    have := ((((Blk.new ((w.alloc (Obj.cells #[Value.pointer none] 30)).alloc (Obj.cells #[Value.int IntKind.i64 ↑t, Value.int IntKind.i64 ↑s] 76)) 22 #[Value.int IntKind.u32 ↑g]).alloc (Obj.cells #[Value.slice none 0 0] 38)).alloc (Obj.cells #[Value.int IntKind.u32 0] 22)).alloc (Obj.cells #[Value.int IntKind.i64 ↑t, Value.int IntKind.i64 ↑s] 76)).alloc (Obj.cells #[Value.int IntKind.u32 ↑c] 22)
    (try simp only [World.size_alloc] at this)
    exact this
  have k3 : Blk w1 (w.heap.size + 1 + 1 + 1) 38 #[Value.slice none 0 0] := by
    rw [← hw1]
    have := (((Blk.new (((w.alloc (Obj.cells #[Value.pointer none] 30)).alloc (Obj.cells #[Value.int IntKind.i64 ↑t, Value.int IntKind.i64 ↑s] 76)).alloc (Obj.cells #[Value.int IntKind.u32 ↑g] 22)) 38 #[Value.slice none 0 0]).alloc (Obj.cells #[Value.int IntKind.u32 0] 22)).alloc (Obj.cells #[Value.int IntKind.i64 ↑t, Value.int IntKind.i64 ↑s] 76)).alloc (Obj.cells #[Value.int IntKind.u32 ↑c] 22)
    (try simp only [World.size_alloc] at this)
    exact this
  have k4 : Blk w1 (w.heap.size + 1 + 1 + 1 + 1) 22 #[Value.int IntKind.u32 0] := by
    rw [← hw1]
    have := ((Blk.new ((((w.alloc (Obj.cells #[Value.pointer none] 30)).alloc (Obj.cells #[Value.int IntKind.i64 ↑t, Value.int IntKind.i64 ↑s] 76)).alloc (Obj.cells #[Value.int IntKind.u32 ↑g] 22)).alloc (Obj.cells #[Value.slice none 0 0] 38)) 22 #[Value.int IntKind.u32 0]).alloc (Obj.cells #[Value.int IntKind.i64 ↑t, Value.int IntKind.i64 ↑s] 76)).alloc (Obj.cells #[Value.int IntKind.u32 ↑c] 22)
    (try simp only [World.size_alloc] at this)
    exact this
  have k5 : Blk w1 (w.heap.size + 1 + 1 + 1 + 1 + 1) 76 #[Value.int IntKind.i64 ↑t, Value.int IntKind.i64 ↑s] := by
    rw [← hw1]
    have := (Blk.new (((((w.alloc (Obj.cells #[Value.pointer none] 30)).alloc (Obj.cells #[Value.int IntKind.i64 ↑t, Value.int IntKind.i64 ↑s] 76)).alloc (Obj.cells #[Value.int IntKind.u32 ↑g] 22)).alloc (Obj.cells #[Value.slice none 0 0] 38)).alloc (Obj.cells #[Value.int IntKind.u32 0] 22)) 76 #[Value.int IntKind.i64 ↑t, Value.int IntKind.i64 ↑s]).alloc (Obj.cells #[Value.int IntKind.u32 ↑c] 22)
    (try simp only [World.size_alloc] at this)
    exact this
  have k6 : Blk w1 (w.heap.size + 1 + 1 + 1 + 1 + 1 + 1) 22 #[Value.int IntKind.u32 ↑c] := by
    rw [← hw1]
    have := Blk.new ((((((w.alloc (Obj.cells #[Value.pointer none] 30)).alloc (Obj.cells #[Value.int IntKind.i64 ↑t, Value.int IntKind.i64 ↑s] 76)).alloc (Obj.cells #[Value.int IntKind.u32 ↑g] 22)).alloc (Obj.cells #[Value.slice none 0 0] 38)).alloc (Obj.cells #[Value.int IntKind.u32 0] 22)).alloc (Obj.cells #[Value.int IntKind.i64 ↑t, Value.int IntKind.i64 ↑s] 76)) 22 #[Value.int IntKind.u32 ↑c]
    (try simp only [World.size_alloc] at this)
    exact this
  have hb : Below w.heap.size w w1 := by rw [← hw1]; exact (((((((Below.refl w.heap.size w).alloc (by (try simp only [World.size_alloc]); omega) (Obj.cells #[Value.pointer none] 30)).alloc (by (try simp only [World.size_alloc]); omega) (Obj.cells #[Value.int IntKind.i64 ↑t, Value.int IntKind.i64 ↑s] 76)).alloc (by (try simp only [World.size_alloc]); omega) (Obj.cells #[Value.int IntKind.u32 ↑g] 22)).alloc (by (try simp only [World.size_alloc]); omega) (Obj.cells #[Value.slice none 0 0] 38)).alloc (by (try simp only [World.size_alloc]); omega) (Obj.cells #[Value.int IntKind.u32 0] 22)).alloc (by (try simp only [World.size_alloc]); omega) (Obj.cells #[Value.int IntKind.i64 ↑t, Value.int IntKind.i64 ↑s] 76)).alloc (by (try simp only [World.size_alloc]); omega) (Obj.cells #[Value.int IntKind.u32 ↑c] 22)
  have hz1 : w1.heap.size = w.heap.size + 7 := by rw [← hw1]; simp only [World.size_alloc]
  rw [hw1]
  clear hw1
  have hseq := cursors_none t s c hs hc (w.heap.size + 1 + 1 + 1 + 1 + 1 + 1) (w.heap.size + 1 + 1 + 1 + 1 + 1) w1 k6 k5 []
  refine (wpIn_wide (n := 6)).1 (Sc.range_x (gf := 72) (lb := #[Value.pointer (some { block := w.heap.size + 1 + 1 + 1 + 1 + 1 + 1, off := 0 }), Value.pointer (some { block := w.heap.size + 1 + 1 + 1 + 1 + 1, off := 0 })]) (encs := encT) (xs := []) (L := []) rfl (enters_of Tryd.func72 (by kernel_rfl) rfl) hseq (fun _ _ => rfl)
    (fun i W => Below w.heap.size w W ∧ Blk W (w.heap.size + 1 + 1 + 1) 38 #[.slice none 0 0] ∧ Blk W (w.heap.size + 1 + 1 + 1 + 1) 22 #[.int .u32 0])
    (fun _ _ _ => False)
    ?hI (fun _ => own_pure _ _) ?h0 (fun _ _ _ _ => True) (fun _ _ _ => own_pure _ _) ?assign ?body ?done (fun _ _ _ _ _ h _ => h.elim))
  case hI => exact (own_below _ w (by omega)).and ((own_blk _ _ _ _).and (own_blk _ _ _ _))
  case h0 => exact ⟨hb, k3, k4⟩
  case assign =>
    rintro l i x W K hx'
    simp at hx'
  case body =>
    rintro l i x a' W hx'
    simp at hx'
  case done =>
    rintro DD W hD ⟨hb', q3, q4⟩ hK
    obtain ⟨c3, f3⟩ := facts1 q3
    obtain ⟨c4, f4⟩ := facts1 q4
    have HK := Lib.hid hK
    have HB := Lib.hid hb'
    clear hseq hK q3 q4 hb' k0 k1 k2 k3 k4 k5 k6 hb
    simp only [Exit.inBlock, Exit.then]
    go_wp2
    go_region
    go_wp2
    simp only [Exit.noGoto]
    exact leave (v := .tuple #[.slice none 0 0, .int .u32 0]) rfl HK.out (by simp [results, Tryd.results38, go_sem]) ⟨_, rfl, World.ownsRow_nil _ _ _ _, below_put HB.out.drew (by omega) _⟩

set_option maxRecDepth 100000 in
set_option maxHeartbeats 4000000 in
theorem scan_one_nil (c A B At : Nat) (sa sb : Nat) (nx : Nat) (KS : List (List UInt8)) (w : World)
    (HSZ : Hid (Calls Tryd.prog 24 #[.pointer none] w fun e w' => e = .returned (.tuple #[.int .i64 A, .int .i64 B, .int .i64 At]) ∧ Below w.heap.size w w'))
    (HOR : ∀ g W, Blk W g 3 #[.int .i64 A, .int .i64 B] → Hid (Calls Tryd.prog 37 #[.slice (some ⟨g, 0, none⟩) 2 2] W fun e w' => e = .returned (.tuple #[tabV (sa, sb), tabV (sa, sb)]) ∧ Below W.heap.size W w'))
    (HST : ∀ W, Below w.heap.size w W → Hid (Calls Tryd.prog 38 #[.pointer none, tabV (sa, sb), .int .u32 c, .int .u32 0] W fun e w' => ∃ u, e = .returned (.tuple #[u, .int .u32 nx]) ∧ Own9 w' W.heap.size u KS ∧ Below W.heap.size W w')) :
    Calls Tryd.prog 17 #[.pointer none, .int .u32 c] w fun e w' => ∃ u, e = .returned (.tuple #[u, .int .u32 nx]) ∧ Own9 w' w.heap.size u KS ∧ Below w.heap.size w w' := by
  unfold tabV at HOR HST
  simp only at HOR HST
  go_enter Tryd.func17, Tryd.ntmps17
  go_wp2_with fail
  (with_reducible refine HSZ.out.mono ?_)
  rintro e w1 ⟨rfl, hb1⟩
  go_wp2_with fail
  (with_reducible refine (HOR _ _ (Blk.new w1 3 #[.int .i64 A, .int .i64 B])).out.mono ?_)
  rintro e w2 ⟨rfl, hb2⟩
  have hb3 := hb1.trans (((Below.refl w1.heap.size w1).alloc (Nat.le_refl _) (Obj.cells #[Value.int IntKind.i64 A, Value.int IntKind.i64 B] 3)).trans (hb2.mono (by simp)) |>.mono hb1.size)
  have HB3 := Lib.hid hb3
  clear hb1 hb2 hb3
  go_upto_region 3 with fail
  have k9 := (Blk.new w2 76 #[Value.int IntKind.i64 sa, Value.int IntKind.i64 sb]).alloc (Obj.cells #[Value.int IntKind.i64 sa, Value.int IntKind.i64 sb] 76)
  have k10 := Blk.new (w2.alloc (Obj.cells #[Value.int IntKind.i64 sa, Value.int IntKind.i64 sb] 76)) 76 #[Value.int IntKind.i64 sa, Value.int IntKind.i64 sb]
  rw [World.size_alloc] at k10
  have hb4 := (HB3.out.alloc HB3.out.size (Obj.cells #[Value.int IntKind.i64 sa, Value.int IntKind.i64 sb] 76)).alloc (by have := HB3.out.size; simp; omega) (Obj.cells #[Value.int IntKind.i64 sa, Value.int IntKind.i64 sb] 76)
  have hz2 := HB3.out.size
  generalize ((w2.alloc (Obj.cells #[Value.int IntKind.i64 sa, Value.int IntKind.i64 sb] 76)).alloc (Obj.cells #[Value.int IntKind.i64 sa, Value.int IntKind.i64 sb] 76)) = w3 at *
  have s0 := k9.cell 0
  have s1 := k9.cell 1
  have g0 := k10.cell 0
  have g1 := k10.cell 1
  simp at s0 s1 g0 g1
  have HST3 := HST w3 hb4
  have K9 := Lib.hid k9
  have K10 := Lib.hid k10
  have HB4 := Lib.hid hb4
  clear k9 k10 hb4
  go_wp2_with fail
  (with_reducible refine HST3.out.mono ?_)
  rintro e w4 ⟨u, rfl, hO, hb5⟩
  have hb6 := HB4.out.trans (hb5.mono HB4.out.size)
  have K9b := K9.out.later hb5
  have K10b := K10.out.later hb5
  have t0 := K9b.cell 0
  have t1 := K9b.cell 1
  have y0 := K10b.cell 0
  have y1 := K10b.cell 1
  simp at t0 t1 y0 y1
  have HO := Lib.hid hO
  have HB6 := Lib.hid hb6
  have hz3 := HB4.out.size
  have hz9 := hb5.size
  have K9c := Lib.hid K9b
  have K10c := Lib.hid K10b
  clear hO hb5 hb6 K9b K10b s0 s1 g0 g1
  go_wp2
  go_ret2
  exact ⟨_, rfl, HO.out.mono hz3, HB6.out⟩


theorem nil_sizes (w : World) : Calls Tryd.prog 24 #[.pointer none] w fun e w' => e = .returned (.tuple #[.int .i64 0, .int .i64 0, .int .i64 0]) ∧ w' = w := by
  go_enter Tryd.func24, Tryd.ntmps24
  go_wp2
  go_ret3
  exact ⟨rfl, rfl⟩
theorem scan_nil (c : Nat) (hc : c < 4294967296) (w : World) : Calls Tryd.prog 17 #[.pointer none, .int .u32 c] w fun e w' => ∃ u, e = .returned (.tuple #[u, .int .u32 (0 : Nat)]) ∧ Own9 w' w.heap.size u [] ∧ Below w.heap.size w w' :=
  scan_one_nil c 0 0 0 0 0 0 [] w (Lib.hid ((nil_sizes w).mono fun e w' ⟨h1, h2⟩ => ⟨h1, by subst h2; exact Below.refl _ _⟩))
    (fun g W hk => Lib.hid (ordered_any 0 0 (by omega) (by omega) (fun _ => rfl) g W hk)) (fun W _ => Lib.hid (stretch_nil 0 0 0 c no0 hc W))
end Go.Proofs.YtlfhiolkbnhinaaDoor
