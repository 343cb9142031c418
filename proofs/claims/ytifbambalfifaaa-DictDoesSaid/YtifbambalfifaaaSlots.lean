/- The slots of a hash, one in each table. -/
import Derived.Test.YtifbambalfifaaaStep
namespace Go.Proofs.Ytifbambalfifaaa
open Go.RowKit Go.Shelf
attribute [local go_sem] Oper.semAt_some

/-- A slot: its table's block, its place. -/
def encS (_ : Nat) (x : Nat × Nat) : Array Value := #[.pointer (some ⟨x.1, x.2, none⟩)]
def Dc.slots (D : Dc) (g0 g1 sum : Nat) : List (Nat × Nat) := (g0, sum % D.a.length) :: if D.b = [] then [] else [(g1, sum % D.b.length)]

section
variable {S : Nat → Prop} {p seed : Nat} {D : Dc} {w : World}

theorem slots_any (sum : Nat) (w : World) : Calls Try.prog 61 #[.pointer (some ⟨p, 0, none⟩), .int .u32 sum] w fun e w' =>
    e = .returned (.func (.func 73) #[] #[.pointer (some ⟨w.heap.size, 0, none⟩), .pointer (some ⟨w.heap.size + 1, 0, none⟩)]) ∧ w' = (w.alloc (Obj.cells #[.pointer (some ⟨p, 0, none⟩)] 25)).alloc (Obj.cells #[.int .u32 sum] 22) := by
  go_enter Try.func61, Try.ntmps61
  go_wp2
  go_ret
  exact ⟨rfl, rfl⟩

theorem slotS_ok {n : Nat} (s : Nat) (h : isS (n : Int) = true) : slotS s n = .tuple #[.int .i64 (s % n : Nat), .int .i64 0] := by
  unfold slotS
  rw [if_pos h]
  simp
theorem slotS_none (s : Nat) : slotS s ((0 : Nat) : Int) = .tuple #[.int .i64 0, .int .i64 2] := by
  have : isS (0 : Int) = false := by decide +kernel
  unfold slotS
  simp [this]

theorem index0 (a : Option Addr) (n c : Nat) (a' : Option Addr) (n' c' : Nat) (W : World) : (Instr.index 63 (.agg #[.slice a n c, .slice a' n' c']) (.int .i64 0)).run Try.prog W = .ok (.slice a n c) W := by
  simp [Instr.index, run_underlying Try.underlying63, asIntOf, go_sem]
theorem index1 (a : Option Addr) (n c : Nat) (a' : Option Addr) (n' c' : Nat) (W : World) : (Instr.index 63 (.agg #[.slice a n c, .slice a' n' c']) (.int .i64 1)).run Try.prog W = .ok (.slice a' n' c') W := by
  simp [Instr.index, run_underlying Try.underlying63, asIntOf, go_sem]

set_option maxRecDepth 100000 in
set_option maxHeartbeats 4000000 in
theorem slots1_any {g0 g1 : Nat} {A1 : Option Addr} {va vb : List Value} (h : Mem tyI w p g0 g1 A1 va vb seed D) (ok : D.Ok tyI) (sum : Nat) (hs : sum < 4294967296) (B1 B2 : Nat) (h1 : Blk w B1 25 #[.pointer (some ⟨p, 0, none⟩)]) (h2 : Blk w B2 22 #[.int .u32 sum]) (L : List Nat) (hL1 : B1 ∉ L) (hL2 : B2 ∉ L) :
    SeqX Try.prog 73 #[.pointer (some ⟨B1, 0, none⟩), .pointer (some ⟨B2, 0, none⟩)] encS (D.slots g0 g1 sum) L w := by
  intro l J Jx W hW hJ hJx hY hJ0
  have hm := h.later hW
  have k1 := h1.later hW
  have k2 := h2.later hW
  obtain ⟨c0, c1, c2, c3, c4, f0, f1, f3, f4⟩ := dict_facts hm
  obtain ⟨d1, e1⟩ := facts1 k1
  obtain ⟨d2, e2⟩ := facts1 k2
  have hal := isS_pos ok.a
  have HI0 := fun w => slot_any sum hs D.a.length w
  rw [slotS_ok sum ok.a] at HI0
  have hlt0 : sum % D.a.length < D.a.length := Nat.mod_lt _ (by omega)
  have hlt0' : ((sum % D.a.length : Nat) : Int) < D.a.length := by omega
  have hsl0 : (D.slots g0 g1 sum)[0]? = some (g0, sum % D.a.length) := rfl
  have HI1 := fun w => slot_any sum hs D.b.length w
  have hbl : D.b.length ≤ 65536 := by
    by_cases hb : D.b = []
    · rw [hb]; simp
    · have := isS_pos (ok.b hb); omega
  refine callsIn_of_wp Try.func73 rfl trivial ?_ rfl
  simp only [Try.ntmps73, List.size_toArray, List.length_cons, List.length_nil, Nat.reduceAdd, Nat.reduceSub, Array.replicate_succ, Array.replicate_zero, List.push_toArray, List.append_toArray, List.nil_append, List.cons_append]
  have HA : Hid (D.b ≠ [] → A1 = some ⟨g1, 0, none⟩) := Lib.hid (fun hb => by
    rcases hm.tb with ⟨h, _⟩ | ⟨_, h, _⟩
    · exact absurd h hb
    · exact h)
  have HY := Lib.hid hY
  clear hY hm h h1 h2
  have HK1 := Lib.hid k1
  have HK2 := Lib.hid k2
  have HL0 := Lib.hid hsl0
  clear k1 k2 hsl0
  generalize sum % D.a.length = j0 at *
  have hx0 := index0
  have hx1 := index1
  gi_wp2
  gi_loopw [12] (fun s wr => ∃ (i : Nat), s = .int .i64 i ∧ i ≤ 2 ∧ Blk wr B1 25 #[.pointer (some ⟨p, 0, none⟩)] ∧ Blk wr B2 22 #[.int .u32 sum] ∧ (i = 0 ∧ J 0 wr ∨ i = 1 ∧ J 1 wr ∨ i = 2 ∧ J (D.slots g0 g1 sum).length wr)) (fun s _ => 2 - (intOf s).toNat)
  case atStart => exact ⟨0, rfl, by omega, HK1.out, HK2.out, .inl ⟨rfl, hJ0⟩⟩
  case round =>
    obtain ⟨i, rfl, hi, q1, q2, hJi⟩ := hrel
    clear c0 c1 c2 c3 c4 f0 f1 f3 f4 d1 e1 d2 e2 HK1 HK2
    obtain ⟨d1, e1⟩ := facts1 q1
    obtain ⟨d2, e2⟩ := facts1 q2
    have Q1 := Lib.hid q1
    have Q2 := Lib.hid q2
    clear q1 q2
    rcases hJi with ⟨rfl, hJi⟩ | ⟨rfl, hJi⟩ | ⟨rfl, hJi⟩
    · obtain ⟨fn, tmps, assign, body, hy, hRd⟩ := HY.out 0 _ wr HL0.out hJi
      have HRd := Lib.hid (HY.out 0 _ · HL0.out)
      clear hRd hy fn tmps assign body
      gi_wp2_with fail
      refine ⟨trivial, ?_⟩
      refine callsIn_wide.2 (Calls.mono (HI0 _) ?_)
      rintro e w2 ⟨rfl, hb2⟩
      obtain ⟨fn, tmps, assign, body, hy, hRd⟩ := HRd.out w2 (hJ _ _ _ hJi hb2)
      unfold encS at hy
      have q1 := Q1.out.later hb2
      have q2 := Q2.out.later hb2
      have P1 := Lib.hid q1
      have P2 := Lib.hid q2
      clear q1 q2
      gi_wp2_with fail
      (try refine ⟨fun _ => by decide, ?_⟩)
      refine hRd.mono ?_
      rintro e W3 (⟨rfl, hJ3, hk3⟩ | ⟨rfl, hJx3⟩)
      · have q1 := P1.out.keep hk3 hL1
        have q2 := P2.out.keep hk3 hL2
        clear hRd hy
        gi_wp2
        refine ⟨⟨1, rfl, by omega, q1, q2, .inr (.inl ⟨rfl, hJ3⟩)⟩, ?_⟩
        simp [intOf]
      · gi_wp2
        go_returns
        exact ⟨⟨_, rfl⟩, .inr ⟨_, hJx3⟩⟩
    · by_cases hb : D.b = []
      · have hln : (D.slots g0 g1 sum).length = 1 := by unfold Dc.slots; rw [if_pos hb]; rfl
        have hb0 : D.b.length = 0 := by rw [hb]; rfl
        rw [hb0] at HI1
        rw [slotS_none] at HI1
        have HN := Lib.hid hln
        have HB := Lib.hid hb
        clear hb hln
        rw [hb0] 
        clear hb0
        gi_wp2_with fail
        refine ⟨trivial, ?_⟩
        refine callsIn_wide.2 (Calls.mono (HI1 _) ?_)
        rintro e w2 ⟨rfl, hb2⟩
        have hJ2 := hJ _ _ _ hJi hb2
        have q1 := Q1.out.later hb2
        have q2 := Q2.out.later hb2
        have P1 := Lib.hid q1
        have P2 := Lib.hid q2
        clear q1 q2
        gi_wp2
        refine ⟨fun _ h => (by cases h), ?_⟩
        gi_wp2
        refine ⟨⟨2, rfl, by omega, P1.out, P2.out, .inr (.inr ⟨rfl, by rw [HN.out]; exact hJ2⟩)⟩, ?_⟩
        simp [intOf]
      · have hln : (D.slots g0 g1 sum).length = 2 := by unfold Dc.slots; rw [if_neg hb]; rfl
        have hs1 : (D.slots g0 g1 sum)[1]? = some (g1, sum % D.b.length) := by unfold Dc.slots; rw [if_neg hb]; rfl
        obtain rfl := HA.out hb
        have hbs := isS_pos (ok.b hb)
        rw [slotS_ok sum (ok.b hb)] at HI1
        have hlt1 : sum % D.b.length < D.b.length := Nat.mod_lt _ (by omega)
        have hlt1' : ((sum % D.b.length : Nat) : Int) < D.b.length := by omega
        have HN := Lib.hid hln
        have HS1 := Lib.hid hs1
        clear hb hln hs1 hlt0 hlt0'
        generalize sum % D.b.length = j1 at *
        have HRd := Lib.hid (HY.out 1 _ · HS1.out)
        gi_wp2_with fail
        refine ⟨trivial, ?_⟩
        refine callsIn_wide.2 (Calls.mono (HI1 _) ?_)
        rintro e w2 ⟨rfl, hb2⟩
        obtain ⟨fn, tmps, assign, body, hy, hRd⟩ := HRd.out w2 (hJ _ _ _ hJi hb2)
        unfold encS at hy
        have q1 := Q1.out.later hb2
        have q2 := Q2.out.later hb2
        have P1 := Lib.hid q1
        have P2 := Lib.hid q2
        clear q1 q2
        gi_wp2_with fail
        (try refine ⟨fun _ => by decide, ?_⟩)
        refine hRd.mono ?_
        rintro e W3 (⟨rfl, hJ3, hk3⟩ | ⟨rfl, hJx3⟩)
        · have q1 := P1.out.keep hk3 hL1
          have q2 := P2.out.keep hk3 hL2
          clear hRd hy
          gi_wp2
          refine ⟨⟨2, rfl, by omega, q1, q2, .inr (.inr ⟨rfl, by rw [HN.out]; exact hJ3⟩)⟩, ?_⟩
          simp [intOf]
        · gi_wp2
          go_returns
          exact ⟨⟨_, rfl⟩, .inr ⟨_, hJx3⟩⟩
    · gi_wp2
      go_end0
      exact ⟨⟨_, rfl⟩, .inl hJi⟩
end
end Go.Proofs.Ytifbambalfifaaa
