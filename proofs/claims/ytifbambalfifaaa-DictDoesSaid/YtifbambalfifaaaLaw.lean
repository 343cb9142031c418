/- What the laws share: a dict of their own, the examples, keys. -/
import Derived.Test.YtifbambalfifaaaIs
namespace Go.Proofs.Ytifbambalfifaaa
open Go.RowKit Go.Shelf
attribute [local go_sem] Oper.semAt_some

/-- A dict that was made since w; all that was in w is as it was. -/
def Alone (w : World) (p seed : Nat) (m : ByteArray → Option Int) (n : Sh) (W : World) : Prop := Is W p (fresh tyI w W) seed m n ∧ Below w.heap.size w W
section
variable {w W W' : World} {p seed : Nat} {m m' : ByteArray → Option Int} {n n' : Sh}
theorem Alone.now (h : Alone w p seed m n W) (g : IsNow (fresh tyI w W) W p seed m' n' W') : Alone w p seed m' n' W' := by
  have hb : Below w.heap.size w W' := h.2.trans (g.2.below (fun _ hk => hk.1.resolve_left (fun h => h)) h.2.size)
  refine ⟨g.1.wide (fun k hk => ⟨.inr ?_, hk.2⟩) (fun _ hk => hk.2), hb⟩
  rcases hk.1 with h1 | h1
  · exact h1.1.resolve_left (fun h => h)
  · exact Nat.le_trans h.2.size h1
theorem Alone.later (h : Alone w p seed m n W) (hb : Below W.heap.size W W') : Alone w p seed m n W' :=
  ⟨(h.1.later hb).wide (fun k hk => ⟨hk.1, hk.2.same (hb.block k hk.2.lt)⟩) (fun _ hk => hk.2), h.2.trans (hb.mono h.2.size)⟩
theorem Alone.new {W0 : World} (hb : Below w.heap.size w W0) (h : Is W p (fresh tyI W0 W) seed m n) (hb2 : Below W0.heap.size W0 W) : Alone w p seed m n W :=
  ⟨h.wide (fun _ hk => ⟨.inr (Nat.le_trans hb.size (hk.1.resolve_left (fun h => h))), hk.2⟩) (fun _ hk => hk.2), hb.trans (hb2.mono hb.size)⟩
/-- What lies elsewhere is as it was. -/
theorem Alone.keep (g : IsNow (fresh tyI w W) W p seed m' n' W') {k : Nat} {t : TypeId} {c : Array Value} (hk : Blk W k t c) (ht : ¬ (t = tyI.d ∨ t = tyI.t ∨ t = tyI.r)) : Blk W' k t c :=
  g.2.blk hk fun hs => not_cell hk ht hs.2
end

def cutK (s : ByteArray) : ByteArray := s.extract 0 (min s.size 12)
theorem cutK_size (s : ByteArray) : (cutK s).size ≤ 12 := by unfold cutK; simp; omega
theorem key_any (s : ByteArray) (hs : s.size ≤ 9223372036854775807) (w : World) : Calls Try.prog 18 #[.string s] w fun e w' => e = .returned (.string (cutK s)) ∧ w' = w := by
  obtain ⟨q, hq⟩ : ∃ q, q = min s.size 12 := ⟨_, rfl⟩
  have hmin : min (s.size : Int) 12 = (q : Int) := by omega
  have hqs : (q : Int) ≤ s.size := by omega
  have hq0 : (0 : Int) ≤ q := by omega
  have he : cutK s = s.extract 0 q := by unfold cutK; rw [hq]
  rw [he]
  clear he hq
  go_enter Try.func18, Try.ntmps18
  go_wp2
  go_ret
  exact ⟨rfl, rfl⟩

def ba (l : List UInt8) : ByteArray := ⟨l.toArray⟩
def shK : List ByteArray := [ba [97], ba [98], ba [99], ba [100], ba [101]]
def shM : Nat → ByteArray → Option Int
  | 0 => fun _ => none
  | k + 1 => putI (shM k) (shK.getD k (ba [])) k
def shS (k : Nat) : Sh := if k < 5 then ⟨4, 0, 0, k⟩ else ⟨4, 8, 0, 5⟩
theorem shM_none : ∀ k : Fin 5, (shM k.val (shK.getD k.val (ba []))).isSome = false := by decide +kernel
theorem shS_next : ∀ k : Fin 5, (shS k.val).set false = shS (k.val + 1) := by
  intro k
  match k with
  | ⟨0, _⟩ | ⟨1, _⟩ | ⟨2, _⟩ | ⟨3, _⟩ | ⟨4, _⟩ => rfl
theorem shK_at : ∀ k : Fin 5, (#[Value.string (ba [97]), .string (ba [98]), .string (ba [99]), .string (ba [100]), .string (ba [101])] : Array Value)[k.val]? = some (.string (shK.getD k.val (ba []))) := by
  intro k
  match k with
  | ⟨0, _⟩ | ⟨1, _⟩ | ⟨2, _⟩ | ⟨3, _⟩ | ⟨4, _⟩ => rfl
theorem shK_size : ∀ k : Fin 5, (shK.getD k.val (ba [])).size = 1 := by decide +kernel
theorem shM_c : shM 5 (ba [99]) = some 2 := by decide +kernel

set_option maxRecDepth 100000 in
set_option maxHeartbeats 2000000 in
theorem shown_any (w : World) : Calls Try.prog 9 #[] w fun e w' => e = .returned (.bool true) ∧ Below w.heap.size w w' := by
  go_enter Try.func9, Try.ntmps9
  go_wp2_with fail
  refine (new_is 7 _).mono ?_
  rintro e w1 ⟨p, rfl, h1, hb1⟩
  have hA : Alone w p 7 (fun _ => none) ⟨4, 0, 0, 0⟩ w1 := ⟨h1, hb1⟩
  have HA := Lib.hid hA
  clear h1 hb1 hA
  go_wp2
  have kB := Blk.new w1 9 #[.string (ba [97]), .string (ba [98]), .string (ba [99]), .string (ba [100]), .string (ba [101])]
  have hA2 := HA.out.later ((Below.refl _ _).alloc (Nat.le_refl _) (Obj.cells #[.string (ba [97]), .string (ba [98]), .string (ba [99]), .string (ba [100]), .string (ba [101])] 9))
  go_loopw [3] (fun i wr => ∃ k : Nat, i = .int .i64 k ∧ k ≤ 5 ∧ Alone w p 7 (shM k) (shS k) wr ∧ Blk wr w1.heap.size 9 #[.string (ba [97]), .string (ba [98]), .string (ba [99]), .string (ba [100]), .string (ba [101])]) (fun i _ => 5 - (intOf i).toNat)
  case atStart => exact ⟨0, rfl, by omega, hA2, kB⟩
  case round =>
    obtain ⟨k, rfl, hk, hA, hB⟩ := hrel
    by_cases hlt : k < 5
    · have c0 : wr.cell? ⟨w1.heap.size, k, none⟩ = some (.string (shK.getD k (ba []))) := by rw [hB.cell]; exact shK_at ⟨k, hlt⟩
      have hlt' : (k : Int) < 5 := by omega
      have hz := shK_size ⟨k, hlt⟩
      have hno := shM_none ⟨k, hlt⟩
      have hnx := shS_next ⟨k, hlt⟩
      have hn5 : (shS k).n ≤ 5 := by unfold shS; split <;> (simp only; omega)
      simp only at hz hno hnx
      have hS := set_is (by omega) hA.1 (by omega) (shK.getD k (ba [])) (by omega) k
      rw [hno] at hS
      rw [hnx] at hS
      have HS := Lib.hid hS
      have HAA := Lib.hid hA
      have HB := Lib.hid hB
      clear hS hA hB hz hno hnx kB hA2
      generalize hkk : shK.getD k (ba []) = kk at *
      have HKK := Lib.hid hkk
      clear hkk
      go_wp2_with fail
      refine HS.out.mono ?_
      rintro e w2 ⟨rfl, h2⟩
      have h3 := HAA.out.now h2
      have h4 := Alone.keep h2 HB.out (by decide)
      clear h2
      have H3 := Lib.hid h3
      clear h3
      go_wp2
      refine ⟨⟨k + 1, by go_num, by omega, ?_, h4⟩, by simp [intOf]; omega⟩
      show Alone w p 7 (putI (shM k) (shK.getD k (ba [])) k) _ w2
      rw [HKK.out]
      exact H3.out
    · obtain rfl : k = 5 := by omega
      have hSZ := sizes_is hA.1
      have HSZ := Lib.hid hSZ
      have HAA := Lib.hid hA
      clear hSZ hA hB kB hA2
      have e5 : shS 5 = ⟨4, 8, 0, 5⟩ := rfl
      rw [e5] at HSZ HAA
      go_wp2_with fail
      refine HSZ.out.mono ?_
      rintro e w2 ⟨rfl, hb2⟩
      have hA2 := HAA.out.later hb2
      have hG := get_is (by omega) hA2.1 (by decide) (ba [99]) (by decide)
      rw [shM_c] at hG
      have HG := Lib.hid hG
      have HA2 := Lib.hid hA2
      clear hG hA2 hb2
      go_wp2_with fail
      refine HG.out.mono ?_
      rintro e w3 ⟨rfl, h3⟩
      have hA3 := HA2.out.now h3
      have HL := Lib.hid (len_is hA3.1)
      have HA3 := Lib.hid hA3
      clear hA3 h3
      go_wp2_with fail
      refine HL.out.mono ?_
      rintro e w4 ⟨rfl, rfl⟩
      go_wp2
      go_ret
      exact ⟨rfl, HA3.out.2⟩
end Go.Proofs.Ytifbambalfifaaa
