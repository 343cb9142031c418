/- A list of replies as an argument hands it in, as deep and as far as it is looked at. -/
import Derived.Test.YtjcgfbmkgfhnaaaDoorCopies
import Derived.Deep.Slices
import Derived.Deep.SlicePairs
import Derived.Lib.SmallJoins
namespace Go.Proofs.YtjcgfbmkgfhnaaaDoor
open Go.RowKit Go.Shelf Go.ChangeShapes Go.WideShapes

def i64Q (n : Int) : Prop := -9223372036854775808 ≤ n ∧ n ≤ 9223372036854775807

/-- The first six hundred and ten bytes. -/
def cutT (s : Txt) : Txt := ⟨s.1.extract 0 (min s.1.size 610), by have := s.2; simp; omega⟩

/-- How many of a list are looked at. -/
def seen (h n : Nat) : Nat := if h = 0 then 0 else min n 60

/-- From (g, o) on lie the replies, as many as are seen, of which this list is what is made. -/
def SrcL (W : World) : Fo → Nat → Nat → Nat → Nat → Prop
  | .nil, _, _, _, m => m = 0
  | .cons k n s a cap sub rest, h, g, o, m => a = none ∧ cap = 0 ∧ i64Q n ∧ (∃ (s0 : Txt) (a' : Option Addr) (n' cap' : Nat),
      W.cell? ⟨g, o, none⟩ = some (.int .i64 k) ∧ W.cell? ⟨g, o + 1, none⟩ = some (.int .i64 n) ∧ W.cell? ⟨g, o + 2, none⟩ = some (.string s0.1) ∧ W.cell? ⟨g, o + 3, none⟩ = some (.slice a' n' cap') ∧
      s = cutT s0 ∧ n' ≤ cap' ∧ cap' ≤ maxLen ∧ ∃ g' o', (seen h n' ≠ 0 → a' = some ⟨g', o', none⟩) ∧ SrcL W sub (h - 1) g' o' (seen h n')) ∧
      ∃ m', m = m' + 1 ∧ SrcL W rest h g (o + 4) m'

theorem i64_of_wf' {n : Int} (h : (Lit.int .i64 n).wf = true) : i64Q n := by
  unfold i64Q
  have h1 : IntKind.i64.min = -9223372036854775808 := by decide
  simp [Lit.wf] at h
  omega

theorem SrcL.below {A B : World} (hb : Below A.heap.size A B) : ∀ {t : Fo} {h g o m : Nat}, SrcL A t h g o m → SrcL B t h g o m
  | .nil, _, _, _, _, hs => hs
  | .cons _ _ _ _ _ _ _, _, g, o, _, ⟨h1, h2, hn, ⟨s0, a', n', cap', c0, c1, c2, c3, hs, hc1, hc2, g', o', ha, hsub⟩, m', hm, hr⟩ => by
    have hl := World.block_lt_of_cell? _ _ c0
    exact ⟨h1, h2, hn, ⟨s0, a', n', cap', (hb.cell hl).trans c0, (hb.cell (p := ⟨g, o + 1, none⟩) hl).trans c1, (hb.cell (p := ⟨g, o + 2, none⟩) hl).trans c2, (hb.cell (p := ⟨g, o + 3, none⟩) hl).trans c3, hs, hc1, hc2, g', o', ha, SrcL.below hb hsub⟩, m', hm, SrcL.below hb hr⟩

theorem SrcL.len {W : World} : ∀ {t : Fo} {h g o m : Nat}, SrcL W t h g o m → t.len = m
  | .nil, _, _, _, _, hs => hs.symm
  | .cons _ _ _ _ _ _ _, _, _, _, _, ⟨_, _, _, _, m', hm, hr⟩ => by rw [Fo.len_cons, SrcL.len hr, hm]
theorem seen_le (h n : Nat) : seen h n ≤ 60 := by unfold seen; split <;> omega
theorem SrcL.depth {W : World} : ∀ {t : Fo} {h g o m : Nat}, SrcL W t h g o m → t.depth ≤ h + 1
  | .nil, _, _, _, _, _ => Nat.zero_le _
  | .cons _ _ _ _ _ sub rest, h, _, _, _, ⟨_, _, _, ⟨s0, a', n', cap', c0, c1, c2, c3, hs, _, _, g', o', ha, hsub⟩, m', hm, hr⟩ => by
    have h1 := SrcL.depth hr
    have h2 := SrcL.depth hsub
    show max (sub.depth + 1) rest.depth ≤ h + 1
    by_cases h0 : h = 0
    · subst h0
      have : seen 0 n' = 0 := rfl
      rw [this] at hsub
      have : sub = .nil := Fo.eq_nil (SrcL.len hsub)
      subst this
      simp only [Fo.depth]
      omega
    · omega
theorem SrcL.bare {W : World} : ∀ {t : Fo} {h g o m : Nat}, SrcL W t h g o m → t.bare = t
  | .nil, _, _, _, _, _ => rfl
  | .cons _ _ _ _ _ _ _, _, _, _, _, ⟨h1, h2, _, ⟨s0, a', n', cap', c0, c1, c2, c3, hs, _, _, g', o', ha, hsub⟩, m', hm, hr⟩ => by
    subst h1 h2
    simp only [Fo.bare, SrcL.bare hsub, SrcL.bare hr]

theorem list4 {α : Type} {cs : List α} (h : cs.length = 4) : ∃ c0 c1 c2 c3, cs = [c0, c1, c2, c3] := by
  match cs, h with
  | [c0, c1, c2, c3], _ => exact ⟨c0, c1, c2, c3, rfl⟩
theorem cells9' : Tryd.prog.cellsOf 9 = 1 := by kernel_rfl
theorem cells2' : Tryd.prog.cellsOf 2 = 1 := by kernel_rfl
theorem cells3' : Tryd.prog.cellsOf 3 = 1 := by kernel_rfl
theorem cells22' : Tryd.prog.cellsOf 22 = 1 := by kernel_rfl
theorem cells24' : Tryd.prog.cellsOf 24 = 4 := by kernel_rfl

theorem src_open {H : Type} {enc : TypeId × Value → H} {W : World} : ∀ (h : Nat) {fuel : Nat} {a : Option Addr} {n cap : Nat} {x : DataW H × List MemPlace}, DataW.trod enc Tryd.prog W 0 (fun _ => true) true fuel 22 [.slice a n cap] = some x →
    n ≤ cap ∧ cap ≤ maxLen ∧ ∃ t g o, (seen h n ≠ 0 → a = some ⟨g, o, none⟩) ∧ SrcL W t (h - 1) g o (seen h n) := by
  intro h
  induction h with
  | zero =>
    intro fuel a n cap x hx
    refine ⟨?_, ?_, .nil, 0, 0, fun e => absurd rfl e, rfl⟩
    all_goals
      rcases Go.Deep.open_slice Tryd.underlying22 hx with ⟨hcs, _⟩ | ⟨a', len', cap', m, q, D, Pl, hcs, _, hl, hm, _, _, _⟩
      · simp at hcs; omega
      · simp at hcs; omega
  | succ h ih =>
    intro fuel a n cap x hx
    rcases Go.Deep.open_slice Tryd.underlying22 hx with ⟨hcs, _⟩ | ⟨a', len', cap', m, q, D, Pl, hcs, _, hl, hm, hmm, _, hcell⟩
    · simp at hcs
      obtain ⟨rfl, rfl, rfl⟩ := hcs
      exact ⟨Nat.le_refl _, by unfold maxLen; omega, .nil, 0, 0, fun e => absurd (by simp [seen]) e, by simp [seen, SrcL]⟩
    · simp at hcs
      obtain ⟨rfl, rfl, rfl⟩ := hcs
      simp only [if_true] at hmm
      rw [cells24'] at hcell
      obtain ⟨b, off, spot⟩ := a'
      refine ⟨hl, hm, ?_⟩
      have hs60 : seen (h + 1) n = min n 60 := rfl
      rw [hs60, Nat.add_sub_cancel]
      have each : ∀ i, i < n → ∃ (k nn : Int) (s0 : Txt) (a1 : Option Addr) (n1 cap1 : Nat) (y3 : DataW H × List MemPlace) (f : Nat), spot = none ∧ i64Q nn ∧
          W.cell? ⟨b, off + i * 4, none⟩ = some (.int .i64 k) ∧ W.cell? ⟨b, off + i * 4 + 1, none⟩ = some (.int .i64 nn) ∧ W.cell? ⟨b, off + i * 4 + 2, none⟩ = some (.string s0.1) ∧ W.cell? ⟨b, off + i * 4 + 3, none⟩ = some (.slice a1 n1 cap1) ∧
          DataW.trod enc Tryd.prog W 0 (fun _ => true) true f 22 [.slice a1 n1 cap1] = some y3 := by
        intro i hi
        obtain ⟨cs, h1, h2⟩ := hcell i (by omega)
        obtain ⟨_, hlen, hcc⟩ := World.cells?_some h1
        obtain ⟨y0, y1, y2, y3, f, _, _, g0, g1, g2, g3⟩ := Go.Joins.trod_struct4 Tryd.underlying24 h2
        obtain ⟨v0, v1, v2, v3, rfl⟩ := list4 hlen
        simp [cells3', cells2', cells9', cells22'] at g0 g1 g2 g3
        have e0 := hcc 0 (by omega)
        have e1 := hcc 1 (by omega)
        have e2 := hcc 2 (by omega)
        have e3 := hcc 3 (by omega)
        obtain ⟨k, hk, _, _⟩ := DataW.trod_int Tryd.underlying3 g0
        obtain ⟨nn, hnn, _, hw⟩ := DataW.trod_int Tryd.underlying2 g1
        obtain ⟨s0, hs0, _, hz⟩ := DataW.trod_string Tryd.underlying9 g2
        obtain ⟨a1, n1, cap1, hv3⟩ : ∃ a1 n1 cap1, v3 = .slice a1 n1 cap1 := by
          rcases Go.Deep.open_slice Tryd.underlying22 g3 with ⟨hq, _⟩ | ⟨a'', len'', cap'', _, _, _, _, hq, _⟩
          · exact ⟨_, _, _, by simpa using hq⟩
          · exact ⟨_, _, _, by simpa using hq⟩
        simp only [List.cons.injEq, and_true] at hk hnn hs0
        subst hk hnn hs0 hv3
        have hspot : spot = none := by
          obtain ⟨cs0, h10, _⟩ := hcell 0 (by omega)
          obtain ⟨_, hlen0, hcc0⟩ := World.cells?_some h10
          obtain ⟨u0, u1, u2, u3, rfl⟩ := list4 hlen0
          have hu : W.cell? ((({ block := b, off := off, spot := spot } : Addr).add (0 * 4)).add 0) = some u0 := hcc0 0 (by omega)
          simpa [Addr.add] using World.cell?_spot hu
        subst hspot
        refine ⟨k, nn, ⟨s0, hz⟩, a1, n1, cap1, y3, f, rfl, i64_of_wf' hw, ?_, ?_, ?_, ?_, g3⟩
        · simpa [Addr.add_lit] using e0
        · simpa [Addr.add_lit, Nat.add_assoc] using e1
        · simpa [Addr.add_lit, Nat.add_assoc] using e2
        · simpa [Addr.add_lit, Nat.add_assoc] using e3
      have main : ∀ c j, j + c = min n 60 → ∃ t, SrcL W t h b (off + j * 4) c := by
        intro c
        induction c with
        | zero => intro j _; exact ⟨.nil, rfl⟩
        | succ c ihc =>
          intro j hj
          obtain ⟨rest, hr⟩ := ihc (j + 1) (by omega)
          obtain ⟨k, nn, s0, a1, n1, cap1, y3, f, _, hq, c0, c1, c2, c3, hy⟩ := each j (by omega)
          obtain ⟨hl1, hm1, sub, g', o', ha, hsub⟩ := ih hy
          rw [show off + (j + 1) * 4 = off + j * 4 + 4 by omega] at hr
          exact ⟨.cons k nn (cutT s0) none 0 sub rest, rfl, rfl, hq, ⟨s0, a1, n1, cap1, c0, c1, c2, c3, rfl, hl1, hm1, g', o', ha, hsub⟩, c, rfl, hr⟩
      obtain ⟨t, ht⟩ := main (min n 60) 0 (by omega)
      refine ⟨t, b, off, fun e => ?_, by simpa using ht⟩
      obtain ⟨_, _, _, _, _, _, _, _, hsp, _⟩ := each 0 (by omega)
      rw [hsp]
end Go.Proofs.YtjcgfbmkgfhnaaaDoor
