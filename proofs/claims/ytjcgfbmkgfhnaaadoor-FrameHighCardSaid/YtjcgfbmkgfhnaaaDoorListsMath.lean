/- FrameLists: what is written of lists of replies, as plain lists. -/
import Derived.Test.YtjcgfbmkgfhnaaaDoorSrc
import Derived.Test.YtjcgfbmkgfhnaaaDoorEncNo
namespace Go.Proofs.YtjcgfbmkgfhnaaaDoor
open Go.RowKit Go.Shelf

theorem enc_flat (dg : Int → ByteArray) : ∀ (t : Fo) (h h' : Int), encE dg (t.flat h) = encE dg (t.bare.flat h')
  | .nil, _, _ => rfl
  | .cons k n s a cap sub rest, h, h' => by
    have e1 := enc_flat dg sub (h + 1) (h' + 1)
    have e2 := enc_flat dg rest h h'
    unfold encE at e1 e2
    simp only [Fo.bare, Fo.flat_cons, encE, List.flatMap_cons, List.flatMap_append, Fo.len_bare, e1, e2]
    rfl
theorem right_flat : ∀ (t : Fo) (h : Int), rightL (t.flat h) = rightL (t.bare.flat h)
  | .nil, _ => rfl
  | .cons k n s a cap sub rest, h => by
    have e1 := right_flat sub (h + 1)
    have e2 := right_flat rest h
    unfold rightL at e1 e2
    simp only [Fo.bare, Fo.flat_cons, rightL, List.all_cons, List.all_append, Fo.len_bare, e1, e2]
    rfl
theorem count_flat : ∀ (t : Fo) (h h' : Int), (t.flat h).length = (t.bare.flat h').length
  | .nil, _, _ => rfl
  | .cons k n s a cap sub rest, h, h' => by
    simp only [Fo.bare, Fo.flat_cons, List.length_cons, List.length_append, count_flat sub (h + 1) (h' + 1), count_flat rest h h']
theorem flat_append : ∀ (t u : Fo) (h : Int), (t.append u).flat h = t.flat h ++ u.flat h
  | .nil, _, _ => rfl
  | .cons k n s a cap sub rest, u, h => by
    simp only [Fo.append, Fo.flat_cons, flat_append rest u h, List.cons_append, List.append_assoc]
/-- Small numbers, lengths and counts. -/
def fine (x : El) : Prop := i64Q x.n ∧ x.s.1.size ≤ 610 ∧ x.len ≤ 60
theorem cutT_size (s : Txt) : (cutT s).1.size ≤ 610 := by unfold cutT; simp; omega
theorem src_fine {W : World} : ∀ {t : Fo} {h g o m : Nat}, SrcL W t h g o m → ∀ (q : Int), ∀ x ∈ t.flat q, fine x
  | .nil, _, _, _, _, _, _, x, hx => by simp [Fo.flat] at hx
  | .cons _ _ _ _ _ sub rest, h, _, _, _, ⟨_, _, hn, ⟨s0, _, n', _, _, _, _, _, hs, _, _, _, _, _, hsub⟩, _, _, hr⟩, q, x, hx => by
    rw [Fo.flat_cons] at hx
    rcases List.mem_cons.1 hx with rfl | hx
    · refine ⟨hn, by rw [hs]; exact cutT_size s0, ?_⟩
      show sub.len ≤ 60
      rw [SrcL.len hsub]; exact seen_le _ _
    · rcases List.mem_append.1 hx with hx | hx
      · exact src_fine hsub _ x hx
      · exact src_fine hr _ x hx
/-- How many replies there are at most. -/
def most : Nat → Nat
  | 0 => 1
  | h + 1 => 1 + 60 * most h
theorem src_count {W : World} : ∀ {t : Fo} {h g o m : Nat}, SrcL W t h g o m → ∀ q : Int, (t.flat q).length ≤ m * most h
  | .nil, _, _, _, _, _, _ => by simp [Fo.flat]
  | .cons _ _ _ _ _ sub rest, h, _, _, _, ⟨_, _, _, ⟨_, _, n', _, _, _, _, _, _, _, _, _, _, _, hsub⟩, m', hm, hr⟩, q => by
    have h1 := src_count hsub (q + 1)
    have h2 := src_count hr q
    rw [Fo.flat_cons, List.length_cons, List.length_append, hm, Nat.add_mul, Nat.one_mul]
    have h3 : seen h n' * most (h - 1) + 1 ≤ most h := by
      cases h with
      | zero => show seen 0 n' * _ + 1 ≤ 1; rw [show seen 0 n' = 0 from rfl]; omega
      | succ h =>
        have := seen_le (h + 1) n'
        have h4 : seen (h + 1) n' * most h ≤ 60 * most h := Nat.mul_le_mul_right _ this
        show seen (h + 1) n' * most h + 1 ≤ 1 + 60 * most h
        omega
    omega
end Go.Proofs.YtjcgfbmkgfhnaaaDoor
