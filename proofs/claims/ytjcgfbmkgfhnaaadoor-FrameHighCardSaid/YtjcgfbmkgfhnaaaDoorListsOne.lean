/- FrameLists: an array of one reply, and its bytes; an array of all. -/
import Derived.Test.YtjcgfbmkgfhnaaaDoorLists
import Derived.Test.YtjcgfbmkgfhnaaaDoorArray
namespace Go.Proofs.YtjcgfbmkgfhnaaaDoor
open Go.RowKit Go.Shelf

theorem fine_flat : ∀ (t : Fo) (h h' : Int), (∀ x ∈ t.bare.flat h', fine x) → ∀ x ∈ t.flat h, fine x
  | .nil, _, _, _, x, hx => by simp [Fo.flat] at hx
  | .cons k n s a cap sub rest, h, h', hf, x, hx => by
    simp only [Fo.bare, Fo.flat_cons, Fo.len_bare] at hf
    rw [Fo.flat_cons] at hx
    rcases List.mem_cons.1 hx with rfl | hx
    · exact hf ⟨h', k, n, s, none, sub.len, 0⟩ (List.mem_cons_self ..)
    · rcases List.mem_append.1 hx with hx | hx
      · exact fine_flat sub (h + 1) (h' + 1) (fun y hy => hf y (List.mem_cons_of_mem _ (List.mem_append_left _ hy))) x hx
      · exact fine_flat rest h h' (fun y hy => hf y (List.mem_cons_of_mem _ (List.mem_append_right _ hy))) x hx
theorem most3 : most 3 = 219661 := by decide

def OnePost (T : Nat → Int) (e : Fo) (w : World) (n : Nat) (hd : List UInt8) (e' : Ending) (w' : World) : Prop :=
  ∃ a7 cap7, e' = .returned (.agg #[.int .i64 6, .int .i64 0, .string ⟨#[]⟩, .slice a7 n cap7]) ∧ Below w.heap.size w w' ∧
    Calls Tryd.prog 10 #[.agg #[.int .i64 6, .int .i64 0, .string ⟨#[]⟩, .slice a7 n cap7]] w' fun e'' w'' => ∃ B : ByteArray, e'' = .returned (.tuple #[.string B, .int .i64 (if rightL (e.flat 1) = true then 0 else 30)]) ∧ B.size ≤ 130000000000 ∧
      (rightL (e.flat 1) = true → B.data.toList = hd ++ encE (dgT T) (e.flat 1)) ∧ (rightL (e.flat 1) = false → B = ⟨#[]⟩) ∧ Below w'.heap.size w' w''

theorem all_encoded (T : Nat → Int) (e : Fo) (n : Nat) (hn : e.len = n) (hn2 : n ≤ 60) (w : World) (a : Option Addr) (cap : Nat) (hf : IsFo anyB w a e) (hfine : ∀ x ∈ e.flat 1, fine x) (hcnt : (e.flat 1).length ≤ 20 * most 3) (hdep : e.depth ≤ 5) (hT : Tab T w) (h3 : 3 < w.heap.size) :
    Calls Tryd.prog 19 #[.slice a n cap] w (OnePost T e w n (42 :: ((dgT T n).data.toList ++ [13, 10]))) := by
  have h := array_any a cap e w hf (by omega)
  rw [hn] at h
  refine h.mono fun e' w' hp => ?_
  obtain ⟨a7, cap7, t7, rfl, hb7, hf7, hbw⟩ := hp
  have hl7 : t7.len = n := by rw [← hn]; exact Fo.len_of_bare hb7
  have hd7 : t7.depth ≤ 5 := by rw [Fo.depth_of_bare hb7]; exact hdep
  rw [hn]
  refine ⟨a7, cap7, rfl, hbw, ?_⟩
  have hh : headS ⟨0, 6, 0, noTxt, a7, n, cap7⟩ = .count n := by
    unfold headS
    simp [noTxt]
  have hfl : ∀ x ∈ t7.flat (0 + 1), fine x := fine_flat t7 _ 1 (fun x hx => by
    rw [hb7] at hx
    have key : ∀ (t : Fo) (h : Int), (∀ x ∈ t.flat h, fine x) → ∀ x ∈ t.bare.flat h, fine x := by
      intro t
      induction t with
      | nil => intro h _ x hx; simp [Fo.bare, Fo.flat] at hx
      | cons k n s a cap sub rest ih1 ih2 =>
        intro h hf x hx
        simp only [Fo.bare, Fo.flat_cons, Fo.len_bare] at hx
        rw [Fo.flat_cons] at hf
        rcases List.mem_cons.1 hx with rfl | hx
        · exact hf ⟨h, k, n, s, a, sub.len, cap⟩ (List.mem_cons_self ..)
        · rcases List.mem_append.1 hx with hx | hx
          · exact ih1 (h + 1) (fun y hy => hf y (List.mem_cons_of_mem _ (List.mem_append_left _ hy))) x hx
          · exact ih2 h (fun y hy => hf y (List.mem_cons_of_mem _ (List.mem_append_right _ hy))) x hx
    exact key e 1 hfine x hx)
  have hfa : ∀ x ∈ (Fo.cons 6 0 noTxt a7 cap7 t7 .nil).flat 0, fine x := fun x hx => by
    rw [Fo.flat_cons, Fo.flat_nil, List.append_nil] at hx
    rcases List.mem_cons.1 hx with rfl | hx
    · exact ⟨by show i64Q 0; unfold i64Q; omega, by show 0 ≤ 610; omega, by show t7.len ≤ 60; omega⟩
    · exact hfl x hx
  have hca : ((Fo.cons 6 0 noTxt a7 cap7 t7 .nil).flat 0).length ≤ 100000000 := by
    rw [Fo.flat_cons, Fo.flat_nil, List.append_nil, List.length_cons, count_flat t7 (0 + 1) 1, hb7, ← count_flat e 1 1]
    rw [most3] at hcnt
    omega
  have hr7 : rightL (t7.flat (0 + 1)) = rightL (e.flat 1) := by rw [right_flat t7, right_flat e, hb7]; rfl
  have hrs : rightS (.cons 6 0 noTxt a7 cap7 t7 .nil) = rightL (e.flat 1) := by
    unfold rightS
    rw [Fo.flat_cons, Fo.flat_nil, List.append_nil, ← hr7]
    unfold rightL
    rw [List.all_cons, hl7, hh]
    have : fitsS (.count n) 0 = true := by
      unfold fitsS
      simp
      omega
    show (fitsS (.count n) 0 && _) = _
    rw [this, Bool.true_and]
  have hen : encE (dgT T) ((Fo.cons 6 0 noTxt a7 cap7 t7 .nil).flat 0) = (42 :: ((dgT T n).data.toList ++ [13, 10])) ++ encE (dgT T) (e.flat 1) := by
    rw [Fo.flat_cons, Fo.flat_nil, List.append_nil]
    have h1 : encE (dgT T) (t7.flat (0 + 1)) = encE (dgT T) (e.flat 1) := by rw [enc_flat (dgT T) t7 (0 + 1) 1, enc_flat (dgT T) e 1 1, hb7]
    unfold encE at h1 ⊢
    rw [List.flatMap_cons, h1, hl7]
    congr 1
    unfold encX
    rw [hh]
    show 42 :: ((dgT T n).data.toList ++ ([13, 10] ++ [])) = _
    rw [List.append_nil]
  have h2 := encoded T 6 0 noTxt a7 cap7 t7 w' hf7.any (by omega) hfa (by omega) (hT.below hbw h3) (Nat.lt_of_lt_of_le h3 hbw.size)
  rw [hl7, hrs] at h2
  refine h2.mono fun e'' w'' hp => ?_
  obtain ⟨rfl, hb⟩ := hp
  refine ⟨_, rfl, encR_size T hfa hca, fun hr => ?_, fun hr => ?_, hb⟩
  · unfold encR
    rw [hrs, if_pos hr]
    exact hen
  · unfold encR
    rw [hrs, if_neg (by rw [hr]; decide)]
end Go.Proofs.YtjcgfbmkgfhnaaaDoor
