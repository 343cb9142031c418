/- Arrays within each other: what is right, and their bytes. -/
import Derived.Test.YtjcgfbmkgfhnaaaDoorListsOne
import Derived.Test.YtjcgfbmkgfhnaaaDoorHighRep
namespace Go.Proofs.YtjcgfbmkgfhnaaaDoor
open Go.RowKit Go.Shelf

/-- A five, in so many arrays. -/
def nest : Nat → Fo
  | 0 => .cons 3 5 noTxt none 0 .nil .nil
  | i + 1 => .cons 6 0 noTxt none 0 (nest i) .nil
theorem nest_len (i : Nat) : (nest i).len = 1 := by cases i <;> rfl
theorem nest_bare (i : Nat) : (nest i).bare = nest i := by
  induction i with
  | zero => rfl
  | succ i ih => simp only [nest, Fo.bare, ih]
theorem nest_depth (i : Nat) : (nest i).depth = i + 1 := by
  induction i with
  | zero => rfl
  | succ i ih => simp only [nest, Fo.depth, ih]; omega
theorem nest_right (i : Nat) (h : i ≤ 8) : rightS (nest i) = decide (i ≤ 4) := by
  have key : ∀ k : Fin 9, rightS (nest k.1) = decide (k.1 ≤ 4) := by decide +kernel
  exact key ⟨i, by omega⟩
theorem head_one (h : Int) : headS ⟨h, 6, 0, noTxt, none, 1, 0⟩ = .count 1 := by
  unfold headS
  simp [noTxt]
theorem head_five (h : Int) : headS ⟨h, 3, 5, noTxt, none, 0, 0⟩ = .number 5 := by
  unfold headS
  simp [noTxt]
theorem dg_five (T : Nat → Int) : (dgT T 5).data.toList = [53] := by
  rw [show (5 : Int) = ((5 : Nat) : Int) from rfl, dgT_small T 5 (by decide)]
  decide +kernel
theorem nest_enc (T : Nat → Int) : ∀ (i : Nat) (h : Int), encE (dgT T) ((nest i).flat h) = towL i
  | 0, h => by
    have hx : encX (dgT T) ⟨h, 3, 5, noTxt, none, 0, 0⟩ = [58, 53, 13, 10] := by
      unfold encX
      rw [head_five]
      show 58 :: ((dgT T 5).data.toList ++ ([13, 10] ++ [])) = _
      rw [dg_five]
      rfl
    show [⟨h, 3, 5, noTxt, none, 0, 0⟩].flatMap (encX (dgT T)) = _
    rw [List.flatMap_singleton, hx]
    rfl
  | i + 1, h => by
    have hx : encX (dgT T) ⟨h, 6, 0, noTxt, none, 1, 0⟩ = [42, 49, 13, 10] := by
      unfold encX
      rw [head_one]
      show 42 :: ((dgT T 1).data.toList ++ ([13, 10] ++ [])) = _
      rw [dg_one]
      rfl
    have ih := nest_enc T i (h + 1)
    unfold encE at ih
    simp only [nest, Fo.flat_cons, Fo.flat_nil, List.append_nil, encE, List.flatMap_cons, nest_len, hx, ih, towL]
    rfl
theorem nest_fine : ∀ (i : Nat) (h : Int), ∀ x ∈ (nest i).flat h, fine x
  | 0, h, x, hx => by
    have hx' : x ∈ [(⟨h, 3, 5, noTxt, none, 0, 0⟩ : El)] := hx
    rw [List.mem_singleton] at hx'
    subst hx'
    exact ⟨by show i64Q 5; unfold i64Q; omega, by show 0 ≤ 610; omega, by show 0 ≤ 60; omega⟩
  | i + 1, h, x, hx => by
    simp only [nest, Fo.flat_cons, Fo.flat_nil, List.append_nil] at hx
    rcases List.mem_cons.1 hx with rfl | hx
    · exact ⟨by show i64Q 0; unfold i64Q; omega, by show 0 ≤ 610; omega, by show (nest i).len ≤ 60; rw [nest_len]; omega⟩
    · exact nest_fine i (h + 1) x hx
theorem nest_count : ∀ (i : Nat) (h : Int), ((nest i).flat h).length = i + 1
  | 0, h => rfl
  | i + 1, h => by simp only [nest, Fo.flat_cons, Fo.flat_nil, List.append_nil, List.length_cons, nest_count i (h + 1)]

variable {aM aW : Addr} {m : Int}
/-- A reply that is such a tower. -/
structure TowAt (lo : Nat) (W : World) (i : Nat) (k n : Int) (a : Option Addr) (cap : Nat) (sub : Fo) : Prop where
  at' : IsFo (lo ≤ ·) W a sub
  bare : (Fo.cons k n noTxt a cap sub .nil).bare = nest i
theorem TowAt.later {lo : Nat} {W W' : World} {i : Nat} {k n : Int} {a : Option Addr} {cap : Nat} {sub : Fo} (h : TowAt lo W i k n a cap sub) (hb : Below W.heap.size W W') : TowAt lo W' i k n a cap sub := ⟨h.at'.same (Same24.of_below hb), h.bare⟩
theorem TowAt.depth {lo : Nat} {W : World} {i : Nat} {k n : Int} {a : Option Addr} {cap : Nat} {sub : Fo} (h : TowAt lo W i k n a cap sub) : sub.depth ≤ i := by
  have h1 := Fo.depth_bare (.cons k n noTxt a cap sub .nil)
  rw [h.bare, nest_depth] at h1
  simp only [Fo.depth] at h1
  omega
theorem tow_zero (lo : Nat) (W : World) : TowAt lo W 0 3 5 none 0 .nil := ⟨IsFo.nil _ _ _, rfl⟩
theorem tow_right {lo : Nat} {W : World} {i : Nat} {k n : Int} {a : Option Addr} {cap : Nat} {sub : Fo} (h : TowAt lo W i k n a cap sub) (hi : i ≤ 8) :
    Calls Tryd.prog 20 #[.agg #[.int .i64 k, .int .i64 n, .string ⟨#[]⟩, .slice a sub.len cap]] W fun e w' => e = .returned (.bool (decide (i ≤ 4))) ∧ Below W.heap.size W w' := by
  have h1 := right_any k n noTxt a cap sub W h.at'.any (by have := h.depth; omega)
  have h2 : rightS (.cons k n noTxt a cap sub .nil) = decide (i ≤ 4) := by
    unfold rightS
    rw [right_flat, h.bare]
    exact nest_right i hi
  rw [h2] at h1
  exact h1
theorem tow_encode {lo : Nat} {W : World} {i : Nat} {k n : Int} {a : Option Addr} {cap : Nat} {sub : Fo} (T : Nat → Int) (h : TowAt lo W i k n a cap sub) (hi : i ≤ 8) (hT : Tab T W) (h3 : 3 < W.heap.size) :
    Calls Tryd.prog 10 #[.agg #[.int .i64 k, .int .i64 n, .string ⟨#[]⟩, .slice a sub.len cap]] W fun e w' => e = .returned (.tuple #[.string (if i ≤ 4 then tow i else ⟨#[]⟩), .int .i64 (if i ≤ 4 then 0 else 30)]) ∧ Below W.heap.size W w' := by
  have hfine : ∀ x ∈ (Fo.cons k n noTxt a cap sub .nil).flat 0, fine x := fine_flat _ 0 0 (by rw [h.bare]; exact nest_fine i 0)
  have hcnt : ((Fo.cons k n noTxt a cap sub .nil).flat 0).length ≤ 1000000000 := by
    rw [count_flat _ 0 0, h.bare, nest_count]; omega
  have h1 := encoded T k n noTxt a cap sub W h.at'.any (by have := h.depth; omega) hfine hcnt hT h3
  have h2 : rightS (.cons k n noTxt a cap sub .nil) = decide (i ≤ 4) := by
    unfold rightS
    rw [right_flat, h.bare]
    exact nest_right i hi
  unfold encR at h1
  rw [h2, enc_flat (dgT T) _ 0 0, h.bare, nest_enc] at h1
  by_cases h4 : i ≤ 4
  · rw [decide_eq_true h4, if_pos rfl, if_pos rfl] at h1
    rw [if_pos h4, if_pos h4]
    exact h1
  · rw [decide_eq_false h4, if_neg (by decide), if_neg (by decide)] at h1
    rw [if_neg h4, if_neg h4]
    exact h1
theorem tow_array {lo : Nat} {W : World} {i : Nat} {k n : Int} {a : Option Addr} {cap : Nat} {sub : Fo} (h : TowAt lo W i k n a cap sub) (hi : i ≤ 8) :
    Calls Tryd.prog 19 #[.slice (some ⟨W.heap.size, 0, none⟩) 1 1] (W.alloc (.cells #[.int .i64 k, .int .i64 n, .string ⟨#[]⟩, .slice a sub.len cap] 24)) fun e w' =>
      ∃ a' cap' t', e = .returned (.agg #[.int .i64 6, .int .i64 0, .string ⟨#[]⟩, .slice a' 1 cap']) ∧ TowAt (W.heap.size + 1) w' (i + 1) 6 0 a' cap' t' ∧ t'.len = 1 ∧ Below W.heap.size W w' := by
  have hb : Below W.heap.size W (W.alloc (.cells #[.int .i64 k, .int .i64 n, .string ⟨#[]⟩, .slice a sub.len cap] 24)) := (Below.refl _ _).alloc (Nat.le_refl _) _
  have hf : IsFo anyB (W.alloc (.cells #[.int .i64 k, .int .i64 n, .string ⟨#[]⟩, .slice a sub.len cap] 24)) (some ⟨W.heap.size, 0, none⟩) (.cons k n noTxt a cap sub .nil) :=
    ⟨by simp [Fo.len], W.heap.size, 0, fun _ => ⟨rfl, trivial⟩, ⟨⟨_, heap_alloc_new _ _, rfl, rfl, rfl, rfl⟩, h.at'.any.same (Same24.of_below hb), trivial⟩⟩
  have hd := h.depth
  have hA := array_any (some ⟨W.heap.size, 0, none⟩) 1 (.cons k n noTxt a cap sub .nil) _ hf (by simp only [Fo.depth]; omega)
  refine hA.mono ?_
  rintro e w' ⟨a', cap', t', rfl, hbare, hf', hb'⟩
  have hl : t'.len = 1 := Fo.len_of_bare hbare
  refine ⟨a', cap', t', rfl, ⟨by simpa using hf', ?_⟩, hl, hb.trans (hb'.mono hb.size)⟩
  simp only [Fo.bare, nest, hbare]
  rw [← h.bare]
  rfl
theorem TowAt.keep {lo : Nat} {A B : World} {i : Nat} {k n : Int} {a : Option Addr} {cap : Nat} {sub : Fo} (h : TowAt lo A i k n a cap sub) (hk : ∀ j, lo ≤ j → j < A.heap.size → B.heap[j]? = A.heap[j]?) : TowAt lo B i k n a cap sub := ⟨h.at'.keep (B := B) fun j hok hj => hk j hok hj, h.bare⟩
theorem TowAt.weaken {lo lo' : Nat} {W : World} {i : Nat} {k n : Int} {a : Option Addr} {cap : Nat} {sub : Fo} (h : TowAt lo W i k n a cap sub) (hl : lo' ≤ lo) : TowAt lo' W i k n a cap sub := ⟨h.at'.weaken fun _ _ hok => Nat.le_trans hl hok, h.bare⟩
theorem tow_add (i : Nat) : (⟨#[42, 49, 13, 10]⟩ : ByteArray) ++ tow i = tow (i + 1) := by
  apply ByteArray.ext
  rw [ByteArray.data_append]
  apply Array.ext'
  rw [Array.toList_append]
  rfl
end Go.Proofs.YtjcgfbmkgfhnaaaDoor
