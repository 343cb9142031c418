/- FrameKinds. -/
import Derived.Test.YtjcgfbmkgfhnaaaDoorShown
import Derived.Test.YtjcgfbmkgfhnaaaDoorLex
namespace Go.Proofs.YtjcgfbmkgfhnaaaDoor
open Go.RowKit Go.Shelf
attribute [local go_sem] Oper.semAt_some

/-- So many numbers. -/
def reps (n : Int) : Nat → Fo
  | 0 => .nil
  | j + 1 => .cons 3 n noTxt none 0 .nil (reps n j)
theorem reps_len (n : Int) : ∀ j, (reps n j).len = j
  | 0 => rfl
  | j + 1 => by rw [reps, Fo.len, reps_len n j]
theorem reps_snoc (n : Int) : ∀ j, (reps n (j + 1)).cellsL = (reps n j).cellsL ++ [.int .i64 3, .int .i64 n, .string ⟨#[]⟩, .slice none 0 0]
  | 0 => rfl
  | j + 1 => by
    have h := reps_snoc n j
    rw [show reps n (j + 1 + 1) = .cons 3 n noTxt none 0 .nil (reps n (j + 1)) from rfl, Fo.cellsL]
    conv => lhs; rw [h]
    rfl
theorem reps_all (n : Int) (C : Option Addr → Fo → Prop) (h : C none .nil) : ∀ j, (reps n j).All C
  | 0 => trivial
  | j + 1 => ⟨h, reps_all n C h j⟩
theorem reps_bare (n : Int) : ∀ j, (reps n j).bare = reps n j
  | 0 => rfl
  | j + 1 => by rw [reps, Fo.bare, reps_bare n j]; rfl
theorem reps_depth (n : Int) : ∀ j, (reps n j).depth ≤ 1
  | 0 => by simp [reps, Fo.depth]
  | j + 1 => by have := reps_depth n j; simp only [reps, Fo.depth]; omega
theorem reps_flat {n h : Int} : ∀ {j : Nat} {t : Fo}, t.bare = reps n j → ∀ x ∈ t.flat h, ∃ a c, x = ⟨h, 3, n, noTxt, a, 0, c⟩
  | 0, t, e, x, hx => by rw [bare_nil e] at hx; cases hx
  | j + 1, t, e, x, hx => by
    cases t with
    | nil => cases e
    | cons k' n' s' a' c' sub rest =>
      simp only [Fo.bare, reps, Fo.cons.injEq] at e
      obtain ⟨rfl, rfl, rfl, _, _, hs, hr⟩ := e
      obtain rfl := bare_nil hs
      rw [Fo.flat_cons] at hx
      rcases List.mem_cons.1 hx with rfl | hx
      · exact ⟨_, _, rfl⟩
      · exact reps_flat hr x hx

/-- A reply's box. -/
structure BoxR (w : World) (p : Nat) (k n : Int) (s : ByteArray) (l : Value) : Prop where
  at_ : w.heap[p]? = some (Obj.cells #[.int .i64 k, .int .i64 n, .string s, l] 24 (0, 0))
theorem BoxR.later {w w' : World} {p : Nat} {k n : Int} {s : ByteArray} {l : Value} (h : BoxR w p k n s l) (hb : Below w.heap.size w w') : BoxR w' p k n s l :=
  ⟨(hb.block p (Array.getElem?_eq_some_iff.1 h.at_).1).trans h.at_⟩
theorem BoxR.c0 {w : World} {p : Nat} {k n : Int} {s : ByteArray} {l : Value} (h : BoxR w p k n s l) : w.cell? ⟨p, 0, none⟩ = some (.int .i64 k) := by rw [cell_in 0 h.at_]; rfl
theorem BoxR.c1 {w : World} {p : Nat} {k n : Int} {s : ByteArray} {l : Value} (h : BoxR w p k n s l) : w.cell? ⟨p, 1, none⟩ = some (.int .i64 n) := by rw [cell_in 1 h.at_]; rfl
theorem BoxR.c2 {w : World} {p : Nat} {k n : Int} {s : ByteArray} {l : Value} (h : BoxR w p k n s l) : w.cell? ⟨p, 2, none⟩ = some (.string s) := by rw [cell_in 2 h.at_]; rfl
theorem BoxR.c3 {w : World} {p : Nat} {k n : Int} {s : ByteArray} {l : Value} (h : BoxR w p k n s l) : w.cell? ⟨p, 3, none⟩ = some l := by rw [cell_in 3 h.at_]; rfl
theorem box_new (w : World) (k n : Int) (s : ByteArray) (l : Value) : BoxR (w.alloc (Obj.cells #[.int .i64 k, .int .i64 n, .string s, l] 24)) w.heap.size k n s l := ⟨heap_at rfl⟩
theorem cell_later {w w' : World} {a : Addr} {v : Value} (hb : Below w.heap.size w w') (h : w.cell? a = some v) : w'.cell? a = some v := (grown_of_below (row := none) hb).cell h (by simp)
theorem below_later {w0 w w' : World} {n : Nat} (hb : Below w.heap.size w w') (h : Below n w0 w) (hn : n ≤ w0.heap.size) : Below n w0 w' := h.trans (hb.mono (Nat.le_trans hn h.size))
structure FoAt (W : World) (a : Option Addr) (t : Fo) : Prop where
  h : IsFo anyB W a t
theorem FoAt.later {w w' : World} {a : Option Addr} {t : Fo} (hb : Below w.heap.size w w') (h : FoAt w a t) : FoAt w' a t := ⟨h.h.same (Same24.of_below hb)⟩
theorem FoAt.drewn {w : World} {a : Option Addr} {t : Fo} (h : FoAt w a t) : FoAt w.drew a t := h.later ((Below.refl _ _).drew)
theorem below_new {w0 w w' : World} (h : Below w0.heap.size w0 w) (h' : Below w.heap.size w w') (o : Obj) : Below w0.heap.size w0 (w'.alloc o) :=
  have := h.trans (h'.mono h.size); this.alloc this.size o

/-- The six boxes, and the last one's list. -/
structure Six (w1 : World) (pa pb pc pd pe pf : Nat) (s : ByteArray) (n : Int) (a7 : Option Addr) (j cap : Nat) (t : Fo) (W : World) : Prop where
  a : BoxR W pa 1 0 s (.slice none 0 0)
  b : BoxR W pb 2 0 s (.slice none 0 0)
  c : BoxR W pc 4 0 s (.slice none 0 0)
  d : BoxR W pd 3 n ⟨#[]⟩ (.slice none 0 0)
  e : BoxR W pe 5 0 ⟨#[]⟩ (.slice none 0 0)
  f : BoxR W pf 6 0 ⟨#[]⟩ (.slice a7 j cap)
  fo : FoAt W a7 t
  below : Below w1.heap.size w1 W
theorem Six.later {w1 : World} {pa pb pc pd pe pf : Nat} {s : ByteArray} {n : Int} {a7 : Option Addr} {j cap : Nat} {t : Fo} {W W' : World} (hb : Below W.heap.size W W') (h : Six w1 pa pb pc pd pe pf s n a7 j cap t W) : Six w1 pa pb pc pd pe pf s n a7 j cap t W' :=
  ⟨h.a.later hb, h.b.later hb, h.c.later hb, h.d.later hb, h.e.later hb, h.f.later hb, h.fo.later hb, below_later hb h.below (Nat.le_refl _)⟩
/-- A world in which they are. -/
structure InSix (w1 : World) (pa pb pc pd pe pf : Nat) (s : ByteArray) (n : Int) (a7 : Option Addr) (j cap : Nat) (t : Fo) where
  w : World
  ok : Six w1 pa pb pc pd pe pf s n a7 j cap t w
theorem InSix.later {w1 : World} {pa pb pc pd pe pf : Nat} {s : ByteArray} {n : Int} {a7 : Option Addr} {j cap : Nat} {t : Fo} (x : InSix w1 pa pb pc pd pe pf s n a7 j cap t) {W' : World} (hb : Below x.w.heap.size x.w W') : ∃ y : InSix w1 pa pb pc pd pe pf s n a7 j cap t, W' = y.w := ⟨⟨W', x.ok.later hb⟩, rfl⟩
theorem region_quiet_of {P : Program} {C : World → Prop} {id : Nat} {Q : Exit → Act → World → Prop} {a : Act} {w : World} {l : List Oper} (hm : P.follows .mixedOrders = true) (hB : Region.lexB .any l.toArray = true) (hC : C w.drew)
    (h : wpQuiet P l.toArray C (fun a' => ∀ w', C w' → Q .normal a' w') l a) : (Code.region id l.toArray true).wp P Q a w := wp_region_quiet (C := C) hm hB hC (by simpa using h)

theorem head_simple (s : Txt) (h : Int) (a : Option Addr) (c : Nat) : headS ⟨h, 1, 0, s, a, 0, c⟩ = .simple s.1 := by simp [headS]
theorem head_failure (s : Txt) (h : Int) (a : Option Addr) (c : Nat) : headS ⟨h, 2, 0, s, a, 0, c⟩ = .failure s.1 := by simp [headS]
theorem head_bulk (s : Txt) (h : Int) (a : Option Addr) (c : Nat) : headS ⟨h, 4, 0, s, a, 0, c⟩ = .length s.1.size := by simp [headS]

end Go.Proofs.YtjcgfbmkgfhnaaaDoor
