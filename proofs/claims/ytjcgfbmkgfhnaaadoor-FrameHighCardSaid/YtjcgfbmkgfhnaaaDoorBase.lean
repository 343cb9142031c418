/- Replies in memory: a list of replies as a plain tree, the cells that hold it, and the elements that a walk through it hands on. -/
import Derived.Test.YtjcgfbmkgfhnaaaDoorRows
import Derived.RangeFuncNested
import Derived.RangeFuncBound
import Derived.RangeFuncCalls
import Derived.RangeFuncLeaves
import Derived.Shelf.Abstract
import Derived.Shelf.RegionOpen
import Derived.WalkKit
import Derived.WalkSpells
import Derived.WalkLawsBesides
import Derived.OwnWalkIn
import Derived.TacticsInMore
import Derived.LoopNIn
import Derived.LoopIn
import Derived.Lib.Hide
namespace Go.Proofs.YtjcgfbmkgfhnaaaDoor
open Go.RowKit Go.Shelf

theorem heap_at {w : World} {o : Obj} {k : Nat} (h : k = w.heap.size) : (w.alloc o).heap[k]? = some o := by subst h; exact heap_alloc_new w o

/-- A text that a machine may hold. -/
abbrev Txt := { s : ByteArray // s.size ≤ maxLen }

/-- A list of replies: the first one (its kind, number, text, where its own list lies, that list's capacity, that list), and the rest. -/
inductive Fo where
  | nil
  | cons (k n : Int) (s : Txt) (a : Option Addr) (cap : Nat) (sub rest : Fo)

def Fo.len : Fo → Nat
  | .nil => 0
  | .cons _ _ _ _ _ _ rest => rest.len + 1

def Fo.depth : Fo → Nat
  | .nil => 0
  | .cons _ _ _ _ _ sub rest => max (sub.depth + 1) rest.depth

/-- What is handed on: within how many others, and a reply. -/
structure El where
  high : Int
  k : Int
  n : Int
  s : Txt
  a : Option Addr
  len : Nat
  cap : Nat

def El.val (x : El) : Value := .agg #[.int .i64 x.k, .int .i64 x.n, .string x.s.1, .slice x.a x.len x.cap]
def El.encs (x : El) : Array Value := #[.int .i64 x.high, .agg #[.int .i64 x.k, .int .i64 x.n, .string x.s.1, .slice x.a x.len x.cap]]

def Fo.flat : Fo → Int → List El
  | .nil, _ => []
  | .cons k n s a cap sub rest, h => ⟨h, k, n, s, a, sub.len, cap⟩ :: (sub.flat (h + 1) ++ rest.flat h)

theorem Fo.flat_nil (h : Int) : Fo.nil.flat h = [] := rfl
theorem Fo.flat_cons (k n : Int) (s : Txt) (a : Option Addr) (cap : Nat) (sub rest : Fo) (h : Int) :
    (Fo.cons k n s a cap sub rest).flat h = ⟨h, k, n, s, a, sub.len, cap⟩ :: (sub.flat (h + 1) ++ rest.flat h) := rfl

/-- The boxes and rows of replies hold what they held. -/
def Same24 (W W' : World) : Prop := ∀ (k : Nat) (c : Array Value), W.heap[k]? = some (Obj.cells c 24 (0, 0)) →
  W'.heap[k]? = some (Obj.cells c 24 (0, 0))
theorem Same24.refl (W : World) : Same24 W W := fun _ _ h => h
theorem Same24.at {W W' : World} (h : Same24 W W') {k : Nat} {c : Array Value} (hk : W.heap[k]? = some (Obj.cells c 24 (0, 0))) : W'.heap[k]? = some (Obj.cells c 24 (0, 0)) := h k c hk
theorem Same24.trans {A B C : World} (h : Same24 A B) (g : Same24 B C) : Same24 A C := fun k c hk => g k c (h k c hk)
theorem Same24.of_below {A B : World} (h : Below A.heap.size A B) : Same24 A B := fun k _ hk => (h.block k (Array.getElem?_eq_some_iff.1 hk).1).trans hk
theorem Same24.alloc {A B : World} (h : Same24 A B) (o : Obj) : Same24 A (B.alloc o) := h.trans (Same24.of_below ((Below.refl _ _).alloc (Nat.le_refl _) o))

/-- The cells from (g, o) on hold these replies, each of their own lists in blocks of this kind. -/
def Cells (ok : Nat → Prop) (W : World) : Nat → Nat → Fo → Prop
  | _, _, .nil => True
  | g, o, .cons k n s a cap sub rest =>
    (∃ c, W.heap[g]? = some (Obj.cells c 24 (0, 0)) ∧ c[o]? = some (.int .i64 k) ∧ c[o + 1]? = some (.int .i64 n) ∧ c[o + 2]? = some (.string s.1) ∧ c[o + 3]? = some (.slice a sub.len cap)) ∧
    (sub.len ≤ 100000 ∧ ∃ g' o', (sub.len ≠ 0 → a = some ⟨g', o', none⟩ ∧ ok g') ∧ Cells ok W g' o' sub) ∧ Cells ok W g (o + 4) rest

/-- The slice at a holds these replies, in blocks of this kind. -/
def IsFo (ok : Nat → Prop) (W : World) (a : Option Addr) (t : Fo) : Prop := t.len ≤ 100000 ∧ ∃ g o, (t.len ≠ 0 → a = some ⟨g, o, none⟩ ∧ ok g) ∧ Cells ok W g o t

theorem Fo.len_pos {k n : Int} {s : Txt} {a : Option Addr} {cap : Nat} {sub rest : Fo} : (Fo.cons k n s a cap sub rest).len ≠ 0 := by simp [Fo.len]
theorem Fo.len_cons (k n : Int) (s : Txt) (a : Option Addr) (cap : Nat) (sub rest : Fo) : (Fo.cons k n s a cap sub rest).len = rest.len + 1 := rfl
theorem Fo.eq_nil : ∀ {t : Fo}, t.len = 0 → t = .nil
  | .nil, _ => rfl
  | .cons .., h => absurd h Fo.len_pos

theorem Cells.same {ok : Nat → Prop} {A B : World} (h : Same24 A B) : ∀ {t : Fo} {g o : Nat}, Cells ok A g o t → Cells ok B g o t
  | .nil, _, _, _ => trivial
  | .cons .., _, _, ⟨⟨c, hc, hx⟩, ⟨hl, g', o', ha, hs⟩, hr⟩ => ⟨⟨c, h.at hc, hx⟩, ⟨hl, g', o', ha, Cells.same h hs⟩, Cells.same h hr⟩
theorem IsFo.same {ok : Nat → Prop} {A B : World} {a : Option Addr} {t : Fo} (h : Same24 A B) (hf : IsFo ok A a t) : IsFo ok B a t := by
  obtain ⟨hl, g, o, ha, hc⟩ := hf
  exact ⟨hl, g, o, ha, hc.same h⟩

/-- What lies in blocks of a kind stays where these blocks stay. -/
theorem Cells.keep {ok : Nat → Prop} {A B : World} (h : ∀ k, ok k → k < A.heap.size → B.heap[k]? = A.heap[k]?) : ∀ {t : Fo} {g o : Nat}, (t.len ≠ 0 → ok g) → Cells ok A g o t → Cells ok B g o t
  | .nil, _, _, _, _ => trivial
  | .cons .., _, _, hg, ⟨⟨c, hc, hx⟩, ⟨hl, g', o', ha, hs⟩, hr⟩ =>
    ⟨⟨c, (h _ (hg Fo.len_pos) (Array.getElem?_eq_some_iff.1 hc).1).trans hc, hx⟩, ⟨hl, g', o', ha, Cells.keep h (fun e => (ha e).2) hs⟩, Cells.keep h (fun _ => hg Fo.len_pos) hr⟩
theorem IsFo.keep {ok : Nat → Prop} {A B : World} {a : Option Addr} {t : Fo} (h : ∀ k, ok k → k < A.heap.size → B.heap[k]? = A.heap[k]?) (hf : IsFo ok A a t) : IsFo ok B a t := by
  obtain ⟨hl, g, o, ha, hc⟩ := hf
  exact ⟨hl, g, o, ha, hc.keep h fun e => (ha e).2⟩

theorem Cells.weaken {ok ok' : Nat → Prop} {W : World} (h : ∀ k, k < W.heap.size → ok k → ok' k) : ∀ {t : Fo} {g o : Nat}, Cells ok W g o t → Cells ok' W g o t
  | .nil, _, _, _ => trivial
  | .cons .., _, _, ⟨hc, ⟨hl, g', o', ha, hs⟩, hr⟩ => ⟨hc, ⟨hl, g', o', fun e => ⟨(ha e).1, h _ (Cells.lt hs e) (ha e).2⟩, Cells.weaken h hs⟩, Cells.weaken h hr⟩
where
  Cells.lt {ok : Nat → Prop} {W : World} : ∀ {t : Fo} {g o : Nat}, Cells ok W g o t → t.len ≠ 0 → g < W.heap.size
  | .nil, _, _, _, e => absurd rfl e
  | .cons .., _, _, ⟨⟨_, hc, _⟩, _⟩, _ => (Array.getElem?_eq_some_iff.1 hc).1
theorem IsFo.weaken {ok ok' : Nat → Prop} {W : World} {a : Option Addr} {t : Fo} (h : ∀ k, k < W.heap.size → ok k → ok' k) (hf : IsFo ok W a t) : IsFo ok' W a t := by
  obtain ⟨hl, g, o, ha, hc⟩ := hf
  exact ⟨hl, g, o, fun e => ⟨(ha e).1, h _ (Cells.weaken.Cells.lt hc e) (ha e).2⟩, hc.weaken h⟩

/-- Wherever they are. -/
def anyB (_ : Nat) : Prop := True
theorem IsFo.any {ok : Nat → Prop} {W : World} {a : Option Addr} {t : Fo} (hf : IsFo ok W a t) : IsFo anyB W a t := hf.weaken fun _ _ _ => trivial

theorem IsFo.nil (ok : Nat → Prop) (W : World) (a : Option Addr) : IsFo ok W a .nil := ⟨by simp [Fo.len], 0, 0, fun e => absurd rfl e, trivial⟩

/-- A property of each reply's own list. -/
def Fo.Subs (C : Fo → Prop) : Fo → Prop
  | .nil => True
  | .cons _ _ _ _ _ sub rest => C sub ∧ rest.Subs C

theorem Fo.subs_of {C : Fo → Prop} (h : ∀ t : Fo, t.Subs C → C t) : ∀ t : Fo, C t ∧ t.Subs C
  | .nil => ⟨h .nil trivial, trivial⟩
  | .cons k n s a cap sub rest => by
    have hs := (Fo.subs_of h sub).1
    have hr := (Fo.subs_of h rest).2
    exact ⟨h _ ⟨hs, hr⟩, ⟨hs, hr⟩⟩

end Go.Proofs.YtjcgfbmkgfhnaaaDoor
