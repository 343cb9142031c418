/- Encode of any reply that Cut has made, whatever the library's table holds. -/
import Derived.Test.YtjcgfbmkgfhnaaaDoorListsMath
import Derived.Test.YtjcgfbmkgfhnaaaDoorFormatAny
namespace Go.Proofs.YtjcgfbmkgfhnaaaDoor
open Go.RowKit Go.Shelf

theorem fine_ok {x : El} (hx : fine x) : (headS x).okN i64R := by
  obtain ⟨h1, h2, h3⟩ := hx
  unfold headS
  repeat' split
  all_goals simp only [Hd.okN]
  · exact h1
  · unfold i64R; omega
  · unfold i64R; omega
def encR (T : Nat → Int) (t : Fo) : ByteArray := if rightS t = true then ⟨(encE (dgT T) (t.flat 0)).toArray⟩ else ⟨#[]⟩
theorem all_ok (T : Nat → Int) {t : Fo} (hr : rightS t = true) (hx : ∀ x ∈ t.flat 0, fine x) : ∀ x ∈ t.flat 0, okX (dgT T) i64R x := fun x hm =>
  okX_of (List.all_eq_true.1 hr x hm) (fine_ok (hx x hm)) (fun n hn => Nat.le_trans (dgT_size T n hn) (by decide))
theorem encoded (T : Nat → Int) (k n : Int) (s : Txt) (a : Option Addr) (cap : Nat) (sub : Fo) (w : World) (hf : IsFo anyB w a sub) (hdep : sub.depth ≤ 1000)
    (hx : ∀ x ∈ (Fo.cons k n s a cap sub .nil).flat 0, fine x) (hN : ((Fo.cons k n s a cap sub .nil).flat 0).length ≤ 1000000000) (hT : Tab T w) (h1 : 3 < w.heap.size) :
    Calls Tryd.prog 10 #[.agg #[.int .i64 k, .int .i64 n, .string s.1, .slice a sub.len cap]] w fun e w' => e = .returned (.tuple #[.string (encR T (.cons k n s a cap sub .nil)), .int .i64 (if rightS (.cons k n s a cap sub .nil) = true then 0 else 30)]) ∧ Below w.heap.size w w' := by
  unfold encR
  cases hr : rightS (.cons k n s a cap sub .nil) with
  | true =>
    have h := encode_ok (dgT T) i64R k n s a cap sub w hf hdep hr (all_ok T hr hx) hN (fun W hb m hm => writes_any T m hm W (hT.below hb h1))
    exact h.mono fun e w' hp => hp
  | false =>
    have h := encode_no k n s a cap sub w hf hdep hr
    exact h.mono fun e w' hp => hp
theorem encR_size (T : Nat → Int) {t : Fo} (hx : ∀ x ∈ t.flat 0, fine x) (hN : (t.flat 0).length ≤ 100000000) : (encR T t).size ≤ 130000000000 := by
  unfold encR
  split
  · rename_i hr
    have hall := all_ok T hr hx
    have key : ∀ l : List El, (∀ x ∈ l, okX (dgT T) i64R x) → (encE (dgT T) l).length ≤ 1300 * l.length := by
      intro l
      induction l with
      | nil => intro _; simp [encE]
      | cons x l ih =>
        intro h
        have h1 := encX_length (h x (by simp))
        have h2 := ih fun y hy => h y (by simp [hy])
        simp only [encE, List.flatMap_cons, List.length_append, List.length_cons] at *
        omega
    have := key _ hall
    show (encE (dgT T) (t.flat 0)).toArray.size ≤ _
    simp only [List.size_toArray]
    omega
  · decide
end Go.Proofs.YtjcgfbmkgfhnaaaDoor
