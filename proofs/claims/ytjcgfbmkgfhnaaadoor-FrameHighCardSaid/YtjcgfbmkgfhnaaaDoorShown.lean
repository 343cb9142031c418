/- What the laws see of the program first. -/
import Derived.Test.YtjcgfbmkgfhnaaaDoorDecode
import Derived.Test.YtjcgfbmkgfhnaaaDoorEncode
import Derived.Test.YtjcgfbmkgfhnaaaDoorMake
namespace Go.Proofs.YtjcgfbmkgfhnaaaDoor
open Go.RowKit Go.Shelf
attribute [local go_sem] Oper.semAt_some

def noTxt : Txt := ⟨⟨#[]⟩, by decide⟩
def fo2 (a1 : Option Addr) (c1 : Nat) (a2 : Option Addr) (c2 : Nat) : Fo := .cons 3 7 noTxt a1 c1 .nil (.cons 5 0 noTxt a2 c2 .nil .nil)

theorem bare_nil {t : Fo} (h : t.bare = .nil) : t = .nil := by cases t with
  | nil => rfl
  | cons => cases h
theorem fo2_of_bare {t : Fo} (h : t.bare = fo2 none 0 none 0) : ∃ a1 c1 a2 c2, t = fo2 a1 c1 a2 c2 := by
  cases t with
  | nil => cases h
  | cons k n s a c sub rest =>
    simp only [Fo.bare, fo2, Fo.cons.injEq] at h
    obtain ⟨rfl, rfl, rfl, _, _, hs, hr⟩ := h
    obtain rfl := bare_nil hs
    cases rest with
    | nil => cases hr
    | cons k n s a c sub rest =>
      simp only [Fo.bare, Fo.cons.injEq] at hr
      obtain ⟨rfl, rfl, rfl, _, _, hs, hr⟩ := hr
      obtain rfl := bare_nil hs
      obtain rfl := bare_nil hr
      exact ⟨_, _, _, _, rfl⟩

def dgS (n : Int) : ByteArray := dig n.toNat
def pS (n : Int) : Prop := 0 ≤ n ∧ n < 100
theorem writes_small (n : Int) (hn : pS n) (w : World) : Writes dgS n w := by
  obtain ⟨k, rfl⟩ := Int.eq_ofNat_of_zero_le hn.1
  refine (format_small k (by have := hn.2; omega) w).mono ?_
  rintro e w' ⟨rfl, h⟩
  exact ⟨rfl, same_below h⟩

/-- "*2\r\n:7\r\n$-1\r\n" -/
def tShown : List UInt8 := [42, 50, 13, 10, 58, 55, 13, 10, 36, 45, 49, 13, 10]

theorem dig_size (n : Nat) (h : n < 100) : (dig n).size ≤ 600 := by
  have : ∀ n : Fin 100, (Lib.decDigits n.1).length ≤ 600 := by decide +kernel
  have := this ⟨n, h⟩
  exact this

theorem noTxt_list : noTxt.1.toList = [] := by decide +kernel
theorem head_arr (h : Int) (a : Option Addr) (l cap : Nat) : headS ⟨h, 6, 0, noTxt, a, l, cap⟩ = .count l := by simp [headS, noTxt_list]
theorem head_int (h n : Int) (a : Option Addr) (cap : Nat) : headS ⟨h, 3, n, noTxt, a, 0, cap⟩ = .number n := by simp [headS, noTxt_list]
theorem head_nil (h : Int) (a : Option Addr) (cap : Nat) : headS ⟨h, 5, 0, noTxt, a, 0, cap⟩ = .nothing := by simp [headS, noTxt_list]
theorem shown_flat (a cap a1 c1 a2 c2) : ((Fo.cons 6 0 noTxt a cap (fo2 a1 c1 a2 c2) .nil).flat 0) = [⟨0, 6, 0, noTxt, a, 2, cap⟩, ⟨1, 3, 7, noTxt, a1, 0, c1⟩, ⟨1, 5, 0, noTxt, a2, 0, c2⟩] := rfl
theorem shown_bytes (a cap a1 c1 a2 c2) : encE dgS ((Fo.cons 6 0 noTxt a cap (fo2 a1 c1 a2 c2) .nil).flat 0) = tShown := by
  rw [shown_flat]
  have h0 : headS ⟨0, 6, 0, noTxt, a, 2, cap⟩ = .count 2 := head_arr _ _ _ _
  have h1 : headS ⟨1, 3, 7, noTxt, a1, 0, c1⟩ = .number 7 := head_int _ _ _ _
  have h2 : headS ⟨1, 5, 0, noTxt, a2, 0, c2⟩ = .nothing := head_nil _ _ _
  have d2 : dgS 2 = ⟨#[50]⟩ := dig_one 2 (by decide)
  have d7 : dgS 7 = ⟨#[55]⟩ := dig_one 7 (by decide)
  simp only [encE, List.flatMap_cons, List.flatMap_nil, encX, h0, h1, h2, saidS, markS, d2, d7]
  rfl

theorem shown_encode (a : Option Addr) (cap : Nat) (a1 c1 a2 c2) (w : World) (hf : IsFo anyB w a (fo2 a1 c1 a2 c2)) :
    Calls Tryd.prog 10 #[.agg #[.int .i64 6, .int .i64 0, .string ⟨#[]⟩, .slice a 2 cap]] w fun e w' => e = .returned (.tuple #[.string ⟨tShown.toArray⟩, .int .i64 0]) ∧ Below w.heap.size w w' := by
  have h := encode_ok dgS pS 6 0 noTxt a cap (fo2 a1 c1 a2 c2) w hf (by simp [fo2, Fo.depth]) (by rw [rightS, shown_flat]; simp [rightL, head_arr, head_int, head_nil, fitsS]) ?_ (by rw [shown_flat]; simp) (fun W _ n hn => writes_small n hn W)
  · unfold EncPost at h
    rw [shown_bytes] at h
    exact h
  · rw [shown_flat]
    intro x hx
    simp only [List.mem_cons, List.not_mem_nil, or_false] at hx
    refine okX_of ?_ ?_ (fun n hn => dig_size _ (by have := hn.2; have := hn.1; omega))
    · rcases hx with rfl | rfl | rfl <;> simp [head_arr, head_int, head_nil, fitsS]
    · rcases hx with rfl | rfl | rfl <;> simp [head_arr, head_int, head_nil, Hd.okN, pS]

set_option maxRecDepth 100000 in
set_option maxHeartbeats 2000000 in
theorem shown_any {W : World} {aM aW : Addr} {m : Int} (hE : Env W aM aW m) (h3 : 3 ≤ W.heap.size) :
    Calls Tryd.prog 8 #[] W fun e W' => e = .returned (.bool true) ∧ Below W.heap.size W W' := by
  have HI := fun w => Lib.hid (mk_int 7 w)
  have HN := fun w => Lib.hid (mk_nil w)
  go_enter Tryd.func8, Tryd.ntmps8
  go_wp2_with (first | (go_at_call 14; refine (HI _).out.mono ?_; rintro e w1 ⟨rfl, hb1⟩) | (go_at_call 18; refine (HN _).out.mono ?_; rintro e w2 ⟨rfl, hb2⟩))
  have hB2 : Below W.heap.size W w2 := hb1.trans (hb2.mono hb1.size)
  have hB3 : Below w2.heap.size w2 (w2.alloc (Obj.cells #[Value.int IntKind.i64 3, Value.int IntKind.i64 7, Value.string { data := #[] }, Value.slice none 0 0, Value.int IntKind.i64 5, Value.int IntKind.i64 0, Value.string { data := #[] }, Value.slice none 0 0] 24)) := (Below.refl _ _).alloc (Nat.le_refl _) _
  have hf : IsFo anyB (w2.alloc (Obj.cells #[Value.int IntKind.i64 3, Value.int IntKind.i64 7, Value.string { data := #[] }, Value.slice none 0 0, Value.int IntKind.i64 5, Value.int IntKind.i64 0, Value.string { data := #[] }, Value.slice none 0 0] 24)) (some ⟨w2.heap.size, 0, none⟩) (fo2 none 0 none 0) :=
    ⟨by decide, w2.heap.size, 0, fun _ => ⟨rfl, trivial⟩, cells_of_row (heap_at rfl) _ 0 (List.prefix_refl _) ⟨IsFo.nil _ _ _, IsFo.nil _ _ _, trivial⟩⟩
  have HA := Lib.hid (array_any (some ⟨w2.heap.size, 0, none⟩) 2 (fo2 none 0 none 0) _ hf (by simp [fo2, Fo.depth]))
  have hB4 := hB2.trans (hB3.mono hB2.size)
  clear hb1 hb2 hB2 hB3 hf HI HN
  refine HA.out.mono ?_
  clear HA
  rintro e w3 ⟨a, cap, t', rfl, hbare, hf3, hb3⟩
  obtain ⟨a1, c1, a2, c2, rfl⟩ := fo2_of_bare hbare
  have hB5 := hB4.trans (hb3.mono hB4.size)
  have HE := Lib.hid (shown_encode a cap a1 c1 a2 c2 w3 hf3.any)
  clear hB4 hbare hf3 hb3
  simp only [show (fo2 none 0 none 0).len = 2 from rfl]
  go_wp2_with fail
  refine HE.out.mono ?_
  clear HE
  rintro e w4 ⟨rfl, hb4⟩
  have hB6 := hB5.trans (hb4.mono hB5.size)
  have HM := Lib.hid (decode_more (hE.below hB6) (Nat.le_trans h3 hB6.size))
  clear hb4 hB5
  unfold tMore zeroR at HM
  go_wp2_with fail
  refine HM.out.mono ?_
  clear HM
  rintro e w5 ⟨rfl, hb5⟩
  have hB7' := hB6.trans (hb5.mono hB6.size)
  have hB7 := hB7'.alloc hB7'.size (Obj.cells #[Value.int IntKind.i64 0, Value.int IntKind.i64 0, Value.string { data := #[] }, Value.slice none 0 0] 24)
  have HW := Lib.hid (decode_wrong (hE.below hB7) (Nat.le_trans h3 hB7.size))
  clear hb5 hB6 hB7'
  unfold tWrong zeroR at HW
  go_wp2_with fail
  refine HW.out.mono ?_
  clear HW
  rintro e w6 ⟨rfl, hb6⟩
  have hB8 := hB7.trans (hb6.mono hB7.size)
  clear hb6 hB7
  unfold tShown
  go_wp2
  go_ret
  exact ⟨rfl, hB8.alloc hB8.size _⟩

end Go.Proofs.YtjcgfbmkgfhnaaaDoor
