/- Sum: the hash of a text. -/
import Derived.Test.YtifbambalfifaaaIter
namespace Go.Proofs.Ytifbambalfifaaa
open Go.RowKit Go.Shelf
attribute [local go_sem] Oper.semAt_some

/-- A byte's round, and the end of the hash. -/
def roundN (h b : Nat) : Nat := (h ^^^ b) * 16777619 % 4294967296
def endX (h : Nat) : Nat := h ^^^ h / 32768
def endA (h : Nat) : Nat := endX h * 2246822519 % 4294967296
def endB (h : Nat) : Nat := h ^^^ h / 8192
def endN (h : Nat) : Nat := endB (endA h)
def beginN (seed : Nat) : Nat := seed ^^^ 2166136261
def foldN (h : Nat) (l : List UInt8) : Nat := l.foldl (fun h b => roundN h b.toNat) h
def sumN (seed : Nat) (l : List UInt8) : Nat := endN (foldN (beginN seed) l)

theorem xor_lt32 {a b : Nat} (ha : a < 4294967296) (hb : b < 4294967296) : a ^^^ b < 4294967296 := Nat.xor_lt_two_pow (n := 32) ha hb
theorem roundN_lt (h b : Nat) : roundN h b < 4294967296 := Nat.mod_lt _ (by decide)
theorem beginN_lt {s : Nat} (h : s < 4294967296) : beginN s < 4294967296 := xor_lt32 h (by decide)
theorem endA_lt (h : Nat) : endA h < 4294967296 := Nat.mod_lt _ (by decide)
theorem endB_lt {h : Nat} (hh : h < 4294967296) : endB h < 4294967296 := xor_lt32 hh (by omega)
theorem endX_lt {h : Nat} (hh : h < 4294967296) : endX h < 4294967296 := xor_lt32 hh (by omega)
theorem sumN_lt (s : Nat) (l : List UInt8) : sumN s l < 4294967296 := by
  unfold sumN endN
  exact endB_lt (endA_lt _)
theorem foldN_step (h : Nat) (l : List UInt8) (i : Nat) (b : UInt8) (hb : l[i]? = some b) : foldN h (l.take (i + 1)) = roundN (foldN h (l.take i)) b.toNat := by
  obtain ⟨hi, he⟩ := List.getElem?_eq_some_iff.1 hb
  rw [List.take_succ_eq_append_getElem hi, he]
  unfold foldN
  rw [List.foldl_append, List.foldl_cons, List.foldl_nil]
theorem foldN_cons (h : Nat) (b : UInt8) (l : List UInt8) : foldN h (b :: l) = foldN (roundN h b.toNat) l := rfl
theorem foldN_nil (h : Nat) : foldN h [] = h := rfl
theorem foldN_lt (l : List UInt8) : ∀ {h : Nat}, h < 4294967296 → foldN h l < 4294967296 := by
  induction l with
  | nil => intro h hh; rw [foldN_nil]; exact hh
  | cons b l ih => intro h _; rw [foldN_cons]; exact ih (roundN_lt _ _)

theorem bits_xor32 (a b : Nat) (ha : a < 4294967296) (hb : b < 4294967296) : bits .xor .u32 (a : Int) (b : Int) = ((a ^^^ b : Nat) : Int) := by
  have hx := xor_lt32 ha hb
  unfold bits
  show IntKind.u32.wrap ((BitVec.ofInt 32 (a : Int) ^^^ BitVec.ofInt 32 (b : Int)).toNat : Int) = _
  rw [BitVec.ofInt_natCast, BitVec.ofInt_natCast, BitVec.toNat_xor, BitVec.toNat_ofNat, BitVec.toNat_ofNat, Nat.mod_eq_of_lt ha, Nat.mod_eq_of_lt hb, IntKind.wrap_u32]
  omega

theorem bytesOf_any (p : ByteArray) (w : World) : Calls Try.prog 76 #[.string p] w fun e w' => e = .returned (.func (.func 92) #[] #[.pointer (some ⟨w.heap.size, 0, none⟩)]) ∧ w' = w.alloc (Obj.cells #[.string p] 9) := by
  go_enter Try.func76, Try.ntmps76
  go_wp2
  go_ret
  exact ⟨rfl, rfl⟩

set_option maxRecDepth 100000 in
set_option maxHeartbeats 4000000 in
theorem sum_any (seed : Nat) (hs : seed < 4294967296) (p : ByteArray) (hp : p.size ≤ 281474976710656) (w : World) :
    Calls Try.prog 65 #[.int .u32 seed, .string p] w fun e w' => e = .returned (.int .u32 (sumN seed p.data.toList)) ∧ Below w.heap.size w w' := by
  refine (callsIn_wide (n := 6)).1 (callsIn_of_wp_marks Try.func65 rfl trivial ?_ rfl)
  refine wpIn_wide.2 ?_
  simp only [Try.ntmps65, List.size_toArray, List.length_cons, List.length_nil, Nat.reduceAdd, Nat.reduceSub, Array.replicate_succ, Array.replicate_zero, List.push_toArray, List.append_toArray, List.nil_append, List.cons_append]
  have hx : bits .xor .u32 (seed : Int) 2166136261 = ((beginN seed : Nat) : Int) := bits_xor32 seed 2166136261 hs (by decide)
  go_wp2_with fail
  refine (bytesOf_any p _).mono ?_
  rintro e w1 ⟨rfl, rfl⟩
  go_wp2
  have k1 := (Blk.new w 22 #[Value.int IntKind.u32 (beginN seed)]).alloc (Obj.cells #[.string p] 9)
  have k2 := Blk.new (w.alloc (Obj.cells #[Value.int IntKind.u32 (beginN seed)] 22)) 9 #[.string p]
  rw [World.size_alloc] at k2
  have hB := ((Below.refl w.heap.size w).alloc (Nat.le_refl _) (Obj.cells #[Value.int IntKind.u32 (beginN seed)] 22)).alloc (by simp) (Obj.cells #[.string p] 9)
  have hsz : ((w.alloc (Obj.cells #[Value.int IntKind.u32 (beginN seed)] 22)).alloc (Obj.cells #[.string p] 9)).heap.size = w.heap.size + 2 := by simp
  generalize ((w.alloc (Obj.cells #[Value.int IntKind.u32 (beginN seed)] 22)).alloc (Obj.cells #[.string p] 9)) = w1 at *
  refine (wpIn_wide (n := 6)).1 (range_x (gf := 92) (lb := #[.pointer (some ⟨w.heap.size + 1, 0, none⟩)]) (encs := encB) (xs := p.data.toList) (L := [w.heap.size]) rfl (enters_of Try.func92 (by kernel_rfl) rfl) (bytes_any p hp (w.heap.size + 1) _ _ (by simp) k2) (fun _ _ => rfl)
    (fun i W => Below w.heap.size w W ∧ Blk W w.heap.size 22 #[.int .u32 (foldN (beginN seed) (p.data.toList.take i))])
    (fun _ _ _ => False)
    ?hI ?hIx ?h0 (fun i x a' W => a' = { tmps := #[Value.int IntKind.u32 ↑seed, Value.string p, undef, undef, Value.int IntKind.u32 0,
          Value.pointer (some { block := w.heap.size, off := 0 }), Value.int .u8 x.toNat, Value.int IntKind.u32 ↑seed,
          Value.int IntKind.u32 (beginN seed), Value.string p,
          Value.func (Fn.func 92) #[] #[Value.pointer (some { block := w.heap.size + 1, off := 0 })], Value.int .u8 x.toNat, undef,
          undef, undef, undef, undef, undef, undef, undef, undef, undef, undef, undef, undef, undef], defers := [] })
    (fun _ _ _ => own_pure _ _) ?assign ?body ?done ?stop)
  case hI => exact (own_below _ w (by omega)).and (own_blk _ _ _ _)
  case hIx => exact fun c => own_pure _ _
  case h0 => exact ⟨hB, k1⟩
  case assign =>
    rintro l i x W K hx' ⟨hb, q1⟩ hK
    unfold encB
    gi_wp2
    exact hK _ _ (KeepsFrom.refl _ _) (KeepC.refl _ _) ⟨hb, q1⟩ rfl
  case body =>
    rintro l i x a' W hx' ⟨hb, q1⟩ rfl
    have HN := Lib.hid (foldN_step (beginN seed) _ i x hx')
    have hlt := foldN_lt (p.data.toList.take i) (beginN_lt hs)
    generalize foldN (beginN seed) (p.data.toList.take i) = h at *
    have hxb : x.toNat < 256 := UInt8.toNat_lt _
    generalize x.toNat = b at *
    obtain ⟨c1, c2⟩ := facts1 q1
    have Q1 := Lib.hid q1
    have hx2 := bits_xor32 h b hlt (by omega)
    have hx3 := xor_lt32 hlt (show b < 4294967296 by omega)
    have hr : roundN h b = (h ^^^ b) * 16777619 % 4294967296 := rfl
    generalize roundN h b = r at *
    generalize h ^^^ b = y at *
    have HR := Lib.hid hr
    clear k1 k2 q1 hr hx
    gi_wp2
    refine ⟨(KeepsOthers.setCell _ _ _).from _, KeepC.set _ _ _ _ (by simp), hb.setCell (p := ⟨w.heap.size, 0, none⟩) (Nat.le_refl _) _, ?_⟩
    rw [HN.out, HR.out]
    exact Q1.out.set 0 _
  case done =>
    rintro D W hD ⟨hb, q1⟩ hK
    rw [List.take_length] at q1
    have hlt := foldN_lt p.data.toList (beginN_lt hs)
    have hr : sumN seed p.data.toList = endB (endA (foldN (beginN seed) p.data.toList)) := rfl
    generalize foldN (beginN seed) p.data.toList = h at *
    have hx2 : bits .xor .u32 (h : Int) (h / 32768) = ((endX h : Nat) : Int) := bits_xor32 h (h / 32768) hlt (by omega)
    have hxl := endX_lt hlt
    have ha : ((endX h : Nat) : Int) * 2246822519 % 4294967296 = ((endA h : Nat) : Int) := by unfold endA; omega
    have hal := endA_lt h
    have hx3 : bits .xor .u32 ((endA h : Nat) : Int) ((endA h : Nat) / 8192) = ((endB (endA h) : Nat) : Int) := bits_xor32 (endA h) (endA h / 8192) hal (by omega)
    generalize endB (endA h) = z at *
    generalize endA h = y at *
    generalize endX h = x at *
    obtain ⟨d1, d2⟩ := facts1 q1
    have HK := Lib.hid hK
    have HR := Lib.hid hr
    clear hK k1 k2 hr hx q1
    simp only [Exit.inBlock, Exit.then]
    go_wp2
    have hD' := (Below.heap_setCell W (⟨w.heap.size, 0, none⟩ : Addr) (.int .u32 y) D (show D ≠ w.heap.size by omega)).trans HK.out
    exact leave (v := .int .u32 z) rfl hD' (by simp [results, Try.results65, go_sem]) ⟨by rw [HR.out], below_put (hb.setCell (p := ⟨w.heap.size, 0, none⟩) (Nat.le_refl _) _) (by omega) _⟩
  case stop =>
    rintro D c j W hD hI hK
    exact hI.elim
end Go.Proofs.Ytifbambalfifaaa
