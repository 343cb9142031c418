/- fills: whether a text's characters are what the parts say. -/
import Derived.Test.YtcaemhlmefhgdaaFill
import Derived.Lib.OthersKept
import Derived.Deep.LoopGhost
namespace Go.Proofs.Ytcaemhlmefhgdaa
open Go.RowKit

/-- A text's characters from a place on. -/
def runesAt (s : ByteArray) : Nat → Nat → List Int
  | 0, _ => []
  | f + 1, pos => if pos < s.size then ((Utf8.decode s pos).1 : Int) :: runesAt s f (pos + (Utf8.decode s pos).2) else []
def runesS (s : ByteArray) : List Int := runesAt s s.size 0

def startS (ps : List PartS) : List Bool := passTo ps ((List.replicate (ps.length + 1) false).set 0 true) ps.length
def fillsS (ps : List PartS) (rs : List Int) : Bool := (rs.foldl (stepS ps) (startS ps)).getD ps.length false

theorem dead_pass (ps : List PartS) (n : Nat) : ∀ k, passTo ps (List.replicate n false) k = List.replicate n false
  | 0 => rfl
  | k + 1 => by rw [passTo, dead_pass ps n k]; simp [List.getD, List.getElem?_replicate]; split <;> simp
theorem dead_to (ps : List PartS) (n : Nat) (r : Int) : ∀ k, stepTo ps (List.replicate n false) r k = List.replicate n false
  | 0 => by simp [stepTo]
  | k + 1 => by rw [stepTo, dead_to ps n r k]; simp [List.getD, List.getElem?_replicate]; split <;> simp
theorem dead_step (ps : List PartS) (n : Nat) (r : Int) : stepS ps (List.replicate n false) r = List.replicate n false := by rw [stepS, dead_to, dead_pass]
theorem dead_fold (ps : List PartS) (n : Nat) : ∀ rs : List Int, rs.foldl (stepS ps) (List.replicate n false) = List.replicate n false
  | [] => rfl
  | r :: rs => by rw [List.foldl_cons, dead_step, dead_fold ps n rs]
theorem dead_of {bs : List Bool} {n : Nat} (h : bs.length = n) (hno : ∀ i, i < n → bs.getD i false = false) : bs = List.replicate n false := by
  apply List.ext_getElem (by simp [h])
  intro i h1 h2
  have := hno i (by omega)
  simpa [List.getD, List.getElem?_eq_getElem h1] using this
theorem dead_fills {ps : List PartS} {bs : List Bool} {rs all : List Int} {n : Nat} (h : bs.length = n) (hno : ∀ i, i < n → bs.getD i false = false) (hf : rs.foldl (stepS ps) bs = all.foldl (stepS ps) (startS ps)) : false = fillsS ps all := by
  rw [fillsS, ← hf, dead_of h hno, dead_fold]
  simp [List.getD, List.getElem?_replicate]
  split <;> rfl

/-- A decoded character takes at least one byte. -/
theorem width_pos (s : ByteArray) (pos : Nat) : 1 ≤ (Utf8.decode s pos).2 := by
  simp only [Utf8.decode]
  repeat' split
  all_goals simp

theorem Bools.iterAt {w : World} {g k pos : Nat} {s : ByteArray} {bs : List Bool} (h : Bools w g bs) (hk : w.heap[k]? = some (.stringIter s pos)) (p : Nat) : Bools (w.iterAt k s p) g bs := by
  unfold Bools at *
  rw [Lib.iterAt_other w k g s p fun e => by rw [e, hk] at h; cases h]
  exact h
theorem Same.iterAt {ok : Nat → Bool} {w : World} {k pos : Nat} {s : ByteArray} (hk : w.heap[k]? = some (.stringIter s pos)) (p : Nat) : Same ok w (w.iterAt k s p) := fun g c T _ h => by
  rw [Lib.iterAt_other w k g s p fun e => by rw [e, hk] at h; cases h]
  exact h
theorem start_new (w : World) (m : Nat) : Bools (w.alloc (Obj.cells ((Array.replicate (m + 1) (Value.bool false)).setIfInBounds 0 (Value.bool true)) 4)) w.heap.size ((List.replicate (m + 1) false).set 0 true) := by
  unfold Bools; rw [heap_at rfl]
  have : (Array.replicate (m + 1) (Value.bool false)) = (List.replicate (m + 1) (Value.bool false)).toArray := by simp
  rw [this]
  simp only [List.map_set, List.map_replicate, List.setIfInBounds_toArray]

theorem fills_start (s : ByteArray) {ps : List PartS} {m : Nat} (HM : Hid (ps.length = m)) : (runesAt s s.size 0).foldl (stepS ps) (passTo ps ((List.replicate (m + 1) false).set 0 true) m) = (runesS s).foldl (stepS ps) (startS ps) := by
  rw [runesS, startS, HM.out]

/-- What holds at the head of a round of fills. -/
structure FillRel (s : ByteArray) (ps : List PartS) (w wr : World) (I g pos gb : Nat) (bs : List Bool) : Prop where
  bools : Bools wr gb bs
  iter : wr.heap[I]? = some (.stringIter s pos)
  below : Below w.heap.size w wr
  fold : (runesAt s g pos).foldl (stepS ps) bs = (runesS s).foldl (stepS ps) (startS ps)
  fuel : s.size ≤ pos + g
  len : bs.length = ps.length + 1
  at' : w.heap.size ≤ I

theorem runesAt_end {s : ByteArray} {g pos : Nat} (h : ¬ pos < s.size) : runesAt s g pos = [] := by
  cases g <;> simp [runesAt, h]
theorem fills_end {s : ByteArray} {ps : List PartS} {w wr : World} {I g pos gb m : Nat} {bs : List Bool} {b : Bool} (h : FillRel s ps w wr I g pos gb bs) (hp : ¬ pos < s.size) (HM : Hid (ps.length = m)) (EB : Hid (bs.getD m false = b)) : b = fillsS ps (runesS s) := by
  rw [fillsS, ← h.fold, runesAt_end hp, HM.out, ← EB.out]; rfl
theorem fill_next {s : ByteArray} {ps : List PartS} {w wr : World} {I f pos gb : Nat} {bs : List Bool} (h : FillRel s ps w wr I (f + 1) pos gb bs) (hp : pos < s.size) :
    (runesAt s f (pos + (Utf8.decode s pos).2)).foldl (stepS ps) (stepS ps bs ((Utf8.decode s pos).1 : Int)) = (runesS s).foldl (stepS ps) (startS ps) ∧ s.size ≤ pos + (Utf8.decode s pos).2 + f := by
  refine ⟨?_, ?_⟩
  · rw [← h.fold]; simp [runesAt, hp]
  · have := h.fuel; have := width_pos s pos; omega
theorem FillRel.next {s : ByteArray} {ps : List PartS} {w wr wi w2 : World} {I f pos pos' gb g2 : Nat} {bs : List Bool} {r : Int} (h : FillRel s ps w wr I (f + 1) pos gb bs)
    (H : Hid ((runesAt s f pos').foldl (stepS ps) (stepS ps bs r) = (runesS s).foldl (stepS ps) (startS ps) ∧ s.size ≤ pos' + f)) (hB : Bools w2 g2 (stepS ps bs r)) (hi : wi.heap[I]? = some (.stringIter s pos'))
    (hbi : Below w.heap.size w wi) (hb2 : Below wi.heap.size wi w2) : FillRel s ps w w2 I f pos' g2 (stepS ps bs r) :=
  ⟨hB, by rw [hb2.block _ (Array.getElem?_eq_some_iff.1 hi).1]; exact hi, hbi.trans (hb2.mono hbi.size), H.out.1, H.out.2, by rw [stepS_length, h.len], h.at'⟩

def NoBit (bs : List Bool) (k : Nat) : Prop := ∀ i, i < k → bs.getD i false = false
theorem NoBit.step {bs : List Bool} {j : Nat} (h : Hid (NoBit bs j)) (e : Hid (bs.getD j false = false)) : NoBit bs (j + 1) := fun i hi => by
  by_cases h' : i = j
  · subst h'; exact e.out
  · exact h.out i (by omega)

set_option maxHeartbeats 1000000 in
theorem fills_any (s : ByteArray) (a : Option Addr) (m cap : Nat) (ps : List PartS) (w : World) (hP : Parts w a ps) (hm : ps.length = m) :
    Calls Try.prog 20 #[.string s, .slice a m cap] w fun e w' => e = .returned (.bool (fillsS ps (runesS s))) ∧ Below w.heap.size w w' := by
  have hsm := hP.small
  obtain ⟨i0, hi0, hz0, hz1, hz2⟩ := info_parts info4
  have hmk : ∀ W : World, (Instr.makeSlice 40 (.int .i64 ((m : Int) + 1)) (.int .i64 ((m : Int) + 1))).run Try.prog W = .ok (.slice (some ⟨W.heap.size, 0, none⟩) (m + 1) (m + 1)) (W.alloc (Obj.cells ((List.replicate (m + 1) false).map Value.bool).toArray 4)) := fun W => by
    have := run_make (P := Try.prog) W 40 4 i0 _ Try.underlying40 hi0 hz0 .i64 .i64 (m + 1) (m + 1) (by omega) (by omega) (by rw [hz2]; omega) (by omega)
    rw [this, hz1]
    simp [Value.cells, made_bools]
  have hbA : Below w.heap.size w (w.alloc (Obj.cells ((Array.replicate (m + 1) (Value.bool false)).setIfInBounds 0 (Value.bool true)) 4)) := (Below.refl _ _).alloc (Nat.le_refl _) _
  have hst := start_new w m
  have HPass := Lib.hid (pass_any w.heap.size (m + 1) _ a m cap ps _ hst (hP.mono (Same.of_below hbA)) hm (by simp) (by simp) (m + 1))
  have HSt := Lib.hid hst
  have hmm : m ≤ 100000 := by omega
  have HM := Lib.hid hm
  clear hst hm hsm
  go_enter Try.func20, Try.ntmps20
  go_wp2_with fail
  go_step3
  go_wp2_with fail
  refine HPass.out.mono ?_
  rintro e w1 ⟨rfl, hB1, hg1⟩
  have hb1 : Below w.heap.size w w1 := hbA.grown hg1 (by simp) fun k hk => by cases hk; exact Nat.le_refl _
  clear HPass
  have hsz1 := hb1.size
  have hb1a : Below w.heap.size w (w1.alloc (.stringIter s 0)) := hb1.alloc hsz1 _
  have hB1a := hB1.alloc (.stringIter s 0)
  have HF0 := Lib.hid (fills_start s HM)
  go_wp2_with fail
  go_step3
  go_wp2_with fail
  go_loopg [5] s.size (fun g pl wr => ∃ (pos gb : Nat) (bs : List Bool), pl = .slice (some ⟨gb, 0, none⟩) (m + 1) (m + 1) ∧ FillRel s ps w wr w1.heap.size g pos gb bs)
  case atStart => exact ⟨0, w.heap.size, _, rfl, ⟨hB1a, heap_at rfl, hb1a, HF0.out, by omega, by rw [passTo_length]; simp [HM.out], hsz1⟩⟩
  case round =>
    obtain ⟨pos, gb, bs, rfl, hR⟩ := hrel
    have hit := hR.iter
    have hPr := (hP.mono (Same.of_below hR.below))
    by_cases hp : pos < s.size
    · obtain ⟨f, rfl⟩ : ∃ f, gk = f + 1 := ⟨gk - 1, by have := hR.fuel; omega⟩
      have hnx : ∀ ty, (Instr.next (.pointer (some ⟨w1.heap.size, 0, none⟩)) true ty).run Try.prog wr = _ := fun ty => Lib.run_next_any_at wr w1.heap.size s pos ty hit hp
      have hbi : Below w.heap.size w (wr.iterAt w1.heap.size s (pos + (Utf8.decode s pos).2)) := Lib.below_iterAt hR.below hsz1 _ _
      have hBi := hR.bools.iterAt hit (pos + (Utf8.decode s pos).2)
      have hPi := hPr.mono (Same.iterAt hit (pos + (Utf8.decode s pos).2))
      have hii := Lib.iterAt_heap wr w1.heap.size s pos (pos + (Utf8.decode s pos).2) hit
      have hzi := Lib.iterAt_size wr w1.heap.size s (pos + (Utf8.decode s pos).2)
      have HRF := Lib.hid (fill_next hR hp)
      generalize eW : wr.iterAt w1.heap.size s (pos + (Utf8.decode s pos).2) = wi at *
      generalize er : ((Utf8.decode s pos).1 : Int) = r at *
      generalize ed : pos + (Utf8.decode s pos).2 = pos' at *
      have HST := Lib.hid (step_any gb (m + 1) (m + 1) bs r a m cap ps wi hBi hPi HM.out (by rw [hR.len, HM.out]) rfl)
      clear eW er ed hit hzi
      go_wp2_with fail
      refine HST.out.mono ?_
      clear HST hnx
      rintro e w2 ⟨g2, rfl, hg2, hB2, hb2⟩
      have hl2 : (stepS ps bs r).length = m + 1 := by rw [stepS_length, hR.len, HM.out]
      have HRel := Lib.hid (FillRel.next hR HRF hB2 hii hbi hb2)
      generalize stepS ps bs r = bs2 at *
      have HL2 := Lib.hid hl2
      clear hl2
      clear hR hPr hPi hBi hii hbi hb2 hg2 HRF
      go_wp2_with fail
      go_loopg [30] (m + 1) (fun g3 i wr3 => ∃ j : Nat, j + g3 = m + 1 ∧ i = .int .i64 j ∧ NoBit bs2 j ∧ w2 = wr3) 
      case atStart => exact ⟨0, by omega, rfl, fun i hi => by omega, rfl⟩
      case round =>
        obtain ⟨j, hj, rfl, hno0, rfl⟩ := hrel
        have HNO := Lib.hid hno0
        have HJ := Lib.hid hj
        have hjm : j ≤ m + 1 := by omega
        clear hno0 hj
        by_cases hlt : j < m + 1
        · have hc := hB2.cell (j := j) (by have := HL2.out; omega)
          generalize eb : bs2.getD j false = b at hc
          have EB := Lib.hid eb
          clear eb
          cases b
          · go_wp2_with fail
            go_roundg (m - j)
            case measure => have := HJ.out; omega
            case rel => exact ⟨j + 1, by omega, by go_num, NoBit.step HNO EB, rfl⟩
          · go_wp2_with fail
            go_roundg f
            case measure => omega
            case rel => exact ⟨pos', g2, bs2, rfl, HRel.out⟩
        · go_wp2_with fail
          rw [Exit.noGoto_ret]
          go_ret
          exact ⟨ret_bool (dead_fills HL2.out (fun i hi => HNO.out i (by omega)) HRel.out.fold), HRel.out.below⟩
    · have hnx : ∀ ty, (Instr.next (.pointer (some ⟨w1.heap.size, 0, none⟩)) true ty).run Try.prog wr = _ := fun ty => Lib.run_next_end_at wr w1.heap.size s pos ty hit hp
      have hl := hR.len
      rw [HM.out] at hl
      have hc := hR.bools.cell (j := m) (by omega)
      generalize eb : bs.getD m false = b at hc
      have EB := Lib.hid eb
      clear eb hit
      go_wp2
      rw [Exit.noGoto_ret]
      go_ret
      exact ⟨ret_bool (fills_end hR hp HM EB), hR.below⟩

end Go.Proofs.Ytcaemhlmefhgdaa
