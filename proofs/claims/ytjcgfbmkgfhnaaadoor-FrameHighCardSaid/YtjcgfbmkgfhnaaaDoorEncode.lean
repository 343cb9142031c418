/- Encode: a reply's bytes. -/
import Derived.Test.YtjcgfbmkgfhnaaaDoorArray
import Derived.Test.YtjcgfbmkgfhnaaaDoorMark
import Derived.Sort.CutIn
import Derived.Lib.AppendStr
import Derived.Laws.IdiomStrings
import Derived.Lib.BufferRead
namespace Go.Proofs.YtjcgfbmkgfhnaaaDoor
open Go.RowKit Go.Shelf
attribute [local go_sem] Oper.semAt_some

/-- The bytes that are written for one of the replies. -/
def encX (dg : Int → ByteArray) (x : El) : List UInt8 :=
  markS (headS x) :: ((saidS dg (headS x)).data.toList ++ ([13, 10] ++ if (headS x).isLen then x.s.1.data.toList ++ [13, 10] else []))
def encE (dg : Int → ByteArray) (l : List El) : List UInt8 := l.flatMap (encX dg)
def cellsB (l : List UInt8) : List Value := l.map fun b => Value.int .u8 (b.toNat : Int)

/-- What is written is short, and its number of a kind. -/
def okX (dg : Int → ByteArray) (p : Int → Prop) (x : El) : Prop := headS x ≠ .none ∧ (headS x).okN p ∧ x.s.1.size ≤ 600 ∧ (saidS dg (headS x)).size ≤ 600

theorem okX_of {dg : Int → ByteArray} {p : Int → Prop} {x : El} (hf : fitsS (headS x) x.high = true) (hp : (headS x).okN p) (hsz : ∀ n, p n → (dg n).size ≤ 600) : okX dg p x := by
  have hne : headS x ≠ .none := fun e => by rw [e] at hf; cases hf
  have h2 : (saidS dg (headS x)).size ≤ 600 := by
    clear hne
    generalize headS x = h at hf hp ⊢
    cases h with
    | none => cases hf
    | simple s => simp only [fitsS, Bool.and_eq_true, decide_eq_true_eq] at hf; have := hf.1; simp only [saidS]; omega
    | failure s => simp only [fitsS, Bool.and_eq_true, decide_eq_true_eq] at hf; have := hf.1; simp only [saidS]; omega
    | number n => exact hsz n hp
    | length n => exact hsz n hp
    | nothing => show (2 : Nat) ≤ 600; omega
    | count n => exact hsz n hp
  refine ⟨hne, hp, ?_, h2⟩
  by_cases h0 : x.s.1.toList = []
  · have : x.s.1.size = 0 := by
      have e := Lib.toList_data x.s.1
      rw [h0] at e
      have := congrArg List.length e
      simp at this
      exact this.symm
    omega
  · -- a worded head
    unfold headS at hf hne
    split at hne
    · exact absurd rfl hne
    · rename_i hc
      have hk : x.k = 1 ∨ x.k = 2 ∨ x.k = 4 := Decidable.byContradiction fun hk => hc (.inr (.inl ⟨h0, hk⟩))
      rw [if_neg hc] at hf
      rcases hk with e | e | e
      · rw [if_pos e] at hf
        simp only [fitsS, Bool.and_eq_true, decide_eq_true_eq] at hf
        have := hf.1; omega
      · rw [if_neg (by omega), if_pos e] at hf
        simp only [fitsS, Bool.and_eq_true, decide_eq_true_eq] at hf
        have := hf.1; omega
      · rw [if_neg (by omega), if_neg (by omega), if_neg (by omega), if_pos e] at hf
        simp only [fitsS, decide_eq_true_eq] at hf
        have := hf.2; omega

theorem Tryd.info5 : (Tryd.prog.info? 5).map (fun i => (i.zero, i.size, i.bytes)) = some (some (.int .u8 0), 1, 1) := by kernel_rfl

theorem cellsB_length (l : List UInt8) : (cellsB l).length = l.length := by simp [cellsB]
theorem cellsB_append (a b : List UInt8) : cellsB (a ++ b) = cellsB a ++ cellsB b := by simp [cellsB]
theorem cellsB_one (l : List UInt8) : ∀ u ∈ cellsB l, u.oneCell' = true := by
  intro u hu; simp only [cellsB, List.mem_map] at hu; obtain ⟨b, _, rfl⟩ := hu; rfl
theorem strCells_list (s : ByteArray) : Go.Lib.strCells s = cellsB s.data.toList := rfl

/-- The bytes so far lie in the variable at Bb; what a round must keep since W0 is kept. -/
def Buf (n₀ B Bb : Nat) (w W0 : World) (bs : List UInt8) (W : World) : Prop :=
  ∃ v, Boxed W Bb 44 v ∧ W.ownsRow n₀ 5 1 v bs.length (cellsB bs) ∧ Below n₀ w W ∧ Same24 W0 W ∧ KeepsFrom B W0 W

theorem own_later {W Wx : World} {n₀ : Nat} {e : TypeId} {size : Nat} {v : Value} {n : Nat} {xs : List Value} (hr : W.ownsRow n₀ e size v n xs) (hx : Below W.heap.size W Wx) : Wx.ownsRow n₀ e size v n xs := by
  refine hr.kept (row := none) ⟨hx.os, hx.tape, hx.output, hx.size, fun q hq _ => hx.block q hq⟩ ?_
  rcases hr.2 with ⟨rfl, _⟩ | ⟨_, _, _, rfl, _⟩
  · exact .inl rfl
  · exact .inr (by simp [Value.ownBlock])

/-- What an own row's block holds. -/
theorem own_block {W : World} {n₀ : Nat} {e : TypeId} {size : Nat} {v : Value} {n : Nat} {xs : List Value} (hr : W.ownsRow n₀ e size v n xs) {k : Nat} (hk : some k = v.ownBlock) : ∃ c, W.heap[k]? = some (Obj.cells c e (0, 0)) := by
  rcases hr.2 with ⟨rfl, _⟩ | ⟨g, cap, cur, rfl, _, hg, _⟩
  · simp [Value.ownBlock] at hk
  · simp [Value.ownBlock] at hk; subst hk; exact ⟨cur, hg⟩

theorem Buf.app {n₀ B Bb : Nat} {w W0 W Wx w1 : World} {v v' : Value} {bs bs' : List UInt8} (hn : n₀ ≤ w.heap.size) (hnB : n₀ ≤ Bb) (hb : Boxed W Bb 44 v) (hr : W.ownsRow n₀ 5 1 v bs.length (cellsB bs)) (hB : Below n₀ w W) (hs : Same24 W0 W) (hk : KeepsFrom B W0 W)
    (hx : Below W.heap.size W Wx) (hg : Wx.grownBy w1 v.ownBlock) (hown : w1.ownsRow n₀ 5 1 v' bs'.length (cellsB bs')) :
    Boxed w1 Bb 44 v ∧ Buf n₀ B Bb w W0 bs' (w1.setCell ⟨Bb, 0, none⟩ v') := by
  have hrx := own_later hr hx
  have hbx := boxed_later hb hx
  have hb1 : Boxed w1 Bb 44 v := hbx.kept hg (hbx.not_row (by decide) hrx)
  have hBx : Below n₀ w w1 := (hB.trans (hx.mono (Nat.le_trans hn hB.size))).grown hg (by have := hB.size; have := hx.size; omega) fun k e => (hr.lt k e).1
  have hs1 : Same24 Wx w1 := fun k c hkc => (hg.block k (Array.getElem?_eq_some_iff.1 hkc).1 (fun e => by
    obtain ⟨c', h'⟩ := own_block hrx e
    rw [hkc] at h'; cases h')).trans hkc
  have hk1 : KeepsFrom B Wx w1 := ⟨hg.size, fun k o _ hko hno => (hg.block k (Array.getElem?_eq_some_iff.1 hko).1 (fun e => by
    obtain ⟨c', h'⟩ := own_block hrx e
    rw [hko] at h'; cases h'; cases hno)).trans hko⟩
  refine ⟨hb1, v', hb1.set _, ?_, hBx.setCell (p := ⟨Bb, 0, none⟩) hnB _, ?_, ?_⟩
  · refine hown.kept (grownBy_setCell' w1 Bb v') ?_
    rcases hown.2 with ⟨rfl, _⟩ | ⟨g, _, _, rfl, _, hgg, _⟩
    · exact .inl rfl
    · refine .inr fun e => ?_
      have e' : g = Bb := by simpa [Value.ownBlock] using e
      subst e'
      have := (show w1.heap[g]? = _ from hb1).symm.trans hgg
      simp at this
  · exact ((hs.trans (Same24.of_below hx)).trans hs1).trans (Same24.set hb1 (by decide) _)
  · exact ((hk.trans (KeepsFrom.of_below hx)).trans hk1).trans ((KeepsOthers.setCell _ _ _).from _)

theorem below_drew {w W : World} (h : Below w.drew.heap.size w.drew W) : Below w.heap.size w W := ((Below.refl w.heap.size w).drew).trans h

theorem below_drew0 {n₀ : Nat} {w W : World} (h : Below n₀ w W) : Below n₀ w W.drew := h.drew
theorem below_alloc {w W : World} (h : Below w.heap.size w W) (o : Obj) : Below w.heap.size w (W.alloc o) := h.alloc h.size o
theorem own_form {W : World} {n₀ : Nat} {e : TypeId} {v : Value} {bs : List UInt8} {m : UInt8} {xs : List Value} (h : W.ownsRow n₀ e 1 v (bs ++ [m]).length xs) : ∃ g cap, v = .slice (some ⟨g, 0, none⟩) (bs ++ [m]).length cap := by
  obtain ⟨g, cap, hv, _⟩ := h.form (by simp)
  exact ⟨g, cap, hv⟩

/-- An append as a step of a region, where its run is known. -/
theorem stepIn_append {F : Fence} {n : Nat} {P : Program} {ops : Array Oper} {o : Oper} {a : Act} {w w' : World} {K : Act → World → Prop} {Q : Exit → Act → World → Prop} {E : Prop} {v xv v' : Value} (hgd : o.guard = none) (s x : Operand) (t u : TypeId)
    (ho : o.op = Op.call { callee := Callee.builtin Builtin.append, args := #[s, x], argTypes := #[t, u] }) (hs : a.eval s = v) (hx : a.eval x = xv) (hrun : (Builtin.append_ #[t, u] o.type #[v, xv]).run P w = .ok v' w')
    (h : K (a.put o.dst v') w') : if Region.wanted o (yielded ops a.tmps) = true then Oper.wpIn F n P o a w K Q else E := by
  have hw : Region.wanted o (yielded ops a.tmps) = true := by simp [Region.wanted, hgd]
  rw [if_pos hw]
  unfold Oper.wpIn
  refine ⟨?_, ?_⟩
  · simp [Oper.about, ho, resolve, Target.leads, Sem.run_pure]
  · rw [Oper.semAt_plain F _ _ (by rw [ho]; intro c hc'; cases hc')]
    simp [execOp, ho, resolve, invoke, builtin, hs, hx, hrun, Result.andThen]
    exact h

theorem wpListIn_append_run {F : Fence} {n : Nat} {P : Program} {ops : Array Oper} {rest : List Oper} {o : Oper} {a : Act} {w w' : World} {Q : Exit → Act → World → Prop} {v xv v' : Value} (hg : o.guard = none) (s x : Operand) (t u : TypeId)
    (ho : o.op = Op.call { callee := Callee.builtin Builtin.append, args := #[s, x], argTypes := #[t, u] }) (hs : a.eval s = v) (hx : a.eval x = xv) (hrun : (Builtin.append_ #[t, u] o.type #[v, xv]).run P w = .ok v' w')
    (h : wpListIn F n P ops Q rest (a.put o.dst v') w') : wpListIn F n P ops Q (o :: rest) a w := by
  refine wpListIn_plain hg fun K hK' => ?_
  unfold Oper.wpIn
  refine ⟨?_, ?_⟩
  · simp [Oper.about, ho, resolve, Target.leads, Sem.run_pure]
  · rw [Oper.semAt_plain F _ _ (by rw [ho]; intro c hc'; cases hc')]
    simp [execOp, ho, resolve, invoke, builtin, hs, hx, hrun, Result.andThen]
    exact hK' _ _ h

/-- A text more. -/
theorem app_str {n₀ : Nat} {W W6 : World} {i0 : TypeInfo} {v : Value} {bs : List UInt8} (hi0 : Tryd.prog.info? 5 = some i0) (hz0 : i0.zero = some (.int .u8 0)) (hz1 : i0.size = 1) (hz2 : i0.bytes = 1) (hr : W.ownsRow n₀ 5 1 v bs.length (cellsB bs))
    (hb : Below W.heap.size W W6) (s : ByteArray) (hs : s.size ≤ 600) (hl : bs.length ≤ 100000000000000) (hn : n₀ ≤ W.heap.size) :
    ∃ v' w1, (Builtin.append_ #[44, 9] 44 #[v, .string s]).run Tryd.prog W6 = .ok v' w1 ∧ w1.ownsRow n₀ 5 1 v' (bs ++ s.data.toList).length (cellsB (bs ++ s.data.toList)) ∧ W6.grownBy w1 v.ownBlock := by
  obtain ⟨v', w1, h1, h2, h3, _⟩ := Go.Lib.run_append_own_string (P := Tryd.prog) W6 n₀ 44 9 44 5 i0 Tryd.underlying44 Tryd.underlying9 hi0 hz0 hz1 hz2 v bs.length (cellsB bs)
    (own_later hr hb) s (by unfold maxLen; omega) (by omega) (by have := hb.size; omega)
  exact ⟨v', w1, h1, by rw [cellsB_append, List.length_append, Array.length_toList]; exact h2, h3⟩
theorem own_form' {W : World} {n₀ : Nat} {e : TypeId} {v : Value} {n : Nat} {xs : List Value} (h : W.ownsRow n₀ e 1 v n xs) (hn : 0 < n) : ∃ g cap, v = .slice (some ⟨g, 0, none⟩) n cap := by
  obtain ⟨g, cap, hv, _⟩ := h.form hn
  exact ⟨g, cap, hv⟩

theorem encX_length {dg : Int → ByteArray} {p : Int → Prop} {x : El} (h : okX dg p x) : (encX dg x).length ≤ 1300 := by
  obtain ⟨_, _, h1, h2⟩ := h
  have h1' : x.s.1.data.size ≤ 600 := h1
  have h2' : (saidS dg (headS x)).data.size ≤ 600 := h2
  unfold encX
  split <;> simp <;> omega
theorem enc_snoc (dg : Int → ByteArray) (l : List El) (x : El) : encE dg (l ++ [x]) = encE dg l ++ encX dg x := by simp [encE]
def encP (dg : Int → ByteArray) {ok : El → Prop} (l : List { x : El // ok x }) : List UInt8 := encE dg (l.map (·.1))
theorem enc_snoc' (dg : Int → ByteArray) (ok : El → Prop) (l : List { x : El // ok x }) (x : { x : El // ok x }) : encP dg (l ++ [x]) = encP dg l ++ encX dg x.1 := by simp [encP, encE]
theorem encP_length (dg : Int → ByteArray) (p : Int → Prop) : ∀ l : List { x : El // okX dg p x }, (encP dg l).length ≤ 1300 * l.length
  | [] => by simp [encP, encE]
  | x :: l => by
    have h := encX_length x.2
    have h2 := encP_length dg p l
    simp only [encP, List.map_cons, encE, List.flatMap_cons, List.length_append, List.length_cons] at *
    omega
def EncI (n₀ Bb : Nat) (bs : List UInt8) (W : World) : Prop := ∃ v, Boxed W Bb 44 v ∧ W.ownsRow n₀ 5 1 v bs.length (cellsB bs) ∧ True

/-- The text of bytes of an own row. -/
theorem conv_own {W : World} {n₀ : Nat} {v : Value} {bs : List UInt8} (hr : W.ownsRow n₀ 5 1 v bs.length (cellsB bs)) : (convert 44 9 v).run Tryd.prog W = .ok (.string ⟨bs.toArray⟩) W := by
  rcases hr.2 with ⟨rfl, h0⟩ | ⟨g, cap, cur, rfl, _, hg, _, _, hsz, htake⟩
  · obtain rfl := List.eq_nil_of_length_eq_zero h0
    exact Go.Lib.run_convert_nil_bytes W 44 9 5 0 Tryd.underlying44 Tryd.underlying5 Tryd.underlying9
  · refine run_convert_bytes_back W 44 9 5 ⟨g, 0, none⟩ cap bs Tryd.underlying44 Tryd.underlying5 Tryd.underlying9 fun j hj => ?_
    have h1 := hr.cells (g := g) rfl j (.int .u8 (bs[j].toNat : Int)) (by simp [cellsB, hj])
    exact h1

/-- One byte more. -/
theorem app_one {n₀ : Nat} {W W6 : World} {i0 : TypeInfo} {v : Value} {bs : List UInt8} (hi0 : Tryd.prog.info? 5 = some i0) (hz0 : i0.zero = some (.int .u8 0)) (hz1 : i0.size = 1) (hz2 : i0.bytes = 1) (hr : W.ownsRow n₀ 5 1 v bs.length (cellsB bs))
    (hb : Below W.heap.size W W6) (m : UInt8) (hl : bs.length ≤ 100000000000000) (hn : n₀ ≤ W.heap.size) :
    ∃ v' w1, (Builtin.append_ #[44, 44] 44 #[v, .slice (some ⟨W6.heap.size, 0, none⟩) 1 1]).run Tryd.prog (W6.alloc (Obj.cells #[.int .u8 (m.toNat : Int)] 5)) = .ok v' w1 ∧
      w1.ownsRow n₀ 5 1 v' (bs ++ [m]).length (cellsB (bs ++ [m])) ∧ (W6.alloc (Obj.cells #[.int .u8 (m.toNat : Int)] 5)).grownBy w1 v.ownBlock := by
  obtain ⟨v', w1, h1, h2, h3, _⟩ := run_append_own (P := Tryd.prog) (W6.alloc (Obj.cells #[.int .u8 (m.toNat : Int)] 5)) n₀ 44 44 5 i0 _ 1 1 Tryd.underlying44 hi0 hz0 hz1 hz2 rfl (by omega) v bs.length (cellsB bs)
    ((own_later hr hb).alloc _) ⟨W6.heap.size, 0, none⟩ 1 1 [.int .u8 (m.toNat : Int)] rfl (World.news_of_block (cs := #[.int .u8 (m.toNat : Int)]) (t := 5) (fr := (0, 0)) (heap_alloc_new _ _)) (by simp [Value.oneCell']) (by unfold maxLen; omega) (by omega) (by have := hb.size; simp; omega)
  exact ⟨v', w1, h1, by rw [cellsB_append, List.length_append]; exact h2, h3⟩

def EncPost (dg : Int → ByteArray) (w : World) (t : Fo) (e : Ending) (w' : World) : Prop :=
  e = .returned (.tuple #[.string ⟨(encE dg (t.flat 0)).toArray⟩, .int .i64 0]) ∧ Below w.heap.size w w'

set_option maxRecDepth 100000 in
set_option maxHeartbeats 2000000 in
theorem encode_ok (dg : Int → ByteArray) (p : Int → Prop) (k n : Int) (s : Txt) (a : Option Addr) (cap : Nat) (sub : Fo) (w : World) (hf : IsFo anyB w a sub) (hdep : sub.depth ≤ 1000)
    (hr : rightS (.cons k n s a cap sub .nil) = true) (hok : ∀ x ∈ (Fo.cons k n s a cap sub .nil).flat 0, okX dg p x) (hN : ((Fo.cons k n s a cap sub .nil).flat 0).length ≤ 1000000000)
    (hW : ∀ W, Below w.heap.size w W → ∀ n, p n → Writes dg n W) :
    Calls Tryd.prog 10 #[.agg #[.int .i64 k, .int .i64 n, .string s.1, .slice a sub.len cap]] w (EncPost dg w (.cons k n s a cap sub .nil)) := by
  have hR := right_any k n s a cap sub (w.alloc (Obj.cells #[.int .i64 k, .int .i64 n, .string s.1, .slice a sub.len cap] 24)) (hf.same ((Same24.refl _).alloc _)) hdep
  rw [hr] at hR
  have HR := Lib.hid hR
  clear hR
  refine (callsIn_wide (n := 6)).1 (callsIn_of_wp_marks Tryd.func10 rfl trivial ?_ rfl)
  refine wpIn_wide.2 ?_
  simp only [Tryd.ntmps10, List.size_toArray, List.length_cons, List.length_nil, Nat.reduceAdd, Nat.reduceSub, Array.replicate_succ, Array.replicate_zero, List.push_toArray, List.append_toArray, List.nil_append, List.cons_append]
  go_wp2_with fail
  refine HR.out.mono ?_
  clear HR
  rintro e W1 ⟨rfl, hb1⟩
  have hx1 : W1.heap[w.heap.size]? = some (Obj.cells #[.int .i64 k, .int .i64 n, .string s.1, .slice a sub.len cap] 24 (0, 0)) := (hb1.block _ (by simp)).trans (heap_alloc_new _ _)
  have hB1 : Below w.heap.size w W1 := ((Below.refl _ _).alloc (Nat.le_refl _) _).trans (hb1.mono (by simp))
  have hwW : w.heap.size < W1.heap.size := (Array.getElem?_eq_some_iff.1 hx1).1
  obtain ⟨W2, hW2⟩ : ∃ W2, W1.alloc (Obj.cells #[Value.slice none 0 0] 44) = W2 := ⟨_, rfl⟩
  have hx2 : W2.heap[w.heap.size]? = some (Obj.cells #[.int .i64 k, .int .i64 n, .string s.1, .slice a sub.len cap] 24 (0, 0)) := by rw [← hW2]; exact (Below.heap_alloc _ _ _ hwW).trans hx1
  have hq2 : Boxed W2 W1.heap.size 44 (.slice none 0 0) := by rw [← hW2]; exact Boxed.new _ _ _
  have hB2 : Below w.heap.size w W2 := by rw [← hW2]; exact hB1.alloc hB1.size _
  have hz2 : W2.heap.size = W1.heap.size + 1 := by rw [← hW2]; simp
  have e0 : W2.cell? ⟨w.heap.size, 0, none⟩ = some (.int .i64 k) := by rw [cell_in 0 hx2]; rfl
  have e1 : W2.cell? ⟨w.heap.size, 1, none⟩ = some (.int .i64 n) := by rw [cell_in 1 hx2]; rfl
  have e2 : W2.cell? ⟨w.heap.size, 2, none⟩ = some (.string s.1) := by rw [cell_in 2 hx2]; rfl
  have e3 : W2.cell? ⟨w.heap.size, 3, none⟩ = some (.slice a sub.len cap) := by rw [cell_in 3 hx2]; rfl
  clear hb1 hx1
  go_wp2_with (go_at_call 21; refine (all_any _ _ _ _).mono ?_; rintro e w' ⟨rfl, rfl⟩)
  have hrow : (W2.alloc (Obj.cells #[.int .i64 k, .int .i64 n, .string s.1, .slice a sub.len cap] 24)).heap[W1.heap.size + 1]? = some (Obj.cells #[.int .i64 k, .int .i64 n, .string s.1, .slice a sub.len cap] 24 (0, 0)) := heap_at (by omega)
  have hB4 : Below w.heap.size w ((W2.alloc (Obj.cells #[.int .i64 k, .int .i64 n, .string s.1, .slice a sub.len cap] 24)).alloc (Obj.cells #[.slice (some ⟨W1.heap.size + 1, 0, none⟩) 1 1] 22)) := (hB2.alloc hB2.size _).alloc (by have := hB2.size; simp; omega) _
  have hT : IsFo anyB ((W2.alloc (Obj.cells #[.int .i64 k, .int .i64 n, .string s.1, .slice a sub.len cap] 24)).alloc (Obj.cells #[.slice (some ⟨W1.heap.size + 1, 0, none⟩) 1 1] 22)) (some ⟨W1.heap.size + 1, 0, none⟩) (.cons k n s a cap sub .nil) := by
    refine ⟨by simp [Fo.len], W1.heap.size + 1, 0, fun _ => ⟨rfl, trivial⟩, ⟨_, (Same24.refl _).alloc _ |>.at hrow, rfl, rfl, rfl, rfl⟩, ?_, trivial⟩
    obtain ⟨hl, g, o, ha, hc⟩ := hf.same (Same24.of_below hB4)
    exact ⟨hl, g, o, ha, hc⟩
  have hq4 := (hq2.alloc (Obj.cells #[.int .i64 k, .int .i64 n, .string s.1, .slice a sub.len cap] 24)).alloc (Obj.cells #[.slice (some ⟨W1.heap.size + 1, 0, none⟩) 1 1] 22)
  have hbox : ((W2.alloc (Obj.cells #[.int .i64 k, .int .i64 n, .string s.1, .slice a sub.len cap] 24)).alloc (Obj.cells #[.slice (some ⟨W1.heap.size + 1, 0, none⟩) 1 1] 22)).cell? ⟨W1.heap.size + 1 + 1, 0, none⟩ = some (.slice (some ⟨W1.heap.size + 1, 0, none⟩) 1 1) := Boxed.cell (t := 22) (heap_at (by simp; omega))
  have hsz4 : ((W2.alloc (Obj.cells #[.int .i64 k, .int .i64 n, .string s.1, .slice a sub.len cap] 24)).alloc (Obj.cells #[.slice (some ⟨W1.heap.size + 1, 0, none⟩) 1 1] 22)).heap.size = W1.heap.size + 1 + 1 + 1 := by simp; omega
  obtain ⟨W4, hW4⟩ : ∃ W4, (W2.alloc (Obj.cells #[.int .i64 k, .int .i64 n, .string s.1, .slice a sub.len cap] 24)).alloc (Obj.cells #[.slice (some ⟨W1.heap.size + 1, 0, none⟩) 1 1] 22) = W4 := ⟨_, rfl⟩
  rw [hW4] at hB4 hT hq4 hbox hsz4 ⊢
  clear hrow hW4 e0 e1 e2 e3 hx2 hq2 hB2 hW2 hz2
  have hwz := hB1.size
  obtain ⟨i0, hi0, hz0, hz1, hz2⟩ := info_parts Tryd.info5
  refine (wpIn_wide (n := 6)).1 (wpIn_rangeFunc_ownH (F := Fence.wide) rfl (by decide) (gf := 27) (lb := #[.pointer (some ⟨W1.heap.size + 1 + 1, 0, none⟩)]) rfl trivial (enters_of Tryd.func27 (by kernel_rfl) rfl)
    (all_stops_of (okX dg p) Fence.wide rfl 5 trivial trivial rfl (W1.heap.size + 1 + 1) (some ⟨W1.heap.size + 1, 0, none⟩) 1 (.cons k n s a cap sub .nil) W4 (by omega) hbox hT (by simp [Fo.depth]; omega) hok)
    (fun h k => Same24.trans h k) Same24.bookkeeping (Below.refl _ _) (fun _ => rfl)
    (fun pre W => EncI w.heap.size W1.heap.size (encP dg pre) W ∧ Below w.heap.size w W)
    (fun _ _ _ => False)
    (OwnFrom.and (Own.from (holdsRow_own _ _ _ _ _ (fun (pre : List { x : El // okX dg p x }) => (encP dg pre).length) (fun pre => cellsB (encP dg pre)) (fun _ _ => True)) _) (ownFrom_below (Nat.le_refl _) hB4.size))
    (fun c => fun _ _ _ _ hs _ _ => hs)
    ⟨⟨_, hq4, World.ownsRow_nil _ _ _ _, trivial⟩, hB4⟩
    (fun x a' W => ∃ b, PartAt x.1 b W ∧ a' = { tmps := #[Value.agg #[Value.int IntKind.i64 k, Value.int IntKind.i64 n, Value.string s.val, Value.slice a sub.len cap],
          Value.pointer (some { block := w.heap.size, off := 0 }), Value.string { data := #[] },
          Value.int IntKind.i64 0, Value.pointer (some { block := W1.heap.size, off := 0 }), undef, .pointer (some ⟨b, 0, none⟩), undef, undef,
          undef,
          Value.agg #[Value.int IntKind.i64 k, Value.int IntKind.i64 n, Value.string s.val, Value.slice a sub.len cap],
          Value.bool true, Value.bool false,
          Value.agg #[Value.int IntKind.i64 k, Value.int IntKind.i64 n, Value.string s.val, Value.slice a sub.len cap],
          Value.slice (some { block := W1.heap.size + 1, off := 0 }) 1 1,
          Value.func (Fn.func 27) #[] #[Value.pointer (some { block := W1.heap.size + 1 + 1, off := 0 })], .int .i64 x.1.high, x.1.val,
          undef, undef, undef, undef, undef, undef, undef, undef, undef, undef, undef, undef, undef, undef, undef,
          undef, undef, undef, undef, undef, undef, undef, undef, undef, undef, undef, undef], defers := [] })
    (fun x a' => PartAt.own x.1 _ a' _) ?assign ?body ?done ?stop)
  case assign =>
    rintro l pre x W K ⟨⟨v, hb, hr, _⟩, hB⟩ hK
    clear hB4 hT hf hq4 hbox
    simp only [El.encs]
    gi_wp2
    exact hK _ _ (KeepsFrom.of_below ((Below.refl _ _).alloc (Nat.le_refl _) _)) ((Same24.refl _).alloc _) ⟨⟨v, Boxed.alloc hb _, hr.alloc _, trivial⟩, hB.alloc hB.size _⟩ ⟨W.heap.size, heap_at rfl, rfl⟩
  case body =>
    rintro l pre ⟨x, hx⟩ a' W _ _ ⟨⟨v, hb, hrow, _⟩, hB⟩ ⟨b, hp, rfl⟩ hlt
    obtain ⟨hne, hnum, hs6, hd6⟩ := hx
    obtain ⟨T, u, fm, fs, K⟩ := head_kit Tryd.underlying49 dg p (headS x) hne
    clear hB4 hT hf hq4 hbox hsz4
    have p0 : W.cell? ⟨b, 0, none⟩ = some (.int .i64 x.k) := by rw [cell_in 0 hp]; rfl
    have p1 : W.cell? ⟨b, 1, none⟩ = some (.int .i64 x.n) := by rw [cell_in 1 hp]; rfl
    have p2 : W.cell? ⟨b, 2, none⟩ = some (.string x.s.1) := by rw [cell_in 2 hp]; rfl
    have p3 : W.cell? ⟨b, 3, none⟩ = some (.slice x.a x.len x.cap) := by rw [cell_in 3 hp]; rfl
    have hh := headOf_any x W
    rw [K.val] at hh
    have HH := Lib.hid hh
    clear hh
    have hmk := K.mark
    have hsd := K.said
    have hem := K.enterM
    have hes := K.enterS
    have HM := fun W => Lib.hid (K.callM W)
    have HS := fun W (h : Below w.heap.size w W) => Lib.hid (K.callS hnum W (hW W h))
    obtain ⟨ul, hul⟩ := K.isLen
    gi_wp2_with (first
        | ((try refine ⟨trivial, ?_⟩); gi_at_call 22; refine (CallsIn.inRound l (callsIn_wide.2 HH.out)).mono ?_; clear HH; rintro e W5 ⟨rfl, hb5⟩))
    have hb5' := boxed_later hb hb5
    have hr5 := own_later hrow hb5
    have hB5 : Below w.heap.size w W5 := hB.trans (hb5.mono hB.size)
    have hs5 : Same24 W W5 := Same24.of_below hb5
    have hk5 : KeepsFrom W4.heap.size W W5 := KeepsFrom.of_below hb5
    clear hb hrow hB hb5 p0 p1 p2 p3
    have hlen : (encP dg pre).length ≤ 1300 * pre.length := encP_length dg p pre
    have hpn : pre.length ≤ 1000000000 := by omega
    generalize hbs : encP dg pre = bs at *
    have HBS := Lib.hid hbs
    clear hbs
    have hmx : Tryd.prog.follows .mixedOrders = true := by kernel_rfl
    have hc5 := hb5'.cell
    gi_cut [] from 20 (fun W' => Buf w.heap.size W4.heap.size W1.heap.size w W (bs ++ [markS (headS x)]) W')
    case first =>
      refine wpIn_region_any hmx ?_
      change wpAnyIn _ _ _ _ _ _ _ _ _ (World.drew _)
      all_goals (first | refine wpAnyIn_ready (rs := [0, 1]) (by decide +kernel) (by simp) (AllReadyIn.cons rfl (fun K hK => ?_) (AllReadyIn.cons rfl (fun K hK => ?_) AllReadyIn.nil)) | refine wpAnyIn_ready (rs := [0, 2]) (by decide +kernel) (by simp) (AllReadyIn.cons rfl (fun K hK => ?_) (AllReadyIn.cons rfl (fun K hK => ?_) AllReadyIn.nil)) | refine wpAnyIn_ready (rs := [0, 3]) (by decide +kernel) (by simp) (AllReadyIn.cons rfl (fun K hK => ?_) (AllReadyIn.cons rfl (fun K hK => ?_) AllReadyIn.nil)) | refine wpAnyIn_ready (rs := [0]) (by decide +kernel) (by simp) (AllReadyIn.cons rfl (fun K hK => ?_) AllReadyIn.nil) | refine wpAnyIn_ready (rs := [1]) (by decide +kernel) (by simp) (AllReadyIn.cons rfl (fun K hK => ?_) AllReadyIn.nil) | refine wpAnyIn_ready (rs := [2]) (by decide +kernel) (by simp) (AllReadyIn.cons rfl (fun K hK => ?_) AllReadyIn.nil) | refine wpAnyIn_ready (rs := [3]) (by decide +kernel) (by simp) (AllReadyIn.cons rfl (fun K hK => ?_) AllReadyIn.nil) | refine wpAnyIn_ready (rs := [4]) (by decide +kernel) (by simp) (AllReadyIn.cons rfl (fun K hK => ?_) AllReadyIn.nil) | refine wpAnyIn_ready (rs := [5]) (by decide +kernel) (by simp) (AllReadyIn.cons rfl (fun K hK => ?_) AllReadyIn.nil))
      all_goals (first | (refine stepIn_append rfl _ _ 44 44 rfl rfl rfl hrun ?_; refine hK _ _ ?_; clear hK K hrun) | (go_simp; refine hK _ _ ?_; clear hK K) | (go_simp; (try refine ⟨trivial, ?_⟩); refine (CallsIn.inRound l (callsIn_wide.2 (HM _).out)).mono ?_; rintro e W6 ⟨rfl, hb6⟩; have hbx6 := boxed_later hb5' (below_drew hb6); have hc6 := hbx6.cell; have hlt6 := hbx6.lt; obtain ⟨v', w7, hrun, hown, hgrow⟩ := app_one hi0 hz0 hz1 hz2 hr5 (below_drew hb6) (markS (headS x)) (by omega) (by have := hB5.size; omega); obtain ⟨hb7, hbuf⟩ := Buf.app (Nat.le_refl _) hwz hb5' hr5 hB5 hs5 hk5 (below_alloc (below_drew hb6) _) hgrow hown; have hc7 := hb7.cell; have hf7 := hb7.frozen; obtain ⟨g7, cap7, rfl⟩ := own_form hown; go_simp; refine hK _ _ ?_; clear hK K))
      all_goals (first | refine wpAnyIn_ready (rs := [0, 1]) (by decide +kernel) (by simp) (AllReadyIn.cons rfl (fun K hK => ?_) (AllReadyIn.cons rfl (fun K hK => ?_) AllReadyIn.nil)) | refine wpAnyIn_ready (rs := [0, 2]) (by decide +kernel) (by simp) (AllReadyIn.cons rfl (fun K hK => ?_) (AllReadyIn.cons rfl (fun K hK => ?_) AllReadyIn.nil)) | refine wpAnyIn_ready (rs := [0, 3]) (by decide +kernel) (by simp) (AllReadyIn.cons rfl (fun K hK => ?_) (AllReadyIn.cons rfl (fun K hK => ?_) AllReadyIn.nil)) | refine wpAnyIn_ready (rs := [0]) (by decide +kernel) (by simp) (AllReadyIn.cons rfl (fun K hK => ?_) AllReadyIn.nil) | refine wpAnyIn_ready (rs := [1]) (by decide +kernel) (by simp) (AllReadyIn.cons rfl (fun K hK => ?_) AllReadyIn.nil) | refine wpAnyIn_ready (rs := [2]) (by decide +kernel) (by simp) (AllReadyIn.cons rfl (fun K hK => ?_) AllReadyIn.nil) | refine wpAnyIn_ready (rs := [3]) (by decide +kernel) (by simp) (AllReadyIn.cons rfl (fun K hK => ?_) AllReadyIn.nil) | refine wpAnyIn_ready (rs := [4]) (by decide +kernel) (by simp) (AllReadyIn.cons rfl (fun K hK => ?_) AllReadyIn.nil) | refine wpAnyIn_ready (rs := [5]) (by decide +kernel) (by simp) (AllReadyIn.cons rfl (fun K hK => ?_) AllReadyIn.nil))
      all_goals (first | (refine stepIn_append rfl _ _ 44 44 rfl rfl rfl hrun ?_; refine hK _ _ ?_; clear hK K hrun) | (go_simp; refine hK _ _ ?_; clear hK K) | (go_simp; (try refine ⟨trivial, ?_⟩); refine (CallsIn.inRound l (callsIn_wide.2 (HM _).out)).mono ?_; rintro e W6 ⟨rfl, hb6⟩; have hbx6 := boxed_later hb5' (below_drew hb6); have hc6 := hbx6.cell; have hlt6 := hbx6.lt; obtain ⟨v', w7, hrun, hown, hgrow⟩ := app_one hi0 hz0 hz1 hz2 hr5 (below_drew hb6) (markS (headS x)) (by omega) (by have := hB5.size; omega); obtain ⟨hb7, hbuf⟩ := Buf.app (Nat.le_refl _) hwz hb5' hr5 hB5 hs5 hk5 (below_alloc (below_drew hb6) _) hgrow hown; have hc7 := hb7.cell; have hf7 := hb7.frozen; obtain ⟨g7, cap7, rfl⟩ := own_form hown; go_simp; refine hK _ _ ?_; clear hK K))
      all_goals (first | refine wpAnyIn_ready (rs := [0, 1]) (by decide +kernel) (by simp) (AllReadyIn.cons rfl (fun K hK => ?_) (AllReadyIn.cons rfl (fun K hK => ?_) AllReadyIn.nil)) | refine wpAnyIn_ready (rs := [0, 2]) (by decide +kernel) (by simp) (AllReadyIn.cons rfl (fun K hK => ?_) (AllReadyIn.cons rfl (fun K hK => ?_) AllReadyIn.nil)) | refine wpAnyIn_ready (rs := [0, 3]) (by decide +kernel) (by simp) (AllReadyIn.cons rfl (fun K hK => ?_) (AllReadyIn.cons rfl (fun K hK => ?_) AllReadyIn.nil)) | refine wpAnyIn_ready (rs := [0]) (by decide +kernel) (by simp) (AllReadyIn.cons rfl (fun K hK => ?_) AllReadyIn.nil) | refine wpAnyIn_ready (rs := [1]) (by decide +kernel) (by simp) (AllReadyIn.cons rfl (fun K hK => ?_) AllReadyIn.nil) | refine wpAnyIn_ready (rs := [2]) (by decide +kernel) (by simp) (AllReadyIn.cons rfl (fun K hK => ?_) AllReadyIn.nil) | refine wpAnyIn_ready (rs := [3]) (by decide +kernel) (by simp) (AllReadyIn.cons rfl (fun K hK => ?_) AllReadyIn.nil) | refine wpAnyIn_ready (rs := [4]) (by decide +kernel) (by simp) (AllReadyIn.cons rfl (fun K hK => ?_) AllReadyIn.nil) | refine wpAnyIn_ready (rs := [5]) (by decide +kernel) (by simp) (AllReadyIn.cons rfl (fun K hK => ?_) AllReadyIn.nil))
      all_goals (first | (refine stepIn_append rfl _ _ 44 44 rfl rfl rfl hrun ?_; refine hK _ _ ?_; clear hK K hrun) | (go_simp; refine hK _ _ ?_; clear hK K) | (go_simp; (try refine ⟨trivial, ?_⟩); refine (CallsIn.inRound l (callsIn_wide.2 (HM _).out)).mono ?_; rintro e W6 ⟨rfl, hb6⟩; have hbx6 := boxed_later hb5' (below_drew hb6); have hc6 := hbx6.cell; have hlt6 := hbx6.lt; obtain ⟨v', w7, hrun, hown, hgrow⟩ := app_one hi0 hz0 hz1 hz2 hr5 (below_drew hb6) (markS (headS x)) (by omega) (by have := hB5.size; omega); obtain ⟨hb7, hbuf⟩ := Buf.app (Nat.le_refl _) hwz hb5' hr5 hB5 hs5 hk5 (below_alloc (below_drew hb6) _) hgrow hown; have hc7 := hb7.cell; have hf7 := hb7.frozen; obtain ⟨g7, cap7, rfl⟩ := own_form hown; go_simp; refine hK _ _ ?_; clear hK K))
      all_goals (first | refine wpAnyIn_ready (rs := [0, 1]) (by decide +kernel) (by simp) (AllReadyIn.cons rfl (fun K hK => ?_) (AllReadyIn.cons rfl (fun K hK => ?_) AllReadyIn.nil)) | refine wpAnyIn_ready (rs := [0, 2]) (by decide +kernel) (by simp) (AllReadyIn.cons rfl (fun K hK => ?_) (AllReadyIn.cons rfl (fun K hK => ?_) AllReadyIn.nil)) | refine wpAnyIn_ready (rs := [0, 3]) (by decide +kernel) (by simp) (AllReadyIn.cons rfl (fun K hK => ?_) (AllReadyIn.cons rfl (fun K hK => ?_) AllReadyIn.nil)) | refine wpAnyIn_ready (rs := [0]) (by decide +kernel) (by simp) (AllReadyIn.cons rfl (fun K hK => ?_) AllReadyIn.nil) | refine wpAnyIn_ready (rs := [1]) (by decide +kernel) (by simp) (AllReadyIn.cons rfl (fun K hK => ?_) AllReadyIn.nil) | refine wpAnyIn_ready (rs := [2]) (by decide +kernel) (by simp) (AllReadyIn.cons rfl (fun K hK => ?_) AllReadyIn.nil) | refine wpAnyIn_ready (rs := [3]) (by decide +kernel) (by simp) (AllReadyIn.cons rfl (fun K hK => ?_) AllReadyIn.nil) | refine wpAnyIn_ready (rs := [4]) (by decide +kernel) (by simp) (AllReadyIn.cons rfl (fun K hK => ?_) AllReadyIn.nil) | refine wpAnyIn_ready (rs := [5]) (by decide +kernel) (by simp) (AllReadyIn.cons rfl (fun K hK => ?_) AllReadyIn.nil))
      all_goals (first | (refine stepIn_append rfl _ _ 44 44 rfl rfl rfl hrun ?_; refine hK _ _ ?_; clear hK K hrun) | (go_simp; refine hK _ _ ?_; clear hK K) | (go_simp; (try refine ⟨trivial, ?_⟩); refine (CallsIn.inRound l (callsIn_wide.2 (HM _).out)).mono ?_; rintro e W6 ⟨rfl, hb6⟩; have hbx6 := boxed_later hb5' (below_drew hb6); have hc6 := hbx6.cell; have hlt6 := hbx6.lt; obtain ⟨v', w7, hrun, hown, hgrow⟩ := app_one hi0 hz0 hz1 hz2 hr5 (below_drew hb6) (markS (headS x)) (by omega) (by have := hB5.size; omega); obtain ⟨hb7, hbuf⟩ := Buf.app (Nat.le_refl _) hwz hb5' hr5 hB5 hs5 hk5 (below_alloc (below_drew hb6) _) hgrow hown; have hc7 := hb7.cell; have hf7 := hb7.frozen; obtain ⟨g7, cap7, rfl⟩ := own_form hown; go_simp; refine hK _ _ ?_; clear hK K))
      all_goals (first | refine wpAnyIn_ready (rs := [0, 1]) (by decide +kernel) (by simp) (AllReadyIn.cons rfl (fun K hK => ?_) (AllReadyIn.cons rfl (fun K hK => ?_) AllReadyIn.nil)) | refine wpAnyIn_ready (rs := [0, 2]) (by decide +kernel) (by simp) (AllReadyIn.cons rfl (fun K hK => ?_) (AllReadyIn.cons rfl (fun K hK => ?_) AllReadyIn.nil)) | refine wpAnyIn_ready (rs := [0, 3]) (by decide +kernel) (by simp) (AllReadyIn.cons rfl (fun K hK => ?_) (AllReadyIn.cons rfl (fun K hK => ?_) AllReadyIn.nil)) | refine wpAnyIn_ready (rs := [0]) (by decide +kernel) (by simp) (AllReadyIn.cons rfl (fun K hK => ?_) AllReadyIn.nil) | refine wpAnyIn_ready (rs := [1]) (by decide +kernel) (by simp) (AllReadyIn.cons rfl (fun K hK => ?_) AllReadyIn.nil) | refine wpAnyIn_ready (rs := [2]) (by decide +kernel) (by simp) (AllReadyIn.cons rfl (fun K hK => ?_) AllReadyIn.nil) | refine wpAnyIn_ready (rs := [3]) (by decide +kernel) (by simp) (AllReadyIn.cons rfl (fun K hK => ?_) AllReadyIn.nil) | refine wpAnyIn_ready (rs := [4]) (by decide +kernel) (by simp) (AllReadyIn.cons rfl (fun K hK => ?_) AllReadyIn.nil) | refine wpAnyIn_ready (rs := [5]) (by decide +kernel) (by simp) (AllReadyIn.cons rfl (fun K hK => ?_) AllReadyIn.nil))
      all_goals (first | (refine stepIn_append rfl _ _ 44 44 rfl rfl rfl hrun ?_; refine hK _ _ ?_; clear hK K hrun) | (go_simp; refine hK _ _ ?_; clear hK K) | (go_simp; (try refine ⟨trivial, ?_⟩); refine (CallsIn.inRound l (callsIn_wide.2 (HM _).out)).mono ?_; rintro e W6 ⟨rfl, hb6⟩; have hbx6 := boxed_later hb5' (below_drew hb6); have hc6 := hbx6.cell; have hlt6 := hbx6.lt; obtain ⟨v', w7, hrun, hown, hgrow⟩ := app_one hi0 hz0 hz1 hz2 hr5 (below_drew hb6) (markS (headS x)) (by omega) (by have := hB5.size; omega); obtain ⟨hb7, hbuf⟩ := Buf.app (Nat.le_refl _) hwz hb5' hr5 hB5 hs5 hk5 (below_alloc (below_drew hb6) _) hgrow hown; have hc7 := hb7.cell; have hf7 := hb7.frozen; obtain ⟨g7, cap7, rfl⟩ := own_form hown; go_simp; refine hK _ _ ?_; clear hK K))
      all_goals (first | refine wpAnyIn_ready (rs := [0, 1]) (by decide +kernel) (by simp) (AllReadyIn.cons rfl (fun K hK => ?_) (AllReadyIn.cons rfl (fun K hK => ?_) AllReadyIn.nil)) | refine wpAnyIn_ready (rs := [0, 2]) (by decide +kernel) (by simp) (AllReadyIn.cons rfl (fun K hK => ?_) (AllReadyIn.cons rfl (fun K hK => ?_) AllReadyIn.nil)) | refine wpAnyIn_ready (rs := [0, 3]) (by decide +kernel) (by simp) (AllReadyIn.cons rfl (fun K hK => ?_) (AllReadyIn.cons rfl (fun K hK => ?_) AllReadyIn.nil)) | refine wpAnyIn_ready (rs := [0]) (by decide +kernel) (by simp) (AllReadyIn.cons rfl (fun K hK => ?_) AllReadyIn.nil) | refine wpAnyIn_ready (rs := [1]) (by decide +kernel) (by simp) (AllReadyIn.cons rfl (fun K hK => ?_) AllReadyIn.nil) | refine wpAnyIn_ready (rs := [2]) (by decide +kernel) (by simp) (AllReadyIn.cons rfl (fun K hK => ?_) AllReadyIn.nil) | refine wpAnyIn_ready (rs := [3]) (by decide +kernel) (by simp) (AllReadyIn.cons rfl (fun K hK => ?_) AllReadyIn.nil) | refine wpAnyIn_ready (rs := [4]) (by decide +kernel) (by simp) (AllReadyIn.cons rfl (fun K hK => ?_) AllReadyIn.nil) | refine wpAnyIn_ready (rs := [5]) (by decide +kernel) (by simp) (AllReadyIn.cons rfl (fun K hK => ?_) AllReadyIn.nil))
      all_goals (first | (refine stepIn_append rfl _ _ 44 44 rfl rfl rfl hrun ?_; refine hK _ _ ?_; clear hK K hrun) | (go_simp; refine hK _ _ ?_; clear hK K) | (go_simp; (try refine ⟨trivial, ?_⟩); refine (CallsIn.inRound l (callsIn_wide.2 (HM _).out)).mono ?_; rintro e W6 ⟨rfl, hb6⟩; have hbx6 := boxed_later hb5' (below_drew hb6); have hc6 := hbx6.cell; have hlt6 := hbx6.lt; obtain ⟨v', w7, hrun, hown, hgrow⟩ := app_one hi0 hz0 hz1 hz2 hr5 (below_drew hb6) (markS (headS x)) (by omega) (by have := hB5.size; omega); obtain ⟨hb7, hbuf⟩ := Buf.app (Nat.le_refl _) hwz hb5' hr5 hB5 hs5 hk5 (below_alloc (below_drew hb6) _) hgrow hown; have hc7 := hb7.cell; have hf7 := hb7.frozen; obtain ⟨g7, cap7, rfl⟩ := own_form hown; go_simp; refine hK _ _ ?_; clear hK K))
      all_goals (refine wpAnyIn_done (by decide +kernel) ?_ _; gi_wp2_with fail; gi_meet)
      all_goals (rw [List.length_append] at hbuf; exact hbuf)
    case rest =>
      obtain ⟨vr, hbr, hrr, hBr, hsr, hkr⟩ := hcut
      have hcr := hbr.cell
      clear hc5 hb5' hr5 hB5 hs5 hk5 HM
      gi_upto_region 8 with fail
      gi_cut [] from 20 (fun W' => Buf w.heap.size W4.heap.size W1.heap.size w W (bs ++ [markS (headS x)] ++ (saidS dg (headS x)).data.toList) W')
      case first =>
        refine wpIn_region_any hmx ?_
        change wpAnyIn _ _ _ _ _ _ _ _ _ (World.drew _)
        all_goals (first | refine wpAnyIn_ready (rs := [0, 1]) (by decide +kernel) (by simp) (AllReadyIn.cons rfl (fun K hK => ?_) (AllReadyIn.cons rfl (fun K hK => ?_) AllReadyIn.nil)) | refine wpAnyIn_ready (rs := [0, 2]) (by decide +kernel) (by simp) (AllReadyIn.cons rfl (fun K hK => ?_) (AllReadyIn.cons rfl (fun K hK => ?_) AllReadyIn.nil)) | refine wpAnyIn_ready (rs := [0, 3]) (by decide +kernel) (by simp) (AllReadyIn.cons rfl (fun K hK => ?_) (AllReadyIn.cons rfl (fun K hK => ?_) AllReadyIn.nil)) | refine wpAnyIn_ready (rs := [0]) (by decide +kernel) (by simp) (AllReadyIn.cons rfl (fun K hK => ?_) AllReadyIn.nil) | refine wpAnyIn_ready (rs := [1]) (by decide +kernel) (by simp) (AllReadyIn.cons rfl (fun K hK => ?_) AllReadyIn.nil) | refine wpAnyIn_ready (rs := [2]) (by decide +kernel) (by simp) (AllReadyIn.cons rfl (fun K hK => ?_) AllReadyIn.nil) | refine wpAnyIn_ready (rs := [3]) (by decide +kernel) (by simp) (AllReadyIn.cons rfl (fun K hK => ?_) AllReadyIn.nil) | refine wpAnyIn_ready (rs := [4]) (by decide +kernel) (by simp) (AllReadyIn.cons rfl (fun K hK => ?_) AllReadyIn.nil) | refine wpAnyIn_ready (rs := [5]) (by decide +kernel) (by simp) (AllReadyIn.cons rfl (fun K hK => ?_) AllReadyIn.nil))
        all_goals (first | (refine stepIn_append rfl _ _ 44 9 rfl rfl rfl hrun ?_; refine hK _ _ ?_; clear hK K hrun) | (go_simp; refine hK _ _ ?_; clear hK K) | (go_simp; (try refine ⟨trivial, ?_⟩); refine (CallsIn.inRound l (callsIn_wide.2 (HS _ (below_drew0 hBr)).out)).mono ?_; rintro e W6 ⟨rfl, hb6⟩; have hbx6 := boxed_later hbr (below_drew hb6); have hc6 := hbx6.cell; have hlt6 := hbx6.lt; obtain ⟨v', w7, hrun, hown, hgrow⟩ := app_str hi0 hz0 hz1 hz2 hrr (below_drew hb6) (saidS dg (headS x)) hd6 (by simp only [List.length_append, List.length_cons, List.length_nil]; omega) (by have := hBr.size; omega); obtain ⟨hb7, hbuf⟩ := Buf.app (Nat.le_refl _) hwz hbr hrr hBr hsr hkr (below_drew hb6) hgrow hown; have hc7 := hb7.cell; have hf7 := hb7.frozen; obtain ⟨g7, cap7, rfl⟩ := own_form' hown (by simp only [List.length_append, List.length_cons, List.length_nil]; omega); generalize hL : (bs ++ [markS (headS x)] ++ (saidS dg (headS x)).data.toList).length = L7 at *; go_simp; refine hK _ _ ?_; clear hK K))
        all_goals (first | refine wpAnyIn_ready (rs := [0, 1]) (by decide +kernel) (by simp) (AllReadyIn.cons rfl (fun K hK => ?_) (AllReadyIn.cons rfl (fun K hK => ?_) AllReadyIn.nil)) | refine wpAnyIn_ready (rs := [0, 2]) (by decide +kernel) (by simp) (AllReadyIn.cons rfl (fun K hK => ?_) (AllReadyIn.cons rfl (fun K hK => ?_) AllReadyIn.nil)) | refine wpAnyIn_ready (rs := [0, 3]) (by decide +kernel) (by simp) (AllReadyIn.cons rfl (fun K hK => ?_) (AllReadyIn.cons rfl (fun K hK => ?_) AllReadyIn.nil)) | refine wpAnyIn_ready (rs := [0]) (by decide +kernel) (by simp) (AllReadyIn.cons rfl (fun K hK => ?_) AllReadyIn.nil) | refine wpAnyIn_ready (rs := [1]) (by decide +kernel) (by simp) (AllReadyIn.cons rfl (fun K hK => ?_) AllReadyIn.nil) | refine wpAnyIn_ready (rs := [2]) (by decide +kernel) (by simp) (AllReadyIn.cons rfl (fun K hK => ?_) AllReadyIn.nil) | refine wpAnyIn_ready (rs := [3]) (by decide +kernel) (by simp) (AllReadyIn.cons rfl (fun K hK => ?_) AllReadyIn.nil) | refine wpAnyIn_ready (rs := [4]) (by decide +kernel) (by simp) (AllReadyIn.cons rfl (fun K hK => ?_) AllReadyIn.nil) | refine wpAnyIn_ready (rs := [5]) (by decide +kernel) (by simp) (AllReadyIn.cons rfl (fun K hK => ?_) AllReadyIn.nil))
        all_goals (first | (refine stepIn_append rfl _ _ 44 9 rfl rfl rfl hrun ?_; refine hK _ _ ?_; clear hK K hrun) | (go_simp; refine hK _ _ ?_; clear hK K) | (go_simp; (try refine ⟨trivial, ?_⟩); refine (CallsIn.inRound l (callsIn_wide.2 (HS _ (below_drew0 hBr)).out)).mono ?_; rintro e W6 ⟨rfl, hb6⟩; have hbx6 := boxed_later hbr (below_drew hb6); have hc6 := hbx6.cell; have hlt6 := hbx6.lt; obtain ⟨v', w7, hrun, hown, hgrow⟩ := app_str hi0 hz0 hz1 hz2 hrr (below_drew hb6) (saidS dg (headS x)) hd6 (by simp only [List.length_append, List.length_cons, List.length_nil]; omega) (by have := hBr.size; omega); obtain ⟨hb7, hbuf⟩ := Buf.app (Nat.le_refl _) hwz hbr hrr hBr hsr hkr (below_drew hb6) hgrow hown; have hc7 := hb7.cell; have hf7 := hb7.frozen; obtain ⟨g7, cap7, rfl⟩ := own_form' hown (by simp only [List.length_append, List.length_cons, List.length_nil]; omega); generalize hL : (bs ++ [markS (headS x)] ++ (saidS dg (headS x)).data.toList).length = L7 at *; go_simp; refine hK _ _ ?_; clear hK K))
        all_goals (first | refine wpAnyIn_ready (rs := [0, 1]) (by decide +kernel) (by simp) (AllReadyIn.cons rfl (fun K hK => ?_) (AllReadyIn.cons rfl (fun K hK => ?_) AllReadyIn.nil)) | refine wpAnyIn_ready (rs := [0, 2]) (by decide +kernel) (by simp) (AllReadyIn.cons rfl (fun K hK => ?_) (AllReadyIn.cons rfl (fun K hK => ?_) AllReadyIn.nil)) | refine wpAnyIn_ready (rs := [0, 3]) (by decide +kernel) (by simp) (AllReadyIn.cons rfl (fun K hK => ?_) (AllReadyIn.cons rfl (fun K hK => ?_) AllReadyIn.nil)) | refine wpAnyIn_ready (rs := [0]) (by decide +kernel) (by simp) (AllReadyIn.cons rfl (fun K hK => ?_) AllReadyIn.nil) | refine wpAnyIn_ready (rs := [1]) (by decide +kernel) (by simp) (AllReadyIn.cons rfl (fun K hK => ?_) AllReadyIn.nil) | refine wpAnyIn_ready (rs := [2]) (by decide +kernel) (by simp) (AllReadyIn.cons rfl (fun K hK => ?_) AllReadyIn.nil) | refine wpAnyIn_ready (rs := [3]) (by decide +kernel) (by simp) (AllReadyIn.cons rfl (fun K hK => ?_) AllReadyIn.nil) | refine wpAnyIn_ready (rs := [4]) (by decide +kernel) (by simp) (AllReadyIn.cons rfl (fun K hK => ?_) AllReadyIn.nil) | refine wpAnyIn_ready (rs := [5]) (by decide +kernel) (by simp) (AllReadyIn.cons rfl (fun K hK => ?_) AllReadyIn.nil))
        all_goals (first | (refine stepIn_append rfl _ _ 44 9 rfl rfl rfl hrun ?_; refine hK _ _ ?_; clear hK K hrun) | (go_simp; refine hK _ _ ?_; clear hK K) | (go_simp; (try refine ⟨trivial, ?_⟩); refine (CallsIn.inRound l (callsIn_wide.2 (HS _ (below_drew0 hBr)).out)).mono ?_; rintro e W6 ⟨rfl, hb6⟩; have hbx6 := boxed_later hbr (below_drew hb6); have hc6 := hbx6.cell; have hlt6 := hbx6.lt; obtain ⟨v', w7, hrun, hown, hgrow⟩ := app_str hi0 hz0 hz1 hz2 hrr (below_drew hb6) (saidS dg (headS x)) hd6 (by simp only [List.length_append, List.length_cons, List.length_nil]; omega) (by have := hBr.size; omega); obtain ⟨hb7, hbuf⟩ := Buf.app (Nat.le_refl _) hwz hbr hrr hBr hsr hkr (below_drew hb6) hgrow hown; have hc7 := hb7.cell; have hf7 := hb7.frozen; obtain ⟨g7, cap7, rfl⟩ := own_form' hown (by simp only [List.length_append, List.length_cons, List.length_nil]; omega); generalize hL : (bs ++ [markS (headS x)] ++ (saidS dg (headS x)).data.toList).length = L7 at *; go_simp; refine hK _ _ ?_; clear hK K))
        all_goals (first | refine wpAnyIn_ready (rs := [0, 1]) (by decide +kernel) (by simp) (AllReadyIn.cons rfl (fun K hK => ?_) (AllReadyIn.cons rfl (fun K hK => ?_) AllReadyIn.nil)) | refine wpAnyIn_ready (rs := [0, 2]) (by decide +kernel) (by simp) (AllReadyIn.cons rfl (fun K hK => ?_) (AllReadyIn.cons rfl (fun K hK => ?_) AllReadyIn.nil)) | refine wpAnyIn_ready (rs := [0, 3]) (by decide +kernel) (by simp) (AllReadyIn.cons rfl (fun K hK => ?_) (AllReadyIn.cons rfl (fun K hK => ?_) AllReadyIn.nil)) | refine wpAnyIn_ready (rs := [0]) (by decide +kernel) (by simp) (AllReadyIn.cons rfl (fun K hK => ?_) AllReadyIn.nil) | refine wpAnyIn_ready (rs := [1]) (by decide +kernel) (by simp) (AllReadyIn.cons rfl (fun K hK => ?_) AllReadyIn.nil) | refine wpAnyIn_ready (rs := [2]) (by decide +kernel) (by simp) (AllReadyIn.cons rfl (fun K hK => ?_) AllReadyIn.nil) | refine wpAnyIn_ready (rs := [3]) (by decide +kernel) (by simp) (AllReadyIn.cons rfl (fun K hK => ?_) AllReadyIn.nil) | refine wpAnyIn_ready (rs := [4]) (by decide +kernel) (by simp) (AllReadyIn.cons rfl (fun K hK => ?_) AllReadyIn.nil) | refine wpAnyIn_ready (rs := [5]) (by decide +kernel) (by simp) (AllReadyIn.cons rfl (fun K hK => ?_) AllReadyIn.nil))
        all_goals (first | (refine stepIn_append rfl _ _ 44 9 rfl rfl rfl hrun ?_; refine hK _ _ ?_; clear hK K hrun) | (go_simp; refine hK _ _ ?_; clear hK K) | (go_simp; (try refine ⟨trivial, ?_⟩); refine (CallsIn.inRound l (callsIn_wide.2 (HS _ (below_drew0 hBr)).out)).mono ?_; rintro e W6 ⟨rfl, hb6⟩; have hbx6 := boxed_later hbr (below_drew hb6); have hc6 := hbx6.cell; have hlt6 := hbx6.lt; obtain ⟨v', w7, hrun, hown, hgrow⟩ := app_str hi0 hz0 hz1 hz2 hrr (below_drew hb6) (saidS dg (headS x)) hd6 (by simp only [List.length_append, List.length_cons, List.length_nil]; omega) (by have := hBr.size; omega); obtain ⟨hb7, hbuf⟩ := Buf.app (Nat.le_refl _) hwz hbr hrr hBr hsr hkr (below_drew hb6) hgrow hown; have hc7 := hb7.cell; have hf7 := hb7.frozen; obtain ⟨g7, cap7, rfl⟩ := own_form' hown (by simp only [List.length_append, List.length_cons, List.length_nil]; omega); generalize hL : (bs ++ [markS (headS x)] ++ (saidS dg (headS x)).data.toList).length = L7 at *; go_simp; refine hK _ _ ?_; clear hK K))
        all_goals (first | refine wpAnyIn_ready (rs := [0, 1]) (by decide +kernel) (by simp) (AllReadyIn.cons rfl (fun K hK => ?_) (AllReadyIn.cons rfl (fun K hK => ?_) AllReadyIn.nil)) | refine wpAnyIn_ready (rs := [0, 2]) (by decide +kernel) (by simp) (AllReadyIn.cons rfl (fun K hK => ?_) (AllReadyIn.cons rfl (fun K hK => ?_) AllReadyIn.nil)) | refine wpAnyIn_ready (rs := [0, 3]) (by decide +kernel) (by simp) (AllReadyIn.cons rfl (fun K hK => ?_) (AllReadyIn.cons rfl (fun K hK => ?_) AllReadyIn.nil)) | refine wpAnyIn_ready (rs := [0]) (by decide +kernel) (by simp) (AllReadyIn.cons rfl (fun K hK => ?_) AllReadyIn.nil) | refine wpAnyIn_ready (rs := [1]) (by decide +kernel) (by simp) (AllReadyIn.cons rfl (fun K hK => ?_) AllReadyIn.nil) | refine wpAnyIn_ready (rs := [2]) (by decide +kernel) (by simp) (AllReadyIn.cons rfl (fun K hK => ?_) AllReadyIn.nil) | refine wpAnyIn_ready (rs := [3]) (by decide +kernel) (by simp) (AllReadyIn.cons rfl (fun K hK => ?_) AllReadyIn.nil) | refine wpAnyIn_ready (rs := [4]) (by decide +kernel) (by simp) (AllReadyIn.cons rfl (fun K hK => ?_) AllReadyIn.nil) | refine wpAnyIn_ready (rs := [5]) (by decide +kernel) (by simp) (AllReadyIn.cons rfl (fun K hK => ?_) AllReadyIn.nil))
        all_goals (first | (refine stepIn_append rfl _ _ 44 9 rfl rfl rfl hrun ?_; refine hK _ _ ?_; clear hK K hrun) | (go_simp; refine hK _ _ ?_; clear hK K) | (go_simp; (try refine ⟨trivial, ?_⟩); refine (CallsIn.inRound l (callsIn_wide.2 (HS _ (below_drew0 hBr)).out)).mono ?_; rintro e W6 ⟨rfl, hb6⟩; have hbx6 := boxed_later hbr (below_drew hb6); have hc6 := hbx6.cell; have hlt6 := hbx6.lt; obtain ⟨v', w7, hrun, hown, hgrow⟩ := app_str hi0 hz0 hz1 hz2 hrr (below_drew hb6) (saidS dg (headS x)) hd6 (by simp only [List.length_append, List.length_cons, List.length_nil]; omega) (by have := hBr.size; omega); obtain ⟨hb7, hbuf⟩ := Buf.app (Nat.le_refl _) hwz hbr hrr hBr hsr hkr (below_drew hb6) hgrow hown; have hc7 := hb7.cell; have hf7 := hb7.frozen; obtain ⟨g7, cap7, rfl⟩ := own_form' hown (by simp only [List.length_append, List.length_cons, List.length_nil]; omega); generalize hL : (bs ++ [markS (headS x)] ++ (saidS dg (headS x)).data.toList).length = L7 at *; go_simp; refine hK _ _ ?_; clear hK K))
        all_goals (refine wpAnyIn_done (by decide +kernel) ?_ _; gi_wp2_with fail; gi_meet)
        all_goals exact hbuf
      case rest =>
        obtain ⟨v9, hb9, hr9, hB9, hs9, hk9⟩ := hcut
        obtain ⟨v', w10, hrun, hown, hgrow⟩ := app_str hi0 hz0 hz1 hz2 hr9 (Below.refl _ _) ⟨#[13, 10]⟩ (by decide) (by simp only [List.length_append, List.length_cons, List.length_nil, Array.length_toList]; have : (saidS dg (headS x)).data.size ≤ 600 := hd6; omega) (by have := hB9.size; omega)
        obtain ⟨hb10, hbuf⟩ := Buf.app (Nat.le_refl _) hwz hb9 hr9 hB9 hs9 hk9 (Below.refl _ _) hgrow hown
        have hc9 := hb9.cell
        have hc10 := hb10.cell
        have hf10 := hb10.frozen
        obtain ⟨g10, cap10, rfl⟩ := own_form' hown (by simp only [List.length_append, List.length_cons, List.length_nil]; omega)
        clear hcr hbr hrr hBr hsr hkr
        generalize hL10 : (bs ++ [markS (headS x)] ++ (saidS dg (headS x)).data.toList ++ (⟨#[13, 10]⟩ : ByteArray).data.toList).length = L10 at *
        clear hL10
        have HBUF := Lib.hid hbuf
        clear hbuf hown hgrow hb10
        gi_upto_region 10 with (gi_at_builtin; refine wpListIn_append_run rfl _ _ 44 9 rfl rfl rfl hrun ?_)
        generalize w10.setCell { block := W1.heap.size, off := 0 } (Value.slice (some { block := g10, off := 0 }) L10 cap10) = W10 at *
        clear hrun hc9 hc10 hf10
        obtain ⟨v11, hb11, hr11, hB11, hs11, hk11⟩ := HBUF.out
        have hp11 : PartAt x b W10 := hs11.at hp
        have q2 : W10.cell? ⟨b, 2, none⟩ = some (.string x.s.1) := by rw [cell_in 2 hp11]; rfl
        have hc11 := hb11.cell
        cases hil : (headS x).isLen
        all_goals rw [hil] at hul
        all_goals have HIL := Lib.hid hil
        all_goals clear hil
        · gi_wp2
          refine ⟨hk11, hs11, ⟨v11, hb11, ?_, trivial⟩, hB11⟩
          rw [enc_snoc', HBS.out]
          have e : encX dg x = markS (headS x) :: ((saidS dg (headS x)).data.toList ++ [13, 10]) := by simp [encX, HIL.out]
          rw [e]
          simpa [List.append_assoc] using hr11
        · obtain ⟨v', w12, hrun, hown, hgrow⟩ := app_str hi0 hz0 hz1 hz2 hr11 (Below.refl _ _) x.s.1 hs6 (by simp only [List.length_append, List.length_cons, List.length_nil, Array.length_toList]; have : (saidS dg (headS x)).data.size ≤ 600 := hd6; have : (⟨#[13, 10]⟩ : ByteArray).data.size = 2 := rfl; omega) (by have := hB11.size; omega)
          obtain ⟨hb12, hbuf⟩ := Buf.app (Nat.le_refl _) hwz hb11 hr11 hB11 hs11 hk11 (Below.refl _ _) hgrow hown
          have hc12 := hb12.cell
          have hf12 := hb12.frozen
          obtain ⟨g12, cap12, rfl⟩ := own_form' hown (by simp only [List.length_append, List.length_cons, List.length_nil]; omega)
          generalize hL12 : (bs ++ [markS (headS x)] ++ (saidS dg (headS x)).data.toList ++ (⟨#[13, 10]⟩ : ByteArray).data.toList ++ x.s.1.data.toList).length = L12 at *
          clear hL12
          have HBUF2 := Lib.hid hbuf
          clear hbuf hown hgrow hb12
          gi_upto_region 13 with (gi_at_builtin; refine wpListIn_append_run rfl _ _ 44 9 rfl rfl rfl hrun ?_)
          generalize w12.setCell { block := W1.heap.size, off := 0 } (Value.slice (some { block := g12, off := 0 }) L12 cap12) = W12 at *
          clear hrun hc12 hf12
          obtain ⟨v13, hb13, hr13, hB13, hs13, hk13⟩ := HBUF2.out
          have hc13 := hb13.cell
          obtain ⟨v', w14, hrun, hown, hgrow⟩ := app_str hi0 hz0 hz1 hz2 hr13 (Below.refl _ _) ⟨#[13, 10]⟩ (by decide) (by simp only [List.length_append, List.length_cons, List.length_nil, Array.length_toList]; have : (saidS dg (headS x)).data.size ≤ 600 := hd6; have : x.s.1.data.size ≤ 600 := hs6; have : (⟨#[13, 10]⟩ : ByteArray).data.size = 2 := rfl; omega) (by have := hB13.size; omega)
          obtain ⟨hb14, hbuf⟩ := Buf.app (Nat.le_refl _) hwz hb13 hr13 hB13 hs13 hk13 (Below.refl _ _) hgrow hown
          have hc14 := hb14.cell
          have hf14 := hb14.frozen
          obtain ⟨g14, cap14, rfl⟩ := own_form' hown (by simp only [List.length_append, List.length_cons, List.length_nil]; omega)
          generalize hL14 : (bs ++ [markS (headS x)] ++ (saidS dg (headS x)).data.toList ++ (⟨#[13, 10]⟩ : ByteArray).data.toList ++ x.s.1.data.toList ++ (⟨#[13, 10]⟩ : ByteArray).data.toList).length = L14 at *
          clear hL14
          have HBUF3 := Lib.hid hbuf
          clear hbuf hown hgrow hb14
          gi_wp2_with (gi_at_builtin; refine wpListIn_append_run rfl _ _ 44 9 rfl rfl rfl hrun ?_)
          obtain ⟨v15, hb15, hr15, hB15, hs15, hk15⟩ := HBUF3.out
          refine ⟨hk15, hs15, ⟨v15, hb15, ?_, trivial⟩, hB15⟩
          rw [enc_snoc', HBS.out]
          have e : encX dg x = markS (headS x) :: ((saidS dg (headS x)).data.toList ++ ([13, 10] ++ (x.s.1.data.toList ++ [13, 10]))) := by simp [encX, HIL.out]
          rw [e]
          simpa [List.append_assoc] using hr15
  case done =>
    rintro D xs W hD hxs ⟨⟨v, hb, hr', _⟩, hB⟩ hK
    have hc := hb.cell
    unfold encP at hr'
    rw [hxs] at hr'
    have hB4s := hB4.size
    clear hB4 hT hf hq4 hbox
    have hcv := conv_own hr'
    go_wp2
    refine ⟨by simp, .inl ⟨_, _, rfl, run_takeDeferred hK, ?_⟩⟩
    exact ⟨_, results_tmp2 rfl _ _ _, rfl, hB.trans (belowK_b (w := w) (Nat.le_refl _) W D _ _ (by have := hB4s; omega) hK rfl rfl)⟩
  case stop =>
    rintro D c pre W _ _ h _
    exact h.elim

end Go.Proofs.YtjcgfbmkgfhnaaaDoor
