/- A line is taken. -/
import Derived.Test.YtbjjgkicjnoegaaDoorPlaces
import Derived.Test.YtbjjgkicjnoegaaDoorScope
import Derived.Deep.RegionWith
import Derived.Deep.QuietTactic
import Derived.BigQuiet
namespace Go.Proofs.YtbjjgkicjnoegaaDoor
open Go.RowKit Go.Shelf
attribute [local go_sem] Oper.semAt_some

def errV (n : Int) : Value := .iface 60 (.int .i64 n)

/-- What a reader that has found, or not, answers: a value, or an error; what is left. -/
def Tells {α : Type} (val : α → Value) (zero : Value) (b : Nat) (W : World) (g : Got α) (e : Ending) (W' : World) : Prop :=
  match g with
  | .ok a r => e = .returned (.tuple #[val a, .nilIface]) ∧ W.grownBy W' (some b) ∧ Box W' b (ba r)
  | .more => e = .returned (.tuple #[zero, errV 31]) ∧ Below W.heap.size W W'
  | .wrong => e = .returned (.tuple #[zero, errV 40]) ∧ Below W.heap.size W W'

def strV (p : List UInt8) : Value := .string (ba p)
def emptyV : Value := .string ⟨#[]⟩

theorem boxed_later {W W' : World} {B : Nat} {t : TypeId} {v : Value} (h : Boxed W B t v) (hb : Below W.heap.size W W') : Boxed W' B t v := (hb.block B h.lt).trans h
theorem ownFrom_pure {β : Type} (B : Nat) (p : β → Prop) : OwnFrom B (fun s (_ : World) => p s) := fun _ _ _ _ h _ _ => h
theorem ownFrom_grown {β : Type} {B : Nat} (w : World) (b : Nat) (hB : w.heap.size ≤ B) : OwnFrom B (fun (_ : β) W => w.grownBy W (some b)) := fun _ A C row hs hg hr =>
  ⟨hg.os.trans hs.os, hg.tape.trans hs.tape, hg.output.trans hs.output, Nat.le_trans hs.size hg.size, fun k hk hne => (hg.block k (Nat.lt_of_lt_of_le hk hs.size) (fun e => by have := (hr _ e.symm).1; omega)).trans (hs.block k hk hne)⟩

theorem grown_of_below {w w' : World} {row : Option Nat} (h : Below w.heap.size w w') : w.grownBy w' row := ⟨h.os, h.tape, h.output, h.size, fun q hq _ => h.block q hq⟩
theorem grown_drewN (w : World) (n : Nat) (row : Option Nat) : w.grownBy (w.drewN n) row := ⟨rfl, rfl, rfl, Nat.le_refl _, fun _ _ _ => rfl⟩
theorem grown_set (w : World) (b : Nat) (o : Nat) (v : Value) : w.grownBy (w.setCell ⟨b, o, none⟩ v) (some b) :=
  ⟨rfl, rfl, rfl, by simp [World.setCell], fun k _ hk => Below.heap_setCell _ _ _ k (fun e => hk (by rw [e]))⟩

theorem grown_set_new {w W : World} {b : Nat} (h : w.grownBy W (some b)) {k : Nat} (hk : w.heap.size ≤ k) (v : Value) : w.grownBy (W.setCell ⟨k, 0, none⟩ v) (some b) :=
  ⟨h.os, h.tape, h.output, by simpa [World.setCell] using h.size, fun q hq hne => (Below.heap_setCell _ _ _ q (show q ≠ k by omega)).trans (h.block q hq hne)⟩
theorem take_ba (t : ByteArray) {x : Nat} (_ : x ≤ t.size) : strV (t.data.toList.take x) = .string (t.extract 0 x) := by
  rw [ba_eq (extract_list t 0 x)]; rfl
theorem drop_ba (bh mark : ByteArray) : ba (bh.data.toList.drop mark.data.toList.length) = bh.extract mark.size bh.size := by
  rw [ba_eq (extract_list bh mark.size bh.size), size_list, List.take_of_length_le (by rw [size_list]; exact Nat.le_refl _)]

def lnPtr (b : Nat) : Value := .pointer (some ⟨b, 0, none⟩)
/-- The boxes of a call of line. -/
def Bx (n b : Nat) (mark : ByteArray) (most : Nat) (missing : Int) (W : World) : Prop :=
  Boxed W n 55 (lnPtr b) ∧ Boxed W (n + 1) 9 (.string mark) ∧ Boxed W (n + 1 + 1) 3 (.int .i64 most) ∧ Boxed W (n + 1 + 1 + 1) 9 emptyV ∧ Boxed W (n + 1 + 1 + 1 + 1) 57 .nilIface ∧ Boxed W (n + 1 + 1 + 1 + 1 + 1) 60 (.int .i64 missing)

theorem boxed_kept {B k : Nat} {ty : TypeId} {v : Value} {A C : World} {row : Option Nat} (h : Boxed A k ty v) (hg : A.grownBy C row) (hr : ∀ r, row = some r → B ≤ r ∧ ∃ o : Obj, A.heap[r]? = some o ∧ o.isCells = false) : Boxed C k ty v :=
  (boxed_own k ty (fun _ : Unit => v)) () A C row h hg (fun r e => (hr r e).2)
theorem snoc_range {pre : List Nat} {x n : Nat} (h : pre ++ [x] <+: List.range n) : pre = List.range x ∧ x < n := by
  have hl := h.length_le
  have ht := List.prefix_iff_eq_take.1 h
  simp only [List.length_append, List.length_cons, List.length_nil, List.length_range] at hl ht
  rw [List.take_range, Nat.min_eq_left hl, Nat.zero_add, List.range_succ] at ht
  have := List.append_inj' ht rfl
  obtain ⟨h1, h2⟩ := this
  simp only [List.cons.injEq, and_true] at h2
  subst h2
  exact ⟨h1, by omega⟩
theorem bx_own {β : Type} (B n b : Nat) (mark : ByteArray) (most : Nat) (missing : Int) : OwnFrom B (fun (_ : β) W => Bx n b mark most missing W) := fun _ _ _ _ h hg hr =>
  ⟨boxed_kept h.1 hg hr, boxed_kept h.2.1 hg hr, boxed_kept h.2.2.1 hg hr, boxed_kept h.2.2.2.1 hg hr, boxed_kept h.2.2.2.2.1 hg hr, boxed_kept h.2.2.2.2.2 hg hr⟩

set_option maxRecDepth 100000 in
set_option maxHeartbeats 4000000 in
theorem line_any (b : Nat) (t mark : ByteArray) (most : Nat) (hmost : most ≤ 100000) (ht : t.size ≤ 9223372036854775807) (hmk : mark.size ≠ 0) (w : World) (hb : Box w b t) :
    Calls Tryd.prog 34 #[.pointer (some ⟨b, 0, none⟩), .string mark, .int .i64 most] w (Tells strV emptyV b w (lineS mark.data.toList most t.data.toList)) := by
  refine (callsIn_wide (n := 6)).1 (callsIn_of_wp_marks Tryd.func34 rfl trivial ?_ rfl)
  refine wpIn_wide.2 ?_
  simp only [Tryd.ntmps34, List.size_toArray, List.length_cons, List.length_nil, Nat.reduceAdd, Nat.reduceSub, Array.replicate_succ, Array.replicate_zero, List.push_toArray, List.append_toArray, List.nil_append, List.cons_append]
  go_wp2
  go_step3
  go_wp2
  go_step3
  go_wp2_with (go_at_call 43; refine (places_any _ _).mono ?_; rintro e w' ⟨rfl, rfl⟩)
  obtain ⟨n, hn⟩ : ∃ n, w.heap.size = n := ⟨_, rfl⟩
  simp only [hn]
  obtain ⟨W0, hW0⟩ : ∃ W0, (((((((w.alloc (Obj.cells #[Value.pointer (some { block := b, off := 0 })] 55)).alloc (Obj.cells #[Value.string mark] 9)).alloc (Obj.cells #[Value.int IntKind.i64 most] 3)).alloc (Obj.cells #[Value.string { data := #[] }] 9)).alloc (Obj.cells #[Value.nilIface] 57)).alloc (Obj.cells #[Value.int IntKind.i64 31] 60)).alloc (Obj.cells #[Value.pointer (some { block := b, off := 0 })] 55)) = W0 := ⟨_, rfl⟩
  have hB0 : Below w.heap.size w W0 := by
    subst hW0
    exact (((((((Below.refl _ _).alloc (Nat.le_refl _) _).alloc (by simp) _).alloc (by simp; omega) _).alloc (by simp; omega) _).alloc (by simp; omega) _).alloc (by simp; omega) _).alloc (by simp; omega) _
  have hsz : W0.heap.size = n + 7 := by subst hW0; simp [hn]
  have hX : Bx n b mark most 31 W0 := by
    subst hW0 hn
    refine ⟨?_, ?_, ?_, ?_, ?_, ?_⟩
    · exact Boxed.alloc (Boxed.alloc (Boxed.alloc (Boxed.alloc (Boxed.alloc (Boxed.alloc (heap_at rfl) _) _) _) _) _) _
    · exact Boxed.alloc (Boxed.alloc (Boxed.alloc (Boxed.alloc (Boxed.alloc (heap_at (by simp)) _) _) _) _) _
    · exact Boxed.alloc (Boxed.alloc (Boxed.alloc (Boxed.alloc (heap_at (by simp)) _) _) _) _
    · exact Boxed.alloc (Boxed.alloc (Boxed.alloc (heap_at (by simp)) _) _) _
    · exact Boxed.alloc (Boxed.alloc (heap_at (by simp)) _) _
    · exact Boxed.alloc (heap_at (by simp)) _
  have hP : W0.cell? ⟨n + 1 + 1 + 1 + 1 + 1 + 1, 0, none⟩ = some (.pointer (some ⟨b, 0, none⟩)) := by
    subst hW0 hn
    exact Boxed.cell (t := 55) (heap_at (by simp))
  have hb0 : Box W0 b t := hb.below hB0 hb.lt
  have hbn : b < n := by rw [← hn]; exact hb.lt
  rw [hW0]
  clear hW0
  refine (wpIn_wide (n := 6)).1 (wpIn_rangeFunc_ownF (F := Fence.wide) rfl (by decide) (gf := 48) (lb := #[.pointer (some ⟨n + 1 + 1 + 1 + 1 + 1 + 1, 0, none⟩)]) rfl trivial (enters_of Tryd.func48 (by kernel_rfl) rfl)
    (places_stops Fence.wide 5 trivial rfl (by decide) (n + 1 + 1 + 1 + 1 + 1 + 1) b t ht W0 (by rw [hsz]; omega) (by rw [hsz]; omega) hP hb0.cell)
    belowK_t (belowK_b (Nat.le_refl _)) (Below.refl _ _) (fun _ => rfl)
    (fun pre W => (Bx n b mark most 31 W ∧ (∀ j ∈ pre, Lib.hasPrefix (t.data.toList.drop j) mark.data.toList = false ∧ j ≠ most)) ∧ Below w.heap.size w W)
    (fun c pre W => (c = .ret ∧ ∃ pre' x, pre = pre' ++ [x] ∧ (∀ j ∈ pre', Lib.hasPrefix (t.data.toList.drop j) mark.data.toList = false ∧ j ≠ most) ∧ Lib.hasPrefix (t.data.toList.drop x) mark.data.toList = true ∧
        Boxed W (n + 1 + 1 + 1) 9 (strV (t.data.toList.take x)) ∧ Boxed W (n + 1 + 1 + 1 + 1) 57 .nilIface ∧ Box W b (ba ((t.data.toList.drop x).drop mark.data.toList.length)) ∧ w.grownBy W (some b)) ∨
      (c = .exit 0 ∧ (∃ pre', pre = pre' ++ [most] ∧ (∀ j ∈ pre', Lib.hasPrefix (t.data.toList.drop j) mark.data.toList = false ∧ j ≠ most) ∧ Lib.hasPrefix (t.data.toList.drop most) mark.data.toList = false) ∧ Bx n b mark most 40 W ∧ Below w.heap.size w W))
    ?hI ?hIx ⟨⟨hX, by simp⟩, hB0⟩
    (fun x => { tmps := #[Value.pointer (some { block := b, off := 0 }), Value.string mark, Value.int IntKind.i64 most,
          Value.pointer (some { block := n, off := 0 }),
          Value.pointer (some { block := n + 1, off := 0 }),
          Value.pointer (some { block := n + 1 + 1, off := 0 }),
          Value.pointer (some { block := n + 1 + 1 + 1, off := 0 }),
          Value.pointer (some { block := n + 1 + 1 + 1 + 1, off := 0 }),
          Value.pointer (some { block := n + 1 + 1 + 1 + 1 + 1, off := 0 }), .int .i64 x, .string (t.extract x t.size), undef,
          Value.pointer (some { block := b, off := 0 }),
          Value.func (Fn.func 48) #[] #[Value.pointer (some { block := n + 1 + 1 + 1 + 1 + 1 + 1, off := 0 })],
          .int .i64 x, .string (t.extract x t.size), undef, undef, undef, undef, undef, undef, undef, undef, undef, undef, undef, undef, undef,
          undef, undef, undef, undef, undef, undef, undef, undef, undef, undef, undef], defers := [] }) ?assign ?body ?done ?stop)
  case hI =>
    refine OwnFrom.and (OwnFrom.and ?_ (ownFrom_pure _ _)) (ownFrom_below (Nat.le_refl _) (by omega))
    exact bx_own _ _ _ _ _ _
  case hIx =>
    intro c s A B row hs hg hr
    rcases hs with ⟨hc, p, r, e0, e1, e2, h1, h2, h3, h4⟩ | ⟨hc, hl, h1, h2⟩
    · exact .inl ⟨hc, p, r, e0, e1, e2, boxed_kept h1 hg hr, boxed_kept h2 hg hr, boxed_kept (ty := 51) h3 hg hr, ownFrom_grown w b (by omega) () A B row h4 hg hr⟩
    · exact .inr ⟨hc, hl, bx_own (β := Unit) _ _ _ _ _ _ () A B row h1 hg hr, ownFrom_below (Nat.le_refl _) (by omega) () A B row h2 hg hr⟩
  case assign =>
    intro l x W K hK
    clear hP hX hB0 hb0
    simp only [encP]
    gi_wp2
    exact hK
  case body =>
    rintro l pre x W ⟨⟨hX, hpre⟩, hB⟩ _
    have hX0 := hX
    obtain ⟨h3, h4, h5, h6, h7, h8⟩ := hX
    obtain ⟨bh, hbh⟩ : ∃ bh, t.extract x t.size = bh := ⟨_, rfl⟩
    have hl : bh.data.toList = t.data.toList.drop x := by rw [← hbh, extract_list, List.take_of_length_le (by rw [size_list]; exact Nat.le_refl _)]
    have hbW : Box W b t := hb.below hB hb.lt
    have HP := fun W => Tryd.strings_HasPrefix bh mark W
    rw [hl] at HP
    simp only [hbh]
    cases hm : Lib.hasPrefix (t.data.toList.drop x) mark.data.toList
    · rw [hm] at HP
      have HQ := fun W => Lib.hid (HP W)
      have c4 := h4.cell
      have c5 := h5.cell
      have c8 := h8.cell
      have f8 := h8.frozen
      clear HP hP hX hB0 hb0
      gi_wp2_with (((try refine ⟨trivial, ?_⟩); gi_at_call 32; refine (CallsIn.inRound l (callsIn_wide.2 (HQ _).out)).mono ?_; rintro e W1 ⟨rfl, rfl⟩))
      · rename_i hx
        obtain rfl : x = most := by have := eq_of_beq hx; omega
        refine ⟨KeepsOthers.setCell _ _ _, .inr ⟨rfl, ⟨pre, rfl, hpre, hm⟩, ⟨h3.other (by omega) _, h4.other (by omega) _, h5.other (by omega) _, h6.other (by omega) _, h7.other (by omega) _, Boxed.set _ h8⟩, hB.setCell (p := ⟨n + 1 + 1 + 1 + 1 + 1, 0, none⟩) (by simp [hn]; omega) _⟩⟩
      · rename_i hx
        refine ⟨KeepsOthers.refl _, Below.refl _ _, ⟨hX0, fun j hj => ?_⟩, hB⟩
        rcases List.mem_append.1 hj with hj | hj
        · exact hpre j hj
        · simp only [List.mem_singleton] at hj
          subst hj
          exact ⟨hm, fun e => by rw [e] at hx; simp at hx⟩
    · rw [hm] at HP
      have HQ := fun W => Lib.hid (HP W)
      have c3 := h3.cell
      unfold lnPtr at c3
      have c4 := h4.cell
      have c6 := h6.cell
      have f6 := h6.frozen
      have c7 := h7.cell
      have f7 := h7.frozen
      have cb := hbW.cell
      have fb := hbW.free
      have hlen := hm
      unfold Lib.hasPrefix at hlen
      have hle := (List.isPrefixOf_iff_prefix.1 hlen).length_le
      rw [List.length_drop, size_list, size_list] at hle
      have hxs : x ≤ t.size := by omega
      have hms : mark.size ≤ bh.size := by rw [← size_list bh, hl, List.length_drop, size_list]; omega
      clear HP hP hX hB0 hb0 hlen
      gi_wp2_with (first | ((try refine ⟨trivial, ?_⟩); gi_at_call 32; refine (CallsIn.inRound l (callsIn_wide.2 (HQ _).out)).mono ?_; rintro e W1 ⟨rfl, rfl⟩))
      have hmx : Tryd.prog.follows .mixedOrders = true := by kernel_rfl
      gi_region_with_o (fail)
      all_goals
        have hW2 : ∃ W2, (W1.setCell ⟨b, 0, none⟩ (.string (bh.extract mark.size bh.size))).drew = W2 := ⟨_, rfl⟩
        obtain ⟨W2, hW2⟩ := hW2
        have h62 : Boxed W2 (n + 1 + 1 + 1) 9 emptyV := by rw [← hW2]; exact h6.other (by omega) _
        have h72 : Boxed W2 (n + 1 + 1 + 1 + 1) 57 .nilIface := by rw [← hW2]; exact h7.other (by omega) _
        have hb2 : Box W2 b (bh.extract mark.size bh.size) := by rw [← hW2]; exact Boxed.set (t := 51) _ hbW
        have hg2 : w.grownBy W2 (some b) := by rw [← hW2]; exact ((grown_of_below (row := some b) hB).trans (grown_set W1 b 0 _)).trans (grown_drewN _ 1 _)
        have hk2 : KeepsOthers W1 W2 := by rw [← hW2]; exact (KeepsOthers.setCell _ _ _).trans (KeepsOthers.drew _)
        clear c3 c4 c6 f6 c7 f7 cb fb h3 h4 h5 h6 h7 h8 hbW hX0
        have c6 := h62.cell
        have f6 := h62.frozen
        have c7 := h72.cell
        have f7 := h72.frozen
        rw [hW2]
        clear hW2
        gi_wp2
        refine ⟨hk2.trans ((KeepsOthers.setCell _ _ _).trans (KeepsOthers.setCell _ _ _)), .inl ⟨rfl, pre, x, rfl, hpre, hm, ?_, ?_, ?_, ?_⟩⟩
        · rw [take_ba t hxs]
          exact (Boxed.set _ h62).other (by omega) _
        · exact Boxed.set _ (h72.other (by omega) _)
        · rw [← hl, drop_ba bh mark]
          exact Boxed.other (t := 51) (Boxed.other (t := 51) hb2 (by omega) _) (by omega) _
        · exact grown_set_new (grown_set_new hg2 (by omega) _) (by omega) _
  case done =>
    rintro D ys W hD rfl ⟨⟨hX, hpre⟩, hB⟩ hK
    obtain ⟨_, _, _, h6, h7, h8⟩ := hX
    have hsm : t.size ≤ most := by
      rcases Nat.lt_or_ge most t.size with h | h
      · exact absurd rfl (hpre most (by simpa using h)).2
      · exact h
    have hmore : lineS mark.data.toList most t.data.toList = .more := lineS_more _ _ _ (by rw [size_list]; exact hsm) (fun j hj => (hpre j (by rw [size_list] at hj; simpa using hj)).1)
    have c6 := h6.cell
    have f6 := h6.frozen
    have c7 := h7.cell
    have f7 := h7.frozen
    have c8 := h8.cell
    clear hP hX hB0 hb0 hpre
    go_wp2
    go_region
    obtain ⟨W2, hW2⟩ : ∃ W2, ((W.setCell ⟨n + 1 + 1 + 1, 0, none⟩ (.string ⟨#[]⟩)).setCell ⟨n + 1 + 1 + 1 + 1, 0, none⟩ (.iface 60 (.int .i64 31))).drew = W2 := ⟨_, rfl⟩
    have h62 : Boxed W2 (n + 1 + 1 + 1) 9 emptyV := by rw [← hW2]; exact (Boxed.set _ h6).other (by omega) _
    have h72 : Boxed W2 (n + 1 + 1 + 1 + 1) 57 (errV 31) := by rw [← hW2]; exact Boxed.set _ (h7.other (by omega) _)
    have hB2 : Below w.heap.size w W2 := by rw [← hW2]; exact ((hB.setCell (p := ⟨n + 1 + 1 + 1, 0, none⟩) (by simp [hn]; omega) _).setCell (p := ⟨n + 1 + 1 + 1 + 1, 0, none⟩) (by simp [hn]; omega) _).drew
    have hK2 : W2.heap[D]? = some (Obj.deferred (some [])) := by rw [← hW2]; exact ((KeepsOthers.setCell _ _ _).trans (KeepsOthers.setCell _ _ _)).same D _ hK rfl
    rw [hW2]
    clear hW2 c6 c7 f6 f7 c8
    go_wp2
    rw [Exit.noGoto_ret]
    refine ⟨by simp, .inl ⟨_, _, rfl, run_takeDeferred hK2, ?_⟩⟩
    have c6 := cell_kept h62.cell (grownBy_putObj' _ D (.deferred none)) (fun r e => by cases e; exact ⟨_, hK2, rfl⟩)
    have c7 := cell_kept h72.cell (grownBy_putObj' _ D (.deferred none)) (fun r e => by cases e; exact ⟨_, hK2, rfl⟩)
    refine ⟨.tuple #[emptyV, errV 31], by simp [results, Tryd.f34, go_sem, c6, c7], ?_⟩
    rw [hmore]
    exact ⟨rfl, hB2.trans (belowK_b (w := w) (Nat.le_refl _) _ D _ _ (by omega) hK2 rfl rfl)⟩
  case stop =>
    rintro D c pre W hD hpre hx hK
    clear hP hX hB0 hb0
    refine wpIn_wide.2 ?_
    rcases hx with ⟨rfl, pre', x, rfl, h1, h2, h6, h7, hb3, hg⟩ | ⟨rfl, ⟨pre', rfl, h1, h2⟩, hX, hB⟩
    · obtain ⟨rfl, hxs⟩ := snoc_range hpre
      have hfound : lineS mark.data.toList most t.data.toList = .ok (t.data.toList.take x) ((t.data.toList.drop x).drop mark.data.toList.length) :=
        lineS_found _ _ _ _ (by rw [size_list]; exact hxs) (by
          rcases Nat.lt_or_ge most x with h | h
          · exact absurd rfl (h1 most (by simpa using h)).2
          · exact h) (fun j hj => (h1 j (by simpa using hj)).1) h2
      clear h1 h2 hpre
      go_wp2
      rw [Exit.noGoto_ret]
      refine ⟨by simp, .inl ⟨_, _, rfl, run_takeDeferred hK, ?_⟩⟩
      have c6 := cell_kept h6.cell (grownBy_putObj' _ D (.deferred none)) (fun r e => by cases e; exact ⟨_, hK, rfl⟩)
      have c7 := cell_kept h7.cell (grownBy_putObj' _ D (.deferred none)) (fun r e => by cases e; exact ⟨_, hK, rfl⟩)
      refine ⟨.tuple #[strV (t.data.toList.take x), .nilIface], by simp [results, Tryd.f34, go_sem, c6, c7], ?_⟩
      rw [hfound]
      exact ⟨rfl, ownFrom_grown w b (Nat.le_refl _) () W _ (some D) hg (grownBy_putObj' _ D _) (fun r e => by cases e; exact ⟨by omega, _, hK, rfl⟩),
        boxed_kept (ty := 51) (B := 0) hb3 (grownBy_putObj' _ D _) (fun r e => by cases e; exact ⟨by omega, _, hK, rfl⟩)⟩
    · obtain ⟨rfl, hxs⟩ := snoc_range hpre
      have hwrong : lineS mark.data.toList most t.data.toList = .wrong :=
        lineS_wrong _ _ _ (by rw [size_list]; exact hxs) (fun j hj => by
          rcases Nat.lt_or_ge j most with h | h
          · exact (h1 j (by simpa using h)).1
          · obtain rfl : j = most := by omega
            exact h2)
      obtain ⟨_, _, _, h6, h7, h8⟩ := hX
      have c6 := h6.cell
      have f6 := h6.frozen
      have c7 := h7.cell
      have f7 := h7.frozen
      have c8 := h8.cell
      clear h1 h2 hpre
      go_wp2
      go_region
      obtain ⟨W2, hW2⟩ : ∃ W2, ((W.setCell ⟨n + 1 + 1 + 1, 0, none⟩ (.string ⟨#[]⟩)).setCell ⟨n + 1 + 1 + 1 + 1, 0, none⟩ (.iface 60 (.int .i64 40))).drew = W2 := ⟨_, rfl⟩
      have h62 : Boxed W2 (n + 1 + 1 + 1) 9 emptyV := by rw [← hW2]; exact (Boxed.set _ h6).other (by omega) _
      have h72 : Boxed W2 (n + 1 + 1 + 1 + 1) 57 (errV 40) := by rw [← hW2]; exact Boxed.set _ (h7.other (by omega) _)
      have hB2 : Below w.heap.size w W2 := by rw [← hW2]; exact ((hB.setCell (p := ⟨n + 1 + 1 + 1, 0, none⟩) (by simp [hn]; omega) _).setCell (p := ⟨n + 1 + 1 + 1 + 1, 0, none⟩) (by simp [hn]; omega) _).drew
      have hK2 : W2.heap[D]? = some (Obj.deferred (some [])) := by rw [← hW2]; exact ((KeepsOthers.setCell _ _ _).trans (KeepsOthers.setCell _ _ _)).same D _ hK rfl
      rw [hW2]
      clear hW2 c6 c7 f6 f7 c8
      go_wp2
      rw [Exit.noGoto_ret]
      refine ⟨by simp, .inl ⟨_, _, rfl, run_takeDeferred hK2, ?_⟩⟩
      have c6 := cell_kept h62.cell (grownBy_putObj' _ D (.deferred none)) (fun r e => by cases e; exact ⟨_, hK2, rfl⟩)
      have c7 := cell_kept h72.cell (grownBy_putObj' _ D (.deferred none)) (fun r e => by cases e; exact ⟨_, hK2, rfl⟩)
      refine ⟨.tuple #[emptyV, errV 40], by simp [results, Tryd.f34, go_sem, c6, c7], ?_⟩
      rw [hwrong]
      exact ⟨rfl, hB2.trans (belowK_b (w := w) (Nat.le_refl _) _ D _ _ (by omega) hK2 rfl rfl)⟩

end Go.Proofs.YtbjjgkicjnoegaaDoor
