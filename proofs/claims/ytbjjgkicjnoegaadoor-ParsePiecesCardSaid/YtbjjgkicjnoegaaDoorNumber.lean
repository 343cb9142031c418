/- A number at the head of a line, and bytes by their number. -/
import Derived.Test.YtbjjgkicjnoegaaDoorLine
import Derived.Test.YtbjjgkicjnoegaaDoorParse
namespace Go.Proofs.YtbjjgkicjnoegaaDoor
open Go.RowKit Go.Shelf

/-- As Tells, where what is left may have been touched beside an error. -/
def TellsW {α : Type} (val : α → Value) (zero : Value) (b : Nat) (W : World) (g : Got α) (e : Ending) (W' : World) : Prop :=
  match g with
  | .ok a r => e = .returned (.tuple #[val a, .nilIface]) ∧ W.grownBy W' (some b) ∧ Box W' b (ba r)
  | .more => e = .returned (.tuple #[zero, errV 31]) ∧ W.grownBy W' (some b)
  | .wrong => e = .returned (.tuple #[zero, errV 40]) ∧ W.grownBy W' (some b)

theorem Tells.weak {α : Type} {val : α → Value} {zero : Value} {b : Nat} {W : World} {g : Got α} {e : Ending} {W' : World} (h : Tells val zero b W g e W') : TellsW val zero b W g e W' := by
  cases g with
  | ok a r => exact h
  | more => exact ⟨h.1, grown_of_below h.2⟩
  | wrong => exact ⟨h.1, grown_of_below h.2⟩

def endL : List UInt8 := [13, 10]
def intV (n : Int) : Value := .int .i64 n

def numberS (T : Nat → Int) (l : List UInt8) : Got Int :=
  match lineS endL 32 l with
  | .ok p r => match parseS T (p.drop 1) with
    | some n => .ok n r
    | none => .wrong
  | .more => .more
  | .wrong => .wrong

theorem lineS_size {mark : List UInt8} : ∀ {l : List UInt8} {n : Nat} {p r : List UInt8}, lineS mark n l = .ok p r → p.length ≤ n ∧ p.length + mark.length + r.length ≤ l.length
  | [], n, p, r, h => by rw [lineS.eq_def] at h; cases h
  | b :: l, n, p, r, h => by
    rw [lineS.eq_def] at h
    simp only at h
    split at h
    · rename_i hp
      cases h
      have hle := (List.isPrefixOf_iff_prefix.1 hp).length_le
      simp at hle ⊢
      omega
    · cases n with
      | zero => cases h
      | succ n =>
        simp only at h
        cases hl : lineS mark n l with
        | ok p' r' =>
          rw [hl] at h
          cases h
          have := lineS_size hl
          simp; omega
        | more => rw [hl] at h; cases h
        | wrong => rw [hl] at h; cases h
theorem lineS_cons {mark : List UInt8} {l : List UInt8} {n : Nat} {p r : List UInt8} (h : lineS mark n l = .ok p r) (hp : Lib.hasPrefix l mark = false) : ∃ c q, p = c :: q := by
  cases l with
  | nil => rw [lineS.eq_def] at h; cases h
  | cons b l =>
    rw [lineS.eq_def] at h
    simp only [hp, Bool.false_eq_true, if_false] at h
    cases n with
    | zero => cases h
    | succ n =>
      simp only at h
      cases hl : lineS mark n l with
      | ok p' r' => rw [hl] at h; cases h; exact ⟨_, _, rfl⟩
      | more => rw [hl] at h; cases h
      | wrong => rw [hl] at h; cases h

theorem tab_grown {T : Nat → Int} {A B : World} {b : Nat} (h : Tab T A) (hg : A.grownBy B (some b)) (hb : 1 < b) : Tab T B := fun i hi => hg.cell (h i hi) (by simp; omega)

/-- What lies at package level: the library's table, and error's type. -/
structure Env (T : Nat → Int) (W : World) : Prop where
  tab : Tab T W
  err : W.cell? ⟨0, 0, none⟩ = some (.iface 100 (.agg #[.pointer (some ⟨4, 57, none⟩)]))
  size : 4 ≤ W.heap.size
theorem Env.grown {T : Nat → Int} {A B : World} {b : Nat} (h : Env T A) (hg : A.grownBy B (some b)) (hb : 4 ≤ b) : Env T B :=
  ⟨tab_grown h.tab hg (by omega), hg.cell h.err (by simp; omega), Nat.le_trans h.size hg.size⟩
theorem Env.below {T : Nat → Int} {A B : World} {n : Nat} (h : Env T A) (hb : Below n A B) (hn : 4 ≤ n) : Env T B :=
  ⟨h.tab.below hb (by omega), (hb.cell (p := ⟨0, 0, none⟩) (by show 0 < n; omega)).trans h.err, Nat.le_trans h.size hb.size⟩
theorem Env.later {T : Nat → Int} {A B : World} (h : Env T A) (hb : Below A.heap.size A B) : Env T B := h.below hb h.size
theorem Env.alloc {T : Nat → Int} {A : World} (h : Env T A) (o : Obj) : Env T (A.alloc o) := h.later ((Below.refl _ _).alloc (Nat.le_refl _) _)

theorem errV_def (n : Int) : errV n = .iface 60 (.int .i64 n) := rfl

set_option maxRecDepth 100000 in
set_option maxHeartbeats 2000000 in
theorem number_any {T : Nat → Int} (b : Nat) (hb4 : 4 ≤ b) (t : ByteArray) (ht : t.size ≤ 9223372036854775807) (w : World) (hE : Env T w) (hb : Box w b t) (hne : Lib.hasPrefix t.data.toList endL = false) :
    Calls Tryd.prog 33 #[.pointer (some ⟨b, 0, none⟩)] w (TellsW intV (intV 0) b w (numberS T t.data.toList)) := by
  have HL := line_any b t ⟨#[13, 10]⟩ 32 (by decide) ht (by decide) w hb
  rw [show (⟨#[13, 10]⟩ : ByteArray).data.toList = endL from rfl] at HL
  have hsz := fun p r (h : lineS endL 32 t.data.toList = .ok p r) => lineS_size h
  have hcs := fun p r (h : lineS endL 32 t.data.toList = .ok p r) => lineS_cons h hne
  have hnn : ∀ W : World, (binOp .neq 57 .nilIface .nilIface).run Tryd.prog W = .ok (.bool false) W := fun W => by simp [go_sem]
  have hne : ∀ (n : Int) (W : World), (binOp .neq 57 (.iface 60 (.int .i64 n)) .nilIface).run Tryd.prog W = .ok (.bool true) W := fun n W => by simp [go_sem]
  unfold numberS
  cases hl : lineS endL 32 t.data.toList with
  | more =>
    rw [hl] at HL
    have HH := Lib.hid HL
    clear HL hsz hcs hl
    go_enter Tryd.func33, Tryd.ntmps33
    go_wp2_with (go_at_call 34; refine HH.out.mono ?_; rintro e w1 ⟨rfl, hb1⟩; simp only [errV, emptyV])
    go_ret2
    exact ⟨rfl, grown_of_below hb1⟩
  | wrong =>
    rw [hl] at HL
    have HH := Lib.hid HL
    clear HL hsz hcs hl
    go_enter Tryd.func33, Tryd.ntmps33
    go_wp2_with (go_at_call 34; refine HH.out.mono ?_; rintro e w1 ⟨rfl, hb1⟩; simp only [errV, emptyV])
    go_ret2
    exact ⟨rfl, grown_of_below hb1⟩
  | ok p r =>
    rw [hl] at HL
    obtain ⟨c, q, rfl⟩ := hcs _ _ hl
    have hq := (hsz _ _ hl).1
    have hx : (ba (c :: q)).extract 1 (q.length + 1) = ba q := by
      rw [ba_eq (extract_list (ba (c :: q)) 1 (q.length + 1)), ba_list]; simp
    have hz : (ba (c :: q)).size = q.length + 1 := by rw [← size_list]; simp [ba_list]
    have HH := Lib.hid HL
    have HP := fun w1 (h1 : w.grownBy w1 (some b)) => Lib.hid (parse_any T (ba q) (by rw [← size_list, ba_list]; simp at hq; omega) w1 (hE.grown h1 hb4).tab (by have := (hE.grown h1 hb4).size; omega))
    simp only [List.drop_succ_cons, List.drop_zero]
    simp only [ba_list] at HP
    clear HL hsz hcs hl hq hb hE
    cases hp : parseS T q with
    | some n =>
      rw [hp] at HP
      simp only [parseV] at HP
      clear hp
      go_enter Tryd.func33, Tryd.ntmps33
      go_wp2_with (first
        | (go_at_call 34; refine HH.out.mono ?_; rintro e w1 ⟨rfl, hg1, hb1⟩; simp only [strV]; have HP1 := HP w1 hg1)
        | (go_at_call 42; refine HP1.out.mono ?_; rintro e w2 ⟨rfl, hb2⟩))
      go_ret2
      exact ⟨rfl, hg1.trans (grown_of_below hb2), hb1.below hb2 hb1.lt⟩
    | none =>
      rw [hp] at HP
      simp only [parseV] at HP
      clear hp
      go_enter Tryd.func33, Tryd.ntmps33
      go_wp2_with (first
        | (go_at_call 34; refine HH.out.mono ?_; rintro e w1 ⟨rfl, hg1, hb1⟩; simp only [strV]; have HP1 := HP w1 hg1)
        | (go_at_call 42; refine HP1.out.mono ?_; rintro e w2 ⟨rfl, hb2⟩))
      go_ret2
      exact ⟨rfl, hg1.trans (grown_of_below hb2)⟩

end Go.Proofs.YtbjjgkicjnoegaaDoor
