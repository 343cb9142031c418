/- An argument's bytes. -/
import Derived.Test.YtbjjgkicjnoegaaDoorNumber
namespace Go.Proofs.YtbjjgkicjnoegaaDoor
open Go.RowKit Go.Shelf

def bytesS (n : Nat) (l : List UInt8) : Got (List UInt8) :=
  if l.length < n + 2 then .more else if Lib.hasPrefix (l.drop n) endL then .ok (l.take n) (l.drop (n + 2)) else .wrong

theorem grown_refl (w : World) (row : Option Nat) : w.grownBy w row := ⟨rfl, rfl, rfl, Nat.le_refl _, fun _ _ _ => rfl⟩

theorem box_set {w : World} {b : Nat} {t : ByteArray} (h : Box w b t) (q : ByteArray) : Box (w.setCell ⟨b, 0, none⟩ (.string q)) b q := Boxed.set (t := 51) _ h

set_option maxRecDepth 100000 in
set_option maxHeartbeats 2000000 in
theorem bytes_any (n : Nat) (hn : n ≤ 100000) (b : Nat) (t : ByteArray) (_ht : t.size ≤ 9223372036854775807) (w : World) (hb : Box w b t) :
    Calls Tryd.prog 45 #[.pointer (some ⟨b, 0, none⟩), .int .i64 n] w (TellsW strV emptyV b w (bytesS n t.data.toList)) := by
  have cb := hb.cell
  have fb := hb.free
  unfold bytesS
  rw [size_list]
  split
  · rename_i h
    go_enter Tryd.func45, Tryd.ntmps45
    go_wp2
    go_ret2
    exact ⟨rfl, grown_refl _ _⟩
  · rename_i h
    have HC := fun W => Lib.hid (Tryd.strings_CutPrefix (t.extract n t.size) ⟨#[13, 10]⟩ W)
    have hx : (t.extract n t.size).data.toList = t.data.toList.drop n := by rw [extract_list, List.take_of_length_le (by rw [size_list]; exact Nat.le_refl _)]
    rw [hx, show (⟨#[13, 10]⟩ : ByteArray).data.toList = endL from rfl] at HC
    have hz : (t.extract n t.size).size = t.size - n := by rw [ByteArray.size_extract]; omega
    have hty : strV (t.data.toList.take n) = .string (t.extract 0 n) := take_ba t (by omega)
    split
    · rename_i hp
      have htr : Lib.trimPrefix (t.data.toList.drop n) endL = t.data.toList.drop (n + 2) := by
        unfold Lib.trimPrefix
        rw [if_pos hp, List.drop_drop]; rfl
      rw [hp, htr] at HC
      have HB := Lib.hid hb
      have HY := Lib.hid hty
      clear hb hx htr hp hty
      go_enter Tryd.func45, Tryd.ntmps45
      go_wp2_with (go_at_call 50; refine (HC _).out.mono ?_; rintro e w1 ⟨rfl, rfl⟩)
      go_ret2
      refine ⟨?_, grown_set _ _ _ _, box_set HB.out _⟩
      rw [HY.out]; rfl
    · rename_i hp
      rw [show Lib.hasPrefix (t.data.toList.drop n) endL = false by simpa using hp] at HC
      clear hb hx hp hty
      go_enter Tryd.func45, Tryd.ntmps45
      go_wp2_with (go_at_call 50; refine (HC _).out.mono ?_; rintro e w1 ⟨rfl, rfl⟩)
      go_ret2
      exact ⟨rfl, grown_refl _ _⟩

def bulkS (T : Nat → Int) (l : List UInt8) : Got (List UInt8) :=
  if l ≠ [] ∧ l.head? ≠ some 36 then .wrong else
  match numberS T l with
  | .ok n r => if n < 0 ∨ 512 < n then .wrong else bytesS n.toNat r
  | .more => .more
  | .wrong => .wrong

theorem numberS_i64 {T : Nat → Int} {l r : List UInt8} {n : Int} (h : numberS T l = .ok n r) : i64R n ∧ r.length ≤ l.length := by
  unfold numberS at h
  cases hl : lineS endL 32 l with
  | more => rw [hl] at h; cases h
  | wrong => rw [hl] at h; cases h
  | ok p q =>
    rw [hl] at h
    simp only at h
    cases hp : parseS T (p.drop 1) with
    | none => rw [hp] at h; cases h
    | some m => rw [hp] at h; cases h; exact ⟨parseS_i64 hp, by have := (lineS_size hl).2; omega⟩

theorem TellsW.from {α : Type} {val : α → Value} {zero : Value} {b : Nat} {A B : World} {g : Got α} {e : Ending} {W' : World} (hg : A.grownBy B (some b)) (h : TellsW val zero b B g e W') : TellsW val zero b A g e W' := by
  cases g with
  | ok a r => exact ⟨h.1, hg.trans h.2.1, h.2.2⟩
  | more => exact ⟨h.1, hg.trans h.2⟩
  | wrong => exact ⟨h.1, hg.trans h.2⟩

theorem TellsW.pair {α : Type} {val : α → Value} {zero : Value} {b : Nat} {W : World} {g : Got α} {e : Ending} {W' : World} (h : TellsW val zero b W g e W') : ∃ v1 v2, e = .returned (.tuple #[v1, v2]) := by
  cases g with
  | ok a r => exact ⟨_, _, h.1⟩
  | more => exact ⟨_, _, h.1⟩
  | wrong => exact ⟨_, _, h.1⟩

theorem first_byte (t : ByteArray) (hp : 0 < t.size) : t.data.toList.head? = some (t[0]'hp) := by
  obtain ⟨⟨l⟩⟩ := t
  cases l with
  | nil => exact absurd hp (by decide)
  | cons => rfl
theorem first_int {c d : UInt8} (h : c ≠ d) : (((c.toNat : Int)) != (d.toNat : Int)) = true := by
  simp only [bne_iff_ne, ne_eq]
  exact fun e => h (UInt8.toNat_inj.1 (by omega))

set_option maxRecDepth 100000 in
set_option maxHeartbeats 4000000 in
theorem bulk_any {T : Nat → Int} (b : Nat) (hb4 : 4 ≤ b) (t : ByteArray) (ht : t.size ≤ 9223372036854775807) (w : World) (hE : Env T w) (hb : Box w b t) :
    Calls Tryd.prog 37 #[.pointer (some ⟨b, 0, none⟩)] w (TellsW strV emptyV b w (bulkS T t.data.toList)) := by
  have cb := hb.cell
  have hnn : ∀ W : World, (binOp .neq 57 .nilIface .nilIface).run Tryd.prog W = .ok (.bool false) W := fun W => by simp [go_sem]
  have hne : ∀ (n : Int) (W : World), (binOp .neq 57 (.iface 60 (.int .i64 n)) .nilIface).run Tryd.prog W = .ok (.bool true) W := fun n W => by simp [go_sem]
  unfold bulkS
  by_cases h36 : t.data.toList ≠ [] ∧ t.data.toList.head? ≠ some 36
  · rw [if_pos h36]
    obtain ⟨h1, h2⟩ := h36
    have hem : t.toList.isEmpty = false := by rw [Lib.toList_data]; cases hx : t.data.toList with | nil => exact absurd hx h1 | cons => rfl
    have hp : 0 < t.size := by rw [← size_list]; cases hx : t.data.toList with | nil => exact absurd hx h1 | cons => simp
    have hc : (((t[0]'hp).toNat : Int) != 36) = true := first_int (d := 36) fun e => h2 (by rw [first_byte t hp, e])
    clear h1 h2 hb hE
    go_enter Tryd.func37, Tryd.ntmps37
    go_wp2
    go_ret2
    exact ⟨rfl, grown_refl _ _⟩
  · rw [if_neg h36]
    have hnp : Lib.hasPrefix t.data.toList endL = false := by
      cases hx : t.data.toList with
      | nil => rfl
      | cons c l =>
        have : c = 36 := by
          rw [hx] at h36
          simpa using h36
        subst this
        rfl
    have HN := number_any b hb4 t ht w hE hb hnp
    have hsz := fun n r (h : numberS T t.data.toList = .ok n r) => numberS_i64 h
    have hguard : (t.toList.isEmpty = true) ∨ (t.toList.isEmpty = false ∧ ∃ hp : 0 < t.size, (((t[0]'hp).toNat : Int) != 36) = false) := by
      cases hx : t.data.toList with
      | nil => left; rw [Lib.toList_data, hx]; rfl
      | cons c l =>
        right
        have hp : 0 < t.size := by rw [← size_list, hx]; simp
        refine ⟨by rw [Lib.toList_data, hx]; rfl, hp, ?_⟩
        have h1 := first_byte t hp
        rw [hx] at h1 h36
        simp at h1 h36
        rw [← h1, h36]; rfl
    have HB := Lib.hid hb
    clear h36 hnp hE hb
    cases hn : numberS T t.data.toList with
    | more =>
      rw [hn] at HN
      have HH := Lib.hid HN
      clear HN hsz hn
      rcases hguard with hem | ⟨hem, hp, hc⟩
      all_goals
        go_enter Tryd.func37, Tryd.ntmps37
        go_wp2_with (go_at_call 33; refine HH.out.mono ?_; rintro e w1 ⟨rfl, hg1⟩; simp only [errV, intV])
        go_ret2
        exact ⟨rfl, hg1⟩
    | wrong =>
      rw [hn] at HN
      have HH := Lib.hid HN
      clear HN hsz hn
      rcases hguard with hem | ⟨hem, hp, hc⟩
      all_goals
        go_enter Tryd.func37, Tryd.ntmps37
        go_wp2_with (go_at_call 33; refine HH.out.mono ?_; rintro e w1 ⟨rfl, hg1⟩; simp only [errV, intV])
        go_ret2
        exact ⟨rfl, hg1⟩
    | ok n r =>
      rw [hn] at HN
      have hni := (hsz _ _ hn).1
      have hrl := (hsz _ _ hn).2
      unfold i64R at hni
      have HH := Lib.hid HN
      clear HN hsz hn
      simp only
      by_cases hno : n < 0 ∨ 512 < n
      · rw [if_pos hno]
        have hd : n < 0 ∨ (¬ n < 0 ∧ 512 < n) := by omega
        clear hno
        rcases hguard with hem | ⟨hem, hp, hc⟩ <;> rcases hd with hd | ⟨hd, hd2⟩
        all_goals
          go_enter Tryd.func37, Tryd.ntmps37
          go_wp2_with (go_at_call 33; refine HH.out.mono ?_; rintro e w1 ⟨rfl, hg1, hb1⟩; simp only [intV])
          go_ret2
          exact ⟨rfl, hg1⟩
      · rw [if_neg hno]
        obtain ⟨m, rfl⟩ : ∃ m : Nat, n = m := ⟨n.toNat, by omega⟩
        have hm : m ≤ 512 := by omega
        have hd : ¬ ((m : Int) < 0) := by omega
        have hd2 : ¬ ((512 : Int) < m) := by omega
        have HY := fun w1 (hb1 : Box w1 b (ba r)) => Lib.hid (bytes_any m (by omega) b (ba r) (by rw [← size_list, ba_list]; rw [size_list] at hrl; omega) w1 hb1)
        simp only [ba_list] at HY
        rw [show ((m : Int)).toNat = m by omega]
        clear hno
        rcases hguard with hem | ⟨hem, hp, hc⟩
        all_goals
          go_enter Tryd.func37, Tryd.ntmps37
          go_wp2_with (first
            | (go_at_call 33; refine HH.out.mono ?_; rintro e w1 ⟨rfl, hg1, hb1⟩; simp only [intV]; have HY1 := HY w1 hb1))
          refine HY1.out.mono ?_
          intro e w2 h2
          obtain ⟨v1, v2, rfl⟩ := h2.pair
          have H2 := Lib.hid (h2.from hg1)
          clear h2
          go_wp2
          go_ret2
          exact H2.out

end Go.Proofs.YtbjjgkicjnoegaaDoor
