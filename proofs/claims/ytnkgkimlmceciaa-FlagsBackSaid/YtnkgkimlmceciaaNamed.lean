/- The flags of words, gone through one by one. -/
import Derived.Test.YtnkgkimlmceciaaSeek
namespace Go.Proofs.Ytnkgkimlmceciaa
open Go.RowKit Go.Shelf
attribute [local go_sem] Oper.semAt_some

/-- The flags of the first words that are such. -/
def kindsOf : List ByteArray → List Nat
  | [] => []
  | s :: r => match kindOf s with
    | some k => k :: kindsOf r
    | none => []
theorem kinds_get (l : List ByteArray) : ∀ i, i ≤ (kindsOf l).length → (kindsOf l)[i]? = (l[i]?).bind kindOf := by
  induction l with
  | nil => intro i _; simp [kindsOf]
  | cons s r ih =>
    intro i hi
    unfold kindsOf at hi ⊢
    cases hk : kindOf s with
    | none =>
      simp only [hk, List.length_nil] at hi
      obtain rfl : i = 0 := by omega
      simp [hk]
    | some k =>
      simp only [hk, List.length_cons] at hi
      cases i with
      | zero => simp [hk]
      | succ i =>
        have := ih i (by omega)
        simpa using this
theorem kinds_le (l : List ByteArray) : (kindsOf l).length ≤ l.length := by
  induction l with
  | nil => simp [kindsOf]
  | cons s r ih =>
    unfold kindsOf
    cases kindOf s with
    | none => simp
    | some k => simp; omega
theorem kindOf_lt {s : ByteArray} {k : Nat} (h : kindOf s = some k) : k < 6 := by
  unfold kindOf at h
  exact List.mem_range.1 (List.mem_of_find?_eq_some h)
theorem kinds_lt (l : List ByteArray) : ∀ k ∈ kindsOf l, k < 6 := by
  induction l with
  | nil => intro k h; simp [kindsOf] at h
  | cons s r ih =>
    intro k h
    unfold kindsOf at h
    cases hk : kindOf s with
    | none => rw [hk] at h; simp at h
    | some q =>
      rw [hk] at h
      rcases List.mem_cons.1 h with rfl | h
      · exact kindOf_lt hk
      · exact ih k h

/-- Words in memory: no row, or a row whose first cells they are. -/
def Words (W : World) (v : Value) (l : List ByteArray) : Prop :=
  (l = [] ∧ v = .slice none 0 0) ∨ ∃ (b cap : Nat) (cur : Array Value), v = .slice (some ⟨b, 0, none⟩) l.length cap ∧ Blk W b 9 cur ∧ ∀ (j : Nat) (x : ByteArray), l[j]? = some x → cur[j]? = some (Value.string x)
theorem Words.later {W W' : World} {v : Value} {l : List ByteArray} (h : Words W v l) (hb : Below W.heap.size W W') : Words W' v l := by
  rcases h with h | ⟨b, cap, cur, h1, h2, h3⟩
  · exact .inl h
  · exact .inr ⟨b, cap, cur, h1, h2.later hb, h3⟩

def encK (_ : Nat) (k : Nat) : Array Value := #[.agg (flagC k)]

set_option maxRecDepth 100000 in
set_option maxHeartbeats 4000000 in
theorem named_any (l : List ByteArray) (hl : l.length ≤ 1000000000) (b bx cap : Nat) (cur : Array Value) (L : List Nat) (w : World) (hb : b ∉ L) (h0 : Blk w b 9 cur) (hcur : ∀ (j : Nat) (x : ByteArray), l[j]? = some x → cur[j]? = some (Value.string x)) (h1 : Blk w bx 30 #[.slice (some ⟨b, 0, none⟩) l.length cap]) :
    SeqX Try.prog 29 #[.pointer (some ⟨bx, 0, none⟩)] encK (kindsOf l) L w := by
  intro y J Jx W hW hJ hJx hY hJ0
  have k0 := h0.later hW
  have k1 := h1.later hW
  refine callsIn_of_wp Try.func29 rfl trivial ?_ rfl
  simp only [Try.ntmps29, List.size_toArray, List.length_cons, List.length_nil, Nat.reduceAdd, Nat.reduceSub, Array.replicate_succ, Array.replicate_zero, List.push_toArray, List.append_toArray, List.nil_append, List.cons_append]
  have HY := Lib.hid hY
  have HF := fun s w => Lib.hid (find_any s w)
  have HCU := Lib.hid hcur
  clear hY hcur
  obtain ⟨a0, b0⟩ := facts1 k1
  gi_wp2
  gi_loopw [9] (fun s wr => ∃ (i : Nat), s = .int .i64 i ∧ i ≤ (kindsOf l).length ∧ J i wr ∧ Blk wr b 9 cur)
    (fun s _ => (l.length + 1) - (intOf s).toNat)
  case atStart => exact ⟨0, rfl, by omega, hJ0, k0⟩
  case round =>
    clear k0 k1 a0 b0
    obtain ⟨i, rfl, hi, hJi, k0⟩ := hrel
    have hkl := kinds_le l
    have hkg := kinds_get l i hi
    by_cases hlt : i < l.length
    · have hli : l[i]? = some l[i] := List.getElem?_eq_getElem hlt
      rw [hli] at hkg
      simp only [Option.bind_some] at hkg
      have c0 := (k0.cell i).trans (HCU.out i _ hli)
      have hlt2 : (i : Int) < l.length := by omega
      generalize l[i] = s at *
      have HKG := Lib.hid hkg
      have K0 := Lib.hid k0
      have HJI := Lib.hid hJi
      clear hkg hli k0 hJi
      gi_wp2_with fail
      refine ⟨trivial, ?_⟩
      cases hk : kindOf s with
      | none =>
        have hkv : kindV s = .tuple #[.agg #[.string ⟨#[]⟩, .nilFunc], .bool false] := by unfold kindV; rw [hk]
        have HS := HF s wr
        rw [hkv] at HS
        have hil : i = (kindsOf l).length := by
          have := HKG.out
          rw [hk, List.getElem?_eq_none_iff] at this
          omega
        have HIL := Lib.hid hil
        clear hkv hk hil
        refine callsIn_wide.2 (Calls.mono HS.out ?_)
        rintro e W5 ⟨rfl, hb5⟩
        have HJ5 := Lib.hid (hJ _ _ _ (hJ _ _ _ HJI.out hb5) ((Below.refl _ _).alloc (Nat.le_refl _) (.cells #[.string ⟨#[]⟩, .nilFunc] 47)))
        gi_wp2_with fail
        refine ⟨fun _ h => (by cases h), ?_⟩
        gi_wp2_with fail
        exact bodyPost_ret (v := .tuple #[]) (by simp [results, Try.results29, go_sem]) rfl ⟨⟨_, rfl⟩, .inl (by rw [← HIL.out]; exact HJ5.out)⟩
      | some k =>
        have hkv : kindV s = .tuple #[.agg #[.string (kw k), .func (.func (31 + k)) #[] #[]], .bool true] := by unfold kindV; rw [hk]; rfl
        have HS := HF s wr
        rw [hkv] at HS
        have hxk := HKG.out
        rw [hk] at hxk
        have HXK := Lib.hid hxk
        clear hkv hk hxk
        refine callsIn_wide.2 (Calls.mono HS.out ?_)
        rintro e W5 ⟨rfl, hb5⟩
        have hb6 : Below wr.heap.size wr (W5.alloc (.cells #[.string (kw k), .func (.func (31 + k)) #[] #[]] 47)) := hb5.alloc hb5.size _
        obtain ⟨fn, tmps, assign, body, hy, hR⟩ := HY.out i k (W5.alloc (.cells #[.string (kw k), .func (.func (31 + k)) #[] #[]] 47)) HXK.out (hJ _ _ _ HJI.out hb6)
        unfold encK flagC fn_ at hy
        have K6 := Lib.hid (K0.out.later hb6)
        clear hb5 hb6
        gi_wp2_with fail
        (try refine ⟨fun _ => by decide, ?_⟩)
        refine hR.mono ?_
        rintro e W3 (⟨rfl, hJ3, hk3⟩ | ⟨rfl, hJx3⟩)
        · have K3 := Lib.hid (K6.out.keep hk3 hb)
          clear hR hy hk3
          have hil : i < (kindsOf l).length := (List.getElem?_eq_some_iff.1 HXK.out).1
          gi_wp2
          refine ⟨⟨i + 1, by go_num, hil, hJ3, K3.out⟩, ?_⟩
          simp only [intOf]
          omega
        · gi_wp2
          exact bodyPost_ret (v := .tuple #[]) (by simp [results, Try.results29, go_sem]) rfl ⟨⟨_, rfl⟩, .inr ⟨_, hJx3⟩⟩
    · obtain rfl : i = (kindsOf l).length := by omega
      have hle : ¬ (((kindsOf l).length : Int) < l.length) := by omega
      gi_wp2
      go_end0
      exact ⟨⟨_, rfl⟩, .inl hJi⟩
end Go.Proofs.Ytnkgkimlmceciaa
