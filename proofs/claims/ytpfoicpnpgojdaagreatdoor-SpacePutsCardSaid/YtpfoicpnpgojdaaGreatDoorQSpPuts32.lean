/- Texts of one kind in one: SpPuts, SpPutsLaw, SpOpen, SpLaid. -/
import Derived.Test.YtpfoicpnpgojdaaGreatDoorQZName31
import Derived.Test.YtpfoicpnpgojdaaGreatDoorQSpLast28
import Derived.WalkKit
import Derived.ProofKit
import Derived.OpenShut
import Derived.ShutString
import Derived.Carry
import Derived.Lib.SmallJoins
import Derived.Deep.Slices
import Derived.Deep.Fields
import Derived.ChangeArms
import Derived.ChangeSame
import Derived.SizedLaws
import Derived.Test.YtpfoicpnpgojdaaGreatDoorQErReflect24
import Derived.Test.YtpfoicpnpgojdaaGreatDoorTie
import Derived.LaidMore
import Derived.LaidLaws
import Derived.Stop.LaidTwo
import Derived.LaidHandle
import Derived.Stop.Joined
import Derived.HandedShaped
import Derived.Shelf.Vars
/- A space of one's own: what is put is there. -/
namespace Go.Proofs.YtpfoicpnpgojdaaGreatDoor
open Go.RowKit Go.Shelf Sk
attribute [local go_sem] Oper.semAt_some

def KeepRows (W W' : World) : Prop := ∀ n0 v l, Row W n0 v l → Row W' n0 v l
theorem KeepRows.below {W W' : World} (h : Below W.heap.size W W') : KeepRows W W' := fun _ _ _ hr => hr.later h
section
variable {w0 w w' w1 w2 : World} {p c c' sd s : Nat} {S : Nat → Prop} {en mn : Int} {L L' : List Th} {t : Th}
theorem SpSt.rows (h : SpSt w p en mn sd c L S) (hf : Far S w w') : KeepRows w w' := fun _ _ _ hr => hr.far hf fun _ _ _ hb => h.no hb (by decide)
theorem SpSt.rowsN (h : SpSt w p en mn sd c L S) (hn : SpNow w p en mn sd c S L' w') : KeepRows w w' := by
  obtain ⟨S', _, _, hf⟩ := hn
  exact h.rows hf
theorem own32_row {W : World} {n0 : Nat} {v : Value} {l : List En} (h : Own32 W n0 v l) : Row W n0 v l := own_row h
theorem own_Put (hE : EnvE w0) (h : SpOwn w0 w p en mn sd c L) (hc : c ≤ 10000) (k : ByteArray) (hk : k.size ≤ 281474976710656) {n0 : Nat} {v : Value} {l : List En} (hl : l.length ≤ 300) (hlc : l.length ≤ c) (hs : ∀ e ∈ l, Pk.scoreOk e.2) (hr : Row w n0 v l) (now : Int) (hnow : Lf.I64 now) :
    Calls Tryz.prog 31 #[.pointer (some ⟨p, 0, none⟩), .string k, v, .int .i64 now] w fun e w' => ∃ L', e = .returned (.int .i64 (madeE L k now)) ∧ SpOwn w0 w' p en mn sd c L' ∧ PutTo en mn L k l now L' ∧ KeepRows w w' := by
  have hw := h.env hE
  obtain ⟨S, h1, h2, h3⟩ := h
  refine (st_Put h1 hw (own_no0 hE h2) hc k hk hl hlc hs hr (fun W hf => h1.rows hf n0 v l hr) now hnow).mono ?_
  rintro e w' ⟨L', rfl, hn, hm⟩
  exact ⟨L', rfl, .of h2 h3 hn, hm, h1.rowsN hn⟩
theorem own_Find_rows (h : SpOwn w0 w p en mn sd c L) (k : ByteArray) (hk : k.size ≤ 281474976710656) :
    Calls Tryz.prog 21 #[.pointer (some ⟨p, 0, none⟩), .string k] w fun e w' => e = .returned (.tuple #[.pointer (sptr L k), .bool (tmap L k).isSome]) ∧ SpOwn w0 w' p en mn sd c L ∧ KeepRows w w' := by
  obtain ⟨S, h1, h2, h3⟩ := h
  refine (st_Find h1 k hk).mono ?_
  rintro e w' ⟨rfl, hn⟩
  exact ⟨rfl, .of h2 h3 hn, h1.rowsN hn⟩
theorem own_Len (h : SpOwn w0 w p en mn sd c L) : Calls Tryz.prog 13 #[.pointer (some ⟨p, 0, none⟩)] w fun e w' => e = .returned (.int .i64 L.length) ∧ w' = w := by
  obtain ⟨S, h1, h2, h3⟩ := h
  exact st_len h1
theorem SpOwn.set (h : SpOwn w0 w p en mn sd c L) (ht : t ∈ L) : SetIs w t.s t.S t.isL (clampL en 200) (clampL mn 64) c t.E := by
  obtain ⟨S, h1, _⟩ := h
  exact (h1.th ht).2

/-- One key, its set's entries. -/
def PutsAt (w0 w : World) (p : Nat) (en mn : Int) (sd : Nat) (k : ByteArray) (s : Nat) (F : List En) : Prop := ∃ t, SpOwn w0 w p en mn sd 5 [t] ∧ t.key = k ∧ t.E = F ∧ t.s = s
variable {k : ByteArray} {F l : List En}
theorem one_tmap (h : t.key = k) (k' : ByteArray) : (tmap [t] k').isSome = decide (k' = k) := by
  unfold tmap
  by_cases e : k' = k
  · simp [h, e]
  · have : ¬ k = k' := fun x => e x.symm
    simp [h, e, this]
theorem one_sptr (h : t.key = k) : sptr [t] k = some ⟨t.s, 0, none⟩ := by
  unfold sptr
  simp [h]
theorem PutsAt.later (h : PutsAt w0 w p en mn sd k s F) (hb : Below w.heap.size w w') : PutsAt w0 w' p en mn sd k s F := by
  obtain ⟨t, h, hk⟩ := h
  exact ⟨t, h.later hb, hk⟩
theorem PutsAt.below (h : PutsAt w0 w p en mn sd k s F) : Below w0.heap.size w0 w := by
  obtain ⟨t, h, hk⟩ := h
  exact h.below
theorem puts_first (hE : EnvE w0) (h : SpOwn w0 w p en mn sd 5 []) (hk : k.size ≤ 64) {n0 : Nat} {v : Value} (hl : l.length ≤ 5) (hs : ∀ e ∈ l, Pk.scoreOk e.2) (hr : Row w n0 v l) :
    Calls Tryz.prog 31 #[.pointer (some ⟨p, 0, none⟩), .string k, v, .int .i64 0] w fun e w' => e = .returned (.int .i64 0) ∧ ∃ s, PutsAt w0 w' p en mn sd k s (filled en mn l).2 := by
  refine (own_Put hE h (by decide) k (by omega) (by omega) hl hs hr 0 (by unfold Lf.I64; omega)).mono ?_
  have hm : madeE [] k 0 = 0 := by
    unfold madeE
    rw [if_neg (by omega)]
    rfl
  rw [hm]
  rintro e w' ⟨L', rfl, ho, hp, _⟩
  refine ⟨rfl, ?_⟩
  rcases hp with ⟨hn, _⟩ | ⟨_, _, L1, t, t', ht, htk, hor, hq, hi, rfl⟩
  · exact absurd hm hn
  rcases hor with ⟨h0, _⟩ | ⟨_, _, _, rfl, _⟩
  · simp at h0
  have hL : repT ([] ++ [t]) t' = [t'] := by unfold repT; simp [hq]
  rw [hL] at ho
  exact ⟨t'.s, t', ho, (congrArg It.key hi).trans htk, congrArg It.E hi, rfl⟩
theorem puts_again (hE : EnvE w0) (h : PutsAt w0 w p en mn sd k s F) (hk : k.size ≤ 64) {n0 : Nat} {v : Value} (hl : l.length ≤ 5) (hs : ∀ e ∈ l, Pk.scoreOk e.2) (hr : Row w n0 v l) :
    Calls Tryz.prog 31 #[.pointer (some ⟨p, 0, none⟩), .string k, v, .int .i64 0] w fun e w' => e = .returned (.int .i64 0) ∧ (∃ s, PutsAt w0 w' p en mn sd k s (filled en mn l).2) ∧ KeepRows w w' := by
  obtain ⟨t0, h, hk0, _, _⟩ := h
  refine (own_Put hE h (by decide) k (by omega) (by omega) hl hs hr 0 (by unfold Lf.I64; omega)).mono ?_
  have hm : madeE [t0] k 0 = 0 := by
    unfold madeE
    rw [if_neg (by omega), one_tmap hk0]
    simp
  rw [hm]
  rintro e w' ⟨L', rfl, ho, hp, hkr⟩
  refine ⟨rfl, ?_, hkr⟩
  rcases hp with ⟨hn, _⟩ | ⟨_, _, L1, t, t', ht, htk, hor, hq, hi, rfl⟩
  · exact absurd hm hn
  rcases hor with ⟨h0, rfl⟩ | ⟨h0, _⟩
  · rw [List.mem_singleton] at h0
    subst h0
    have hL : repT [t] t' = [t'] := by unfold repT; simp [hq]
    rw [hL] at ho
    exact ⟨t'.s, t', ho, (congrArg It.key hi).trans htk, congrArg It.E hi, rfl⟩
  · have := one_tmap hk0 k
    rw [h0] at this
    simp at this
theorem puts_find (h : PutsAt w0 w p en mn sd k s F) (hk : k.size ≤ 64) : Calls Tryz.prog 21 #[.pointer (some ⟨p, 0, none⟩), .string k] w fun e w' => e = .returned (.tuple #[.pointer (some ⟨s, 0, none⟩), .bool true]) ∧ PutsAt w0 w' p en mn sd k s F ∧ KeepRows w w' := by
  obtain ⟨t, h, hk0, hF, rfl⟩ := h
  refine (own_Find_rows h k (by omega)).mono ?_
  rw [one_tmap hk0, one_sptr hk0]
  rintro e w' ⟨rfl, ho, hkr⟩
  exact ⟨by simp, ⟨t, ho, hk0, hF, rfl⟩, hkr⟩
theorem puts_other (h : PutsAt w0 w p en mn sd k s F) (k' : ByteArray) (hk' : k'.size ≤ 281474976710656) : Calls Tryz.prog 21 #[.pointer (some ⟨p, 0, none⟩), .string k'] w fun e w' => ∃ a, e = .returned (.tuple #[.pointer a, .bool (decide (k' = k))]) ∧ PutsAt w0 w' p en mn sd k s F ∧ KeepRows w w' := by
  obtain ⟨t, h, hk0, hF, rfl⟩ := h
  refine (own_Find_rows h k' hk').mono ?_
  rw [one_tmap hk0]
  rintro e w' ⟨rfl, ho, hkr⟩
  exact ⟨_, rfl, ⟨t, ho, hk0, hF, rfl⟩, hkr⟩
theorem puts_small (h : PutsAt w0 w p en mn sd k s F) : F.length ≤ 5 := by
  obtain ⟨t, h, hk0, rfl, rfl⟩ := h
  exact (h.set (List.mem_singleton.2 rfl)).good.len
theorem puts_setlen (h : PutsAt w0 w p en mn sd k s F) : Calls Tryz.prog 25 #[.pointer (some ⟨s, 0, none⟩)] w fun e w' => e = .returned (.int .i64 F.length) ∧ Below w.heap.size w w' := by
  obtain ⟨t, h, hk0, rfl, rfl⟩ := h
  exact set_len (h.set (List.mem_singleton.2 rfl))
theorem puts_range (h : PutsAt w0 w p en mn sd k s F) (f u : Int) : Calls Tryz.prog 24 #[.pointer (some ⟨s, 0, none⟩), .int .i64 f, .int .i64 u] w fun e w' => ∃ r, e = .returned r ∧ Row w' w.heap.size r (subE F f u) ∧ Below w.heap.size w w' := by
  obtain ⟨t, h, hk0, rfl, rfl⟩ := h
  exact set_range (h.set (List.mem_singleton.2 rfl)) f u
theorem puts_len (h : PutsAt w0 w p en mn sd k s F) : Calls Tryz.prog 13 #[.pointer (some ⟨p, 0, none⟩)] w fun e w' => e = .returned (.int .i64 1) ∧ w' = w := by
  obtain ⟨t, h, _⟩ := h
  exact own_Len h
theorem puts_wrong (hE : EnvE w0) (h : SpOwn w0 w p en mn sd 5 []) (hk : 64 < k.size) (hk2 : k.size ≤ 281474976710656) {n0 : Nat} {v : Value} (hl : l.length ≤ 5) (hs : ∀ e ∈ l, Pk.scoreOk e.2) (hr : Row w n0 v l) :
    Calls Tryz.prog 31 #[.pointer (some ⟨p, 0, none⟩), .string k, v, .int .i64 0] w fun e w' => e = .returned (.int .i64 140) ∧ SpOwn w0 w' p en mn sd 5 [] := by
  refine (own_Put hE h (by decide) k hk2 (by omega) hl hs hr 0 (by unfold Lf.I64; omega)).mono ?_
  have hm : madeE [] k 0 = 140 := by
    unfold madeE
    rw [if_pos hk]
  rw [hm]
  rintro e w' ⟨L', rfl, ho, hp, _⟩
  refine ⟨rfl, ?_⟩
  rcases hp with ⟨_, rfl⟩ | ⟨hn, _⟩
  · exact ho
  · rw [hm] at hn; cases hn
end
end Go.Proofs.YtpfoicpnpgojdaaGreatDoor
/- SpacePuts: its walk. -/
namespace Go.Proofs.YtpfoicpnpgojdaaGreatDoor
open Go.RowKit Go.Shelf Sk
attribute [local go_sem] Oper.semAt_some

theorem eq_toList (a b : ByteArray) : decide (a = b) = (a.toList == b.toList) := by
  by_cases h : a = b
  · rw [h]; simp
  · rw [decide_eq_false h]
    symm
    exact beq_eq_false_iff_ne.2 fun e => h (Pk.toList_inj _ _ e)
/-- The arguments' cells. -/
def PutsArgs (b : Nat) (en mn : Int) (sd : Nat) (mx d : Int) (k t m : ByteArray) (sc n dr : Int) (W : World) : Prop :=
  Blk W b 26 #[.int .i64 en, .int .i64 mn, .int .u32 sd, .int .i64 mx] ∧ Blk W (b + 1) 37 #[.int .i64 d, .string k, .string t, .string m, .int .i64 sc, .int .i64 n, .int .u32 dr]
section
variable {b sd : Nat} {en mn mx d sc n dr : Int} {k t m : ByteArray} {W W' w : World}
theorem PutsArgs.later (h : PutsArgs b en mn sd mx d k t m sc n dr W) (hb : Below W.heap.size W W') : PutsArgs b en mn sd mx d k t m sc n dr W' := ⟨h.1.later hb, h.2.later hb⟩
theorem PutsArgs.cells (h : PutsArgs b en mn sd mx d k t m sc n dr W) :
    (W.cell? ⟨b, 0, none⟩ = some (.int .i64 en) ∧ W.cell? ⟨b, 1, none⟩ = some (.int .i64 mn) ∧ W.cell? ⟨b, 2, none⟩ = some (.int .u32 sd) ∧ W.cell? ⟨b, 3, none⟩ = some (.int .i64 mx)) ∧
    W.cell? ⟨b + 1, 0, none⟩ = some (.int .i64 d) ∧ W.cell? ⟨b + 1, 1, none⟩ = some (.string k) ∧ W.cell? ⟨b + 1, 2, none⟩ = some (.string t) ∧ W.cell? ⟨b + 1, 3, none⟩ = some (.string m) ∧ W.cell? ⟨b + 1, 4, none⟩ = some (.int .i64 sc) ∧ W.cell? ⟨b + 1, 5, none⟩ = some (.int .i64 n) ∧ W.cell? ⟨b + 1, 6, none⟩ = some (.int .u32 dr) :=
  ⟨⟨h.1.cell 0, h.1.cell 1, h.1.cell 2, h.1.cell 3⟩, h.2.cell 0, h.2.cell 1, h.2.cell 2, h.2.cell 3, h.2.cell 4, h.2.cell 5, h.2.cell 6⟩
theorem args_new (w : World) (en mn : Int) (sd : Nat) (mx d : Int) (k t m : ByteArray) (sc n dr : Int) :
    PutsArgs w.heap.size en mn sd mx d k t m sc n dr ((w.alloc (.cells #[.int .i64 en, .int .i64 mn, .int .u32 sd, .int .i64 mx] 26)).alloc (.cells #[.int .i64 d, .string k, .string t, .string m, .int .i64 sc, .int .i64 n, .int .u32 dr] 37)) := by
  refine ⟨(Blk.new w 26 _).later (alloc_below _ _), ?_⟩
  have h := Blk.new (w.alloc (.cells #[.int .i64 en, .int .i64 mn, .int .u32 sd, .int .i64 mx] 26)) 37 #[.int .i64 d, .string k, .string t, .string m, .int .i64 sc, .int .i64 n, .int .u32 dr]
  rw [alloc_size] at h
  exact h
end
theorem alloc_lt (w : World) (o : Obj) : w.heap.size < (w.alloc o).heap.size := by rw [alloc_size]; omega
set_option maxRecDepth 100000 in
set_option maxHeartbeats 2000000 in
theorem puts_walk (en mn : Int) (sd : Nat) (hsd : sd < 4294967296) (mx : Int) (d : Int) (k0 t m : ByteArray) (sc n dr : Int) (o0 : ByteArray) (hk0 : k0.size ≤ 9223372036854775807) (hm0 : m.size ≤ 9223372036854775807) (ho0 : o0.size ≤ 9223372036854775807) (hsc : Pk.scoreOk sc) (w : World) (hE : EnvE w) :
    Calls Tryz.prog 9 #[.agg #[.int .i64 en, .int .i64 mn, .int .u32 sd, .int .i64 mx], actV d k0 t m sc n dr, .string o0] w fun e w' => e = .returned (.bool true) ∧ Below w.heap.size w w' := by
  have HA := Lib.hid (args_new w en mn sd mx d k0 t m sc n dr)
  have HW := Lib.hid ((alloc_below w (.cells #[.int .i64 en, .int .i64 mn, .int .u32 sd, .int .i64 mx] 26)).alloc (Nat.le_of_lt (alloc_lt _ _)) (.cells #[.int .i64 d, .string k0, .string t, .string m, .int .i64 sc, .int .i64 n, .int .u32 dr] 37))
  have HS := fun W (h : EnvE W) => Lib.hid (shown_any W h)
  have HE := Lib.hid hE
  have HN := fun W => Lib.hid (own_New en mn mx sd hsd 5 W)
  have HK := fun W => Lib.hid (name_any k0 hk0 W)
  have HO := fun W => Lib.hid (name_any o0 ho0 W)
  have HX := fun W => Lib.hid (entries_any d k0 t m sc n dr hm0 W)
  have hk70 := name_size k0
  have ho70 := name_size o0
  have hl5 : (entL m sc (entN n)).length ≤ 5 := by rw [entL_len]; unfold entN; omega
  have hls : ∀ e ∈ entL m sc (entN n), Pk.scoreOk e.2 := fun e he => by
    unfold entL at he
    obtain ⟨i, _, rfl⟩ := List.mem_map.1 he
    exact hsc
  generalize entL m sc (entN n) = l at *
  unfold actV at *
  generalize nameB k0 = k at *
  generalize nameB o0 = o at *
  clear hE
  go_enter Tryz.func9, Tryz.ntmps9
  go_wp2_with fail
  generalize (w.alloc (.cells #[.int .i64 en, .int .i64 mn, .int .u32 sd, .int .i64 mx] 26)).alloc (.cells #[.int .i64 d, .string k0, .string t, .string m, .int .i64 sc, .int .i64 n, .int .u32 dr] 37) = w2 at HA HW ⊢
  refine (HS w2 (HE.out.later HW.out)).out.mono ?_
  rintro e w3 ⟨rfl, hb3⟩
  obtain ⟨⟨c0, c1, c2, c3⟩, a0, a1, a2, a3, a4, a5, a6⟩ := (HA.out.later hb3).cells
  have HA3 := Lib.hid (HA.out.later hb3)
  have HW3 := Lib.hid (HW.out.trans (hb3.mono HW.out.size))
  have HN3 := HN w3
  clear hb3 HA HW HS HN
  go_wp2_with fail
  clear c0 c1 c2 c3 a0 a1 a2 a3 a4 a5 a6
  refine HN3.out.mono ?_
  rintro e w4 ⟨p, rfl, h4⟩
  obtain ⟨_, a0, a1, a2, a3, a4, a5, a6⟩ := (HA3.out.later h4.below).cells
  have H4 := Lib.hid h4
  have HE3 := Lib.hid (HE.out.later HW3.out)
  clear h4 HN3
  go_wp2_with fail
  refine (HK w4).out.mono ?_
  rintro e w5 ⟨rfl, rfl⟩
  go_wp2_with fail
  refine (HX w5).out.mono ?_
  rintro e w6 ⟨v, rfl, hv, hb6⟩
  have h6 := H4.out.later hb6
  by_cases hk : k.size ≤ 64
  · have HP := Lib.hid (puts_first HE3.out h6 hk hl5 hls (own32_row hv))
    obtain ⟨vA, vC, rfl⟩ := (own32_row hv).form
    clear hb6 h6 hv H4 a0 a1 a2 a3 a4 a5 a6
    generalize hF : (filled en mn l).2 = F at *
    go_wp2_with fail
    refine HP.out.mono ?_
    rintro e w7 ⟨rfl, s1, h7⟩
    have HFD := Lib.hid (puts_find h7 hk)
    clear HP h7
    go_wp2_with fail
    refine HFD.out.mono ?_
    rintro e w8 ⟨rfl, h8, _⟩
    have HL := Lib.hid (puts_setlen h8)
    have H8 := Lib.hid h8
    clear HFD h8
    go_wp2_with fail
    refine HL.out.mono ?_
    rintro e w9 ⟨rfl, hb9⟩
    have h9 := H8.out.later hb9
    have HR := Lib.hid (puts_range h9 0 (F.length : Int))
    have H9 := Lib.hid h9
    clear hb9 h9 HL H8
    go_wp2_with fail
    refine HR.out.mono ?_
    rintro e w10 ⟨r1, rfl, hr10, hb10⟩
    have hSFl : (subE F 0 F.length).length ≤ 1000000 := by
      rw [subE_all]
      exact Nat.le_trans (puts_small H9.out) (by decide)
    generalize hSF : subE F 0 F.length = SF at hr10 hSFl
    have h10 := H9.out.later hb10
    obtain ⟨_, a0, a1, a2, a3, a4, a5, a6⟩ := (HA3.out.later h10.below).cells
    have R10 := Lib.hid hr10
    have H10 := Lib.hid h10
    obtain ⟨bA, bC, rfl⟩ := hr10.form
    clear hb10 hr10 h10 HR H9
    go_wp2_with fail
    refine (HX w10).out.mono ?_
    rintro e w11 ⟨v, rfl, hv, hb11⟩
    have h11 := H10.out.later hb11
    have R11 := Lib.hid (R10.out.later hb11)
    have HP := Lib.hid (puts_again HE3.out h11 hk hl5 hls (own32_row hv))
    obtain ⟨vA2, vC2, rfl⟩ := (own32_row hv).form
    clear hb11 h11 hv H10 a0 a1 a2 a3 a4 a5 a6 HX R10
    rw [hF] at HP
    go_wp2_with fail
    refine HP.out.mono ?_
    rintro e w12 ⟨rfl, ⟨s2, h12⟩, hk12⟩
    have R12 := Lib.hid (hk12 _ _ _ R11.out)
    have HFD := Lib.hid (puts_find h12 hk)
    clear HP h12 hk12 R11
    go_wp2_with fail
    refine HFD.out.mono ?_
    rintro e w13 ⟨rfl, h13, hk13⟩
    have R13 := Lib.hid (hk13 _ _ _ R12.out)
    have HFO := Lib.hid (puts_other h13 o (by omega))
    clear hk13 R12 HFD h13
    go_wp2_with fail
    refine (HO w13).out.mono ?_
    rintro e w14 ⟨rfl, rfl⟩
    go_wp2_with fail
    refine HFO.out.mono ?_
    rintro e w14 ⟨oa, rfl, h14, hk14⟩
    have R14 := Lib.hid (hk14 _ _ _ R13.out)
    have H14 := Lib.hid h14
    clear hk14 R13 HFO h14
    go_wp2_with fail
    refine (puts_setlen H14.out).mono ?_
    rintro e w15 ⟨rfl, hb15⟩
    have R15 := Lib.hid (R14.out.later hb15)
    have H15 := Lib.hid (H14.out.later hb15)
    clear hb15 R14 H14
    go_wp2_with fail
    refine (puts_range H15.out 0 (F.length : Int)).mono ?_
    rw [hSF]
    rintro e w16 ⟨r2, rfl, hr16, hb16⟩
    have R16 := Lib.hid (R15.out.later hb16)
    have H16 := Lib.hid (H15.out.later hb16)
    have HSM := Lib.hid (same_rows _ _ SF hSFl w16 R16.out hr16)
    have HLN := Lib.hid (fun W hb => puts_len (H16.out.later (w' := W) hb))
    have HBE := Lib.hid (fun W hb => (H16.out.later (w' := W) hb).below)
    clear hb16 hr16 R15 H15 R16 H16
    go_wp2_with fail
    refine HSM.out.mono ?_
    rintro e w17 ⟨rfl, hb17⟩
    have HL17 := Lib.hid (HLN.out w17 hb17)
    have HB17 := Lib.hid (HW3.out.trans ((HBE.out w17 hb17).mono HW3.out.size))
    clear hb17 HLN HBE HSM
    go_wp2_with fail
    refine HL17.out.mono ?_
    rintro e w18 ⟨rfl, rfl⟩
    go_wp2_with fail
    refine (HO w18).out.mono ?_
    rintro e w19 ⟨rfl, rfl⟩
    go_wp2_with fail
    go_ret
    exact ⟨by simp [eq_toList], HB17.out⟩
  · have hk64 : 64 < k.size := by omega
    have HP := Lib.hid (puts_wrong HE3.out h6 hk64 (by omega) hl5 hls (own32_row hv))
    obtain ⟨vA, vC, rfl⟩ := (own32_row hv).form
    clear hb6 h6 hv H4 a0 a1 a2 a3 a4 a5 a6
    go_wp2_with fail
    refine HP.out.mono ?_
    rintro e w7 ⟨rfl, h7⟩
    have HFD := Lib.hid (own_Find h7 k (by omega))
    clear HP h7
    go_wp2_with fail
    refine HFD.out.mono ?_
    rintro e w8 ⟨rfl, h8⟩
    have H8 := Lib.hid h8
    clear HFD h8
    rw [show sptr [] k = none from rfl, show tmap [] k = none from rfl]
    go_wp2_with fail
    refine (nil_len w8).mono ?_
    rintro e w9 ⟨rfl, hb9⟩
    have H9 := Lib.hid (H8.out.later hb9)
    clear hb9 H8
    go_wp2_with fail
    refine (nil_range 0 0 w9).mono ?_
    rintro e w10 ⟨bA, bC, rfl, hb10⟩
    have h10 := H9.out.later hb10
    obtain ⟨_, a0, a1, a2, a3, a4, a5, a6⟩ := (HA3.out.later h10.below).cells
    have H10 := Lib.hid h10
    clear hb10 h10 H9
    go_wp2_with fail
    refine (HX w10).out.mono ?_
    rintro e w11 ⟨v, rfl, hv, hb11⟩
    have h11 := H10.out.later hb11
    have HP := Lib.hid (puts_wrong HE3.out h11 hk64 (by omega) hl5 hls (own32_row hv))
    obtain ⟨vA2, vC2, rfl⟩ := (own32_row hv).form
    clear hb11 h11 hv H10 a0 a1 a2 a3 a4 a5 a6 HX
    go_wp2_with fail
    refine HP.out.mono ?_
    rintro e w12 ⟨rfl, h12⟩
    have HFD := Lib.hid (own_Find h12 k (by omega))
    clear HP h12
    go_wp2_with fail
    refine HFD.out.mono ?_
    rintro e w13 ⟨rfl, h13⟩
    have HB13 := Lib.hid (HW3.out.trans (h13.below.mono HW3.out.size))
    clear HFD h13
    rw [show sptr [] k = none from rfl, show tmap [] k = none from rfl]
    have hk65 : (64 : Int) < k.size := by omega
    go_wp2_with fail
    go_ret
    exact ⟨by simp, HB13.out⟩
end Go.Proofs.YtpfoicpnpgojdaaGreatDoor
/- Configurations and acts that came in. -/
namespace Go.Proofs.YtpfoicpnpgojdaaGreatDoor
open Go.ChangeShapes Go.WideShapes Go.ChangeAt Go.RowKit Go.Deep
open Go.ChangeMaps (open_string shut_string)

theorem laidOut0 : laidOutB Tryz.prog = true := by kernel_rfl
def fieldL : Field := { name := "Limits", type := 23, offset := 0, embedded := false, tag := "", pkgPath := "", byteOffset := 0 }
def fieldSd : Field := { name := "Seed", type := 24, offset := 2, embedded := false, tag := "", pkgPath := "", byteOffset := 16 }
def fieldMx : Field := { name := "Max", type := 3, offset := 3, embedded := false, tag := "", pkgPath := "", byteOffset := 24 }
def fieldEn : Field := { name := "Entries", type := 3, offset := 0, embedded := false, tag := "", pkgPath := "", byteOffset := 0 }
def fieldMn : Field := { name := "Member", type := 3, offset := 1, embedded := false, tag := "", pkgPath := "", byteOffset := 8 }
theorem underC : Tryz.prog.underlying 26 = some (.struct #[fieldL, fieldSd, fieldMx]) := Tryz.underlying26
theorem underL : Tryz.prog.underlying 23 = some (.struct #[fieldEn, fieldMn]) := Tryz.underlying23
def fieldDo : Field := { name := "Do", type := 3, offset := 0, embedded := false, tag := "", pkgPath := "", byteOffset := 0 }
def fieldKy : Field := { name := "Key", type := 9, offset := 1, embedded := false, tag := "", pkgPath := "", byteOffset := 8 }
def fieldTo : Field := { name := "To", type := 9, offset := 2, embedded := false, tag := "", pkgPath := "", byteOffset := 24 }
def fieldMb : Field := { name := "Member", type := 9, offset := 3, embedded := false, tag := "", pkgPath := "", byteOffset := 40 }
def fieldSc : Field := { name := "Score", type := 2, offset := 4, embedded := false, tag := "", pkgPath := "", byteOffset := 56 }
def fieldNn : Field := { name := "N", type := 3, offset := 5, embedded := false, tag := "", pkgPath := "", byteOffset := 64 }
def fieldDr : Field := { name := "Draw", type := 24, offset := 6, embedded := false, tag := "", pkgPath := "", byteOffset := 72 }
theorem underX : Tryz.prog.underlying 37 = some (.struct #[fieldDo, fieldKy, fieldTo, fieldMb, fieldSc, fieldNn, fieldDr]) := Tryz.underlying37
theorem cellsC : Tryz.prog.cellsOf 26 = 4 := by kernel_rfl
theorem cellsL : Tryz.prog.cellsOf 23 = 2 := by kernel_rfl
theorem cellsX : Tryz.prog.cellsOf 37 = 7 := by kernel_rfl
theorem cellsU : Tryz.prog.cellsOf 24 = 1 := by kernel_rfl
theorem cellsI : Tryz.prog.cellsOf 3 = 1 := by kernel_rfl
theorem cellsJ : Tryz.prog.cellsOf 2 = 1 := by kernel_rfl
theorem cellsS : Tryz.prog.cellsOf 9 = 1 := by kernel_rfl
theorem bounds_u32 {a : Int} (h : (Lit.int .u32 a).wf = true) : 0 ≤ a ∧ a ≤ 4294967295 := by
  have h1 : IntKind.u32.min = 0 := by decide
  have h2 : IntKind.u32.max = 4294967295 := by decide
  simp [Lit.wf] at h
  omega
theorem bounds_i64 {a : Int} (h : (Lit.int .i64 a).wf = true) : -9223372036854775808 ≤ a ∧ a ≤ 9223372036854775807 := by
  have h1 : IntKind.i64.min = -9223372036854775808 := by decide
  have h2 : IntKind.i64.max = 9223372036854775807 := by decide
  simp [Lit.wf] at h
  omega
theorem four {α : Type} {l : List α} (h : l.length = 4) : ∃ a b c d, l = [a, b, c, d] := by
  rcases l with _ | ⟨a, _ | ⟨b, _ | ⟨c, _ | ⟨d, _ | ⟨e, l⟩⟩⟩⟩⟩ <;> simp at h
  exact ⟨a, b, c, d, rfl⟩
theorem seven {α : Type} {l : List α} (h : l.length = 7) : ∃ a b c d e f g, l = [a, b, c, d, e, f, g] := by
  rcases l with _ | ⟨a, _ | ⟨b, _ | ⟨c, _ | ⟨d, _ | ⟨e, _ | ⟨f, _ | ⟨g, _ | ⟨i, l⟩⟩⟩⟩⟩⟩⟩⟩ <;> simp at h
  exact ⟨a, b, c, d, e, f, g, rfl⟩

set_option maxRecDepth 100000 in
theorem open_config {H : Type} {enc : TypeId × Value → H} {W : World} {b0 : Nat} {v : Value} {d : DataW H} {ps : List MemPlace} (hv : Value.okWide Tryz.prog W .any b0 26 v) (h : DataW.Trod enc Tryz.prog W 0 (fun _ => true) true 26 v d ps) :
    ∃ (en mn : Int) (sd : Nat) (mx : Int), v = .agg #[.int .i64 en, .int .i64 mn, .int .u32 sd, .int .i64 mx] ∧ sd < 4294967296 := by
  obtain ⟨cs, rfl, hsz⟩ := okWide_struct underC hv
  obtain ⟨l⟩ := cs
  obtain ⟨fuel, hf⟩ := h
  obtain ⟨xs, n, _, _, _, hxl, hfs⟩ := DataW.trod_struct underC hf
  rw [cellsC] at hsz
  have hl : l.length = 4 := hsz
  have f0 := hfs 0 fieldL rfl
  have f1 := hfs 1 fieldSd rfl
  have f2 := hfs 2 fieldMx rfl
  obtain ⟨v0, v1, v2, v3, rfl⟩ := four hl
  replace hxl : xs.length = 3 := hxl
  rw [show (Value.cells (.agg ⟨[v0, v1, v2, v3]⟩)).toList = [v0, v1, v2, v3] from rfl] at f0 f1 f2
  simp only [fieldL, fieldSd, fieldMx, cellsL, cellsU, cellsI, List.drop_zero, List.take_succ_cons, List.take_zero, List.drop_succ_cons] at f0 f1 f2
  rw [List.getElem?_eq_getElem (show 0 < xs.length by omega)] at f0
  rw [List.getElem?_eq_getElem (show 1 < xs.length by omega)] at f1
  rw [List.getElem?_eq_getElem (show 2 < xs.length by omega)] at f2
  obtain ⟨ys, n', _, _, _, hyl, hgs⟩ := DataW.trod_struct underL f0
  have g0 := hgs 0 fieldEn rfl
  have g1 := hgs 1 fieldMn rfl
  replace hyl : ys.length = 2 := hyl
  simp only [fieldEn, fieldMn, cellsI, List.drop_zero, List.take_succ_cons, List.take_zero, List.drop_succ_cons] at g0 g1
  rw [List.getElem?_eq_getElem (show 0 < ys.length by omega)] at g0
  rw [List.getElem?_eq_getElem (show 1 < ys.length by omega)] at g1
  obtain ⟨k0, hk0, _, _⟩ := DataW.trod_int Tryz.underlying3 g0
  obtain ⟨k1, hk1, _, _⟩ := DataW.trod_int Tryz.underlying3 g1
  obtain ⟨k2, hk2, _, w2⟩ := DataW.trod_int Tryz.underlying24 f1
  obtain ⟨k3, hk3, _, _⟩ := DataW.trod_int Tryz.underlying3 f2
  simp only [List.cons.injEq, and_true] at hk0 hk1 hk2 hk3
  subst hk0 hk1 hk2 hk3
  obtain ⟨h1, h2⟩ := bounds_u32 w2
  refine ⟨k0, k1, k2.toNat, k3, ?_, by omega⟩
  rw [Int.toNat_of_nonneg h1]
set_option maxRecDepth 100000 in
theorem open_act {H : Type} {enc : TypeId × Value → H} {W : World} {b0 : Nat} {v : Value} {d : DataW H} {ps : List MemPlace} (hv : Value.okWide Tryz.prog W .any b0 37 v) (h : DataW.Trod enc Tryz.prog W 0 (fun _ => true) true 37 v d ps) :
    ∃ (dd : Int) (k t m : ByteArray) (sc n dr : Int), v = actV dd k t m sc n dr ∧ Lf.I64 dd ∧ k.size ≤ 9223372036854775807 ∧ t.size ≤ 9223372036854775807 ∧ m.size ≤ 9223372036854775807 ∧ Pk.scoreOk sc ∧ Lf.I64 n ∧ 0 ≤ dr ∧ dr ≤ 4294967295 := by
  obtain ⟨cs, rfl, hsz⟩ := okWide_struct underX hv
  obtain ⟨l⟩ := cs
  obtain ⟨fuel, hf⟩ := h
  obtain ⟨xs, n, _, _, _, hxl, hfs⟩ := DataW.trod_struct underX hf
  rw [cellsX] at hsz
  have hl : l.length = 7 := hsz
  have f0 := hfs 0 fieldDo rfl
  have f1 := hfs 1 fieldKy rfl
  have f2 := hfs 2 fieldTo rfl
  have f3 := hfs 3 fieldMb rfl
  have f4 := hfs 4 fieldSc rfl
  have f5 := hfs 5 fieldNn rfl
  have f6 := hfs 6 fieldDr rfl
  obtain ⟨v0, v1, v2, v3, v4, v5, v6, rfl⟩ := seven hl
  replace hxl : xs.length = 7 := hxl
  rw [show (Value.cells (.agg ⟨[v0, v1, v2, v3, v4, v5, v6]⟩)).toList = [v0, v1, v2, v3, v4, v5, v6] from rfl] at f0 f1 f2 f3 f4 f5 f6
  simp only [fieldDo, fieldKy, fieldTo, fieldMb, fieldSc, fieldNn, fieldDr, cellsU, cellsI, cellsJ, cellsS, List.drop_zero, List.take_succ_cons, List.take_zero, List.drop_succ_cons] at f0 f1 f2 f3 f4 f5 f6
  rw [List.getElem?_eq_getElem (show 0 < xs.length by omega)] at f0
  rw [List.getElem?_eq_getElem (show 1 < xs.length by omega)] at f1
  rw [List.getElem?_eq_getElem (show 2 < xs.length by omega)] at f2
  rw [List.getElem?_eq_getElem (show 3 < xs.length by omega)] at f3
  rw [List.getElem?_eq_getElem (show 4 < xs.length by omega)] at f4
  rw [List.getElem?_eq_getElem (show 5 < xs.length by omega)] at f5
  rw [List.getElem?_eq_getElem (show 6 < xs.length by omega)] at f6
  obtain ⟨k0, hk0, _, w0⟩ := DataW.trod_int Tryz.underlying3 f0
  obtain ⟨k1, hk1, _, w1⟩ := DataW.trod_string Tryz.underlying9 f1
  obtain ⟨k2, hk2, _, w2⟩ := DataW.trod_string Tryz.underlying9 f2
  obtain ⟨k3, hk3, _, w3⟩ := DataW.trod_string Tryz.underlying9 f3
  obtain ⟨k4, hk4, _, w4⟩ := DataW.trod_int Tryz.underlying2 f4
  obtain ⟨k5, hk5, _, w5⟩ := DataW.trod_int Tryz.underlying3 f5
  obtain ⟨k6, hk6, _, w6⟩ := DataW.trod_int Tryz.underlying24 f6
  simp only [List.cons.injEq, and_true] at hk0 hk1 hk2 hk3 hk4 hk5 hk6
  subst hk0 hk1 hk2 hk3 hk4 hk5 hk6
  obtain ⟨h1, h2⟩ := bounds_u32 w6
  unfold maxLen at w1 w2 w3
  exact ⟨k0, k1, k2, k3, k4, k5, k6, rfl, bounds_i64 w0, w1, w2, w3, bounds_i64 w4, bounds_i64 w5, h1, h2⟩
end Go.Proofs.YtpfoicpnpgojdaaGreatDoor
/- What the laid type of error gives the walks; a world in which it lies. -/
namespace Go.Proofs.YtpfoicpnpgojdaaGreatDoor
open Go.ChangeShapes Go.WideShapes Go.ChangeAt Go.RowKit

theorem Tryz.own : ownKnob Tryz.prog.godebug = none := by kernel_rfl
theorem gErr : Tryz.prog.globalNamed "errors.errorType" = some 0 := by kernel_rfl
theorem rtNumber : (Tryz.prog.cutTypes.find? (·.1 == "internal/reflectlite.rtype")).map (·.2) = some 183 := by kernel_rfl
theorem oneRow : ((List.range Tryz.prog.types.size).filter fun t => Tryz.prog.rowNamed t [101, 114, 114, 111, 114]) = [109] := by kernel_rfl

abbrev laid1 : List (String × DataW Unit) := [("errors.errorType", Rows.laid_errors_errorType)]

theorem handle_of_laid {W : World} (h : laidMetH Tryz.prog laid1 W) : W.cell? ⟨0, 0, none⟩ = some (.iface 183 (.agg #[.pointer (some ⟨3, 109, none⟩)])) := by
  have h' : laidMet Tryz.prog [] W ∧ handlesMet Tryz.prog laid1 W := h
  obtain ⟨name, u, ty, e1, e2, e3, e4, e5⟩ := h'.2 _ (List.mem_singleton.2 rfl)
  have en : name = [101, 114, 114, 111, 114] := (Option.some.inj e1).symm
  subst en
  obtain rfl := Option.some.inj (rtNumber.symm.trans e2)
  have hm : ty ∈ (List.range Tryz.prog.types.size).filter fun t => Tryz.prog.rowNamed t [101, 114, 114, 111, 114] := List.mem_filter.2 ⟨List.mem_range.2 e3, e4⟩
  rw [oneRow] at hm
  obtain rfl := List.mem_singleton.1 hm
  have hh : typeHandle Tryz.prog 109 = .pointer (some ⟨3, 109, none⟩) := by kernel_rfl
  rw [hh] at e5
  simpa using World.var?_cell gErr e5 0

theorem env_of_laid {W : World} (hL : laidMetH Tryz.prog laid1 W) : EnvE W := handle_of_laid hL

theorem door_met (os : Os) (args : Array Value) : laidMetH Tryz.prog laid1 ((World.doorLaid Tryz.prog 2000 os).forCall (fun _ _ => 0) ⟨#[], args, []⟩).memory :=
  laidMetH_of_parts (laidMet_nil _ _) (by kernel_rfl)

/-- A contract that is handed both what is laid and the world's shape. -/
theorem handed_laid_shaped {H : Type} {enc : TypeId × Value → H} {a : Assume} {C : Checked} {os : Os} {f : FuncId} {fn : Func} {s : ChangeSpec} {conds : List PathCond} {apart fresh handsOn again : Bool} {X : World → Array Value → Prop}
    (hX : ∀ (w w' : World) (args : Array Value), w.heap = w'.heap → X w args → X w' args)
    (own : ownKnob C.prog.godebug = none) (started : os.Started) (noInit : C.prog.inits.idxOf? f = none) (hfn : C.prog.funcs[f]? = some fn)
    (witness : ∃ (w : World) (tape : Tape) (i : Input), w.os = os ∧ (w.forCall tape i).Shaped C.prog ∧ i.vars = [] ∧ Input.okWide C.prog (w.forCall tape i) .any w.heap.size f i ∧
      ((s.pre enc C.prog fn conds apart (w.forCall tape i).memory i.args ∧ X (w.forCall tape i).memory i.args) ∧ sizedMet enc C.prog fn (OpenSpec.ofChange s) apart (w.forCall tape i).memory i.args) ∧ a.holds C.prog (lone (Frame.enter C.prog f i.args .normal) [] (w.forCall tape i)))
    (contract : ∀ (W : World) (base : Nat) (args : Array Value) (ds gs : List (DataW H)) (before : List MemPlace),
      (∀ (j : Nat) t v, fn.params[j]? = some t → args[j]? = some v → Value.okWide C.prog W .any base t v) →
      DataW.Whole enc C.prog fn.params.toList s.vars apart W args.toList ds gs before → X W args → W.ShapedOpen C.prog →
      Calls C.prog f args W fun e W' => ∃ v, e = .returned v ∧ s.post enc C.prog fn apart fresh handsOn again W args v W') :
    ReturnsInHanded a C os f .any (fun w args => (s.pre enc C.prog fn conds apart w args ∧ X w args) ∧ sizedMet enc C.prog fn (OpenSpec.ofChange s) apart w args) (s.post enc C.prog fn apart fresh handsOn again) := by
  refine returnsInHanded_of_calls own started noInit witness ?_
  intro w tape i _ hsh _ hok hpre _
  obtain ⟨_, _, _, fn', hfn', _, _, _, _, hval⟩ := hok
  obtain rfl : fn' = fn := Option.some.inj (hfn'.symm.trans hfn)
  obtain ⟨⟨⟨ds, gs, before, hw, _⟩, hx⟩, _⟩ := hpre
  have hw' := DataW.Whole.of_heap (w' := w.forCall tape i) (by rfl) hw
  refine (contract (w.forCall tape i) w.heap.size i.args ds gs before hval hw' (hX _ _ _ (by rfl) hx) hsh).mono fun e W' ⟨v, he, hp⟩ => ?_
  subst he
  exact ChangeSpec.post_blind hp

end Go.Proofs.YtpfoicpnpgojdaaGreatDoor
