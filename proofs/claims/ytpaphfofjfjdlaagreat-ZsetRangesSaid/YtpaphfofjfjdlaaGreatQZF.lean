/- Texts of one kind in one: ZIs, ZShown. -/
import Derived.Test.YtpaphfofjfjdlaaGreatQZE
/- A set, whatever its form. -/
namespace Go.Proofs.YtpaphfofjfjdlaaGreat
open Go.RowKit Go.Shelf Sk
attribute [local go_sem] Oper.semAt_some

theorem Good.more {le lm : Int} {c c' : Nat} {E : List En} (h : Good le lm c E) (h1 : c ≤ c') (h2 : c' ≤ 10000) : Good le lm c' E := ⟨h.le, h.lm, h.srt, h.dist, h.each, Nat.le_trans h.len h1, h2⟩
/-- A set in memory, in the blocks S. -/
def SetIs (W : World) (s : Nat) (S : Nat → Prop) (isL : Bool) (le lm : Int) (c : Nat) (E : List En) : Prop :=
  ∃ sd, (isL = false ∧ ∃ b, PSet W s b le lm sd c E ∧ ∀ k, S k ↔ (k = s ∨ k = b)) ∨
    (isL = true ∧ ∃ l p q D L m n, LSet W s l p q D L m n le lm sd c E ∧ ∀ k, S k ↔ (k = s ∨ LOwn l p L D k))
/-- What a call leaves of it. -/
def SetNow (w : World) (s : Nat) (S : Nat → Prop) (isL : Bool) (le lm : Int) (c : Nat) (E : List En) (w' : World) : Prop :=
  ∃ S', SetIs w' s S' isL le lm c E ∧ (∀ k, S' k → S k ∨ w.heap.size ≤ k) ∧ Far S w w'
variable {w w' w1 w2 : World} {s c : Nat} {S S1 : Nat → Prop} {isL : Bool} {le lm : Int} {E : List En}
theorem SetIs.good (h : SetIs w s S isL le lm c E) : Good le lm c E := by
  obtain ⟨sd, ⟨_, b, h, _⟩ | ⟨_, l, p, q, D, L, m, n, h, _⟩⟩ := h
  · exact h.good
  · exact h.good
theorem SetIs.lt (h : SetIs w s S isL le lm c E) {k : Nat} (hk : S k) : k < w.heap.size := by
  obtain ⟨sd, ⟨_, b, h, hS⟩ | ⟨_, l, p, q, D, L, m, n, h, hS⟩⟩ := h
  · rcases (hS k).1 hk with rfl | rfl
    · exact h.blk.lt
    · exact h.pk.blk.lt
  · rcases (hS k).1 hk with rfl | hk
    · exact h.blk.lt
    · exact h.li.own_lt hk
theorem SetIs.far (h : SetIs w s S isL le lm c E) (hf : Far S1 w w') (hd : ∀ k, S k → ¬ S1 k) : SetIs w' s S isL le lm c E := by
  obtain ⟨sd, ⟨h0, b, h, hS⟩ | ⟨h0, l, p, q, D, L, m, n, h, hS⟩⟩ := h
  · exact ⟨sd, .inl ⟨h0, b, ⟨hf.blk h.blk (hd s ((hS s).2 (.inl rfl))), h.pk.far hf (hd b ((hS b).2 (.inr rfl))), h.few, h.good, h.sd⟩, hS⟩⟩
  · exact ⟨sd, .inr ⟨h0, l, p, q, D, L, m, n, ⟨hf.blk h.blk (hd s ((hS s).2 (.inl rfl))), h.li.far hf (fun k hk => hd k ((hS k).2 (.inr hk))), h.en, h.map, h.n, h.good⟩, hS⟩⟩
theorem SetIs.later (h : SetIs w s S isL le lm c E) (hb : Below w.heap.size w w') : SetIs w' s S isL le lm c E := h.far (S1 := fun _ => False) (Far.of_below hb) fun _ _ h => h
theorem SetIs.more (h : SetIs w s S isL le lm c E) {c' : Nat} (h1 : c ≤ c') (h2 : c' ≤ 10000) : SetIs w s S isL le lm c' E := by
  obtain ⟨sd, ⟨h0, b, h, hS⟩ | ⟨h0, l, p, q, D, L, m, n, h, hS⟩⟩ := h
  · exact ⟨sd, .inl ⟨h0, b, ⟨h.blk, h.pk, h.few, h.good.more h1 h2, h.sd⟩, hS⟩⟩
  · exact ⟨sd, .inr ⟨h0, l, p, q, D, L, m, n, ⟨h.blk, h.li, h.en, h.map, Nat.le_trans h.n h1, h.good.more h1 h2⟩, hS⟩⟩
theorem SetNow.same (h : SetIs w s S isL le lm c E) (hb : Below w.heap.size w w') : SetNow w s S isL le lm c E w' := ⟨S, h.later hb, fun _ h => .inl h, Far.of_below hb⟩
theorem SetNow.more (h : SetNow w s S isL le lm c E w') {c' : Nat} (h1 : c ≤ c') (h2 : c' ≤ 10000) : SetNow w s S isL le lm c' E w' := by
  obtain ⟨S', h3, h4⟩ := h
  exact ⟨S', h3.more h1 h2, h4⟩
theorem SetNow.pack {b sd : Nat} (hS : ∀ k, S k ↔ (k = s ∨ k = b)) (h : PSet w' s b le lm sd c E) (hf : Far (fun k => k = b) w w') : SetNow w s S false le lm c E w' :=
  ⟨S, ⟨sd, .inl ⟨rfl, b, h, hS⟩⟩, fun _ h => .inl h, hf.mono fun k hk => (hS k).2 (.inr hk)⟩
theorem SetNow.list {l p q sd : Nat} {D D1 : Nat → Prop} {L L1 : List Nd} {m1 : ByteArray → Option Int} {n1 : Dc.Sh} (hS : ∀ k, S k ↔ (k = s ∨ LOwn l p L D k)) (h : LSet w' s l p q D1 L1 m1 n1 le lm sd c E) (hs : LStep w w' l p L D L1 D1) : SetNow w s S true le lm c E w' :=
  ⟨fun k => k = s ∨ LOwn l p L1 D1 k, ⟨sd, .inr ⟨rfl, l, p, q, D1, L1, m1, n1, h, fun _ => Iff.rfl⟩⟩, fun k hk => by
    rcases hk with rfl | hk
    · exact .inl ((hS k).2 (.inl rfl))
    · rcases hs.new k hk with h | h
      · exact .inl ((hS k).2 (.inr h))
      · exact .inr h, hs.far.mono fun k hk => (hS k).2 (.inr hk)⟩

theorem set_len (h : SetIs w s S isL le lm c E) : Calls Tryz.prog 14 #[.pointer (some ⟨s, 0, none⟩)] w fun e w' => e = .returned (.int .i64 E.length) ∧ Below w.heap.size w w' := by
  obtain ⟨sd, ⟨_, b, h, _⟩ | ⟨_, l, p, q, D, L, m, n, h, _⟩⟩ := h
  · exact ps_len h
  · exact ls_len h
theorem set_range (h : SetIs w s S isL le lm c E) (f t : Int) : Calls Tryz.prog 16 #[.pointer (some ⟨s, 0, none⟩), .int .i64 f, .int .i64 t] w fun e w' => ∃ r, e = .returned r ∧ Row w' w.heap.size r (subE E f t) ∧ Below w.heap.size w w' := by
  obtain ⟨sd, ⟨_, b, h, _⟩ | ⟨_, l, p, q, D, L, m, n, h, _⟩⟩ := h
  · exact ps_range h f t
  · exact ls_range h f t
def encB (isL : Bool) : ByteArray := if isL then ⟨#[115, 107, 105, 112, 108, 105, 115, 116]⟩ else ⟨#[108, 105, 115, 116, 112, 97, 99, 107]⟩
theorem set_enc (h : SetIs w s S isL le lm c E) : Calls Tryz.prog 18 #[.pointer (some ⟨s, 0, none⟩)] w fun e w' => e = .returned (.string (encB isL)) ∧ w' = w := by
  obtain ⟨sd, ⟨rfl, b, h, _⟩ | ⟨rfl, l, p, q, D, L, m, n, h, _⟩⟩ := h
  · exact enc_p h.blk
  · exact enc_l h.blk
theorem set_rank (h : SetIs w s S isL le lm c E) (k : ByteArray) (hk : k.size ≤ 281474976710656) : Calls Tryz.prog 24 #[.pointer (some ⟨s, 0, none⟩), .string k] w fun e w' => e = .returned (.tuple #[.int .i64 ((whE E k).getD 0 : Nat), .bool (whE E k).isSome]) ∧ SetNow w s S isL le lm c E w' := by
  have h0 := h
  obtain ⟨sd, ⟨rfl, b, h, hS⟩ | ⟨rfl, l, p, q, D, L, m, n, h, hS⟩⟩ := h
  · exact (ps_rank h k).mono fun _ _ ⟨he, hb⟩ => ⟨he, SetNow.same h0 hb⟩
  · exact (ls_rank h k hk).mono fun _ _ ⟨he, D1, n1, h1, hs⟩ => ⟨he, SetNow.list hS h1 hs⟩
theorem set_cut (h : SetIs w s S isL le lm c E) (f t : Int) : Calls Tryz.prog 33 #[.pointer (some ⟨s, 0, none⟩), .int .i64 f, .int .i64 t] w fun e w' => e = .returned (.int .i64 (subE E f t).length) ∧ SetNow w s S isL le lm c (cutE E f t) w' := by
  obtain ⟨sd, ⟨rfl, b, h, hS⟩ | ⟨rfl, l, p, q, D, L, m, n, h, hS⟩⟩ := h
  · exact (ps_cut h f t).mono fun _ _ ⟨he, h1, hf⟩ => ⟨he, SetNow.pack hS h1 hf⟩
  · exact (ls_cut h f t).mono fun _ _ ⟨he, D1, L1, m1, n1, h1, hs⟩ => ⟨he, SetNow.list hS h1 hs⟩
theorem set_remove (h : SetIs w s S isL le lm c E) (k : ByteArray) (hk : k.size ≤ 281474976710656) : Calls Tryz.prog 32 #[.pointer (some ⟨s, 0, none⟩), .string k] w fun e w' => e = .returned (.bool (hasE E k)) ∧ SetNow w s S isL le lm c (rmE E k) w' := by
  obtain ⟨sd, ⟨rfl, b, h, hS⟩ | ⟨rfl, l, p, q, D, L, m, n, h, hS⟩⟩ := h
  · exact (ps_remove h k).mono fun _ _ ⟨he, h1, hf⟩ => ⟨he, SetNow.pack hS h1 hf⟩
  · exact (ls_remove h k hk).mono fun _ _ ⟨he, D1, L1, m1, n1, h1, hs⟩ => ⟨he, SetNow.list hS h1 hs⟩

/-- What Add tells and leaves. -/
def badB (k : ByteArray) (lv : Int) : Bool := decide (64 < k.size ∨ lv < 1 ∨ 32 < lv)
def addA (E : List En) (k : ByteArray) (lv : Int) : Bool := !badB k lv && !hasE E k
def addN (k : ByteArray) (lv : Int) : Int := if badB k lv then 2 else 0
def addS (E : List En) (k : ByteArray) (sc lv : Int) : List En := if badB k lv then E else addE E k sc
def addL (le lm : Int) (isL : Bool) (E : List En) (k : ByteArray) (lv : Int) : Bool := isL || (!badB k lv && (!hasE E k && (decide (le ≤ (E.length : Int)) || decide (lm < (k.size : Int)))))
theorem set_add (h : SetIs w s S isL le lm c E) (h4 : E.length < 400) (hc : c + 1 ≤ 10000) (k : ByteArray) (sc lv : Int) (hs : Pk.scoreOk sc) :
    Calls Tryz.prog 31 #[.pointer (some ⟨s, 0, none⟩), .string k, .int .i64 sc, .int .i64 lv] w fun e w' => e = .returned (.tuple #[.bool (addA E k lv), .int .i64 (addN k lv)]) ∧ SetNow w s S (addL le lm isL E k lv) le lm (c + 1) (addS E k sc lv) w' := by
  unfold addA addN addS addL
  by_cases hb : 64 < k.size ∨ lv < 1 ∨ 32 < lv
  · have hb2 : badB k lv = true := decide_eq_true hb
    rw [hb2]
    simp only [if_true, Bool.not_true, Bool.false_and, Bool.or_false]
    refine (add_arg k sc lv hb w).mono ?_
    rintro e w' ⟨rfl, rfl⟩
    exact ⟨rfl, SetNow.more (SetNow.same h (Below.refl _ _)) (by omega) hc⟩
  · have hb2 : badB k lv = false := decide_eq_false hb
    rw [hb2]
    simp only [Bool.false_eq_true, if_false, Bool.not_false, Bool.true_and]
    have hk : k.size ≤ 64 := by omega
    have hlv : 1 ≤ lv ∧ lv ≤ 32 := by omega
    obtain ⟨sd, ⟨rfl, b, h, hS⟩ | ⟨rfl, l, p, q, D, L, m, n, h, hS⟩⟩ := h
    · cases hq : whE E k with
      | some i =>
        rw [wh_has2 hq]
        exact (ps_add_there h hc k sc lv hk hs hlv hq).mono fun _ _ ⟨he, h1, hf⟩ => ⟨he, SetNow.pack hS h1 hf⟩
      | none =>
        rw [wh_has hq]
        by_cases h1 : le ≤ (E.length : Int) ∨ lm < (k.size : Int)
        · have h2 : (decide (le ≤ (E.length : Int)) || decide (lm < (k.size : Int))) = true := by simpa using h1
          rw [h2]
          refine (ps_add_list h hc k sc lv hk hs hlv hq h1).mono ?_
          rintro e w' ⟨rfl, l, p, q, D, L, m, n, h3, hown, hf⟩
          refine ⟨rfl, fun k => k = s ∨ LOwn l p L D k, ⟨sd, .inr ⟨rfl, l, p, q, D, L, m, n, h3, fun _ => Iff.rfl⟩⟩, fun j hj => ?_, hf.mono fun j hj => (hS j).2 (.inl hj)⟩
          rcases hj with rfl | hj
          · exact .inl ((hS j).2 (.inl rfl))
          · exact .inr (hown j hj)
        · have h2 : (decide (le ≤ (E.length : Int)) || decide (lm < (k.size : Int))) = false := by simpa using h1
          rw [h2]
          exact (ps_add_new h hc k sc lv hk hs hlv hq (by omega) (by omega)).mono fun _ _ ⟨he, h1, hf⟩ => ⟨he, SetNow.pack hS h1 hf⟩
    · cases hq : whE E k with
      | some i =>
        rw [wh_has2 hq]
        exact (ls_add_there h h4 hc k sc lv hk hs hlv hq).mono fun _ _ ⟨he, D1, L1, m1, n1, h1, hf⟩ => ⟨he, SetNow.list hS h1 hf⟩
      | none =>
        rw [wh_has hq]
        exact (ls_add_new h h4 hc k sc lv hk hs hlv hq).mono fun _ _ ⟨he, D1, L1, m1, n1, h1, hf⟩ => ⟨he, SetNow.list hS h1 hf⟩
theorem addS_len {E : List En} (hd : Dist E) (k : ByteArray) (sc lv : Int) : (addS E k sc lv).length ≤ E.length + 1 := by
  unfold addS
  split
  · omega
  · rw [addE_len hd]; split <;> omega

/-- New. -/
def clampL (n hi : Int) : Int := min (max n 0) hi
theorem empty_pack : ValidE [] := ⟨by simp, fun e he => by cases he⟩
set_option maxHeartbeats 2000000 in
theorem set_new0 (en mn le lm : Int) (hle : min (max en 0) 200 = le) (hlm : min (max mn 0) 64 = lm) (sd : Nat) (hsd : sd < 4294967296) (w : World) : Calls Tryz.prog 11 #[.agg #[.int .i64 en, .int .i64 mn], .int .u32 sd] w fun e w' => ∃ s S, e = .returned (.pointer (some ⟨s, 0, none⟩)) ∧ SetIs w' s S false le lm 0 [] ∧ (∀ k, S k → w.heap.size ≤ k) ∧ Below w.heap.size w w' := by
  have k0 := Blk.new w 23 #[.int .i64 en, .int .i64 mn]
  have HN := fun W => Lib.hid (Pk.new_any W)
  obtain ⟨e0, e1, g0, g1⟩ := facts2 k0
  have hl1 : 0 ≤ le ∧ le ≤ 200 := by omega
  have hl2 : 0 ≤ lm ∧ lm ≤ 64 := by omega
  go_enter Tryz.func11, Tryz.ntmps11
  go_wp2_with fail
  obtain ⟨W1, hW1⟩ : ∃ W1, W1 = w.alloc (.cells #[.int .i64 le, .int .i64 lm] 23) := ⟨_, rfl⟩
  have HB := Lib.hid (show Below w.heap.size w W1 from hW1 ▸ alloc_below w (.cells #[.int .i64 le, .int .i64 lm] 23))
  have K1 := Lib.hid (show Blk W1 w.heap.size 23 #[.int .i64 le, .int .i64 lm] from hW1 ▸ Blk.new w 23 #[.int .i64 le, .int .i64 lm])
  rw [← hW1]
  clear hW1 k0 e0 e1 g0 g1 hle hlm
  have S0 : W1.drew.cell? ⟨w.heap.size, 0, none⟩ = some (.int .i64 le) ∧ W1.drew.cell? ⟨w.heap.size, 1, none⟩ = some (.int .i64 lm) := ⟨(facts2 K1.out).1, (facts2 K1.out).2.1⟩
  go_region_held (fun W => W.cell? ⟨w.heap.size, 0, none⟩ = some (.int .i64 le) ∧ W.cell? ⟨w.heap.size, 1, none⟩ = some (.int .i64 lm)) (first | exact S0 | (exact ⟨(facts2 (K1.out.drew.alloc _)).1, (facts2 (K1.out.drew.alloc _)).2.1⟩) | (exact ⟨(facts2 ((K1.out.drew.alloc _).alloc _)).1, (facts2 ((K1.out.drew.alloc _).alloc _)).2.1⟩))
    (first
      | (go_at_call 35; refine (HN _).out.mono ?_; rintro e w2 ⟨rfl, rfl⟩))
  all_goals (
    clear S0
    go_wp2_with fail
    go_ret
    have hz := HB.out.size
    have hbA := alloc_below W1 (.cells #[.string (Pk.packB [])] 75)
    have hbB := alloc_below (W1.alloc (.cells #[.string (Pk.packB [])] 75)) (.cells (SetC (.iface 73 (.pointer (some ⟨W1.heap.size, 0, none⟩))) le lm sd) 79)
    have hzA := hbA.size
    have kN := Blk.new (W1.alloc (.cells #[.string (Pk.packB [])] 75)) 79 (SetC (.iface 73 (.pointer (some ⟨W1.heap.size, 0, none⟩))) le lm sd)
    rw [World.size_alloc] at kN
    refine ⟨_, fun k => k = W1.heap.size + 1 ∨ k = W1.heap.size, rfl, ⟨sd, .inl ⟨rfl, W1.heap.size, ⟨kN, ⟨(Blk.new W1 75 #[.string (Pk.packB [])]).alloc _, empty_pack⟩, by simpa using hl1.1, ⟨hl1, hl2, List.Pairwise.nil, List.Pairwise.nil, fun e he => (by cases he), Nat.le_refl _, by omega⟩, hsd⟩, fun k => Iff.rfl⟩⟩, fun k hk => by omega, ?_⟩
    exact (HB.out.trans ((hbA.trans (hbB.mono hzA)).mono hz)).drew)
theorem set_new (en mn : Int) (sd : Nat) (hsd : sd < 4294967296) (w : World) : Calls Tryz.prog 11 #[.agg #[.int .i64 en, .int .i64 mn], .int .u32 sd] w fun e w' => ∃ s S, e = .returned (.pointer (some ⟨s, 0, none⟩)) ∧ SetIs w' s S false (clampL en 200) (clampL mn 64) 0 [] ∧ (∀ k, S k → w.heap.size ≤ k) ∧ Below w.heap.size w w' :=
  set_new0 en mn _ _ rfl rfl sd hsd w
end Go.Proofs.YtpaphfofjfjdlaaGreat
/- What each law shows first; names; acts. -/
namespace Go.Proofs.YtpaphfofjfjdlaaGreat
open Go.RowKit Go.Shelf Sk
attribute [local go_sem] Oper.semAt_some

variable {w w' w1 w2 : World} {s c : Nat} {S S1 : Nat → Prop} {isL : Bool} {le lm : Int} {E : List En}
theorem score_none (h : SetIs w s S false le lm c E) (k : ByteArray) (hq : whE E k = none) : Calls Tryz.prog 25 #[.pointer (some ⟨s, 0, none⟩), .string k] w fun e w' => e = .returned (.tuple #[.int .i64 0, .bool false]) ∧ Below w.heap.size w w' := by
  obtain ⟨sd, ⟨_, b, h, _⟩ | ⟨h0, _⟩⟩ := h
  · have HN := Lib.hid (now_s h.blk)
    have hsc := score_p h.pk.ok k
    rw [hq] at hsc
    have HS := Lib.hid (p_score h.pk k)
    rw [hsc] at HS
    clear h hsc
    go_enter Tryz.func25, Tryz.ntmps25
    go_wp2_with fail
    refine HN.out.mono ?_
    rintro e w1 ⟨rfl, rfl⟩
    go_wp2_with fail
    refine HS.out.mono ?_
    rintro e w1 ⟨rfl, hb⟩
    go_wp2_with fail
    go_ret2
    exact ⟨rfl, hb⟩
  · cases h0
theorem bytes_pack (h : SetIs w s S false le lm c E) : Calls Tryz.prog 20 #[.pointer (some ⟨s, 0, none⟩)] w fun e w' => e = .returned (.int .i64 (Pk.packB E).size) ∧ w' = w := by
  obtain ⟨sd, ⟨_, b, h, _⟩ | ⟨h0, _⟩⟩ := h
  · exact bytes_p h
  · cases h0
def ba (l : List UInt8) : ByteArray := ⟨l.toArray⟩
theorem shown_facts : addS [] (ba [97]) 1 1 = [(ba [97], 1)] ∧ addL 2 9 false [] (ba [97]) 1 = false ∧ addA [] (ba [97]) 1 = true ∧ addN (ba [97]) 1 = 0 ∧
    addS [(ba [97], 1)] (ba [98]) 0 1 = [(ba [98], 0), (ba [97], 1)] ∧ addL 2 9 false [(ba [97], 1)] (ba [98]) 1 = false ∧ addA [(ba [97], 1)] (ba [98]) 1 = true ∧ addN (ba [98]) 1 = 0 ∧
    whE [(ba [98], 0), (ba [97], 1)] (ba [97]) = some 1 ∧ whE [(ba [98], 0), (ba [97], 1)] (ba [99]) = none ∧ (Pk.packB [(ba [98], 0), (ba [97], 1)]).size = 24 := by
  refine ⟨?_, ?_, ?_, ?_, ?_, ?_, ?_, ?_, ?_, ?_, ?_⟩ <;> decide +kernel
theorem SetNow.seen {w0 : World} (h : SetNow w s S isL le lm c E w') (hb : Below w0.heap.size w0 w) (hS : ∀ k, S k → w0.heap.size ≤ k) : ∃ S', SetIs w' s S' isL le lm c E ∧ (∀ k, S' k → w0.heap.size ≤ k) ∧ Below w0.heap.size w0 w' := by
  obtain ⟨S', h1, h2, h3⟩ := h
  refine ⟨S', h1, fun k hk => ?_, hb.trans (h3.below hS hb.size)⟩
  rcases h2 k hk with h | h
  · exact hS k h
  · exact Nat.le_trans hb.size h
set_option maxHeartbeats 2000000 in
theorem shown_any (w : World) : Calls Tryz.prog 10 #[] w fun e w' => e = .returned (.bool true) ∧ Below w.heap.size w w' := by
  obtain ⟨f1, f2, f3, f4, f5, f6, f7, f8, f9, f10, f11⟩ := shown_facts
  have HN := Lib.hid (set_new0 2 9 2 9 (by decide) (by decide) 7 (by decide) w)
  have HA := fun W s S (h : SetIs W s S false 2 9 0 []) => Lib.hid (set_add h (by decide) (by decide) (ba [97]) 1 1 (by unfold Pk.scoreOk; omega))
  have HB := fun W s S (h : SetIs W s S false 2 9 1 [(ba [97], 1)]) => Lib.hid (set_add h (by decide) (by decide) (ba [98]) 0 1 (by unfold Pk.scoreOk; omega))
  have HR := fun W s S (h : SetIs W s S false 2 9 2 [(ba [98], 0), (ba [97], 1)]) => Lib.hid (set_rank h (ba [97]) (by decide))
  have HC := fun W s S (h : SetIs W s S false 2 9 2 [(ba [98], 0), (ba [97], 1)]) => Lib.hid (score_none h (ba [99]) f10)
  have HE := fun W s S (h : SetIs W s S false 2 9 2 [(ba [98], 0), (ba [97], 1)]) => Lib.hid (set_enc h)
  have HY := fun W s S (h : SetIs W s S false 2 9 2 [(ba [98], 0), (ba [97], 1)]) => Lib.hid (bytes_pack h)
  rw [f1, f2, f3, f4] at HA
  rw [f5, f6, f7, f8] at HB
  rw [f9] at HR
  rw [f11] at HY
  simp only [Option.getD_some, Option.isSome_some, Nat.zero_add, Nat.reduceAdd] at HA HB HR
  clear f1 f2 f3 f4 f5 f6 f7 f8 f9 f10 f11
  unfold ba encB at *
  go_enter Tryz.func10, Tryz.ntmps10
  go_wp2_with fail
  refine HN.out.mono ?_
  rintro e w1 ⟨s, S, rfl, h1, hS1, hb1⟩
  have HA1 := HA w1 s S h1
  have H1 := Lib.hid (And.intro hb1 hS1)
  clear h1 hS1 hb1 HA HN
  go_wp2_with fail
  refine HA1.out.mono ?_
  rintro e w2 ⟨rfl, hn2⟩
  obtain ⟨S2, h2, hS2, hb2⟩ := hn2.seen H1.out.1 H1.out.2
  have HB2 := HB w2 s S2 h2
  have H2 := Lib.hid (And.intro hb2 hS2)
  clear hn2 h2 hS2 hb2 HA1 HB H1
  go_wp2_with fail
  refine HB2.out.mono ?_
  rintro e w3 ⟨rfl, hn3⟩
  obtain ⟨S3, h3, hS3, hb3⟩ := hn3.seen H2.out.1 H2.out.2
  have HR3 := HR w3 s S3 h3
  have H3 := Lib.hid (And.intro hb3 hS3)
  clear hn3 h3 hS3 hb3 HB2 HR H2
  go_wp2_with fail
  refine HR3.out.mono ?_
  rintro e w4 ⟨rfl, hn4⟩
  obtain ⟨S4, h4, hS4, hb4⟩ := hn4.seen H3.out.1 H3.out.2
  have HC4 := HC w4 s S4 h4
  have H4 := Lib.hid (And.intro hb4 h4)
  clear hn4 h4 hS4 hb4 HR3 HC H3
  go_wp2_with fail
  refine HC4.out.mono ?_
  rintro e w5 ⟨rfl, hb5⟩
  have h5 := H4.out.2.later hb5
  have HE5 := HE w5 s S4 h5
  have HY5 := HY w5 s S4 h5
  have H5 := Lib.hid (H4.out.1.trans (hb5.mono H4.out.1.size))
  clear h5 hb5 HE HY HC4 H4
  go_wp2_with (first
    | (go_at_call 18; refine HE5.out.mono ?_; rintro e w6 ⟨rfl, rfl⟩)
    | (go_at_call 20; refine HY5.out.mono ?_; rintro e w6 ⟨rfl, rfl⟩))
  go_ret
  exact ⟨rfl, H5.out⟩

/-- A name. -/
def nameB (s : ByteArray) : ByteArray := s.extract 0 (min s.size 70)
theorem name_size (s : ByteArray) : (nameB s).size ≤ 70 := by unfold nameB; rw [ByteArray.size_extract]; omega
theorem name_any (s : ByteArray) (hs : s.size ≤ 9223372036854775807) (w : World) : Calls Tryz.prog 23 #[.string s] w fun e w' => e = .returned (.string (nameB s)) ∧ w' = w := by
  unfold nameB
  by_cases h : s.size ≤ 70
  · have h1 : min (s.size : Int) 70 = s.size := by omega
    have h2 : min s.size 70 = s.size := by omega
    rw [h2]
    have h3 : (s.size : Int) ≤ s.size := Int.le_refl _
    go_enter Tryz.func23, Tryz.ntmps23
    go_wp2
    go_ret
    exact ⟨by simp, rfl⟩
  · have h1 : min (s.size : Int) 70 = 70 := by omega
    have h2 : min s.size 70 = 70 := by omega
    rw [h2]
    have h3 : (70 : Int) ≤ s.size := by omega
    go_enter Tryz.func23, Tryz.ntmps23
    go_wp2
    go_ret
    exact ⟨rfl, rfl⟩
end Go.Proofs.YtpaphfofjfjdlaaGreat
