/- first, parts: a pattern's parts as they lie. -/
import Derived.Test.YtcaemhlmefhgdaaFirst
namespace Go.Proofs.Ytcaemhlmefhgdaa
open Go.RowKit

/-- A part: any characters, or one that it takes. -/
abbrev PartS := Option (Int → Bool)
def PartAt (w : World) (v : Value) : PartS → Prop
  | none => v = .iface 48 (.agg #[])
  | some f => ∃ u, v = .iface 50 u ∧ Takes okAll w u f
theorem PartAt.mono {w w' : World} {v : Value} {p : PartS} (h : PartAt w v p) (hs : Same okAll w w') : PartAt w' v p := by
  cases p with
  | none => exact h
  | some f => obtain ⟨u, rfl, ht⟩ := h; exact ⟨u, rfl, ht.mono hs⟩

theorem PartAt.form {w : World} {v : Value} {p : PartS} (h : PartAt w v p) : ∃ t x, v = .iface t x := by
  cases p with
  | none => exact ⟨_, _, h⟩
  | some f => obtain ⟨u, rfl, _⟩ := h; exact ⟨_, _, rfl⟩

/-- The part that characters begin with, and how many of them it is made of. -/
def firstS (cs : List Int) : PartS × Nat :=
  if cs.getD 0 0 = 42 then (none, 1)
  else if cs.getD 0 0 = 63 then (some (inSpan 0 1114111), 1)
  else if cs.getD 0 0 = 91 ∧ 0 < classEndS cs then (some (classP ((cs.drop 1).take (classEndS cs - 1))), classEndS cs + 1)
  else if cs.getD 0 0 = 92 ∧ 1 < cs.length then (some (amongP [cs.getD 1 0]), 2)
  else (some (amongP [cs.getD 0 0]), 1)

theorem classEndS_bd (cs : List Int) : classEndS cs = 0 ∨ (2 ≤ classEndS cs ∧ classEndS cs < cs.length) := by
  unfold classEndS
  cases h : (List.range cs.length).find? (endP cs (leastS cs)) with
  | none => left; rfl
  | some i =>
    right
    have h1 := List.find?_some h
    have h2 := List.mem_of_find?_eq_some h
    simp [endP] at h1
    simp at h2
    have : 2 ≤ leastS cs := by unfold leastS; split <;> omega
    simp only [Option.getD_some]
    omega

/-- One rune's slice, made at a call. -/
theorem Runes.one {w : World} {c : Int} : Runes (w.alloc (Obj.cells #[.int .i32 c] 21)) (some ⟨w.heap.size, 0, none⟩) [c] :=
  ⟨by simp, fun j hj => by
    obtain rfl : j = 0 := by simpa using hj
    exact ⟨w.heap.size, 0, rfl, cell_of_one (heap_at rfl), by simp⟩⟩

def FirstPost (cs : List Int) (w : World) (e : Ending) (w' : World) : Prop :=
  ∃ v, e = .returned (.tuple #[v, .int .i64 ((firstS cs).2 : Int)]) ∧ PartAt w' v (firstS cs).1 ∧ Below w.heap.size w w'

theorem firstPost_mk {cs : List Int} {w w' : World} {v : Value} {n : Int} {p : PartS} {m : Nat} (h : firstS cs = (p, m)) (hn : n = (m : Int)) (hp : PartAt w' v p) (hb : Below w.heap.size w w') : FirstPost cs w (.returned (.tuple #[v, .int .i64 n])) w' :=
  ⟨v, by rw [h, hn], by rw [h]; exact hp, hb⟩

theorem first_run {cs : List Int} {x : Int} (E : Hid (cs.getD 0 0 = x)) (h : (x == 42) = true) : firstS cs = (none, 1) := by
  rw [firstS, E.out, if_pos (by simpa using h)]
theorem first_any {cs : List Int} {x : Int} (E : Hid (cs.getD 0 0 = x)) (h : (x == 42) = false) (h2 : (x == 63) = true) : firstS cs = (some (inSpan 0 1114111), 1) := by
  rw [firstS, E.out, if_neg (by simpa using h), if_pos (by simpa using h2)]
theorem first_class {cs : List Int} {x : Int} {k : Nat} (E : Hid (cs.getD 0 0 = x)) (h : (x == 42) = false) (h2 : (x == 63) = false) (h3 : (x == 91) = true) (K : Hid (classEndS cs = k)) (hk : 0 < k) :
    firstS cs = (some (classP ((cs.drop 1).take (k - 1))), k + 1) := by
  rw [firstS, E.out, K.out, if_neg (by simpa using h), if_neg (by simpa using h2), if_pos ⟨by simpa using h3, hk⟩]
theorem first_open {cs : List Int} {x : Int} (E : Hid (cs.getD 0 0 = x)) (h : (x == 42) = false) (h2 : (x == 63) = false) (h3 : (x == 91) = true) (K : Hid (classEndS cs = 0)) :
    firstS cs = (some (amongP [x]), 1) := by
  have h3' : x = 91 := by simpa using h3
  rw [firstS, E.out, K.out, if_neg (by simpa using h), if_neg (by simpa using h2), if_neg (by omega), if_neg (by omega)]
theorem first_esc {cs : List Int} {x y : Int} (E : Hid (cs.getD 0 0 = x)) (E1 : Hid (cs.getD 1 0 = y)) (h : (x == 42) = false) (h2 : (x == 63) = false) (h3 : (x == 91) = false) (h4 : (x == 92) = true) (hl : 1 < cs.length) :
    firstS cs = (some (amongP [y]), 2) := by
  rw [firstS, E.out, E1.out, if_neg (by simpa using h), if_neg (by simpa using h2), if_neg (fun e => by simp [e.1] at h3), if_pos ⟨by simpa using h4, hl⟩]
theorem first_last {cs : List Int} {x : Int} (E : Hid (cs.getD 0 0 = x)) (h : (x == 42) = false) (h2 : (x == 63) = false) (h3 : (x == 91) = false) (hl : ¬ 1 < cs.length) :
    firstS cs = (some (amongP [x]), 1) := by
  rw [firstS, E.out, if_neg (by simpa using h), if_neg (by simpa using h2), if_neg (fun e => by simp [e.1] at h3), if_neg (fun e => hl e.2)]
theorem first_own {cs : List Int} {x : Int} (E : Hid (cs.getD 0 0 = x)) (h : (x == 42) = false) (h2 : (x == 63) = false) (h3 : (x == 91) = false) (h4 : (x == 92) = false) :
    firstS cs = (some (amongP [x]), 1) := by
  rw [firstS, E.out, if_neg (by simpa using h), if_neg (by simpa using h2), if_neg (fun e => by simp [e.1] at h3), if_neg (fun e => by simp [e.1] at h4)]

theorem class_len (a : Option Addr) (n cap : Nat) (cs : List Int) (w : World) (h : Runes w a cs) (hn : cs.length = n) (hcap : n ≤ cap) (hp : 1 ≤ n) :
    Calls Try.prog 27 #[.slice a n cap] w fun e w' => ∃ u, e = .returned u ∧ Takes okAll w' u (classP cs) ∧ Below w.heap.size w w' := by
  subst hn; exact class_any a cap cs w h hcap hp

set_option maxHeartbeats 1000000 in
theorem first_call (a : Option Addr) (cap : Nat) (cs : List Int) (w : World) (h : Runes w a cs) (hcap : cs.length ≤ cap) (hp : 1 ≤ cs.length) :
    Calls Try.prog 24 #[.slice a cs.length cap] w (FirstPost cs w) := by
  obtain ⟨g, off, rfl, hg, hcs⟩ := h.cells (by omega)
  have hsm := h.small
  have hc0 := hcs 0 (by omega)
  rw [Nat.add_zero] at hc0
  generalize ex0 : cs.getD 0 0 = x0 at hc0
  have E0 := Lib.hid ex0
  clear ex0
  cases c1 : (x0 == 42)
  · cases c2 : (x0 == 63)
    · cases c3 : (x0 == 91)
      · cases c4 : (x0 == 92)
        · clear hcs
          go_enter Try.func24, Try.ntmps24
          go_wp2_with fail
          refine (among_len _ 1 1 [x0] _ Runes.one rfl).mono ?_
          rintro e w1 ⟨u, rfl, hu, hb⟩
          go_wp2
          go_ret2
          exact firstPost_mk (first_own E0 c1 c2 c3 c4) rfl ⟨u, rfl, hu⟩ (((Below.refl _ _).alloc (Nat.le_refl _) _).trans (hb.mono (by simp)))
        · by_cases hl : 1 < cs.length
          · have hc1 := hcs 1 hl
            generalize ex1 : cs.getD 1 0 = x1 at hc1
            have E1 := Lib.hid ex1
            clear ex1 hcs
            go_enter Try.func24, Try.ntmps24
            go_wp2_with fail
            refine (among_len _ 1 1 [x1] _ Runes.one rfl).mono ?_
            rintro e w1 ⟨u, rfl, hu, hb⟩
            go_wp2
            go_ret2
            exact firstPost_mk (first_esc E0 E1 c1 c2 c3 c4 hl) rfl ⟨u, rfl, hu⟩ (((Below.refl _ _).alloc (Nat.le_refl _) _).trans (hb.mono (by simp)))
          · clear hcs
            go_enter Try.func24, Try.ntmps24
            go_wp2_with fail
            refine (among_len _ 1 1 [x0] _ Runes.one rfl).mono ?_
            rintro e w1 ⟨u, rfl, hu, hb⟩
            go_wp2
            go_ret2
            exact firstPost_mk (first_last E0 c1 c2 c3 hl) rfl ⟨u, rfl, hu⟩ (((Below.refl _ _).alloc (Nat.le_refl _) _).trans (hb.mono (by simp)))
      · clear hcs
        have hk := classEndS_bd cs
        have hcl := classEnd_any _ cap cs w h hp
        generalize ek : classEndS cs = k at hk hcl
        have K := Lib.hid ek
        clear ek
        by_cases hk0 : 0 < k
        · have hk1 : 2 ≤ k := by omega
          have hk2 : k < cs.length := by omega
          have hcap1 : ¬ cap = 1 := by omega
          have HR := Lib.hid (h.cut 1 (k - 1) (by omega))
          clear hk
          have HC := Lib.hid hcl
          clear hcl
          go_enter Try.func24, Try.ntmps24
          go_wp2_with fail
          refine HC.out.mono ?_
          rintro e w1 ⟨rfl, rfl⟩
          go_wp2_with fail
          refine (class_len _ (k - 1) (cap - 1) ((cs.drop 1).take (k - 1)) _ (by simpa [Addr.add] using HR.out) (by simp; omega) (by omega) (by omega)).mono ?_
          rintro e w2 ⟨u, rfl, hu, hb⟩
          go_wp2
          go_ret2
          exact firstPost_mk (first_class E0 c1 c2 c3 K hk0) (by simp) ⟨u, rfl, hu⟩ hb
        · obtain rfl : k = 0 := by omega
          have HC := Lib.hid hcl
          clear hcl hk
          go_enter Try.func24, Try.ntmps24
          go_wp2_with fail
          refine HC.out.mono ?_
          rintro e w1 ⟨rfl, rfl⟩
          go_wp2_with fail
          refine (among_len _ 1 1 [x0] _ Runes.one rfl).mono ?_
          rintro e w1 ⟨u, rfl, hu, hb⟩
          go_wp2
          go_ret2
          exact firstPost_mk (first_open E0 c1 c2 c3 K) rfl ⟨u, rfl, hu⟩ (((Below.refl _ _).alloc (Nat.le_refl _) _).trans (hb.mono (by simp)))
    · clear hcs
      go_enter Try.func24, Try.ntmps24
      go_wp2_with fail
      refine (span_any _ _ _).mono ?_
      rintro e w1 ⟨u, rfl, hu, hb⟩
      go_wp2
      go_ret2
      exact firstPost_mk (first_any E0 c1 c2) rfl ⟨u, rfl, hu.takes.weaken ok_box⟩ hb
  · clear hcs
    go_enter Try.func24, Try.ntmps24
    go_wp2
    go_ret2
    exact firstPost_mk (first_run E0 c1) rfl rfl (Below.refl _ _)

theorem firstS_bd {cs : List Int} (h : 1 ≤ cs.length) : 1 ≤ (firstS cs).2 ∧ (firstS cs).2 ≤ cs.length := by
  have := classEndS_bd cs
  unfold firstS
  repeat' split
  all_goals simp
  all_goals omega

/-- All parts. -/
def partsF : Nat → List Int → List PartS
  | 0, _ => []
  | _ + 1, [] => []
  | f + 1, c :: r => (firstS (c :: r)).1 :: partsF f ((c :: r).drop (firstS (c :: r)).2)
def partsS (cs : List Int) : List PartS := partsF cs.length cs
theorem partsF_more : ∀ (f : Nat) (cs : List Int), cs.length ≤ f → partsF f cs = partsF cs.length cs := by
  intro f
  induction f using Nat.strongRecOn with
  | ind f ih =>
    intro cs h
    cases cs with
    | nil => cases f <;> rfl
    | cons c r =>
      cases f with
      | zero => simp at h
      | succ f =>
        have hb := firstS_bd (cs := c :: r) (by simp)
        simp only [List.length_cons] at h hb
        simp only [List.length_cons, partsF]
        rw [ih f (by omega) _ (by simp; omega), ih r.length (by omega) ((c :: r).drop (firstS (c :: r)).2) (by simp; omega)]
theorem partsS_nil : partsS [] = [] := rfl
theorem partsS_step {cs : List Int} (h : 1 ≤ cs.length) : partsS cs = (firstS cs).1 :: partsS (cs.drop (firstS cs).2) := by
  cases cs with
  | nil => simp at h
  | cons c r =>
    have hb := firstS_bd (cs := c :: r) (by simp)
    simp only [List.length_cons] at hb
    show partsF (r.length + 1) (c :: r) = _
    rw [partsF, partsF_more r.length _ (by simp; omega)]
    rfl

def okParts (T : Nat) : Bool := T == 21 || T == 50 || T == 55 || T == 44
theorem ok_all (T : Nat) (h : okAll T = true) : okParts T = true := by simp [okAll, okParts] at *; omega

/-- A slice of parts as it lies. -/
structure Parts (w : World) (a : Option Addr) (ps : List PartS) : Prop where
  small : ps.length ≤ 100000
  at' : ∀ j, j < ps.length → ∃ g cur v, a = some ⟨g, 0, none⟩ ∧ w.heap[g]? = some (Obj.cells cur 44 (0, 0)) ∧ cur[j]? = some v ∧ PartAt w v (ps.getD j none)
theorem Parts.mono {w w' : World} {a : Option Addr} {ps : List PartS} (h : Parts w a ps) (hs : Same okParts w w') : Parts w' a ps :=
  ⟨h.small, fun j hj => by
    obtain ⟨g, cur, v, e, hg, hc, hp⟩ := h.at' j hj
    exact ⟨g, cur, v, e, hs _ _ _ rfl hg, hc, hp.mono (hs.weaken ok_all)⟩⟩

theorem Try.info44 : (Try.prog.info? 44).map (fun i => (i.zero, i.size, i.bytes)) = some (some .nilIface, 1, 16) := by kernel_rfl

/-- The parts so far. -/
structure PColl (w0 : World) (cs rest : List Int) (wr : World) (a : Option Addr) (cap : Nat) (v : Value) (xs : List Value) (done : List PartS) : Prop where
  part : partsS cs = done ++ partsS rest
  few : done.length + rest.length ≤ cs.length
  runes : Runes wr a rest
  cap : rest.length ≤ cap
  own : wr.ownsRow w0.heap.size 44 1 v done.length xs
  all : ∀ j, j < done.length → PartAt wr (xs.getD j undef) (done.getD j none)
  below : Below w0.heap.size w0 wr
  far : ∀ g off, a = some ⟨g, off, none⟩ → g < w0.heap.size

def lenOf : Value → Nat | .slice _ n _ => n | _ => 0

theorem proom {w0 wr w1 : World} {cs rest : List Int} {a : Option Addr} {cap : Nat} {v : Value} {xs : List Value} {done : List PartS} (hC : PColl w0 cs rest wr a cap v xs done) (hb : Below wr.heap.size wr w1) (o : Obj) : w0.heap.size ≤ (w1.alloc o).heap.size := by
  have h1 := hC.below.size; have h2 := hb.size; simp; omega

theorem Runes.keep {w w' : World} {a : Option Addr} {cs : List Int} (h : Runes w a cs) (hs : w.heap.size ≤ w'.heap.size) (hk : ∀ g off, a = some ⟨g, off, none⟩ → w'.heap[g]? = w.heap[g]?) : Runes w' a cs :=
  ⟨h.small, fun j hj => by
    obtain ⟨g, off, e, hc, hg⟩ := h.at' j hj
    exact ⟨g, off, e, (World.cell?_of_block (a := ⟨g, off + j, none⟩) (hk g off e)).trans hc, Nat.lt_of_lt_of_le hg hs⟩⟩

theorem Runes.drop_if {w : World} {a : Option Addr} {cs : List Int} {cap n : Nat} (h : Runes w a cs) (hc : cs.length ≤ cap) (hn : n ≤ cs.length) : Runes w (if cap = n then a else a.map (·.add n)) (cs.drop n) := by
  split
  · rw [List.drop_eq_nil_of_le (by omega)]; exact Runes.nil
  · have := h.cut n (cs.length - n) (by omega)
    rwa [List.take_of_length_le (by simp)] at this

theorem PColl.step {w0 wr w1 w2 : World} {cs rest : List Int} {a : Option Addr} {cap n : Nat} {v v2 u : Value} {xs : List Value} {done : List PartS} {o : Obj} (hC : PColl w0 cs rest wr a cap v xs done) (hlt : 1 ≤ rest.length)
    (hn1 : 1 ≤ n) (hn2 : n ≤ rest.length) (EN : Hid ((firstS rest).2 = n)) (hu : PartAt w1 u (firstS rest).1) (hb : Below wr.heap.size wr w1)
    (hown : w2.ownsRow w0.heap.size 44 1 v2 (done.length + 1) (xs ++ [u])) (hg : (w1.alloc o).grownBy w2 v.ownBlock) :
    PColl w0 cs (rest.drop n) w2 (if cap = n then a else a.map (·.add n)) (cap - n) v2 (xs ++ [u]) (done ++ [(firstS rest).1]) := by
  have o1 := (own_below hC.own hb).alloc o
  have hba : Below w1.heap.size w1 (w1.alloc o) := (Below.refl _ _).alloc (Nat.le_refl _) _
  have hb1 : Below wr.heap.size wr (w1.alloc o) := hb.trans (hba.mono hb.size)
  have s2 : Same okAll (w1.alloc o) w2 := Same.grown hg fun k hk => by
    obtain ⟨_, c, h⟩ := own_type o1 k hk
    exact ⟨c, 44, h, rfl⟩
  have hx : xs.length = done.length := by simpa using hC.own.1
  have hsz := hC.below.size
  have hsz1 := hb1.size
  have hB : Below w0.heap.size w0 w2 := (hC.below.trans (hb1.mono hsz)).grown hg (by omega) fun k hk => (own_type o1 k hk).1
  refine ⟨?_, by have := hC.few; simp; omega, ?_, by have := hC.cap; simp; omega, by simpa using hown, fun j hj => ?_, hB, ?_⟩
  · rw [hC.part, partsS_step hlt, EN.out]; simp
  · refine (hC.runes.keep (w' := w2) (by have := hg.size; omega) fun g off e => ?_).drop_if hC.cap hn2
    have hgl := hC.far g off e
    rw [hB.block g hgl, hC.below.block g hgl]
  · by_cases e : j < done.length
    · rw [getD_snoc_lt _ _ _ (by omega), getD_snoc_lt _ _ _ e]
      exact (hC.all j e).mono ((Same.of_below hb1).trans s2)
    · have e : j = done.length := by simp at hj; omega
      rw [getD_snoc_eq _ _ _ (by omega), getD_snoc_eq _ _ _ e]
      exact hu.mono ((Same.of_below hba).trans s2)
  · intro g off e
    split at e
    · exact hC.far g off e
    · cases a with
      | none => cases e
      | some ad =>
        obtain ⟨b, o, i⟩ := ad
        simp only [Option.map_some, Addr.add, Option.some.injEq] at e
        have hi : i = none := by
          obtain ⟨g', off', e', _, _⟩ := hC.runes.at' 0 (by omega)
          simp at e'; exact e'.2.2
        subst hi
        refine hC.far g o ?_
        split at e <;> simp_all

/-- What has been laid, at the end. -/
theorem PColl.parts {w0 wr : World} {cs rest : List Int} {a : Option Addr} {cap : Nat} {v : Value} {xs : List Value} {done : List PartS} (hC : PColl w0 cs rest wr a cap v xs done) (hs : cs.length ≤ 100000) (h0 : ¬ 1 ≤ rest.length) :
    ∃ a' cap', v = .slice a' (partsS cs).length cap' ∧ Parts wr a' (partsS cs) := by
  obtain rfl : rest = [] := List.eq_nil_of_length_eq_zero (by omega)
  have hp : partsS cs = done := by rw [hC.part, partsS_nil, List.append_nil]
  have hfew := hC.few
  have hx : xs.length = done.length := by simpa using hC.own.1
  rw [hp]
  rcases hC.own.2 with ⟨rfl, h0⟩ | ⟨g, cap, cur, rfl, hb, hg, hcap, hm, hsz, htake⟩
  · exact ⟨none, 0, by rw [h0], by omega, fun j hj => by omega⟩
  · refine ⟨_, cap, rfl, by omega, fun j hj => ⟨g, cur, xs.getD j undef, rfl, hg, ?_, hC.all j hj⟩⟩
    rw [← htake]
    simp [List.getD, hj]
    rw [Array.getElem?_eq_getElem (by omega)]
    simp

set_option maxHeartbeats 1000000 in
theorem parts_any (a : Option Addr) (cap : Nat) (cs : List Int) (w : World) (h : Runes w a cs) (hcap : cs.length ≤ cap) (hfar : ∀ g off, a = some ⟨g, off, none⟩ → g < w.heap.size) :
    Calls Try.prog 21 #[.slice a cs.length cap] w fun e w' => ∃ a' cap', e = .returned (.slice a' (partsS cs).length cap') ∧ Parts w' a' (partsS cs) ∧ Below w.heap.size w w' := by
  have hsm := h.small
  go_enter Try.func21, Try.ntmps21
  go_wp2
  go_loopw [0, 3] (fun c l wr => ∃ (rest : List Int) (a : Option Addr) (cap : Nat) (v : Value) (xs : List Value) (done : List PartS), c = .slice a rest.length cap ∧ v = l ∧ PColl w cs rest wr a cap v xs done) (fun c _ _ => lenOf c)
  case atStart =>
    exact ⟨cs, a, cap, .slice none 0 0, [], [], rfl, rfl, ⟨by simp, by simp, h, hcap, World.ownsRow_nil _ _ _ _, fun j hj => by simp at hj, Below.refl _ _, hfar⟩⟩
  case round =>
    obtain ⟨rest, a, cap, v, xs, done, rfl, rfl, hC⟩ := hrel
    have hfew := hC.few
    by_cases hlt : 1 ≤ rest.length
    · have HF := Lib.hid (first_call a cap rest wr hC.runes hC.cap hlt)
      obtain ⟨hn1, hn2⟩ := firstS_bd hlt
      obtain ⟨i0, hi0, hz0, hz1, hz2⟩ := info_parts Try.info44
      go_wp2_with fail
      refine HF.out.mono ?_
      clear HF
      rintro e w1 ⟨u, rfl, hu, hb⟩
      obtain ⟨t, x, rfl⟩ := hu.form
      generalize en : (firstS rest).2 = n at *
      have EN := Lib.hid en
      clear en
      have HO := Lib.hid (own_below hC.own hb)
      go_wp2_with (at_builtin; refine wpList_append_lies _ rfl _ _ 38 rfl w.heap.size 44 i0 _ 1 16 Try.underlying38 hi0 hz0 hz1 hz2 rfl (by omega) v done.length xs rfl (HO.out.alloc _) ⟨w1.heap.size, 0, none⟩ 1 1 [.iface t x] rfl rfl (World.news_of_block (cs := #[.iface t x]) (t := 44) (fr := (0, 0)) (heap_alloc_new _ _)) (by simp [Value.oneCell']) (by omega) (by unfold maxLen; omega) (by omega) (proom hC hb _) (w1.heap.size + 1) (by simp) ?_; intro gg cap2 w2 hown2 hgrow2 hat hlt2)
      go_roundw
      case rel => exact ⟨rest.drop n, _, _, _, _, done ++ [(firstS rest).1], by rw [List.length_drop], rfl, hC.step hlt hn1 hn2 EN hu hb hown2 hgrow2⟩
      case measure => simp [lenOf]; omega
    · go_wp2
      go_ret
      obtain ⟨a', cap', e, hp⟩ := hC.parts hsm hlt
      exact ⟨a', cap', by simp [e], hp, hC.below⟩

end Go.Proofs.Ytcaemhlmefhgdaa
