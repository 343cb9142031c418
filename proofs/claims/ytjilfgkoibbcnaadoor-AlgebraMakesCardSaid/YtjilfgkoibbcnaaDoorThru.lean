/- Sets in memory; going through the entries of sets. -/
import Derived.Test.YtjilfgkoibbcnaaDoorJoin
namespace Go.Proofs.YtjilfgkoibbcnaaDoor
open Go.RowKit Go.Shelf
attribute [local go_sem] Oper.semAt_some

/-- The entries of sets, each with its set's place. -/
def seqFrom (p : Nat) : List (List Ent) → List (Nat × Ent)
  | [] => []
  | l :: r => l.map (fun e => (p, e)) ++ seqFrom (p + 1) r
def seqOf (ls : List (List Ent)) : List (Nat × Ent) := seqFrom 0 ls
def offN : List (List Ent) → Nat → Nat
  | [], _ => 0
  | _ :: _, 0 => 0
  | l :: r, i + 1 => l.length + offN r i
theorem seq_at (ls : List (List Ent)) : ∀ (p i k : Nat) (hi : i < ls.length) (hk : k < ls[i].length), (seqFrom p ls)[offN ls i + k]? = some (p + i, ls[i][k]) := by
  induction ls with
  | nil => intro p i k hi; simp at hi
  | cons l r ih =>
    intro p i k hi hk
    cases i with
    | zero =>
      simp only [offN, seqFrom, Nat.zero_add, List.getElem_cons_zero, Nat.add_zero] at *
      rw [List.getElem?_append_left (by simpa using hk)]
      simp
    | succ i =>
      simp only [offN, seqFrom, List.getElem_cons_succ] at *
      rw [List.getElem?_append_right (by simp; omega)]
      have := ih (p + 1) i k (by simpa using hi) hk
      rw [show l.length + offN r i + k - (l.map fun e => (p, e)).length = offN r i + k by simp; omega, this]
      congr 2
      omega
theorem offN_succ (ls : List (List Ent)) : ∀ (i : Nat) (hi : i < ls.length), offN ls (i + 1) = offN ls i + ls[i].length := by
  induction ls with
  | nil => intro i hi; simp at hi
  | cons l r ih =>
    intro i hi
    cases i with
    | zero =>
      cases r <;> simp [offN]
    | succ i =>
      have := ih i (by simpa using hi)
      simp only [offN, List.getElem_cons_succ] at *
      omega
theorem offN_end (ls : List (List Ent)) : ∀ p, offN ls ls.length = (seqFrom p ls).length := by
  induction ls with
  | nil => intro p; rfl
  | cons l r ih => intro p; simp only [List.length_cons, offN, seqFrom, List.length_append, List.length_map]; rw [ih (p + 1)]
theorem offN_zero (ls : List (List Ent)) : offN ls 0 = 0 := by cases ls <;> rfl
theorem seqFrom_mem (ls : List (List Ent)) : ∀ (p : Nat) (x : Nat × Ent), x ∈ seqFrom p ls → p ≤ x.1 ∧ x.1 < p + ls.length ∧ ∃ l ∈ ls, x.2 ∈ l := by
  induction ls with
  | nil => intro p x h; simp [seqFrom] at h
  | cons l r ih =>
    intro p x h
    rcases List.mem_append.1 h with h | h
    · obtain ⟨e, he, rfl⟩ := List.mem_map.1 h
      exact ⟨Nat.le_refl _, by simp, l, by simp, he⟩
    · obtain ⟨h1, h2, l', hl', hx⟩ := ih (p + 1) x h
      exact ⟨by omega, by simp; omega, l', List.mem_cons_of_mem _ hl', hx⟩

/-- Sets that lie at an address. -/
def Sets (W : World) (a : Option Addr) (ls : List (List Ent)) : Prop :=
  ∀ (k : Nat) (h : k < ls.length), ∃ g off c v, a = some ⟨g, off, none⟩ ∧ W.heap[g]? = some (.cells c 26 (0, 0)) ∧ c[off + k]? = some v ∧ Own W 0 v ls[k]
theorem Sets.keep {W W' : World} {L : List Nat} {a : Option Addr} {ls : List (List Ent)} (h : Sets W a ls) (hk : KeepC L W W') : Sets W' a ls := fun k hlt => by
  obtain ⟨g, off, c, v, h1, h2, h3, h4⟩ := h k hlt
  exact ⟨g, off, c, v, h1, hk.same _ _ _ (by unfold itT; decide) h2, h3, own_keep h4 hk (by unfold itT; decide)⟩
theorem Sets.later {W W' : World} {a : Option Addr} {ls : List (List Ent)} (h : Sets W a ls) (hb : Below W.heap.size W W') : Sets W' a ls := h.keep (L := []) (KeepC.of_below hb)
/-- Sets as tests make them. -/
def OkS (ls : List (List Ent)) : Prop := ls.length ≤ 1000 ∧ ∀ l ∈ ls, l.length ≤ 1000 ∧ OkL l

def encP (_ : Nat) (x : Nat × Ent) : Array Value := #[.int .i64 x.1, .agg #[.string x.2.1, .int .i64 x.2.2]]

set_option maxRecDepth 100000 in
theorem through_any (a : Option Addr) (n cap : Nat) (w : World) : Calls Tryd.prog 42 #[.slice a n cap] w fun e w' =>
    e = .returned (.func (.func 56) #[] #[.pointer (some ⟨w.heap.size, 0, none⟩)]) ∧ w' = w.alloc (Obj.cells #[.slice a n cap] 22) := by
  go_enter Tryd.func42, Tryd.ntmps42
  go_wp2
  go_ret
  exact ⟨rfl, rfl⟩

set_option maxRecDepth 100000 in
set_option maxHeartbeats 4000000 in
/-- The iterator behind it. -/
theorem thru_any (ls : List (List Ent)) (hls : OkS ls) (a : Option Addr) (cap B : Nat) (L : List Nat) (w : World) (hS : Sets w a ls) (hB : Blk w B 22 #[.slice a ls.length cap]) :
    SeqX Tryd.prog 56 #[.pointer (some ⟨B, 0, none⟩)] encP (seqOf ls) L w := by
  intro y J Jx W hW hJ hJx hY hJ0
  have k1 := hB.later hW
  have hs1 := hS.later hW
  obtain ⟨hl1, hl2⟩ := hls
  refine callsIn_of_wp Tryd.func56 rfl trivial ?_ rfl
  simp only [Tryd.ntmps56, List.size_toArray, List.length_cons, List.length_nil, Nat.reduceAdd, Nat.reduceSub, Array.replicate_succ, Array.replicate_zero, List.push_toArray, List.append_toArray, List.nil_append, List.cons_append]
  have HY := Lib.hid hY
  have a0 := k1.cell 0
  simp at a0
  have HS1 := Lib.hid hs1
  have HL2 := Lib.hid hl2
  have hend := offN_end ls 0
  have HEND := Lib.hid hend
  have hz := offN_zero ls
  have HSU := Lib.hid (offN_succ ls)
  clear hY hS hs1 hB k1 hl2 hend
  rw [← hz] at hJ0
  clear hz
  gi_wp2
  gi_loopw [9] (fun s wr => ∃ (i : Nat), s = .int .i64 i ∧ i ≤ ls.length ∧ J (offN ls i) wr ∧ Sets wr a ls)
    (fun s _ => ls.length - (intOf s).toNat)
  case atStart => exact ⟨0, rfl, by omega, hJ0, HS1.out⟩
  case round =>
    clear a0 hJ0
    obtain ⟨i, rfl, hi, hJi, hsw⟩ := hrel
    by_cases hlt : i < ls.length
    · obtain ⟨g, off, c, v, rfl, hg, hc, hO⟩ := hsw i hlt
      have hll := (HL2.out _ (List.getElem_mem hlt)).1
      have HAT := Lib.hid (fun k hk => seq_at ls 0 i k hlt hk)
      have HSN := Lib.hid (HSU.out i hlt)
      obtain ⟨ar, cr, rfl, hEr, _, _, _⟩ := Own.slice hO
      have hcell : wr.cell? ⟨g, off + i, none⟩ = some (.slice ar ls[i].length cr) := by simp [World.cell?, hg, hc]
      have hlt2 : (i : Int) < ls.length := by omega
      have HSW := Lib.hid hsw
      have HO := Lib.hid hO
      have HJI := Lib.hid hJi
      generalize hl : ls[i] = l at *
      clear hc hg hsw hO hJi hEr hl
      gi_wp2
      gi_loopw [16] (fun s wr => ∃ (k : Nat), s = .int .i64 k ∧ k ≤ l.length ∧ J (offN ls i + k) wr ∧ Sets wr (some ⟨g, off, none⟩) ls ∧ Own wr 0 (.slice ar l.length cr) l)
        (fun s _ => l.length - (intOf s).toNat)
      case atStart => exact ⟨0, rfl, by omega, HJI.out, HSW.out, HO.out⟩
      case round =>
        clear hcell
        obtain ⟨k, rfl, hk, hJk, hsk, hOk⟩ := hrel
        by_cases hkl : k < l.length
        · obtain ⟨ar2, cr2, hv, hEk, _, _, _⟩ := Own.slice hOk
          cases hv
          obtain ⟨b2, o2, rfl, c0, c1⟩ := hEk k hkl
          have hx : (seqOf ls)[offN ls i + k]? = some (i, l[k]) := by
            have := HAT.out k hkl
            rwa [Nat.zero_add] at this
          generalize l[k] = e at *
          obtain ⟨m, sc⟩ := e
          simp only at c0 c1
          have hkl2 : (k : Int) < l.length := by omega
          have hb6 := alloc_below wr (.cells #[.string m, .int .i64 sc] 38)
          obtain ⟨fn, tmps, assign, body, hy, hR⟩ := HY.out _ (i, (m, sc)) (wr.alloc (.cells #[.string m, .int .i64 sc] 38)) hx (hJ.alloc _ hJk)
          unfold encP at hy
          simp only at hy
          have S6 := Lib.hid (hsk.later hb6)
          have O6 := Lib.hid (own_later hOk hb6)
          clear hx hsk hOk hJk hb6 hEk
          gi_wp2_with fail
          (try refine ⟨fun _ => by decide, ?_⟩)
          refine hR.mono ?_
          rintro e W3 (⟨rfl, hJ3, hk3, _⟩ | ⟨rfl, hJx3, _⟩)
          · have S3 := Lib.hid (S6.out.keep hk3)
            have O3 := Lib.hid (own_keep O6.out hk3 (by unfold itT; decide))
            clear hR hy hk3
            gi_wp2
            refine ⟨⟨k + 1, by go_num, hkl, hJ3, S3.out, O3.out⟩, ?_⟩
            simp only [intOf]
            omega
          · gi_wp2
            exact bodyPost_ret (v := .tuple #[]) (by simp [results, Tryd.results56, go_sem]) rfl ⟨⟨_, rfl⟩, .inr ⟨_, hJx3⟩⟩
        · obtain rfl : k = l.length := by omega
          have hle : ¬ ((l.length : Int) < l.length) := by omega
          have HJ := Lib.hid hJk
          have HK := Lib.hid hsk
          clear hsk hJk hOk
          gi_wp2
          refine ⟨⟨i + 1, by go_num, hlt, ?_, HK.out⟩, ?_⟩
          · rw [HSN.out]; exact HJ.out
          · simp only [intOf]; omega
    · obtain rfl : i = ls.length := by omega
      have hle : ¬ ((ls.length : Int) < ls.length) := by omega
      have HJ := Lib.hid hJi
      clear hsw hJi
      gi_wp2
      go_end0
      exact ⟨⟨_, rfl⟩, .inl (by have := HJ.out; rw [HEND.out] at this; exact this)⟩
end Go.Proofs.YtjilfgkoibbcnaaDoor
