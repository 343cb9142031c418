/- Going through the counts of uses. -/
import Derived.Test.YtpjggdmfgoajbaaCalls
namespace Go.Proofs.Ytpjggdmfgoajbaa
open Go.RowKit Go.Shelf
attribute [local go_sem] Oper.semAt_some
attribute [local go_sem] field0

def encC (i : Nat) (n : Int) : Array Value := #[.int .i64 i, .int .i64 n]
/-- The counts of uses at a minute. -/
def cntsU (l : List Use) (now : Int) : List Int := l.map fun u => cntU u now
theorem cnts_at {l : List Use} {now : Int} {i : Nat} (h : i < l.length) : (cntsU l now)[i]? = some (cntU l[i] now) := by
  unfold cntsU; simp [h]
theorem cnts_len (l : List Use) (now : Int) : (cntsU l now).length = l.length := by unfold cntsU; simp

set_option maxRecDepth 100000 in
theorem counts_any (now : Int) (a : Option Addr) (n cap : Nat) (w : World) : Calls Try.prog 29 #[.int .i64 now, .slice a n cap] w fun e w' =>
    e = .returned (.func (.func 32) #[] #[.pointer (some ⟨w.heap.size + 1, 0, none⟩), .pointer (some ⟨w.heap.size, 0, none⟩)]) ∧ w' = (w.alloc (.cells #[.int .i64 now] 3)).alloc (.cells #[.slice a n cap] 34) := by
  go_enter Try.func29, Try.ntmps29
  go_wp2
  go_ret
  exact ⟨rfl, rfl⟩

set_option maxRecDepth 100000 in
set_option maxHeartbeats 4000000 in
theorem iter_any (l : List Use) (now : Int) (hk : ∀ u ∈ l, Known u now) (hz : l.length ≤ 9223372036854775807) (a : Option Addr) (cap bx bn : Nat) (L : List Nat) (w : World) (hU : UsesOff L w a l) (hbn : bn ∉ L)
    (h0 : Blk w bx 34 #[.slice a l.length cap]) (h1 : Blk w bn 3 #[.int .i64 now]) :
    SeqX Try.prog 32 #[.pointer (some ⟨bx, 0, none⟩), .pointer (some ⟨bn, 0, none⟩)] encC (cntsU l now) L w := by
  intro y J Jx W hW hJ hJx hY hJ0
  have k0 := h0.later hW
  have k1 := h1.later hW
  have k2 := hU.later hW
  refine callsIn_of_wp Try.func32 rfl trivial ?_ rfl
  simp only [Try.ntmps32, List.size_toArray, List.length_cons, List.length_nil, Nat.reduceAdd, Nat.reduceSub, Array.replicate_succ, Array.replicate_zero, List.push_toArray, List.append_toArray, List.nil_append, List.cons_append]
  have HY := Lib.hid hY
  have HK := Lib.hid hk
  have HL := Lib.hid (cnts_len l now)
  clear hY hk
  obtain ⟨a0, _⟩ := facts1 k0
  gi_wp2
  gi_loopw [8] (fun s wr => ∃ (i : Nat), s = .int .i64 i ∧ i ≤ l.length ∧ J i wr ∧ Blk wr bn 3 #[.int .i64 now] ∧ UsesOff L wr a l)
    (fun s _ => l.length - (intOf s).toNat)
  case atStart => exact ⟨0, rfl, by omega, hJ0, k1, k2⟩
  case round =>
    clear k0 k1 k2 a0 h0 h1 hU
    obtain ⟨i, rfl, hi, hJi, q1, q2⟩ := hrel
    by_cases hlt : i < l.length
    · obtain ⟨b, off, rfl, _, c0, c1⟩ := q2 i hlt
      have hlt2 : (i : Int) < l.length := by omega
      have HLT := Lib.hid (cnts_at (now := now) hlt)
      have HKN := HK.out _ (List.getElem_mem hlt)
      generalize l[i] = u at *
      have HR := fun w => Lib.hid (later_any u now HKN w)
      have HCU := Lib.hid HLT.out
      generalize cntU u now = n at *
      obtain ⟨c, m⟩ := u
      unfold valU at HR
      simp only at c0 c1 HR
      have K1 := Lib.hid q1
      have K2 := Lib.hid q2
      have JI := Lib.hid hJi
      obtain ⟨d0, _⟩ := facts1 (q1.alloc (.cells #[.int .i64 c, .int .i64 m] 23))
      clear HKN q1 q2 hJi HLT
      gi_wp2_with fail
      refine ⟨trivial, ?_⟩
      refine callsIn_wide.2 (Calls.mono (HR _).out ?_)
      rintro e W5 ⟨rfl, hb5⟩
      have hb6 : Below wr.heap.size wr W5 := below2 hb5
      obtain ⟨fn, tmps, assign, body, hy, hR⟩ := HY.out i n W5 HCU.out (hJ _ _ _ JI.out hb6)
      unfold encC at hy
      have Q1 := Lib.hid (K1.out.later hb6)
      have Q2 := Lib.hid (K2.out.later hb6)
      clear hb5 hb6 HR d0
      gi_wp2_with fail
      (try refine ⟨fun _ => by decide, ?_⟩)
      refine hR.mono ?_
      rintro e W3 (⟨rfl, hJ3, hk3⟩ | ⟨rfl, hJx3⟩)
      · have R1 := Lib.hid (Q1.out.keep hk3 hbn)
        have R2 := Lib.hid (Q2.out.keep hk3)
        clear hR hy hk3
        gi_wp2
        refine ⟨⟨i + 1, by go_num, hlt, hJ3, R1.out, R2.out⟩, ?_⟩
        simp only [intOf]
        omega
      · gi_wp2
        exact bodyPost_ret (v := .tuple #[]) (by simp [results, Try.results32, go_sem]) rfl ⟨⟨_, rfl⟩, .inr ⟨_, hJx3⟩⟩
    · obtain rfl : i = l.length := by omega
      have hle : ¬ ((l.length : Int) < l.length) := by omega
      have HJ := Lib.hid hJi
      clear q1 q2 hJi
      gi_wp2
      go_end0
      exact ⟨⟨_, rfl⟩, .inl (by rw [HL.out]; exact HJ.out)⟩
end Go.Proofs.Ytpjggdmfgoajbaa
