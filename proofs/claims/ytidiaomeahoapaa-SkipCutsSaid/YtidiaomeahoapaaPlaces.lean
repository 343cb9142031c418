/- What is at a place is sought at that place. -/
import Derived.Test.YtidiaomeahoapaaMade
namespace Go.Proofs.Ytidiaomeahoapaa
open Go.RowKit Go.Shelf
attribute [local go_sem] Oper.semAt_some

theorem pos_self {L : List Nd} (hs : Srt L) {i : Nat} {x : Nd} (hx : L[i]? = some x) : pos L x.m x.s = i ∧ has L x.m x.s = true := by
  have h1 := pos_spec hs x.m x.s i x hx
  rw [less_irr] at h1
  have h2 : ¬ i < pos L x.m x.s := by simpa using h1.symm
  obtain ⟨hi, he⟩ := List.getElem?_eq_some_iff.1 hx
  have h3 : pos L x.m x.s = i := by
    rcases Nat.lt_or_ge (pos L x.m x.s) i with h | h
    · have hj : L[pos L x.m x.s]? = some L[pos L x.m x.s] := List.getElem?_eq_getElem (by omega)
      have h4 := pos_spec hs x.m x.s _ _ hj
      have h5 := List.pairwise_iff_getElem.1 hs (pos L x.m x.s) i (by omega) hi h
      rw [he, h4] at h5
      simp at h5
    · omega
  refine ⟨h3, ?_⟩
  unfold has
  rw [h3, hx]
  simp

theorem alloc_below (w : World) (o : Obj) : Below w.heap.size w (w.alloc o) := (Below.refl _ _).alloc (Nat.le_refl _) _
variable {w0 : World}
set_option maxRecDepth 100000 in
set_option maxHeartbeats 8000000 in
theorem places_walk (a : Option Addr) (cap : Nat) (l : List Ac) (hn : l.length ≤ 9223372036854775807) (hu : ∀ x ∈ l, x.Fit) (w : World) (hA : Acts w a l) :
    Calls Try.prog 5 #[.slice a l.length cap] w fun e w' => e = .returned (.bool true) ∧ Below w.heap.size w w' := by
  have H10 := Lib.hid (shown_any w)
  have HM := fun w1 (hb : Below w.heap.size w w1) => Lib.hid (made_any a cap l hn hu w1 (hA.far (fun b o ho => (hb.block b (Array.getElem?_eq_some_iff.1 ho).1).trans ho)))
  clear hn hu hA
  go_enter Try.func5, Try.ntmps5
  go_wp2_with fail
  refine H10.out.mono ?_
  rintro e w1 ⟨rfl, hb1⟩
  have HM1 := HM w1 hb1
  have HB1 := Lib.hid hb1
  clear HM H10 hb1
  go_wp2_with fail
  refine HM1.out.mono ?_
  rintro e w2 ⟨q, rfl, hq, ⟨⟨L, hL, hls, hby, hlen⟩, hbl⟩⟩
  have hb2 := HB1.out.trans (hbl.mono HB1.out.size)
  have HB2 := Lib.hid hb2
  have HLS := Lib.hid hls
  have hlen2 : (L.length : Int) ≤ 120 := by omega
  have hlN : L.length ≤ 100000 := by omega
  have hlN2 : (hd q :: L).length ≤ 1000000 := by simp; omega
  clear HM1 HB1 hb2 hls hby hbl hL hq hlen
  go_wp2_with fail
  go_loopw [5] (fun i wr => ∃ (k : Nat), i = .int .i64 k ∧ k ≤ L.length ∧ Below w2.heap.size w2 wr) (fun i _ => L.length - (intOf i).toNat)
  case atStart => exact ⟨0, rfl, by omega, Below.refl _ _⟩
  case round =>
    obtain ⟨k, rfl, hk, hbr⟩ := hrel
    have hlr := HLS.out.later hbr
    have HLen := Lib.hid (len_any q L rfl hlr.sk)
    by_cases hlt : k < L.length
    · have hx : L[k]? = some L[k] := List.getElem?_eq_getElem hlt
      generalize L[k] = x at *
      obtain ⟨hp1, hp2⟩ := pos_self hlr.srt hx
      have HAt := Lib.hid (at_any q L rfl hlr.sk rfl hlN2 k x hx)
      have HSk := fun W (hb : Below wr.heap.size wr W) => Lib.hid (seek_ls (hlr.later hb) hlN x.m x.s)
      rw [hp1, hp2] at HSk
      have HBR := Lib.hid hbr
      clear hlr hx hp1 hp2 hbr
      have hk2 : (k : Int) < L.length := by omega
      go_wp2_with fail
      refine HLen.out.mono ?_
      rintro e w3 ⟨rfl, rfl⟩
      go_wp2_with fail
      refine HAt.out.mono ?_
      rintro e w4 ⟨rfl, hb4⟩
      have hb5 := hb4.trans ((alloc_below w4 (Obj.cells #[.string x.m, .int .i64 x.s] 32)).mono hb4.size)
      have HS2 := HSk _ hb5
      have HB5 := Lib.hid (HBR.out.trans (hb5.mono HBR.out.size))
      clear hb4 hb5 HSk HAt HLen HBR
      go_wp2_with fail
      refine HS2.out.mono ?_
      rintro e w6 ⟨rfl, hb6⟩
      have HB6 := Lib.hid (HB5.out.trans (hb6.mono HB5.out.size))
      clear hb6 HS2 HB5
      go_wp2_with fail
      exact ⟨⟨k + 1, by go_num, hlt, HB6.out⟩, by simp [intOf]; omega⟩
    · obtain rfl : k = L.length := by omega
      have HA1 := Lib.hid (at_out (some ⟨q, 0, none⟩) (-1) wr L.length (fun w' hb => len_any q L rfl (hlr.later hb).sk) (.inl (by decide)))
      have HLe := fun W (hb : Below wr.heap.size wr W) => Lib.hid (len_any q L rfl (hlr.later hb).sk)
      have HA2 := fun W (hb : Below wr.heap.size wr W) => Lib.hid (at_out (some ⟨q, 0, none⟩) L.length W L.length (fun w' hb' => len_any q L rfl ((hlr.later hb).later hb').sk) (.inr (Int.le_refl _)))
      have HBR := Lib.hid hbr
      clear hlr hbr
      go_wp2_with fail
      refine HLen.out.mono ?_
      rintro e w3 ⟨rfl, rfl⟩
      go_wp2_with fail
      refine HA1.out.mono ?_
      rintro e w4 ⟨rfl, hb4⟩
      have hb5 := hb4.trans ((alloc_below w4 (Obj.cells #[.string ⟨#[]⟩, .int .i64 0] 32)).mono hb4.size)
      have HLe2 := HLe _ hb5
      have HA3 := HA2 _ hb5
      have HB5 := Lib.hid (HBR.out.trans (hb5.mono HBR.out.size))
      clear hb4 hb5 HA1 HA2 HLe HLen HBR
      go_wp2_with fail
      refine HLe2.out.mono ?_
      rintro e w5 ⟨rfl, rfl⟩
      go_wp2_with fail
      refine HA3.out.mono ?_
      rintro e w6 ⟨rfl, hb6⟩
      have HB6 := Lib.hid (HB5.out.trans (hb6.mono HB5.out.size))
      clear hb6 HA3 HLe2 HB5
      go_wp2_with fail
      go_returns
      have h1 := HB6.out
      have h2 := HB2.out
      refine ⟨rfl, h2.trans (((h1).trans ((alloc_below w6 _).mono h1.size)).mono h2.size)⟩
end Go.Proofs.Ytidiaomeahoapaa
