/- What a reader takes: a line, a head. -/
import Derived.Test.YtjcgfbmkgfhnaaaDoorFits
import Derived.Test.YtjcgfbmkgfhnaaaDoorInts
import Derived.Test.YtjcgfbmkgfhnaaaDoorShelf
import Derived.Test.YtjcgfbmkgfhnaaaDoorBrk
import Derived.Deep.QuietTactic
import Derived.BigQuiet
namespace Go.Proofs.YtjcgfbmkgfhnaaaDoor
open Go.RowKit Go.Shelf

/-- What lies at package level: the two errors, and a number of the library's. -/
structure Env (W : World) (aM aW : Addr) (m : Int) : Prop where
  more : W.cell? ⟨0, 0, none⟩ = some (.iface 134 (.pointer (some aM)))
  wrong : W.cell? ⟨1, 0, none⟩ = some (.iface 134 (.pointer (some aW)))
  max : W.cell? ⟨2, 0, none⟩ = some (.int .i64 m)
  ne : aM ≠ aW
  rowM : ∃ c t, W.heap[aM.block]? = some (.cells c t (0, 0))
  rowW : ∃ c t, W.heap[aW.block]? = some (.cells c t (0, 0))

/-- A reader's box. -/
def Reader (W : World) (b : Nat) (t : ByteArray) (h : Int) : Prop := W.heap[b]? = some (Obj.cells #[.string t, .int .i64 h] 58 (0, 0))

def errM (aM : Addr) : Value := .iface 134 (.pointer (some aM))

def LineMore (aM : Addr) (W : World) (e : Ending) (W' : World) : Prop := e = .returned (.tuple #[.string ⟨#[]⟩, .iface 134 (.pointer (some aM))]) ∧ ∃ n, W' = W.drewN n

set_option maxRecDepth 100000 in
set_option maxHeartbeats 2000000 in
/-- No END yet. -/
theorem line_more {W : World} {aM aW : Addr} {m : Int} (hE : Env W aM aW m) (b : Nat) (t : ByteArray) (h : Int) (hR : Reader W b t h) (c : UInt8) (l : List UInt8) (ht : t.data.toList = c :: l) (hi : 0 ≤ Lib.indexByte [43, 45, 58, 36, 42] c)
    (p q : List UInt8) (hc : Lib.cut t.data.toList [13, 10] = (p, q, false)) (hs : t.size ≤ 602) :
    Calls Tryd.prog 35 #[.pointer (some ⟨b, 0, none⟩)] W (LineMore aM W) := by
  have c0 : W.cell? ⟨b, 0, none⟩ = some (.string t) := by rw [cell_in 0 hR]; rfl
  have g0 := hE.more
  have g1 := hE.wrong
  have hne : t.toList.isEmpty = false := by rw [Lib.toList_data, ht]; rfl
  have hsz : 0 < t.size := by
    have : t.data.toList.length = t.size := by rw [Array.length_toList]; rfl
    rw [ht] at this; simp at this; omega
  have hfirst : t[0]'hsz = c := by
    have := Lib.data_getElem? t 0 hsz
    rw [ht] at this; simpa using this.symm
  have HI := fun w => Lib.hid (Tryd.strings_IndexByte ⟨#[43, 45, 58, 36, 42]⟩ (t[0]'hsz).toNat w)
  have hb8 : ((((t[0]'hsz).toNat : Int)).toNat.toUInt8) = c := by simp [hfirst]
  rw [hb8] at HI
  have hC := Tryd.strings_Cut t ⟨#[13, 10]⟩ m W (by omega) hE.max
  rw [show Lib.cut t.data.toList (⟨#[13, 10]⟩ : ByteArray).data.toList = _ from hc] at hC
  have HC := Lib.hid hC
  have hneg : ¬ (Lib.indexByte [43, 45, 58, 36, 42] c < 0) := by omega
  have h6 : ¬ ((602 : Int) < (t.size : Int)) := by omega
  clear hc hC ht hb8 hfirst
  go_enter Tryd.func35, Tryd.ntmps35
  go_wp2_with (first
    | (go_at_call 40; refine (HI _).out.mono ?_; rintro e w1 ⟨rfl, rfl⟩)
    | (go_at_call 41; refine HC.out.mono ?_; rintro e w2 ⟨rfl, nn, rfl⟩))
  go_quiet (fail)
  go_wp2
  go_ret2
  exact ⟨rfl, _, World.drewN_drewN _ _ _⟩

def LineOk (b : Nat) (p q : List UInt8) (W : World) (e : Ending) (W' : World) : Prop := e = .returned (.tuple #[.string ⟨p.toArray⟩, .nilIface]) ∧ ∃ n, W' = (W.drewN n).setCell ⟨b, 0, none⟩ (.string ⟨q.toArray⟩)

set_option maxRecDepth 100000 in
set_option maxHeartbeats 2000000 in
/-- A line, and what is behind it. -/
theorem line_ok {W : World} {aM aW : Addr} {m : Int} (hE : Env W aM aW m) (b : Nat) (t : ByteArray) (h : Int) (hR : Reader W b t h) (c : UInt8) (l : List UInt8) (ht : t.data.toList = c :: l) (hi : 0 ≤ Lib.indexByte [43, 45, 58, 36, 42] c)
    (p q : List UInt8) (hc : Lib.cut t.data.toList [13, 10] = (p, q, true)) (hs : t.size ≤ 100000) :
    Calls Tryd.prog 35 #[.pointer (some ⟨b, 0, none⟩)] W (LineOk b p q W) := by
  have c0 : W.cell? ⟨b, 0, none⟩ = some (.string t) := by rw [cell_in 0 hR]; rfl
  have g0 := hE.more
  have g1 := hE.wrong
  have hne : t.toList.isEmpty = false := by rw [Lib.toList_data, ht]; rfl
  have hsz : 0 < t.size := by
    have : t.data.toList.length = t.size := by rw [Array.length_toList]; rfl
    rw [ht] at this; simp at this; omega
  have hfirst : t[0]'hsz = c := by
    have := Lib.data_getElem? t 0 hsz
    rw [ht] at this; simpa using this.symm
  have HI := fun w => Lib.hid (Tryd.strings_IndexByte ⟨#[43, 45, 58, 36, 42]⟩ (t[0]'hsz).toNat w)
  have hb8 : ((((t[0]'hsz).toNat : Int)).toNat.toUInt8) = c := by simp [hfirst]
  rw [hb8] at HI
  have hC := Tryd.strings_Cut t ⟨#[13, 10]⟩ m W (by omega) hE.max
  rw [show Lib.cut t.data.toList (⟨#[13, 10]⟩ : ByteArray).data.toList = _ from hc] at hC
  have HC := Lib.hid hC
  have hneg : ¬ (Lib.indexByte [43, 45, 58, 36, 42] c < 0) := by omega
  have f0 : W.frozen? ⟨b, 0, none⟩ = false := free_in 0 hR
  clear hc hC ht hb8 hfirst
  go_enter Tryd.func35, Tryd.ntmps35
  go_wp2_with (first
    | (go_at_call 40; refine (HI _).out.mono ?_; rintro e w1 ⟨rfl, rfl⟩)
    | (go_at_call 41; refine HC.out.mono ?_; rintro e w2 ⟨rfl, nn, rfl⟩))
  go_ret2
  exact ⟨rfl, _, rfl⟩

def LineWrong (aW : Addr) (W : World) (e : Ending) (W' : World) : Prop := e = .returned (.tuple #[.string ⟨#[]⟩, .iface 134 (.pointer (some aW))]) ∧ ∃ n, W' = W.drewN n

set_option maxRecDepth 100000 in
set_option maxHeartbeats 2000000 in
/-- No first byte of a reply. -/
theorem line_wrong {W : World} {aM aW : Addr} {m : Int} (hE : Env W aM aW m) (b : Nat) (t : ByteArray) (h : Int) (hR : Reader W b t h) (c : UInt8) (l : List UInt8) (ht : t.data.toList = c :: l) (hi : Lib.indexByte [43, 45, 58, 36, 42] c < 0) :
    Calls Tryd.prog 35 #[.pointer (some ⟨b, 0, none⟩)] W (LineWrong aW W) := by
  have c0 : W.cell? ⟨b, 0, none⟩ = some (.string t) := by rw [cell_in 0 hR]; rfl
  have g0 := hE.more
  have g1 := hE.wrong
  have hne : t.toList.isEmpty = false := by rw [Lib.toList_data, ht]; rfl
  have hsz : 0 < t.size := by
    have : t.data.toList.length = t.size := by rw [Array.length_toList]; rfl
    rw [ht] at this; simp at this; omega
  have hfirst : t[0]'hsz = c := by
    have := Lib.data_getElem? t 0 hsz
    rw [ht] at this; simpa using this.symm
  have HI := fun w => Lib.hid (Tryd.strings_IndexByte ⟨#[43, 45, 58, 36, 42]⟩ (t[0]'hsz).toNat w)
  have hb8 : ((((t[0]'hsz).toNat : Int)).toNat.toUInt8) = c := by simp [hfirst]
  rw [hb8] at HI
  clear ht hb8 hfirst
  go_enter Tryd.func35, Tryd.ntmps35
  go_wp2_with (go_at_call 40; refine (HI _).out.mono ?_; rintro e w1 ⟨rfl, rfl⟩)
  go_quiet (fail)
  go_wp2
  go_ret2
  exact ⟨rfl, _, rfl⟩

end Go.Proofs.YtjcgfbmkgfhnaaaDoor
