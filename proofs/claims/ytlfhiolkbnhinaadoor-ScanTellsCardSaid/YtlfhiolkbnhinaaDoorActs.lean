/- Acts in memory. -/
import Derived.Test.YtlfhiolkbnhinaaDoorSmall
namespace Go.Proofs.YtlfhiolkbnhinaaDoor
open Go.RowKit Go.Shelf

/-- Acts in memory: what is done, a key, a thing. -/
def Acts (W : World) (a : Option Addr) (l : List (Int × ByteArray × Int)) : Prop := ∀ (i : Nat) (h : i < l.length), ∃ b off, a = some ⟨b, off, none⟩ ∧
  W.cell? ⟨b, off + i * 3, none⟩ = some (.int .i64 l[i].1) ∧ W.cell? ⟨b, off + i * 3 + 1, none⟩ = some (.string l[i].2.1) ∧ W.cell? ⟨b, off + i * 3 + 2, none⟩ = some (.int .i64 l[i].2.2)
theorem Acts.below {w W : World} {a : Option Addr} {l : List (Int × ByteArray × Int)} (h : Acts w a l) (hb : Below w.heap.size w W) : Acts W a l := fun i hi => by
  obtain ⟨b, off, ha, h0, h1, h2⟩ := h i hi
  have hlt : b < w.heap.size := World.block_lt_of_cell? w ⟨b, off + i * 3, none⟩ h0
  exact ⟨b, off, ha, (hb.cell (p := ⟨b, _, none⟩) hlt).trans h0, (hb.cell (p := ⟨b, _, none⟩) hlt).trans h1, (hb.cell (p := ⟨b, _, none⟩) hlt).trans h2⟩

end Go.Proofs.YtlfhiolkbnhinaaDoor
