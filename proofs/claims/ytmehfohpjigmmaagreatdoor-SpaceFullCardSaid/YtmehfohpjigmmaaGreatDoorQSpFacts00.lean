/- Texts of one kind in one: SpFacts. -/
import Derived.Test.YtmehfohpjigmmaaGreatDoorQA00
import Derived.Test.YtmehfohpjigmmaaGreatDoorRows
set_option maxRecDepth 200000
set_option maxHeartbeats 8000000
namespace Go.Proofs.YtmehfohpjigmmaaGreatDoor
open Zc (Ent Ext KeepC Y5 Z7 Z9 Yw Y1 Za Zl Ya Zp Z6 Zo Z0 Zf)
theorem y1o:laidOutB Tryz.pinned.checked.prog=true:=by kernel_rfl
theorem y1p:mapsRowed Tryz.pinned.checked.prog=true:=by kernel_rfl
theorem z8h:Tryz.pinned.checked.prog.mayEnter=true:=by kernel_rfl
theorem z8i:Tryz.pinned.checked.prog.stopsHeard=true:=by kernel_rfl
end Go.Proofs.YtmehfohpjigmmaaGreatDoor
