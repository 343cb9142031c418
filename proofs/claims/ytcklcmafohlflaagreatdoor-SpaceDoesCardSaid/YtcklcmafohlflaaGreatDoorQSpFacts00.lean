/- Texts of one kind in one: SpFacts. -/
import Derived.Test.YtcklcmafohlflaaGreatDoorQA00
import Derived.Test.YtcklcmafohlflaaGreatDoorRows
set_option maxRecDepth 200000
set_option maxHeartbeats 8000000
namespace Go.Proofs.YtcklcmafohlflaaGreatDoor
open Zc (Ent Ext KeepC Ym Z9 Zg Xg Zx Zb Zv Yo Y5 Ze Zz Z4 Zd)
theorem x9f:laidOutB Tryz.pinned.checked.prog=true:=by kernel_rfl
theorem x9g:mapsRowed Tryz.pinned.checked.prog=true:=by kernel_rfl
theorem x4s:Tryz.pinned.checked.prog.mayEnter=true:=by kernel_rfl
theorem x4t:Tryz.pinned.checked.prog.stopsHeard=true:=by kernel_rfl
end Go.Proofs.YtcklcmafohlflaaGreatDoor
