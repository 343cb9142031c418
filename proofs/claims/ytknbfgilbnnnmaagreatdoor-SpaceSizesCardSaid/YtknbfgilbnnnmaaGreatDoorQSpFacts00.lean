/- Texts of one kind in one: SpFacts. -/
import Derived.Test.YtknbfgilbnnnmaaGreatDoorQA00
import Derived.Test.YtknbfgilbnnnmaaGreatDoorRows
set_option maxRecDepth 200000
set_option maxHeartbeats 8000000
namespace Go.Proofs.YtknbfgilbnnnmaaGreatDoor
open Zc (Ent Ext KeepC Yl Z9 Zg Xg Zw Zd Zu Yo Y6 Ze Zy Z4 Za)
theorem y5v:laidOutB Tryz.pinned.checked.prog=true:=by kernel_rfl
theorem y5w:mapsRowed Tryz.pinned.checked.prog=true:=by kernel_rfl
theorem z8r:Tryz.pinned.checked.prog.mayEnter=true:=by kernel_rfl
theorem z8s:Tryz.pinned.checked.prog.stopsHeard=true:=by kernel_rfl
end Go.Proofs.YtknbfgilbnnnmaaGreatDoor
