/- Texts of one kind in one: SpaceScansFacts. -/
import Derived.Test.YtknbfgilbnnnmaaGreatDoorQSpFacts00
set_option maxRecDepth 200000
set_option maxHeartbeats 8000000
namespace Go.Proofs.YtknbfgilbnnnmaaGreatDoor.spaceScans
open Zc
theorem fx1:(Rows.spaceScansRow.inPlace==Tryz.pinned.checked.prog.inPlace 4)=true:=by kernel_rfl
theorem fx2:(Rows.spaceScansRow.unfollowed==Tryz.pinned.checked.prog.unfollowed 4)=true:=by kernel_rfl
theorem fx3:(Rows.spaceScansRow.recurses==Tryz.pinned.checked.prog.recurses 4)=true:=by kernel_rfl
theorem fx4:(Rows.spaceScansRow.named==Tryz.pinned.checked.prog.varsNamed 4)=true:=by kernel_rfl
theorem fx5:(Rows.spaceScansRow.lifted==Tryz.pinned.checked.prog.liftsFinal)=true:=by kernel_rfl
theorem fx6:(Tryz.pinned.checked.prog.make==some Rows.spaceScansRow.make)=true:=by kernel_rfl
theorem fx7:(Rows.spaceScansRow.plainKeys==Tryz.pinned.checked.prog.plainKeys)=true:=by kernel_rfl
theorem closed:joinedFacts Tryz.pinned.checked.prog 4 Tryz.f4 Rows.spaceScansSpec Rows.spaceScansRow=true:=by
 unfold joinedFacts;rw [fx1,fx2,fx3,fx4,fx5,fx6,fx7,y5v,y5w,z8r,z8s]
 kernel_rfl
end Go.Proofs.YtknbfgilbnnnmaaGreatDoor.spaceScans
