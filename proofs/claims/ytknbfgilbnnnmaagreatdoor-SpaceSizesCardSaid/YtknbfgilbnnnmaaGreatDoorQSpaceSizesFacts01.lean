/- Texts of one kind in one: SpaceSizesFacts. -/
import Derived.Test.YtknbfgilbnnnmaaGreatDoorQSpFacts00
set_option maxRecDepth 200000
set_option maxHeartbeats 8000000
namespace Go.Proofs.YtknbfgilbnnnmaaGreatDoor.spaceSizes
open Zc
theorem fx1:(Rows.spaceSizesRow.inPlace==Tryz.pinned.checked.prog.inPlace 3)=true:=by kernel_rfl
theorem fx2:(Rows.spaceSizesRow.unfollowed==Tryz.pinned.checked.prog.unfollowed 3)=true:=by kernel_rfl
theorem fx3:(Rows.spaceSizesRow.recurses==Tryz.pinned.checked.prog.recurses 3)=true:=by kernel_rfl
theorem fx4:(Rows.spaceSizesRow.named==Tryz.pinned.checked.prog.varsNamed 3)=true:=by kernel_rfl
theorem fx5:(Rows.spaceSizesRow.lifted==Tryz.pinned.checked.prog.liftsFinal)=true:=by kernel_rfl
theorem fx6:(Tryz.pinned.checked.prog.make==some Rows.spaceSizesRow.make)=true:=by kernel_rfl
theorem fx7:(Rows.spaceSizesRow.plainKeys==Tryz.pinned.checked.prog.plainKeys)=true:=by kernel_rfl
theorem closed:joinedFacts Tryz.pinned.checked.prog 3 Tryz.f3 Rows.spaceSizesSpec Rows.spaceSizesRow=true:=by
 unfold joinedFacts;rw [fx1,fx2,fx3,fx4,fx5,fx6,fx7,y5v,y5w,z8r,z8s]
 kernel_rfl
end Go.Proofs.YtknbfgilbnnnmaaGreatDoor.spaceSizes
