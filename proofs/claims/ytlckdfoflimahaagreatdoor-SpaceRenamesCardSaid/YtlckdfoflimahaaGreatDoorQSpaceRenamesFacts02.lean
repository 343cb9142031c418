/- Texts of one kind in one: SpaceRenamesFacts. -/
import Derived.Test.YtlckdfoflimahaaGreatDoorQSpFacts00
set_option maxRecDepth 200000
set_option maxHeartbeats 8000000
namespace Go.Proofs.YtlckdfoflimahaaGreatDoor.spaceRenames
theorem fx1:(Rows.spaceRenamesRow.inPlace==Tryz.pinned.checked.prog.inPlace 8)=true:=by kernel_rfl
theorem fx2:(Rows.spaceRenamesRow.unfollowed==Tryz.pinned.checked.prog.unfollowed 8)=true:=by kernel_rfl
theorem fx3:(Rows.spaceRenamesRow.recurses==Tryz.pinned.checked.prog.recurses 8)=true:=by kernel_rfl
theorem fx4:(Rows.spaceRenamesRow.named==Tryz.pinned.checked.prog.varsNamed 8)=true:=by kernel_rfl
theorem fx5:(Rows.spaceRenamesRow.lifted==Tryz.pinned.checked.prog.liftsFinal)=true:=by kernel_rfl
theorem fx6:(Tryz.pinned.checked.prog.make==some Rows.spaceRenamesRow.make)=true:=by kernel_rfl
theorem fx7:(Rows.spaceRenamesRow.plainKeys==Tryz.pinned.checked.prog.plainKeys)=true:=by kernel_rfl
theorem closed:joinedFacts Tryz.pinned.checked.prog 8 Tryz.f8 Rows.spaceRenamesSpec Rows.spaceRenamesRow=true:=by
 unfold joinedFacts
 rw [fx1,fx2,fx3,fx4,fx5,fx6,fx7,pf_laid,pf_maps,pf_enter,pf_heard]
 kernel_rfl
end Go.Proofs.YtlckdfoflimahaaGreatDoor.spaceRenames
