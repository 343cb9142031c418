/- Texts of one kind in one: SpaceApartFacts. -/
import Derived.Test.YtlckdfoflimahaaGreatDoorQSpFacts00
set_option maxRecDepth 200000
set_option maxHeartbeats 8000000
namespace Go.Proofs.YtlckdfoflimahaaGreatDoor.spaceApart
theorem fx1:(Rows.spaceApartRow.inPlace==Tryz.pinned.checked.prog.inPlace 4)=true:=by kernel_rfl
theorem fx2:(Rows.spaceApartRow.unfollowed==Tryz.pinned.checked.prog.unfollowed 4)=true:=by kernel_rfl
theorem fx3:(Rows.spaceApartRow.recurses==Tryz.pinned.checked.prog.recurses 4)=true:=by kernel_rfl
theorem fx4:(Rows.spaceApartRow.named==Tryz.pinned.checked.prog.varsNamed 4)=true:=by kernel_rfl
theorem fx5:(Rows.spaceApartRow.lifted==Tryz.pinned.checked.prog.liftsFinal)=true:=by kernel_rfl
theorem fx6:(Tryz.pinned.checked.prog.make==some Rows.spaceApartRow.make)=true:=by kernel_rfl
theorem fx7:(Rows.spaceApartRow.plainKeys==Tryz.pinned.checked.prog.plainKeys)=true:=by kernel_rfl
theorem closed:joinedFacts Tryz.pinned.checked.prog 4 Tryz.f4 Rows.spaceApartSpec Rows.spaceApartRow=true:=by
 unfold joinedFacts
 rw [fx1,fx2,fx3,fx4,fx5,fx6,fx7,pf_laid,pf_maps,pf_enter,pf_heard]
 kernel_rfl
end Go.Proofs.YtlckdfoflimahaaGreatDoor.spaceApart
