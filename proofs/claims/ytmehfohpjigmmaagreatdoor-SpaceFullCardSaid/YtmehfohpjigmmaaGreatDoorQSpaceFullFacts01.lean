/- Texts of one kind in one: SpaceFullFacts. -/
import Derived.Test.YtmehfohpjigmmaaGreatDoorQSpFacts00
set_option maxRecDepth 200000
set_option maxHeartbeats 8000000
namespace Go.Proofs.YtmehfohpjigmmaaGreatDoor.spaceFull
open Zc
theorem fx1:(Rows.spaceFullRow.inPlace==Tryz.pinned.checked.prog.inPlace 3)=true:=by kernel_rfl
theorem fx2:(Rows.spaceFullRow.unfollowed==Tryz.pinned.checked.prog.unfollowed 3)=true:=by kernel_rfl
theorem fx3:(Rows.spaceFullRow.recurses==Tryz.pinned.checked.prog.recurses 3)=true:=by kernel_rfl
theorem fx4:(Rows.spaceFullRow.named==Tryz.pinned.checked.prog.varsNamed 3)=true:=by kernel_rfl
theorem fx5:(Rows.spaceFullRow.lifted==Tryz.pinned.checked.prog.liftsFinal)=true:=by kernel_rfl
theorem fx6:(Tryz.pinned.checked.prog.make==some Rows.spaceFullRow.make)=true:=by kernel_rfl
theorem fx7:(Rows.spaceFullRow.plainKeys==Tryz.pinned.checked.prog.plainKeys)=true:=by kernel_rfl
theorem closed:joinedFacts Tryz.pinned.checked.prog 3 Tryz.f3 Rows.spaceFullSpec Rows.spaceFullRow=true:=by
 unfold joinedFacts;rw [fx1,fx2,fx3,fx4,fx5,fx6,fx7,y1o,y1p,z8h,z8i]
 kernel_rfl
end Go.Proofs.YtmehfohpjigmmaaGreatDoor.spaceFull
