/- Texts of one kind in one: SpaceDoesFacts. -/
import Derived.Test.YtcklcmafohlflaaGreatDoorQSpFacts00
set_option maxRecDepth 200000
set_option maxHeartbeats 8000000
namespace Go.Proofs.YtcklcmafohlflaaGreatDoor.spaceDoes
open Zc
theorem fx1:(Rows.spaceDoesRow.inPlace==Tryz.pinned.checked.prog.inPlace 3)=true:=by kernel_rfl
theorem fx2:(Rows.spaceDoesRow.unfollowed==Tryz.pinned.checked.prog.unfollowed 3)=true:=by kernel_rfl
theorem fx3:(Rows.spaceDoesRow.recurses==Tryz.pinned.checked.prog.recurses 3)=true:=by kernel_rfl
theorem fx4:(Rows.spaceDoesRow.named==Tryz.pinned.checked.prog.varsNamed 3)=true:=by kernel_rfl
theorem fx5:(Rows.spaceDoesRow.lifted==Tryz.pinned.checked.prog.liftsFinal)=true:=by kernel_rfl
theorem fx6:(Tryz.pinned.checked.prog.make==some Rows.spaceDoesRow.make)=true:=by kernel_rfl
theorem fx7:(Rows.spaceDoesRow.plainKeys==Tryz.pinned.checked.prog.plainKeys)=true:=by kernel_rfl
theorem closed:joinedFacts Tryz.pinned.checked.prog 3 Tryz.f3 Rows.spaceDoesSpec Rows.spaceDoesRow=true:=by
 unfold joinedFacts;rw [fx1,fx2,fx3,fx4,fx5,fx6,fx7,x9f,x9g,x4s,x4t]
 kernel_rfl
end Go.Proofs.YtcklcmafohlflaaGreatDoor.spaceDoes
