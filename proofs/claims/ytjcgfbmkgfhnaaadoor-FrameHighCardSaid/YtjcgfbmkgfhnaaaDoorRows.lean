/-
  NARROWER THAN 'FOR EVERY INPUT', by the rows' own cells (each row's printed sentence says how): FrameBack: loops, laid · FrameMore: loops, laid · FrameKinds: laid · FrameHigh: laid · FrameLists: loops, laid.
  DERIVED. THE GIVEN ROWS OF THIS SEAT. 5 by the template 'for every input the law returns true; each argument reads behind the call as it read before'; 0 by the template 'total and deterministic' (their statements: YtjcgfbmkgfhnaaaDoorTotals.lean).
  GIVEN WITH THE SEED: the statements are not yours to turn. If you find one false, say at which input.
  Laid BY PROGRAM, IN A SANDBOX (cutbox-rows.mjs): the forced cells as the released guide's own fill.sh prints them over the translation 471c2e0980493014… (all of the seat's roots in one cut). By AI agents, Wed Nov 11 2026. No macro, syntax, notation, axiom, sorry.
-/
import Derived.Test.YtjcgfbmkgfhnaaaDoorChecked
import GoSem.Claim
import GoSem.ClaimJoined
import GoSem.ClaimMapViews
import Derived.JoinedTies
import Derived.KernelRfl
namespace Go.Proofs.YtjcgfbmkgfhnaaaDoor
/- THE CELL 'sum', in the pinned program and in every row, IS THE sha256 OF THE DUMP (.gsa) THAT YtjcgfbmkgfhnaaaDoorProg.lean LOADS. Nothing in Lean hashes anything: it is a label: what it is worth is what the hold of that sum in a sandbox is worth. -/
noncomputable def Tryd.pinned : Pinned := { name := "ytjcgfbmkgfhnaaadoor", sum := "471c2e0980493014f663e97002a958eb91f40c5636a6af230bb0ef1aa83b886f", checked := Tryd.checked }
namespace Rows
def none {H : Type} : Left H := { results := [], args := [] }

/- WHAT THE LISTED PACKAGE-LEVEL VARIABLES READ AS WHEN THE CALL BEGINS. Each datum BY PROGRAM (the guide's laid-datum.mjs) off the statement by which the dump's own 'gosem.cut.vars' lays the variable. In a bare row this is a premise. The card (YtjcgfbmkgfhnaaaDoorCards.lean) ties it to the program's text. -/
def laid_palio_frame_errWrong {H : Type} : DataW H := .iface "*errors.errorString" (.ptr (.agg [.lit (.string [98, 121, 116, 101, 115, 32, 111, 102, 32, 110, 111, 32, 114, 101, 112, 108, 121])]))
def laid_palio_frame_errMore {H : Type} : DataW H := .iface "*errors.errorString" (.ptr (.agg [.lit (.string [116, 104, 101, 32, 98, 101, 103, 105, 110, 110, 105, 110, 103, 32, 111, 102, 32, 97, 32, 114, 101, 112, 108, 121])]))

/-- 'paliolaw03.FrameBack': WHATEVER THE INPUT: true; the input reads as it did. -/
def frameBackSpec : ChangeSpec := { name := "frameBack", fn := fun _ => fun
  | [d1, d2] => { results := [.lit (.bool true)], args := [d1, d2] }
  | _ => none }
def frameBackRow : OpenClaim := { program := "ytjcgfbmkgfhnaaadoor", sum := "471c2e0980493014f663e97002a958eb91f40c5636a6af230bb0ef1aa83b886f", func := "palio/paliolaw03.FrameBack", spec := "frameBack", inPlace := ["internal/bytealg.IndexByteString", "internal/bytealg.IndexString", "internal/reflectlite.TypeOf"], unfollowed := true, recurses := true, named := ["palio/frame.errMore", "palio/frame.errWrong", "internal/bytealg.MaxLen"], loops := true, apart := false, laid := [("palio/frame.errWrong", laid_palio_frame_errWrong), ("palio/frame.errMore", laid_palio_frame_errMore)] }
def FrameBackSaid : Prop := frameBackRow.holds Tryd.pinned (OpenSpec.ofChange frameBackSpec)

/-- ITS FALSE NEIGHBOUR: 'it returns false'. Refute it at one input. -/
def frameBackWrong : ChangeSpec := { name := "frameBack", fn := fun _ => fun
  | [d1, d2] => { results := [.lit (.bool false)], args := [d1, d2] }
  | _ => none }
def FrameBackWrongFalsely : Prop := frameBackRow.holds Tryd.pinned (OpenSpec.ofChange frameBackWrong)

/-- 'paliolaw03.FrameMore': WHATEVER THE INPUT: true; the input reads as it did. -/
def frameMoreSpec : ChangeSpec := { name := "frameMore", fn := fun _ => fun
  | [d1, d2] => { results := [.lit (.bool true)], args := [d1, d2] }
  | _ => none }
def frameMoreRow : OpenClaim := { program := "ytjcgfbmkgfhnaaadoor", sum := "471c2e0980493014f663e97002a958eb91f40c5636a6af230bb0ef1aa83b886f", func := "palio/paliolaw03.FrameMore", spec := "frameMore", inPlace := ["internal/bytealg.IndexByteString", "internal/bytealg.IndexString", "internal/reflectlite.TypeOf"], unfollowed := true, recurses := true, named := ["palio/frame.errMore", "palio/frame.errWrong", "internal/bytealg.MaxLen"], loops := true, apart := false, laid := [("palio/frame.errWrong", laid_palio_frame_errWrong), ("palio/frame.errMore", laid_palio_frame_errMore)] }
def FrameMoreSaid : Prop := frameMoreRow.holds Tryd.pinned (OpenSpec.ofChange frameMoreSpec)

/-- ITS FALSE NEIGHBOUR: 'it returns false'. Refute it at one input. -/
def frameMoreWrong : ChangeSpec := { name := "frameMore", fn := fun _ => fun
  | [d1, d2] => { results := [.lit (.bool false)], args := [d1, d2] }
  | _ => none }
def FrameMoreWrongFalsely : Prop := frameMoreRow.holds Tryd.pinned (OpenSpec.ofChange frameMoreWrong)

/-- 'paliolaw03.FrameKinds': WHATEVER THE INPUT: true; the input reads as it did. -/
def frameKindsSpec : ChangeSpec := { name := "frameKinds", fn := fun _ => fun
  | [d1, d2, d3] => { results := [.lit (.bool true)], args := [d1, d2, d3] }
  | _ => none }
def frameKindsRow : OpenClaim := { program := "ytjcgfbmkgfhnaaadoor", sum := "471c2e0980493014f663e97002a958eb91f40c5636a6af230bb0ef1aa83b886f", func := "palio/paliolaw03.FrameKinds", spec := "frameKinds", inPlace := ["internal/bytealg.IndexByteString", "internal/bytealg.IndexString", "internal/reflectlite.TypeOf"], unfollowed := true, recurses := true, named := ["palio/frame.errMore", "palio/frame.errWrong", "internal/bytealg.MaxLen"], apart := false, laid := [("palio/frame.errWrong", laid_palio_frame_errWrong), ("palio/frame.errMore", laid_palio_frame_errMore)] }
def FrameKindsSaid : Prop := frameKindsRow.holds Tryd.pinned (OpenSpec.ofChange frameKindsSpec)

/-- ITS FALSE NEIGHBOUR: 'it returns false'. Refute it at one input. -/
def frameKindsWrong : ChangeSpec := { name := "frameKinds", fn := fun _ => fun
  | [d1, d2, d3] => { results := [.lit (.bool false)], args := [d1, d2, d3] }
  | _ => none }
def FrameKindsWrongFalsely : Prop := frameKindsRow.holds Tryd.pinned (OpenSpec.ofChange frameKindsWrong)

/-- 'paliolaw03.FrameHigh': WHATEVER THE INPUT: true; the input reads as it did. -/
def frameHighSpec : ChangeSpec := { name := "frameHigh", fn := fun _ => fun
  | [d] => { results := [.lit (.bool true)], args := [d] }
  | _ => none }
def frameHighRow : OpenClaim := { program := "ytjcgfbmkgfhnaaadoor", sum := "471c2e0980493014f663e97002a958eb91f40c5636a6af230bb0ef1aa83b886f", func := "palio/paliolaw03.FrameHigh", spec := "frameHigh", inPlace := ["internal/bytealg.IndexByteString", "internal/bytealg.IndexString", "internal/reflectlite.TypeOf"], unfollowed := true, recurses := true, named := ["palio/frame.errMore", "palio/frame.errWrong", "internal/bytealg.MaxLen"], apart := false, laid := [("palio/frame.errWrong", laid_palio_frame_errWrong), ("palio/frame.errMore", laid_palio_frame_errMore)] }
def FrameHighSaid : Prop := frameHighRow.holds Tryd.pinned (OpenSpec.ofChange frameHighSpec)

/-- ITS FALSE NEIGHBOUR: 'it returns false'. Refute it at one input. -/
def frameHighWrong : ChangeSpec := { name := "frameHigh", fn := fun _ => fun
  | [d] => { results := [.lit (.bool false)], args := [d] }
  | _ => none }
def FrameHighWrongFalsely : Prop := frameHighRow.holds Tryd.pinned (OpenSpec.ofChange frameHighWrong)

/-- 'paliolaw03.FrameLists': WHATEVER THE INPUT: true; the input reads as it did. -/
def frameListsSpec : ChangeSpec := { name := "frameLists", fn := fun _ => fun
  | [d] => { results := [.lit (.bool true)], args := [d] }
  | _ => none }
def frameListsRow : OpenClaim := { program := "ytjcgfbmkgfhnaaadoor", sum := "471c2e0980493014f663e97002a958eb91f40c5636a6af230bb0ef1aa83b886f", func := "palio/paliolaw03.FrameLists", spec := "frameLists", inPlace := ["internal/bytealg.IndexByteString", "internal/bytealg.IndexString", "internal/reflectlite.TypeOf"], unfollowed := true, recurses := true, named := ["palio/frame.errMore", "palio/frame.errWrong", "internal/bytealg.MaxLen"], loops := true, apart := false, laid := [("palio/frame.errWrong", laid_palio_frame_errWrong), ("palio/frame.errMore", laid_palio_frame_errMore)] }
def FrameListsSaid : Prop := frameListsRow.holds Tryd.pinned (OpenSpec.ofChange frameListsSpec)

/-- ITS FALSE NEIGHBOUR: 'it returns false'. Refute it at one input. -/
def frameListsWrong : ChangeSpec := { name := "frameLists", fn := fun _ => fun
  | [d] => { results := [.lit (.bool false)], args := [d] }
  | _ => none }
def FrameListsWrongFalsely : Prop := frameListsRow.holds Tryd.pinned (OpenSpec.ofChange frameListsWrong)

/- THE SECOND FORM. 'bulk': how many values and letters a reading holds, each counted each time it is reached (what is shared counts as often as it is met; a slice's spare places count too). A statement '..UptoSaid' is the law's where the arguments, and the package variables that the reading takes, are together of bulk at most 1048576: NARROWER than '..Said'. Prove '..Said' where nothing that the law and all that it calls make is longer than what came in: it says more and counts as full. Else prove '..UptoSaid'. A law counts once. -/
mutual
def uptoBulk {H : Type} : DataW H → Nat
  | .lit (.string bytes) => bytes.length + 1
  | .lit _ => 1
  | .nil => 1
  | .ptr d => uptoBulk d + 1
  | .slice elems spare => uptoBulkAll elems + uptoBulkAll spare + 1
  | .agg parts => uptoBulkAll parts + 1
  | .iface _ d => uptoBulk d + 1
  | .map entries => uptoBulkEntries entries + 1
  | .held _ => 1
def uptoBulkAll {H : Type} : List (DataW H) → Nat
  | [] => 0
  | d :: r => uptoBulk d + uptoBulkAll r
def uptoBulkEntries {H : Type} : List (Lit × DataW H) → Nat
  | [] => 0
  | x :: r => uptoBulkEntry x + uptoBulkEntries r
def uptoBulkEntry {H : Type} : Lit × DataW H → Nat
  | (.string bytes, d) => bytes.length + uptoBulk d + 1
  | (_, d) => uptoBulk d + 1
 end
def uptoSmall : (H : Type) → List (DataW H) → Bool := fun _ ds => decide (uptoBulkAll ds ≤ 1048576)
def OpenSpec.upto (s : _root_.Go.ChangeSpec) : _root_.Go.OpenSpec := { _root_.Go.OpenSpec.ofChange s with cond := some uptoSmall }

/-- 'paliolaw03.FrameBack', WHERE WHAT IT READS IS OF BULK AT MOST 1048576: true; the input reads as it did. -/
def frameBackUptoRow : OpenClaim := { program := "ytjcgfbmkgfhnaaadoor", sum := "471c2e0980493014f663e97002a958eb91f40c5636a6af230bb0ef1aa83b886f", func := "palio/paliolaw03.FrameBack", spec := "frameBack", inPlace := ["internal/bytealg.IndexByteString", "internal/bytealg.IndexString", "internal/reflectlite.TypeOf"], unfollowed := true, recurses := true, named := ["palio/frame.errMore", "palio/frame.errWrong", "internal/bytealg.MaxLen"], loops := true, apart := false, laid := [("palio/frame.errWrong", laid_palio_frame_errWrong), ("palio/frame.errMore", laid_palio_frame_errMore)], narrowed := true }
def FrameBackUptoSaid : Prop := frameBackUptoRow.holds Tryd.pinned (OpenSpec.upto frameBackSpec)

/-- 'paliolaw03.FrameMore', WHERE WHAT IT READS IS OF BULK AT MOST 1048576: true; the input reads as it did. -/
def frameMoreUptoRow : OpenClaim := { program := "ytjcgfbmkgfhnaaadoor", sum := "471c2e0980493014f663e97002a958eb91f40c5636a6af230bb0ef1aa83b886f", func := "palio/paliolaw03.FrameMore", spec := "frameMore", inPlace := ["internal/bytealg.IndexByteString", "internal/bytealg.IndexString", "internal/reflectlite.TypeOf"], unfollowed := true, recurses := true, named := ["palio/frame.errMore", "palio/frame.errWrong", "internal/bytealg.MaxLen"], loops := true, apart := false, laid := [("palio/frame.errWrong", laid_palio_frame_errWrong), ("palio/frame.errMore", laid_palio_frame_errMore)], narrowed := true }
def FrameMoreUptoSaid : Prop := frameMoreUptoRow.holds Tryd.pinned (OpenSpec.upto frameMoreSpec)

/-- 'paliolaw03.FrameKinds', WHERE WHAT IT READS IS OF BULK AT MOST 1048576: true; the input reads as it did. -/
def frameKindsUptoRow : OpenClaim := { program := "ytjcgfbmkgfhnaaadoor", sum := "471c2e0980493014f663e97002a958eb91f40c5636a6af230bb0ef1aa83b886f", func := "palio/paliolaw03.FrameKinds", spec := "frameKinds", inPlace := ["internal/bytealg.IndexByteString", "internal/bytealg.IndexString", "internal/reflectlite.TypeOf"], unfollowed := true, recurses := true, named := ["palio/frame.errMore", "palio/frame.errWrong", "internal/bytealg.MaxLen"], apart := false, laid := [("palio/frame.errWrong", laid_palio_frame_errWrong), ("palio/frame.errMore", laid_palio_frame_errMore)], narrowed := true }
def FrameKindsUptoSaid : Prop := frameKindsUptoRow.holds Tryd.pinned (OpenSpec.upto frameKindsSpec)

/-- 'paliolaw03.FrameHigh', WHERE WHAT IT READS IS OF BULK AT MOST 1048576: true; the input reads as it did. -/
def frameHighUptoRow : OpenClaim := { program := "ytjcgfbmkgfhnaaadoor", sum := "471c2e0980493014f663e97002a958eb91f40c5636a6af230bb0ef1aa83b886f", func := "palio/paliolaw03.FrameHigh", spec := "frameHigh", inPlace := ["internal/bytealg.IndexByteString", "internal/bytealg.IndexString", "internal/reflectlite.TypeOf"], unfollowed := true, recurses := true, named := ["palio/frame.errMore", "palio/frame.errWrong", "internal/bytealg.MaxLen"], apart := false, laid := [("palio/frame.errWrong", laid_palio_frame_errWrong), ("palio/frame.errMore", laid_palio_frame_errMore)], narrowed := true }
def FrameHighUptoSaid : Prop := frameHighUptoRow.holds Tryd.pinned (OpenSpec.upto frameHighSpec)

/-- 'paliolaw03.FrameLists', WHERE WHAT IT READS IS OF BULK AT MOST 1048576: true; the input reads as it did. -/
def frameListsUptoRow : OpenClaim := { program := "ytjcgfbmkgfhnaaadoor", sum := "471c2e0980493014f663e97002a958eb91f40c5636a6af230bb0ef1aa83b886f", func := "palio/paliolaw03.FrameLists", spec := "frameLists", inPlace := ["internal/bytealg.IndexByteString", "internal/bytealg.IndexString", "internal/reflectlite.TypeOf"], unfollowed := true, recurses := true, named := ["palio/frame.errMore", "palio/frame.errWrong", "internal/bytealg.MaxLen"], loops := true, apart := false, laid := [("palio/frame.errWrong", laid_palio_frame_errWrong), ("palio/frame.errMore", laid_palio_frame_errMore)], narrowed := true }
def FrameListsUptoSaid : Prop := frameListsUptoRow.holds Tryd.pinned (OpenSpec.upto frameListsSpec)

end Rows
end Go.Proofs.YtjcgfbmkgfhnaaaDoor
