/- Texts of one kind in one: ErReflect, ErAs, SpErr, ZRange, ZVals. -/
import Derived.Test.YtlckdfoflimahaaGreatDoorRows
import Derived.WalkKit
import Derived.WalkSpells
import Derived.WalkLawsBesides
import Derived.LoopNIn
import Derived.Lib.Hide
import Derived.Shelf.Abstract
import Derived.Handy
import Derived.LaidEql
import Derived.Stop.Asserts
import Derived.RowKitTokens
import Derived.RangeFuncBox
import Derived.Test.YtlckdfoflimahaaGreatDoorQSpMath24
import Derived.RangeFuncNested
import Derived.RangeFuncBound
import Derived.RangeFuncCalls
import Derived.RangeFuncLeaves
import Derived.RangeFuncFrom
import Derived.Shelf.RegionOpen
import Derived.OwnWalkIn
import Derived.TacticsInMore
import Derived.LoopIn
import Derived.Deep.RegionWith
import Derived.Deep.QuietTactic
import Derived.BigQuiet
import Derived.BigRegion
import Derived.WalkSmall
import Derived.WalkMore
import Derived.IntWalk
import Derived.Test.YtlckdfoflimahaaGreatDoorQZAdd19
set_option maxRecDepth 200000
set_option maxHeartbeats 8000000
namespace Go.Proofs.YtlckdfoflimahaaGreatDoor.Er
open Go.RowKit Go.Extern.Stop Go.Stop Go.Extern
abbrev rv (t:Nat) (a:Addr) (fl:Int):Value:=.agg #[.pointer (some ⟨3,t,none⟩),.pointer (some a),.int .u64 fl]
abbrev rt (t:Nat):Value:=.agg #[.pointer (some ⟨3,t,none⟩)]
theorem valueOf62(t:Addr)(w:World):(ReflectliteValue.unpack (.iface 195 (.pointer (some t)))).run Tryz.prog w=.ok (rv 195 ⟨w.heap.size,0,none⟩ 150) (w.alloc (.cells #[.pointer (some t)] 195)):=by kernel_rfl
theorem valueOf60(n:Int)(w:World):(ReflectliteValue.unpack (.iface 193 (.int .i64 n))).run Tryz.prog w=.ok (rv 193 ⟨w.heap.size,0,none⟩ 130) (w.alloc (.cells #[.int .i64 n] 193)):=by kernel_rfl
theorem type62 (a : Addr) (w : World) : (ReflectliteValue.methodAny (ReflectliteValue.valueError "reflectlite.Value.Type" 0) (fun t _ _ _ => ReflectliteType.toType t) #[rv 195 a 150]).run Tryz.prog w = .ok (.iface 215 (rt 195)) w := by kernel_rfl
theorem methodKind (h : Value) (w : World) : (Go.method 525 215 (.agg #[h]) "Kind").run Tryz.prog w = .ok (291, h) w := by kernel_rfl
theorem methodElem (h : Value) (w : World) : (Go.method 525 215 (.agg #[h]) "Elem").run Tryz.prog w = .ok (345, .agg #[h]) w := by kernel_rfl
theorem methodImplements (h : Value) (w : World) : (Go.method 525 215 (.agg #[h]) "Implements").run Tryz.prog w = .ok (346, .agg #[h]) w := by kernel_rfl
theorem methodAssignableTo (h : Value) (w : World) : (Go.method 525 215 (.agg #[h]) "AssignableTo").run Tryz.prog w = .ok (344, .agg #[h]) w := by kernel_rfl
theorem kindOf62(w:World):((ReflectliteType.abiMethod fun t=>(fun a:Nat=>Value.int IntKind.u8 (a:Int)) <$> Rtype.kind t) #[.pointer (some ⟨3,195,none⟩)]).run Tryz.prog w=.ok (.int .u8 22) w:=by kernel_rfl
theorem kindOf60(w:World):((ReflectliteType.abiMethod fun t=>(fun a:Nat=>Value.int IntKind.u8 (a:Int)) <$> Rtype.kind t) #[.pointer (some ⟨3,193,none⟩)]).run Tryz.prog w=.ok (.int .u8 2) w:=by kernel_rfl
theorem elemOf62(w:World):(ReflectliteType.method ReflectliteType.elem #[rt 195]).run Tryz.prog w=.ok (.iface 215 (rt 193)) w:=by kernel_rfl
theorem implements60 (w : World) : (ReflectliteType.relation "Implements" ReflectliteType.implements_ #[rt 193, .iface 215 (rt 125)]).run Tryz.prog w = .ok (.bool true) w := by kernel_rfl
theorem typeOf60(v:Value)(w:World):(ReflectliteType.typeOf #[.iface 193 v]).run Tryz.prog w=.ok (.iface 215 (rt 193)) w:=by kernel_rfl
theorem assignable60 (w : World) : (ReflectliteType.relation "AssignableTo" ReflectliteType.assignableTo #[rt 193, .iface 215 (rt 193)]).run Tryz.prog w = .ok (.bool true) w := by kernel_rfl
theorem parts62(a:Addr)(w:World):(ReflectliteValue.parts (rv 195 a 150)).run Tryz.prog w=.ok (some (195,a,150)) w:=by kernel_rfl
theorem parts60(a:Addr)(w:World):(ReflectliteValue.parts (rv 193 a 130)).run Tryz.prog w=.ok (some (193,a,130)) w:=by kernel_rfl
theorem parts60a(a:Addr)(w:World):(ReflectliteValue.parts (rv 193 a 386)).run Tryz.prog w=.ok (some (193,a,386)) w:=by kernel_rfl
theorem rtElem62(w:World):(Rtype.elem? 195).run Tryz.prog w=.ok (some 193) w:=by kernel_rfl
theorem mk60(p:Addr)(w:World):(ReflectliteValue.mk 193 p ReflectliteValue.flagAddr).run Tryz.prog w=.ok (rv 193 p 386) w:=by kernel_rfl
theorem direct60(w:World):(Rtype.directlyAssignable 193 193).run Tryz.prog w=.ok true w:=by kernel_rfl
theorem isNil62(a p:Addr)(W:World)(ha:W.cell? a=some (.pointer (some p))) :
   (ReflectliteValue.method (ReflectliteValue.valueError "reflectlite.Value.IsNil" 0) ReflectliteValue.isNil #[rv 195 a 150]).run Tryz.prog W = .ok (.bool false) W := by
 change (ReflectliteValue.parts (rv 195 a 150) >>= _).run Tryz.prog W=_
 simp only [Sem.run_bind,parts62,Result.andThen]
 simp [ReflectliteValue.isNil,loadVar,isAgg,underlying,Tryz.underlying195,ha,Result.andThen]
theorem elemV62(a p:Addr)(W:World)(ha:W.cell? a=some (.pointer (some p))) :
   (ReflectliteValue.method (ReflectliteValue.valueError "reflectlite.Value.Elem" 0) ReflectliteValue.elem #[rv 195 a 150]).run Tryz.prog W = .ok (rv 193 p 386) W := by
 change (ReflectliteValue.parts (rv 195 a 150) >>= _).run Tryz.prog W=_
 simp only [Sem.run_bind,parts62,Result.andThen]
 simp [ReflectliteValue.elem,loadVar,isAgg,underlying,Tryz.underlying195,ha,Result.andThen,rtElem62,mk60]
theorem set60(ta b:Addr)(n:Int)(old:Value)(W:World)(hb:W.cell? b=some (.int .i64 n))(ht:W.cell? ta=some old)(hf:W.frozen? ta=false) :
   (ReflectliteValue.set #[rv 193 ta 386,rv 193 b 130]).run Tryz.prog W=.ok (.tuple #[]) (W.setCell ta (.int .i64 n)):=by
 change (ReflectliteValue.parts (rv 193 ta 386) >>= fun p=>ReflectliteValue.parts (rv 193 b 130) >>= _).run Tryz.prog W=_
 simp only [Sem.run_bind,parts60a,parts60,Result.andThen]
 simp [ReflectliteValue.flagAddr,loadVar,isAgg,underlying,Tryz.underlying193,hb,Result.andThen,direct60,storeVar,Value.cells,storeCells,Addr.add]
 rw [run_store Tryz.prog W ta _ _ (by rfl)]
 simp [ht,hf]
theorem as_nil(t:Value)(w:World):Calls Tryz.prog 115 #[.nilIface,t] w fun e w'=>e=.returned (.bool false)∧w'=w:=by
 go_enter Tryz.func115,Tryz.ntmps115
 go_wp2
 go_ret
 exact ⟨rfl,rfl⟩
theorem grown_set(w:World)(b:Nat)(o:Nat)(v:Value):w.grownBy (w.setCell ⟨b,o,none⟩ v) (some b) :=
 ⟨rfl,rfl,rfl,by simp [World.setCell],fun k _ hk=>Below.heap_setCell _ _ _ k (fun e=>hk (by rw [e]))⟩
theorem as_fault(n:Int)(tb:Nat)(old:Value)(w:World)(hg:w.cell? ⟨0,0,none⟩=some (.iface 215 (rt 125)))(hb:Boxed w tb 193 old) :
   Calls Tryz.prog 115 #[.iface 193 (.int .i64 n),.iface 195 (.pointer (some ⟨tb,0,none⟩))] w fun e w'=>e=.returned (.bool true)∧w.grownBy w' (some tb)∧Boxed w' tb 193 (.int .i64 n):=by
 have h28:=@run_callFunc_extern Tryz.prog 103 _ (fun args=>ReflectliteValue.unpack (args.getD 0 (.tuple #[]))) Tryz.func103 (by kernel_rfl) (by kernel_rfl) (by kernel_rfl) (by kernel_rfl)
 have h29 := @run_callFunc_extern Tryz.prog 162 _ (ReflectliteValue.methodAny (ReflectliteValue.valueError "reflectlite.Value.Type" 0) (fun t _ _ _ => ReflectliteType.toType t)) Tryz.func162 (by kernel_rfl) (by kernel_rfl) (by kernel_rfl) (by kernel_rfl)
 have h30 := @run_callFunc_extern Tryz.prog 163 _ (ReflectliteValue.method (ReflectliteValue.valueError "reflectlite.Value.IsNil" 0) ReflectliteValue.isNil) Tryz.func163 (by kernel_rfl) (by kernel_rfl) (by kernel_rfl) (by kernel_rfl)
 have h66:=@run_callFunc_extern Tryz.prog 291 _ (ReflectliteType.abiMethod fun t=>do pure (.int .u8 (← Rtype.kind t))) Tryz.func291 (by kernel_rfl) (by kernel_rfl) (by kernel_rfl) (by kernel_rfl)
 have h92:=@run_callFunc_extern Tryz.prog 345 _ (ReflectliteType.method ReflectliteType.elem) Tryz.func345 (by kernel_rfl) (by kernel_rfl) (by kernel_rfl) (by kernel_rfl)
 have h93 := @run_callFunc_extern Tryz.prog 346 _ (ReflectliteType.relation "Implements" ReflectliteType.implements_) Tryz.func346 (by kernel_rfl) (by kernel_rfl) (by kernel_rfl) (by kernel_rfl)
 have h38:=@run_callFunc_extern Tryz.prog 197 _ ReflectliteType.typeOf Tryz.func197 (by kernel_rfl) (by kernel_rfl) (by kernel_rfl) (by kernel_rfl)
 have h90 := @run_callFunc_extern Tryz.prog 344 _ (ReflectliteType.relation "AssignableTo" ReflectliteType.assignableTo) Tryz.func344 (by kernel_rfl) (by kernel_rfl) (by kernel_rfl) (by kernel_rfl)
 have h39 := @run_callFunc_extern Tryz.prog 198 _ (ReflectliteValue.method (ReflectliteValue.valueError "reflectlite.Value.Elem" 0) ReflectliteValue.elem) Tryz.func198 (by kernel_rfl) (by kernel_rfl) (by kernel_rfl) (by kernel_rfl)
 have h40:=@run_callFunc_extern Tryz.prog 199 _ ReflectliteValue.set Tryz.func199 (by kernel_rfl) (by kernel_rfl) (by kernel_rfl) (by kernel_rfl)
 have a1:=valueOf62
 have a2:=type62
 have a3:=methodKind
 have a4:=methodElem
 have a5:=methodImplements
 have a6:=methodAssignableTo
 have a7:=kindOf62
 have a8:=kindOf60
 have a9:=elemOf62
 have a10:=implements60
 have a11:=typeOf60
 have a12:=assignable60
 have a13:=valueOf60 n
 have htl:=hb.lt
 have hb1:=hb.alloc (Obj.cells #[.pointer (some ⟨tb,0,none⟩)] 195)
 have hb2:=hb1.alloc (Obj.cells #[.pointer (some ⟨3,195,none⟩),.pointer (some ⟨w.heap.size,0,none⟩),.int .u64 150] 173)
 have n30:=isNil62 ⟨w.heap.size,0,none⟩ ⟨tb,0,none⟩ ((w.alloc (.cells #[.pointer (some ⟨tb,0,none⟩)] 195)).alloc (.cells #[.pointer (some ⟨3,195,none⟩),.pointer (some ⟨w.heap.size,0,none⟩),.int .u64 150] 173)) (by simp)
 have hlt:0<w.heap.size:=World.block_lt_of_cell? _ _ hg
 have hg2:((w.alloc (.cells #[.pointer (some ⟨tb,0,none⟩)] 195)).alloc (.cells #[.pointer (some ⟨3,195,none⟩),.pointer (some ⟨w.heap.size,0,none⟩),.int .u64 150] 173)).cell? ⟨0,0,none⟩=some (.iface 215 (rt 125)):=by
   rw [World.cell?_alloc_lt _ _ ⟨0,0,none⟩ (by simp),World.cell?_alloc_lt _ _ ⟨0,0,none⟩ hlt];exact hg
 have el:=elemV62 ⟨w.heap.size,0,none⟩ ⟨tb,0,none⟩ (((w.alloc (.cells #[.pointer (some ⟨tb,0,none⟩)] 195)).alloc (.cells #[.pointer (some ⟨3,195,none⟩),.pointer (some ⟨w.heap.size,0,none⟩),.int .u64 150] 173)).alloc (.cells #[.pointer (some ⟨3,195,none⟩),.pointer (some ⟨w.heap.size,0,none⟩),.int .u64 150] 173)) (by rw [World.cell?_alloc_lt _ _ ⟨w.heap.size,0,none⟩ (by simp;omega)];simp)
 have hb3:=(hb2.alloc (Obj.cells #[.pointer (some ⟨3,195,none⟩),.pointer (some ⟨w.heap.size,0,none⟩),.int .u64 150] 173)).alloc (Obj.cells #[.int .i64 n] 193)
 have st:=set60 ⟨tb,0,none⟩ ⟨w.heap.size+1+1+1,0,none⟩ n old ((((w.alloc (.cells #[.pointer (some ⟨tb,0,none⟩)] 195)).alloc (.cells #[.pointer (some ⟨3,195,none⟩),.pointer (some ⟨w.heap.size,0,none⟩),.int .u64 150] 173)).alloc (.cells #[.pointer (some ⟨3,195,none⟩),.pointer (some ⟨w.heap.size,0,none⟩),.int .u64 150] 173)).alloc (.cells #[.int .i64 n] 193))
   (by rw [World.cell?_alloc_at _ _ _ _ (by simp)];rfl) hb3.cell hb3.frozen
 have HB:=Lib.hid hb3
 clear hb hb1 hb2 hb3
 go_enter Tryz.func115,Tryz.ntmps115
 go_wp2
 refine wp_loop_rounds 1 ?_
 rw [rounds_succ]
 go_wp2
 go_ret
 refine ⟨rfl,?_,Boxed.set _ HB.out⟩
 exact (((((World.grownBy_alloc w _ _).trans (World.grownBy_alloc _ _ _)).trans (World.grownBy_alloc _ _ _)).trans (World.grownBy_alloc _ _ _))).trans (grown_set _ _ _ _)
end Go.Proofs.YtlckdfoflimahaaGreatDoor.Er
namespace Go.Proofs.YtlckdfoflimahaaGreatDoor
open Go.RowKit Go.Shelf Sk
attribute [local go_sem] Oper.semAt_some
def EnvE(W:World):Prop:=W.cell? ⟨0,0,none⟩=some (.iface 215 (Er.rt 125))
theorem EnvE.lt{W:World}(h:EnvE W):0<W.heap.size:=World.block_lt_of_cell? _ _ h
theorem EnvE.below{W W':World}{B:Nat}(h:EnvE W)(hb:Below B W W')(hB:0<B):EnvE W':=by
 unfold EnvE at *
 exact (hb.cell (p:=⟨0,0,none⟩) hB).trans h
theorem EnvE.later{W W':World}(h:EnvE W)(hb:Below W.heap.size W W'):EnvE W':=h.below hb h.lt
def faultV(n:Int):Value:=.iface 193 (.int .i64 n)
theorem number_nil(w:World):Calls Tryz.prog 73 #[.nilIface] w fun e w'=>e=.returned (.int .i64 0)∧Below w.heap.size w w':=by
 have HA:=fun t W=>Lib.hid (Er.as_nil t W)
 go_enter Tryz.func73,Tryz.ntmps73
 go_wp2_with fail
 refine (HA _ _).out.mono ?_
 rintro e w1 ⟨rfl,rfl⟩
 go_wp2
 go_ret
 exact ⟨rfl,alloc_below _ _⟩
theorem number_fault(n:Int)(w:World)(hE:EnvE w):Calls Tryz.prog 73 #[faultV n] w fun e w'=>e=.returned (.int .i64 n)∧Below w.heap.size w w':=by
 have hb0:=alloc_below w (.cells #[.int .i64 0] 193)
 have HA:=Lib.hid (Er.as_fault n w.heap.size (.int .i64 0) (w.alloc (.cells #[.int .i64 0] 193)) (hE.later hb0) (Blk.new w _ _))
 unfold faultV
 clear hE
 go_enter Tryz.func73,Tryz.ntmps73
 go_wp2_with fail
 refine HA.out.mono ?_
 rintro e w1 ⟨rfl,hg,hB⟩
 have h1:=(show Blk w1 w.heap.size 193 #[.int .i64 n] from hB).cell 0
 simp at h1
 have hbw:Below w.heap.size w w1:=⟨hg.os.trans hb0.os,hg.tape.trans hb0.tape,hg.output.trans hb0.output,Nat.le_trans hb0.size hg.size,fun k hk=>(hg.block k (Nat.lt_of_lt_of_le hk hb0.size) (fun e=>by injection e with e;omega)).trans (hb0.block k hk)⟩
 have HB:=Lib.hid hbw
 clear hg hB hbw hb0 HA
 go_wp2
 go_ret
 exact ⟨rfl,HB.out⟩
def errV(n:Int):Value:=if n=0 then .nilIface else faultV n
theorem number_any(n:Int)(w:World)(hE:EnvE w):Calls Tryz.prog 73 #[errV n] w fun e w'=>e=.returned (.int .i64 n)∧Below w.heap.size w w':=by
 unfold errV
 split
 · rename_i h;subst h;exact number_nil w
 · exact number_fault n w hE
theorem named_any(k:ByteArray)(hk:k.size≤281474976710656)(w:World):Calls Tryz.prog 75 #[.string k] w fun e w'=>e=.returned (errV (if 64<k.size then 140 else 0))∧w'=w:=by
 by_cases h:64<k.size
 · rw [if_pos h]
   have h2:(64:Int)<k.size:=by omega
   clear h
   go_enter Tryz.func75,Tryz.ntmps75
   go_wp2
   go_ret
   exact ⟨rfl,rfl⟩
 · rw [if_neg h]
   have h2:¬ (64:Int)<k.size:=by omega
   clear h
   go_enter Tryz.func75,Tryz.ntmps75
   go_wp2
   go_ret
   exact ⟨rfl,rfl⟩
end Go.Proofs.YtlckdfoflimahaaGreatDoor
namespace Go.Proofs.YtlckdfoflimahaaGreatDoor.Zr
open Go.RowKit Go.Shelf
attribute [local go_sem] Oper.semAt_some
theorem heap_at{w:World}{o:Obj}{k:Nat}(h:k=w.heap.size):(w.alloc o).heap[k]?=some o:=by subst h;exact heap_alloc_new w o
def itT(t:TypeId):Prop:=t=55∨t=117∨t=102∨t=108
structure KeepC (L:List Nat) (A B:World):Prop where
 size:A.heap.size≤B.heap.size
 same:∀ (k:Nat) (c:Array Value) (t:TypeId),k ∉ L→itT t→A.heap[k]?=some (.cells c t (0,0))→B.heap[k]?=some (.cells c t (0,0))
theorem KeepC.refl(L:List Nat)(A:World):KeepC L A A:=⟨Nat.le_refl _,fun _ _ _ _ _ h=>h⟩
theorem KeepC.trans{L:List Nat}{A B C:World}(h:KeepC L A B)(g:KeepC L B C):KeepC L A C:=⟨Nat.le_trans h.size g.size,fun k c t hk hc ho=>g.same k c t hk hc (h.same k c t hk hc ho)⟩
theorem KeepC.of_below{L:List Nat}{A B:World}(h:Below A.heap.size A B):KeepC L A B:=⟨h.size,fun k _ _ _ _ ho=>(h.block k (Array.getElem?_eq_some_iff.1 ho).1).trans ho⟩
theorem KeepC.put{L:List Nat}(W:World)(l:Nat)(o o':Obj)(hl:W.heap[l]?=some o)(hc:o.isCells=false):KeepC L W (W.putObj l o') :=
 ⟨by simp [World.putObj],fun k c t _ _ hk=>by
   by_cases e:k=l
   · subst e;rw [hl] at hk;cases hk;cases hc
   · exact (World.putObj_heap_other e).trans hk⟩
theorem KeepC.set{L:List Nat}(W:World)(b o:Nat)(v:Value)(hb:b∈L):KeepC L W (W.setCell ⟨b,o,none⟩ v) :=
 ⟨by simp [World.setCell],fun k c t hk _ hx=>(Below.heap_setCell _ _ _ k (fun e=>hk (by rw [e];exact hb))).trans hx⟩
theorem KeepC.of_grownBy{L:List Nat}{A B:World}{row:Option Nat}(h:A.grownBy B row)(hr:∀ k c t,row=some k→A.heap[k]?=some (.cells c t (0,0))→¬ itT t):KeepC L A B :=
 ⟨h.size,fun k c t _ ht hk=>by
   by_cases e:some k=row
   · exact absurd ht (hr k c t e.symm hk)
   · exact (h.block k (Array.getElem?_eq_some_iff.1 hk).1 e).trans hk⟩
def Abides(J:Nat→World→Prop):Prop:=∀ i A B,J i A→Below A.heap.size A B→J i B
def RoundX(L:List Nat)(J Jx:Nat→World→Prop)(i:Nat)(W:World)(e:Ending)(W':World):Prop :=
 (e=.returned (.bool true)∧J (i+1) W'∧KeepC L W W')∨(e=.returned (.bool false)∧Jx (i+1) W')
def SeqX{α:Type}(P:Program)(g:Nat)(lb:Array Value)(encs:Nat→α→Array Value)(xs:List α)(L:List Nat)(w:World):Prop :=
 ∀ (l:Nat) (J Jx:Nat→World→Prop) (W:World),Below w.heap.size w W→Abides J→Abides Jx →
   (∀ i x W1,xs[i]?=some x→J i W1→YieldAt Fence.wide 4 P l (encs i x) W1 (RoundX L J Jx i W1))→J 0 W →
   CallsIn Fence.wide 5 P g (#[.func (.yield l) #[] #[]]++lb) W fun e W'=>(∃ v,e=.returned v)∧(J xs.length W'∨∃ i,Jx i W')
def bodyX(B:Nat)(L:List Nat)(I:Nat→World→Prop)(Ix:Code→Nat→World→Prop)(i:Nat)(W:World):Exit→Act→World→Prop
 | .normal,_,W'=>KeepsFrom B W W'∧KeepC L W W'∧I (i+1) W'
 | .ret,_,W'=>KeepsFrom B W W'∧Ix .ret (i+1) W'
 | .exit id,_,W'=>KeepsFrom B W W'∧Ix (.exit id) (i+1) W'
 | _,_,_=>False
theorem below_grown{A B:World}(h:Below A.heap.size A B):A.grownBy B none:=⟨h.os,h.tape,h.output,h.size,fun q hq _=>h.block q hq⟩
theorem range_x{α:Type}{P:Program}{g:Operand}{ps:Array Tmp}{assign body:Code}{Q:Exit→Act→World→Prop}{a:Act}{w:World}
   {gf:Nat} {lb:Array Value} (hg:a.eval g=.func (.func gf) #[] lb) (eg:∀ args w,(callFunc gf args).run P w=.ok (.enter gf args) w)
   {encs:Nat→α→Array Value} {xs:List α} {L:List Nat} (hseq:SeqX P gf lb encs xs L w) (hps:∀ i x,(encs i x).size=ps.size)
   (I:Nat→World→Prop) (Ix:Code→Nat→World→Prop) (hI:OwnFrom w.heap.size I) (hIx:∀ c,OwnFrom w.heap.size (Ix c)) (h0:I 0 w)
   (Ax:Nat→α→Act→World→Prop) (hAx:∀ i x a',OwnFrom w.heap.size (fun (_:Unit) W=>Ax i x a' W))
   (hassign:∀ (l i:Nat) (x:α) (W:World) (K:Act→World→Prop),xs[i]?=some x→I i W→(∀ a' W',KeepsFrom w.heap.size W W'→KeepC L W W'→I i W'→Ax i x a' W'→K a' W') →
     assign.wpIn (Fence.wide.inRound l) 4 P (Exit.then K (fun _ _ _=>False)) { tmps:=(ps.zip (encs i x)).foldl (fun t (p,v)=>t.setIfInBounds p v) a.tmps,defers:=[] } W)
   (hbody:∀ (l i:Nat) (x:α) (a':Act) (W:World),xs[i]?=some x→I i W→Ax i x a' W→body.wpIn (Fence.wide.inRound l) 4 P (bodyX w.heap.size L I Ix i W) a' W)
   (hdone:∀ (D:Nat) (W:World),w.heap.size≤D→I xs.length W→W.heap[D]?=some (.deferred (some []))→Q .normal { a with defers:={ target:=.collected D,args:=#[] } :: a.defers } W)
   (hstop:∀ (D:Nat) (c:Code) (i:Nat) (W:World),w.heap.size≤D→Ix c i W→W.heap[D]?=some (.deferred (some []))→c.wpIn Fence.wide 6 P Q { a with defers:={ target:=.collected D,args:=#[] } :: a.defers } W) :
   (Code.rangeFunc g ps assign body).wpIn Fence.wide 6 P Q a w:=by
 refine wpIn_rangeFunc ?_
 intro fn hfn
 obtain ⟨rc,hrc⟩:∃ rc:LoopState→Option Code→Loop,rc=fun st pe=>{ state:=st,pending:=pe,fn,tmps:=a.tmps,params:=ps,assign,body,defers:=w.heap.size }:=⟨_,rfl⟩
 obtain ⟨W1,hW1⟩:∃ W1,(w.alloc (.deferred (some []))).alloc (.loop (rc .ready none))=W1:=⟨_,rfl⟩
 have hL1:W1.heap[w.heap.size+1]?=some (.loop (rc .ready none)):=by rw [← hW1];exact heap_at (by simp)
 have hK1:W1.heap[w.heap.size]?=some (.deferred (some [])):=by rw [← hW1];exact (Below.heap_alloc _ _ _ (by simp)).trans (heap_at rfl)
 have hI1:I 0 W1:=by rw [← hW1];exact hI.alloc _ (hI.alloc _ h0)
 have hb1:Below w.heap.size w W1:=by rw [← hW1];exact ((Below.refl _ w).alloc (Nat.le_refl _) _).alloc (by simp) _
 have hIb:Abides I:=fun i A B hA hB=>hI i A B none hA (below_grown hB) (fun r e=>by cases e)
 have hIxb:∀ c,Abides (Ix c):=fun c i A B hA hB=>hIx c i A B none hA (below_grown hB) (fun r e=>by cases e)
 refine ⟨w.heap.size+1,[{ target:=.collected w.heap.size,args:=#[] }],W1,{ target:=.fn (.func gf) lb,args:=#[.func (.yield (w.heap.size+1)) #[] #[]] },W1,gf,
   #[.func (.yield (w.heap.size+1)) #[] #[]]++lb,W1,?_,?_,?_,?_,fun _=>by decide,?_⟩
 · rw [← hW1,hrc];exact run_enterLoop_outer _ _ _ _ _
 · simp only [resolve,hg]
   simp [go_sem]
 · intro f' _;trivial
 · simp [invoke,go_sem,eg]
 · have keep:∀ {A B:World} {k:Nat} {o:Obj},Below A.heap.size A B→A.heap[k]?=some o→B.heap[k]?=some o:=fun hb hk=>(hb.block _ (Array.getElem?_eq_some_iff.1 hk).1).trans hk
   refine (hseq (w.heap.size+1)
     (fun i W=>I i W∧W.heap[w.heap.size+1]?=some (.loop (rc .ready none))∧W.heap[w.heap.size]?=some (.deferred (some [])))
     (fun i W=>∃ c,Ix c i W∧W.heap[w.heap.size+1]?=some (.loop (rc .done (some c)))∧W.heap[w.heap.size]?=some (.deferred (some [])))
     W1 hb1
     (fun i A B hs hb=>⟨hIb i A B hs.1 hb,keep hb hs.2.1,keep hb hs.2.2⟩)
     (fun i A B hs hb=>by obtain ⟨c,h1,h2,h3⟩:=hs;exact ⟨c,hIxb c i A B h1 hb,keep hb h2,keep hb h3⟩)
     ?_ ⟨hI1,hL1,hK1⟩).mono ?_
   · rintro i x W hx ⟨hi,hl,hk⟩
     have hy:=run_yield (P:=P) (args:=encs i x) hl (by rw [hrc];exact hps i x)
     rw [hrc] at hy
     refine ⟨fn,_,assign,body,hy,roundIn_of_wpIn hfn (hassign _ i x W _ hx hi ?_)⟩
     clear hy
     intro a' Wa hkfa hkpa hia hax
     have hla:=hkfa.same _ _ (by omega) hl rfl
     have hka:=hkfa.same _ _ (Nat.le_refl _) hk rfl
     have hlt:w.heap.size+1<Wa.heap.size:=(Array.getElem?_eq_some_iff.1 hla).1
     refine ⟨_,run_beginRound hla (by rw [hrc]),?_⟩
     have hl2:(Wa.putObj (w.heap.size+1) (.loop { rc .ready none with state:=.busy })).heap[w.heap.size+1]?=some (.loop { rc .ready none with state:=.busy }):=World.putObj_heap_same hlt
     have hk2:(Wa.putObj (w.heap.size+1) (.loop { rc .ready none with state:=.busy })).heap[w.heap.size]?=some (.deferred (some [])):=(World.putObj_heap_other (by omega)).trans hka
     have hw2:KeepC L Wa (Wa.putObj (w.heap.size+1) (.loop { rc .ready none with state:=.busy })):=KeepC.put _ _ _ _ hla rfl
     refine wpIn_mono (hbody _ i x a' _ hx (hI.putObj _ hia (by omega) hla rfl) ((hAx i x a').putObj (s:=()) _ hax (by omega) hla rfl)) ?_
     have fin:∀ (jump:Option Code) (W3:World),KeepsFrom w.heap.size (Wa.putObj (w.heap.size+1) (.loop { rc .ready none with state:=.busy })) W3 →
         (Instr.endRound (w.heap.size+1) jump).run P W3=.ok (.bool jump.isNone) (W3.putObj (w.heap.size+1) (.loop (rc (if jump.isNone then .ready else .done) jump))) ∧
         W3.heap[w.heap.size+1]?=some (.loop { rc .ready none with state:=.busy }) ∧
         (W3.putObj (w.heap.size+1) (.loop (rc (if jump.isNone then .ready else .done) jump))).heap[w.heap.size+1]?=some (.loop (rc (if jump.isNone then .ready else .done) jump)) ∧
         (W3.putObj (w.heap.size+1) (.loop (rc (if jump.isNone then .ready else .done) jump))).heap[w.heap.size]?=some (.deferred (some [])):=fun jump W3 hk3=>by
       have hl3:=hk3.same _ _ (by omega) hl2 rfl
       have:=run_endRound (P:=P) jump hl3
       rw [hrc] at this ⊢
       exact ⟨this,by rw [hrc] at hl3;exact hl3,World.putObj_heap_same (Array.getElem?_eq_some_iff.1 hl3).1,(World.putObj_heap_other (by omega)).trans (hk3.same _ _ (Nat.le_refl _) hk2 rfl)⟩
     rintro e a3 W3 hp
     cases e with
     | normal =>
       obtain ⟨hk3,hkp3,hi3⟩:=hp
       obtain ⟨hr,hl3,hl4,hk4⟩:=fin none W3 hk3
       exact ⟨_,_,hr,.inl ⟨rfl,⟨hI.putObj _ hi3 (by omega) hl3 rfl,hl4,hk4⟩,hkpa.trans ((hw2.trans hkp3).trans (KeepC.put _ _ _ _ hl3 rfl))⟩⟩
     | ret =>
       obtain ⟨hk3,hi3⟩:=hp
       obtain ⟨hr,hl3,hl4,hk4⟩:=fin (some .ret) W3 hk3
       exact ⟨_,_,hr,.inr ⟨rfl,.ret,(hIx _).putObj _ hi3 (by omega) hl3 rfl,hl4,hk4⟩⟩
     | exit id =>
       obtain ⟨hk3,hi3⟩:=hp
       obtain ⟨hr,hl3,hl4,hk4⟩:=fin (some (.exit id)) W3 hk3
       exact ⟨_,_,hr,.inr ⟨rfl,.exit id,(hIx _).putObj _ hi3 (by omega) hl3 rfl,hl4,hk4⟩⟩
     | goto t=>exact hp.elim
     | panic ch=>exact hp.elim
     | outgrown=>exact hp.elim
   · rintro e W2 ⟨⟨v,rfl⟩,(⟨hi,hl,hk⟩|⟨i,c,hi,hl,hk⟩)⟩
     · exact ⟨none,_,by have:=run_endLoop (P:=P) hl (by rw [hrc];simp);rw [hrc] at this;exact this,hdone _ _ (Nat.le_refl _) (hI.putObj _ hi (by omega) hl rfl) ((World.putObj_heap_other (by omega)).trans hk)⟩
     · exact ⟨some c,_,by have:=run_endLoop (P:=P) hl (by rw [hrc];simp);rw [hrc] at this;exact this,hstop _ c i _ (Nat.le_refl _) ((hIx c).putObj _ hi (by omega) hl rfl) ((World.putObj_heap_other (by omega)).trans hk)⟩
theorem leave{fn:Func}{R:Ending→World→Prop}{a:Act}{W:World}{D:Nat}{v:Value}(hd:a.defers=[{ target:=.collected D,args:=#[] }])(hD:W.heap[D]?=some (.deferred (some [])))
   (hr:(results fn a.tmps).run Tryz.prog (W.putObj D (.deferred none))=.ok v (W.putObj D (.deferred none))) (hR:R (.returned v) (W.putObj D (.deferred none))):bodyPostM Fence.wide 6 Tryz.prog fn R .ret a W:=by
 obtain ⟨tmps,ds⟩:=a
 simp only at hd
 subst hd
 exact ⟨by simp,.inl ⟨_,_,rfl,run_takeDeferred hD,⟨v,hr,hR⟩⟩⟩
end Go.Proofs.YtlckdfoflimahaaGreatDoor.Zr
namespace Go.Proofs.YtlckdfoflimahaaGreatDoor
open Go.RowKit Go.Shelf Sk
attribute [local go_sem] Oper.semAt_some
def encE(_:Nat)(e:En):Array Value:=#[.agg #[.string e.1,.int .i64 e.2]]
theorem Row.keepc{W W':World}{n0:Nat}{v:Value}{l:List En}{L:List Nat}(h:Row W n0 v l)(hk:Zr.KeepC L W W')(hL:∀ k∈L,k<n0):Row W' n0 v l :=
 ⟨h.form,fun i e he=>by
   obtain ⟨b,off,c,cur,h1,h2,h3,h4,h5⟩:=h.at' i e he
   have h6:Blk W' b 117 cur:=hk.same b cur 117 (fun hb=>by have:=hL b hb;omega) (.inr (.inl rfl)) h3
   refine ⟨b,off,c,cur,h1,h2,h6,?_,?_⟩
   · rw [h6.cell,← h3.cell];exact h4
   · rw [h6.cell,← h3.cell];exact h5⟩
theorem vals_any(E:List En)(hl:E.length≤1000000000)(r:Value)(n0 bx:Nat)(L:List Nat)(w:World)(hr:Row w n0 r E)(hL:∀ k∈L,k<n0)(h1:Blk w bx 55 #[r]) :
   Zr.SeqX Tryz.prog 220 #[.pointer (some ⟨bx,0,none⟩)] encE E L w:=by
 intro y J Jx W hW hJ hJx hY hJ0
 have k1:=h1.later hW
 have hr1:=hr.later hW
 obtain ⟨a,c,rfl⟩:=hr.form
 refine callsIn_of_wp Tryz.func220 rfl trivial ?_ rfl
 simp only [Tryz.ntmps220,List.size_toArray,List.length_cons,List.length_nil,Nat.reduceAdd,Nat.reduceSub,Array.replicate_succ,Array.replicate_zero,List.push_toArray,List.append_toArray,List.nil_append,List.cons_append]
 have HY:=Lib.hid hY
 have a0:=k1.cell 0
 simp at a0
 have HR1:=Lib.hid hr1
 clear hY hr hr1 h1 k1
 gi_wp2
 gi_loopw [7] (fun s wr=>∃ (i:Nat),s=.int .i64 i∧i≤E.length∧J i wr∧Row wr n0 (.slice a E.length c) E)
   (fun s _=>E.length-(intOf s).toNat)
 case atStart=>exact ⟨0,rfl,by omega,hJ0,HR1.out⟩
 case round =>
   clear a0
   obtain ⟨i,rfl,hi,hJi,hrw⟩:=hrel
   by_cases hlt:i<E.length
   · have hx:E[i]?=some E[i]:=List.getElem?_eq_getElem hlt
     obtain ⟨b,off,c',cur,h1,h2,h3,h4,h5⟩:=hrw.at' i _ hx
     cases h1
     generalize E[i]=e at *
     obtain ⟨m,sc⟩:=e
     simp only at h4 h5
     have hlt2:(i:Int)<E.length:=by omega
     have hb6:Below wr.heap.size wr (wr.alloc (.cells #[.string m,.int .i64 sc] 117)):=(Below.refl _ _).alloc (Nat.le_refl _) _
     obtain ⟨fn,tmps,assign,body,hy,hR⟩:=HY.out i (m,sc) (wr.alloc (.cells #[.string m,.int .i64 sc] 117)) hx (hJ _ _ _ hJi hb6)
     unfold encE at hy
     simp only at hy
     have R6:=Lib.hid (hrw.later hb6)
     clear hx hrw hJi hb6 h3
     gi_wp2_with fail
     (try refine ⟨fun _=>by decide,?_⟩)
     refine hR.mono ?_
     rintro e W3 (⟨rfl,hJ3,hk3⟩|⟨rfl,hJx3⟩)
     · have R3:=Lib.hid (R6.out.keepc hk3 hL)
       clear hR hy hk3
       gi_wp2
       refine ⟨⟨i+1,by go_num,hlt,hJ3,R3.out⟩,?_⟩
       simp only [intOf]
       omega
     · gi_wp2
       exact bodyPost_ret (v:=.tuple #[]) (by simp [results,Tryz.results220,go_sem]) rfl ⟨⟨_,rfl⟩,.inr ⟨_,hJx3⟩⟩
   · obtain rfl:i=E.length:=by omega
     have hle:¬ ((E.length:Int)<E.length):=by omega
     have HJ:=Lib.hid hJi
     clear hrw hJi
     gi_wp2
     go_end0
     exact ⟨⟨_,rfl⟩,.inl HJ.out⟩
end Go.Proofs.YtlckdfoflimahaaGreatDoor
