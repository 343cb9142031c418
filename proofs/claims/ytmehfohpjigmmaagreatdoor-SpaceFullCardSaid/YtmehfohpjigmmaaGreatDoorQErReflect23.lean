/- Texts of one kind in one: ErReflect, ErAs, SpErr, ZRange, ZVals. -/
import Derived.Stop.Asserts
import Derived.Test.YtmehfohpjigmmaaGreatDoorQSpMath22
set_option maxRecDepth 200000
set_option maxHeartbeats 8000000
namespace Go.Proofs.YtmehfohpjigmmaaGreatDoor.Er
open Zc
open Go.RowKit Go.Extern.Stop Go.Stop Go.Extern
abbrev rv (t:Nat) (a:Addr) (fl:Int):Value:=.agg #[.pointer (some ⟨3,t,none⟩),.pointer (some a),.int .u64 fl]
abbrev rt (t:Nat):Value:=.agg #[.pointer (some ⟨3,t,none⟩)]
theorem z5q(t:Addr)(w:World):(ReflectliteValue.unpack (.iface 89 (.pointer (some t)))).run Tryz.prog w=.ok (rv 89 ⟨w.heap.size,0,none⟩ 150) (w.alloc (.cells #[.pointer (some t)] 89)):=by kernel_rfl
theorem z5p(n:Int)(w:World):(ReflectliteValue.unpack (.iface 85 (.int .i64 n))).run Tryz.prog w=.ok (rv 85 ⟨w.heap.size,0,none⟩ 130) (w.alloc (.cells #[.int .i64 n] 85)):=by kernel_rfl
theorem y3z (a : Addr) (w : World) : (ReflectliteValue.methodAny (ReflectliteValue.valueError "reflectlite.Value.Type" 0) (fun t _ _ _ => ReflectliteType.toType t) #[rv 89 a 150]).run Tryz.prog w = .ok (.iface 169 (rt 89)) w := by kernel_rfl
theorem z0j (h : Value) (w : World) : (Go.method 469 169 (.agg #[h]) "Kind").run Tryz.prog w = .ok (226, h) w := by kernel_rfl
theorem z0i (h : Value) (w : World) : (Go.method 469 169 (.agg #[h]) "Elem").run Tryz.prog w = .ok (260, .agg #[h]) w := by kernel_rfl
theorem Mo (h : Value) (w : World) : (Go.method 469 169 (.agg #[h]) "Implements").run Tryz.prog w = .ok (261, .agg #[h]) w := by kernel_rfl
theorem O1 (h : Value) (w : World) : (Go.method 469 169 (.agg #[h]) "AssignableTo").run Tryz.prog w = .ok (258, .agg #[h]) w := by kernel_rfl
theorem z7f(w:World):((ReflectliteType.abiMethod fun t=>(fun a:Nat=>Value.int IntKind.u8 (a:Int)) <$> Rtype.kind t) #[.pointer (some ⟨3,89,none⟩)]).run Tryz.prog w=.ok (.int .u8 22) w:=by kernel_rfl
theorem z7e(w:World):((ReflectliteType.abiMethod fun t=>(fun a:Nat=>Value.int IntKind.u8 (a:Int)) <$> Rtype.kind t) #[.pointer (some ⟨3,85,none⟩)]).run Tryz.prog w=.ok (.int .u8 2) w:=by kernel_rfl
theorem z6p(w:World):(ReflectliteType.method ReflectliteType.elem #[rt 89]).run Tryz.prog w=.ok (.iface 169 (rt 85)) w:=by kernel_rfl
theorem Fl (w : World) : (ReflectliteType.relation "Implements" ReflectliteType.implements_ #[rt 85, .iface 169 (rt 58)]).run Tryz.prog w = .ok (.bool true) w := by kernel_rfl
theorem z9n(v:Value)(w:World):(ReflectliteType.typeOf #[.iface 85 v]).run Tryz.prog w=.ok (.iface 169 (rt 85)) w:=by kernel_rfl
theorem F4 (w : World) : (ReflectliteType.relation "AssignableTo" ReflectliteType.assignableTo #[rt 85, .iface 169 (rt 85)]).run Tryz.prog w = .ok (.bool true) w := by kernel_rfl
theorem z2t(a:Addr)(w:World):(ReflectliteValue.parts (rv 89 a 150)).run Tryz.prog w=.ok (some (89,a,150)) w:=by kernel_rfl
theorem y1n(a:Addr)(w:World):(ReflectliteValue.parts (rv 85 a 130)).run Tryz.prog w=.ok (some (85,a,130)) w:=by kernel_rfl
theorem z8f(a:Addr)(w:World):(ReflectliteValue.parts (rv 85 a 386)).run Tryz.prog w=.ok (some (85,a,386)) w:=by kernel_rfl
theorem z8r(w:World):(Rtype.elem? 89).run Tryz.prog w=.ok (some 85) w:=by kernel_rfl
theorem y5l(p:Addr)(w:World):(ReflectliteValue.mk 85 p ReflectliteValue.flagAddr).run Tryz.prog w=.ok (rv 85 p 386) w:=by kernel_rfl
theorem z6m(w:World):(Rtype.directlyAssignable 85 85).run Tryz.prog w=.ok true w:=by kernel_rfl
theorem y0t(a p:Addr)(W:World)(ha:W.cell? a=some (.pointer (some p))) :
 (ReflectliteValue.method (ReflectliteValue.valueError "reflectlite.Value.IsNil" 0) ReflectliteValue.isNil #[rv 89 a 150]).run Tryz.prog W = .ok (.bool false) W := by
 change (ReflectliteValue.parts (rv 89 a 150) >>= _).run Tryz.prog W=_;simp only [Sem.run_bind,z2t,Result.andThen];simp [ReflectliteValue.isNil,loadVar,isAgg,underlying,Tryz.underlying89,ha,Result.andThen]
theorem y0e(a p:Addr)(W:World)(ha:W.cell? a=some (.pointer (some p))) :
 (ReflectliteValue.method (ReflectliteValue.valueError "reflectlite.Value.Elem" 0) ReflectliteValue.elem #[rv 89 a 150]).run Tryz.prog W = .ok (rv 85 p 386) W := by
 change (ReflectliteValue.parts (rv 89 a 150) >>= _).run Tryz.prog W=_;simp only [Sem.run_bind,z2t,Result.andThen];simp [ReflectliteValue.elem,loadVar,isAgg,underlying,Tryz.underlying89,ha,Result.andThen,z8r,y5l]
theorem y4z(ta b:Addr)(n:Int)(old:Value)(W:World)(hb:W.cell? b=some (.int .i64 n))(ht:W.cell? ta=some old)(hf:W.frozen? ta=false) :
 (ReflectliteValue.set #[rv 85 ta 386,rv 85 b 130]).run Tryz.prog W=.ok (.tuple #[]) (W.setCell ta (.int .i64 n)):=by
 change (ReflectliteValue.parts (rv 85 ta 386) >>= fun p=>ReflectliteValue.parts (rv 85 b 130) >>= _).run Tryz.prog W=_;simp only [Sem.run_bind,z8f,y1n,Result.andThen];simp [ReflectliteValue.flagAddr,loadVar,isAgg,underlying,Tryz.underlying85,hb,Result.andThen,z6m,storeVar,Value.cells,storeCells,Addr.add];rw [run_store Tryz.prog W ta _ _ (by rfl)];simp [ht,hf]
theorem y2s(t:Value)(w:World):Calls Tryz.prog 42 #[.nilIface,t] w fun e w'=>e=.returned (.bool false)/\w'=w:=by
 go_enter Tryz.func42,Tryz.ntmps42
 go_wp2;go_ret;exact ⟨rfl,rfl⟩
theorem z3s(w:World)(b:Nat)(o:Nat)(v:Value):w.grownBy (w.setCell ⟨b,o,none⟩ v) (some b) :=
 ⟨rfl,rfl,rfl,by simp [World.setCell],fun k _ hk=>Below.heap_setCell _ _ _ k (fun e=>hk (by rw [e]))⟩
theorem z6c(n:Int)(tb:Nat)(old:Value)(w:World)(hg:w.cell? ⟨0,0,none⟩=some (.iface 169 (rt 58)))(hb:Boxed w tb 85 old) :
 Calls Tryz.prog 42 #[.iface 85 (.int .i64 n),.iface 89 (.pointer (some ⟨tb,0,none⟩))] w fun e w'=>e=.returned (.bool true)/\w.grownBy w' (some tb)/\Boxed w' tb 85 (.int .i64 n):=by
 have h28:=@run_callFunc_extern Tryz.prog 56 _ (fun args=>ReflectliteValue.unpack (args.getD 0 (.tuple #[]))) Tryz.func56 (by kernel_rfl) (by kernel_rfl) (by kernel_rfl) (by kernel_rfl)
 have h29 := @run_callFunc_extern Tryz.prog 65 _ (ReflectliteValue.methodAny (ReflectliteValue.valueError "reflectlite.Value.Type" 0) (fun t _ _ _ => ReflectliteType.toType t)) Tryz.func65 (by kernel_rfl) (by kernel_rfl) (by kernel_rfl) (by kernel_rfl)
 have h30 := @run_callFunc_extern Tryz.prog 66 _ (ReflectliteValue.method (ReflectliteValue.valueError "reflectlite.Value.IsNil" 0) ReflectliteValue.isNil) Tryz.func66 (by kernel_rfl) (by kernel_rfl) (by kernel_rfl) (by kernel_rfl)
 have h66:=@run_callFunc_extern Tryz.prog 226 _ (ReflectliteType.abiMethod fun t=>do pure (.int .u8 (<- Rtype.kind t))) Tryz.func226 (by kernel_rfl) (by kernel_rfl) (by kernel_rfl) (by kernel_rfl);have h92:=@run_callFunc_extern Tryz.prog 260 _ (ReflectliteType.method ReflectliteType.elem) Tryz.func260 (by kernel_rfl) (by kernel_rfl) (by kernel_rfl) (by kernel_rfl)
 have h93 := @run_callFunc_extern Tryz.prog 261 _ (ReflectliteType.relation "Implements" ReflectliteType.implements_) Tryz.func261 (by kernel_rfl) (by kernel_rfl) (by kernel_rfl) (by kernel_rfl)
 have h38:=@run_callFunc_extern Tryz.prog 110 _ ReflectliteType.typeOf Tryz.func110 (by kernel_rfl) (by kernel_rfl) (by kernel_rfl) (by kernel_rfl)
 have h90 := @run_callFunc_extern Tryz.prog 258 _ (ReflectliteType.relation "AssignableTo" ReflectliteType.assignableTo) Tryz.func258 (by kernel_rfl) (by kernel_rfl) (by kernel_rfl) (by kernel_rfl)
 have h39 := @run_callFunc_extern Tryz.prog 111 _ (ReflectliteValue.method (ReflectliteValue.valueError "reflectlite.Value.Elem" 0) ReflectliteValue.elem) Tryz.func111 (by kernel_rfl) (by kernel_rfl) (by kernel_rfl) (by kernel_rfl)
 have h40:=@run_callFunc_extern Tryz.prog 112 _ ReflectliteValue.set Tryz.func112 (by kernel_rfl) (by kernel_rfl) (by kernel_rfl) (by kernel_rfl);have a1:=z5q;have a2:=y3z;have a3:=z0j;have a4:=z0i;have a5:=Mo;have a6:=O1;have a7:=z7f;have a8:=z7e;have a9:=z6p;have a10:=Fl;have a11:=z9n;have a12:=F4;have a13:=z5p n;have htl:=hb.lt;have hb1:=hb.alloc (Obj.cells #[.pointer (some ⟨tb,0,none⟩)] 89);have hb2:=hb1.alloc (Obj.cells #[.pointer (some ⟨3,89,none⟩),.pointer (some ⟨w.heap.size,0,none⟩),.int .u64 150] 117);have n30:=y0t ⟨w.heap.size,0,none⟩ ⟨tb,0,none⟩ ((w.alloc (.cells #[.pointer (some ⟨tb,0,none⟩)] 89)).alloc (.cells #[.pointer (some ⟨3,89,none⟩),.pointer (some ⟨w.heap.size,0,none⟩),.int .u64 150] 117)) (by simp);have hlt:0<w.heap.size:=World.block_lt_of_cell? _ _ hg
 have hg2:((w.alloc (.cells #[.pointer (some ⟨tb,0,none⟩)] 89)).alloc (.cells #[.pointer (some ⟨3,89,none⟩),.pointer (some ⟨w.heap.size,0,none⟩),.int .u64 150] 117)).cell? ⟨0,0,none⟩=some (.iface 169 (rt 58)):=by
  rw [World.cell?_alloc_lt _ _ ⟨0,0,none⟩ (by simp),World.cell?_alloc_lt _ _ ⟨0,0,none⟩ hlt];exact hg
 have el:=y0e ⟨w.heap.size,0,none⟩ ⟨tb,0,none⟩ (((w.alloc (.cells #[.pointer (some ⟨tb,0,none⟩)] 89)).alloc (.cells #[.pointer (some ⟨3,89,none⟩),.pointer (some ⟨w.heap.size,0,none⟩),.int .u64 150] 117)).alloc (.cells #[.pointer (some ⟨3,89,none⟩),.pointer (some ⟨w.heap.size,0,none⟩),.int .u64 150] 117)) (by rw [World.cell?_alloc_lt _ _ ⟨w.heap.size,0,none⟩ (by simp;omega)];simp);have hb3:=(hb2.alloc (Obj.cells #[.pointer (some ⟨3,89,none⟩),.pointer (some ⟨w.heap.size,0,none⟩),.int .u64 150] 117)).alloc (Obj.cells #[.int .i64 n] 85)
 have st:=y4z ⟨tb,0,none⟩ ⟨w.heap.size+1+1+1,0,none⟩ n old ((((w.alloc (.cells #[.pointer (some ⟨tb,0,none⟩)] 89)).alloc (.cells #[.pointer (some ⟨3,89,none⟩),.pointer (some ⟨w.heap.size,0,none⟩),.int .u64 150] 117)).alloc (.cells #[.pointer (some ⟨3,89,none⟩),.pointer (some ⟨w.heap.size,0,none⟩),.int .u64 150] 117)).alloc (.cells #[.int .i64 n] 85))
  (by rw [World.cell?_alloc_at _ _ _ _ (by simp)];rfl) hb3.cell hb3.frozen
 have HB:=jY hb3;clear hb hb1 hb2 hb3
 go_enter Tryz.func42,Tryz.ntmps42
 go_wp2;refine wp_loop_rounds 1 ?_;rw [rounds_succ];go_wp2;go_ret;refine ⟨rfl,?_,Boxed.set _ HB.out⟩;exact (((((World.grownBy_alloc w _ _).trans (World.grownBy_alloc _ _ _)).trans (World.grownBy_alloc _ _ _)).trans (World.grownBy_alloc _ _ _))).trans (z3s _ _ _ _)
end Go.Proofs.YtmehfohpjigmmaaGreatDoor.Er
namespace Go.Proofs.YtmehfohpjigmmaaGreatDoor
open Zc (Ent Ext KeepC Y5 Z7 Z9 Yw Y1 Za Zl Ya Zp Z6 Zo Z0 Zf)
open Go.RowKit Go.Shelf Sk
attribute [local go_sem] Oper.semAt_some
def EnvE(W:World):Prop:=W.cell? ⟨0,0,none⟩=some (.iface 169 (Er.rt 58))
theorem EnvE.lt{W:World}(h:EnvE W):0<W.heap.size:=World.block_lt_of_cell? _ _ h
theorem EnvE.below{W W':World}{B:Nat}(h:EnvE W)(hb:Below B W W')(hB:0<B):EnvE W':=by
 unfold EnvE at *;exact (hb.cell (p:=⟨0,0,none⟩) hB).trans h
theorem EnvE.later{W W':World}(h:EnvE W)(hb:Bl W W'):EnvE W':=h.below hb h.lt
def Ul(n:Int):Value:=.iface 85 (.int .i64 n)
theorem z0s(w:World):Calls Tryz.prog 21 #[.nilIface] w fun e w'=>e=.returned (.int .i64 0)/\Bl w w':=by
 have HA:=fun t W=>jY (Er.y2s t W)
 go_enter Tryz.func21,Tryz.ntmps21
 go_wp2_with fail;refine (HA _ _).out.mono ?_;rintro e w1 ⟨rfl,rfl⟩;go_wp2;go_ret;exact ⟨rfl,Z5 _ _⟩
theorem X7(n:Int)(w:World)(hE:EnvE w):Calls Tryz.prog 21 #[Ul n] w fun e w'=>e=.returned (.int .i64 n)/\Bl w w':=by
 have hb0:=Z5 w (.cells #[.int .i64 0] 85);have HA:=jY (Er.z6c n w.heap.size (.int .i64 0) (w.alloc (.cells #[.int .i64 0] 85)) (hE.later hb0) (Blk.new w _ _));unfold Ul;clear hE
 go_enter Tryz.func21,Tryz.ntmps21
 go_wp2_with fail;refine HA.out.mono ?_;rintro e w1 ⟨rfl,hg,hB⟩;have h1:=(show Blk w1 w.heap.size 85 #[.int .i64 n] from hB).cell 0;simp at h1;have hbw:Bl w w1:=⟨hg.os.trans hb0.os,hg.tape.trans hb0.tape,hg.output.trans hb0.output,Nat.le_trans hb0.size hg.size,fun k hk=>(hg.block k (Nat.lt_of_lt_of_le hk hb0.size) (fun e=>by injection e with e;omega)).trans (hb0.block k hk)⟩;have HB:=jY hbw;clear hg hB hbw hb0 HA;go_wp2;go_ret;exact ⟨rfl,HB.out⟩
def Xp(n:Int):Value:=if n=0 then .nilIface else Ul n
theorem z0r(n:Int)(w:World)(hE:EnvE w):Calls Tryz.prog 21 #[Xp n] w fun e w'=>e=.returned (.int .i64 n)/\Bl w w':=by
 unfold Xp
 split
 ·rename_i h;subst h;exact z0s w
 ·exact X7 n w hE
theorem X6(k:ByteArray)(hk:k.size<=281474976710656)(w:World):Calls Tryz.prog 23 #[.string k] w fun e w'=>e=.returned (Xp (if 64<k.size then 140 else 0))/\w'=w:=by
 by_cases h:64<k.size
 ·rw [if_pos h];have h2:(64:Int)<k.size:=by omega
  clear h
  go_enter Tryz.func23,Tryz.ntmps23
  go_wp2;go_ret;exact ⟨rfl,rfl⟩
 ·rw [if_neg h];have h2:¬ (64:Int)<k.size:=by omega
  clear h
  go_enter Tryz.func23,Tryz.ntmps23
  go_wp2;go_ret;exact ⟨rfl,rfl⟩
end Go.Proofs.YtmehfohpjigmmaaGreatDoor
namespace Go.Proofs.YtmehfohpjigmmaaGreatDoor.Zr
open Zc
open Go.RowKit Go.Shelf
attribute [local go_sem] Oper.semAt_some
def itT(t:TypeId):Prop:=t=73\/t=107\/t=56\/t=63
end Go.Proofs.YtmehfohpjigmmaaGreatDoor.Zr
namespace Go.Proofs.YtmehfohpjigmmaaGreatDoor
open Zc (Ent Ext KeepC Y5 Z7 Z9 Yw Y1 Za Zl Ya Zp Z6 Zo Z0 Zf)
open Go.RowKit Go.Shelf Sk
attribute [local go_sem] Oper.semAt_some
def y0g(_:Nat)(e:En):Array Value:=#[.agg #[.string e.1,.int .i64 e.2]]
theorem Row.keepc{W W':World}{n0:Nat}{v:Value}{l:List En}{L:List Nat}(h:Row W n0 v l)(hk:Zc.KeepC Zr.itT L W W')(hL:∀ k∈L,k<n0):Row W' n0 v l :=
 ⟨h.form,fun i e he=>by
   obtain ⟨b,off,c,cur,h1,h2,h3,h4,h5⟩:=h.at' i e he;have h6:Blk W' b 107 cur:=hk.same b cur 107 (fun hb=>by have:=hL b hb;omega) (.inr (.inl rfl)) h3;refine ⟨b,off,c,cur,h1,h2,h6,?_,?_⟩
   ·rw [h6.cell,<- h3.cell];exact h4
   ·rw [h6.cell,<- h3.cell];exact h5⟩
theorem z9r(E:List En)(hl:E.length<=1000000000)(r:Value)(n0 bx:Nat)(L:List Nat)(w:World)(hr:Row w n0 r E)(hL:∀ k∈L,k<n0)(h1:Blk w bx 73 #[r]) :
 Zc.Kn Zr.itT Tryz.prog 170 #[.pointer (some ⟨bx,0,none⟩)] y0g E L w:=by
 intro y J Jx W hW hJ hJx hY hJ0;have k1:=h1.later hW;have hr1:=hr.later hW;obtain ⟨a,c,rfl⟩:=hr.form;refine callsIn_of_wp Tryz.func170 rfl trivial ?_ rfl;simp only [Tryz.ntmps170,List.size_toArray,List.length_cons,List.length_nil,Nat.reduceAdd,Nat.reduceSub,Array.replicate_succ,Array.replicate_zero,List.push_toArray,List.append_toArray,List.nil_append,List.cons_append];have HY:=jY hY;have a0:=k1.cell 0;simp at a0;have HR1:=jY hr1;clear hY hr hr1 h1 k1;gi_wp2
 gi_loopw [7] (fun s wr=>∃ (i:Nat),s=.int .i64 i/\i<=E.length/\J i wr/\Row wr n0 (.slice a E.length c) E)
  (fun s _=>E.length-(intOf s).toNat)
 case atStart=>exact ⟨0,rfl,by omega,hJ0,HR1.out⟩
 case round =>
  clear a0;obtain ⟨i,rfl,hi,hJi,hrw⟩:=hrel
  by_cases hlt:i<E.length
  ·have hx:E[i]?=some E[i]:=List.getElem?_eq_getElem hlt;obtain ⟨b,off,c',cur,h1,h2,h3,h4,h5⟩:=hrw.at' i _ hx
   cases h1
   generalize E[i]=e at *;obtain ⟨m,sc⟩:=e;simp only at h4 h5;have hlt2:(i:Int)<E.length:=by omega
   have hb6:Bl wr (wr.alloc (.cells #[.string m,.int .i64 sc] 107)):=(Below.refl _ _).alloc (Nat.le_refl _) _;obtain ⟨fn,tmps,assign,body,hy,hR⟩:=HY.out i (m,sc) (wr.alloc (.cells #[.string m,.int .i64 sc] 107)) hx (hJ _ _ _ hJi hb6);unfold y0g at hy;simp only at hy;have R6:=jY (hrw.later hb6);clear hx hrw hJi hb6 h3
   gi_wp2_with fail
   (try refine ⟨fun _=>by decide,?_⟩)
   refine hR.mono ?_;rintro e W3 (⟨rfl,hJ3,hk3⟩|⟨rfl,hJx3⟩)
   ·have R3:=jY (R6.out.keepc hk3 hL);clear hR hy hk3;gi_wp2;refine ⟨⟨i+1,by go_num,hlt,hJ3,R3.out⟩,?_⟩;simp only [intOf];omega
   ·gi_wp2;exact bodyPost_ret (v:=.tuple #[]) (by simp [results,Tryz.results170,go_sem]) rfl ⟨⟨_,rfl⟩,.inr ⟨_,hJx3⟩⟩
  ·obtain rfl:i=E.length:=by omega
   have hle:¬ ((E.length:Int)<E.length):=by omega
   have HJ:=jY hJi;clear hrw hJi;gi_wp2
   go_end0
   exact ⟨⟨_,rfl⟩,.inl HJ.out⟩
end Go.Proofs.YtmehfohpjigmmaaGreatDoor
