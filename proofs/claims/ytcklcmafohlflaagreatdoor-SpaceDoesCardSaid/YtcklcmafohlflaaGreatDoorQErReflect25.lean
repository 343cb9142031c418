/- Texts of one kind in one: ErReflect, ErAs, SpErr, ZRange, ZVals. -/
import Derived.Stop.Asserts
import Derived.Test.YtcklcmafohlflaaGreatDoorQSpMath24
set_option maxRecDepth 200000
set_option maxHeartbeats 8000000
namespace Go.Proofs.YtcklcmafohlflaaGreatDoor.Er
open Zc
open Go.RowKit Go.Extern.Stop Go.Stop Go.Extern
abbrev rv (t:Nat) (a:Addr) (fl:Int):Value:=.agg #[.pointer (some ⟨3,t,none⟩),.pointer (some a),.int .u64 fl]
abbrev rt (t:Nat):Value:=.agg #[.pointer (some ⟨3,t,none⟩)]
theorem x0p(t:Addr)(w:World):(ReflectliteValue.unpack (.iface 154 (.pointer (some t)))).run Tryz.prog w=.ok (rv 154 ⟨w.heap.size,0,none⟩ 150) (w.alloc (.cells #[.pointer (some t)] 154)):=by kernel_rfl
theorem x0o(n:Int)(w:World):(ReflectliteValue.unpack (.iface 152 (.int .i64 n))).run Tryz.prog w=.ok (rv 152 ⟨w.heap.size,0,none⟩ 130) (w.alloc (.cells #[.int .i64 n] 152)):=by kernel_rfl
theorem v2x (a : Addr) (w : World) : (ReflectliteValue.methodAny (ReflectliteValue.valueError "reflectlite.Value.Type" 0) (fun t _ _ _ => ReflectliteType.toType t) #[rv 154 a 150]).run Tryz.prog w = .ok (.iface 177 (rt 154)) w := by kernel_rfl
theorem y2l (h : Value) (w : World) : (Go.method 493 177 (.agg #[h]) "Kind").run Tryz.prog w = .ok (258, h) w := by kernel_rfl
theorem y2k (h : Value) (w : World) : (Go.method 493 177 (.agg #[h]) "Elem").run Tryz.prog w = .ok (312, .agg #[h]) w := by kernel_rfl
theorem Dr (h : Value) (w : World) : (Go.method 493 177 (.agg #[h]) "Implements").run Tryz.prog w = .ok (313, .agg #[h]) w := by kernel_rfl
theorem G8 (h : Value) (w : World) : (Go.method 493 177 (.agg #[h]) "AssignableTo").run Tryz.prog w = .ok (311, .agg #[h]) w := by kernel_rfl
theorem x3a(w:World):((ReflectliteType.abiMethod fun t=>(fun a:Nat=>Value.int IntKind.u8 (a:Int)) <$> Rtype.kind t) #[.pointer (some ⟨3,154,none⟩)]).run Tryz.prog w=.ok (.int .u8 22) w:=by kernel_rfl
theorem x2z(w:World):((ReflectliteType.abiMethod fun t=>(fun a:Nat=>Value.int IntKind.u8 (a:Int)) <$> Rtype.kind t) #[.pointer (some ⟨3,152,none⟩)]).run Tryz.prog w=.ok (.int .u8 2) w:=by kernel_rfl
theorem x2a(w:World):(ReflectliteType.method ReflectliteType.elem #[rt 154]).run Tryz.prog w=.ok (.iface 177 (rt 152)) w:=by kernel_rfl
theorem z4m (w : World) : (ReflectliteType.relation "Implements" ReflectliteType.implements_ #[rt 152, .iface 177 (rt 99)]).run Tryz.prog w = .ok (.bool true) w := by kernel_rfl
theorem x6p(v:Value)(w:World):(ReflectliteType.typeOf #[.iface 152 v]).run Tryz.prog w=.ok (.iface 177 (rt 152)) w:=by kernel_rfl
theorem z3q (w : World) : (ReflectliteType.relation "AssignableTo" ReflectliteType.assignableTo #[rt 152, .iface 177 (rt 152)]).run Tryz.prog w = .ok (.bool true) w := by kernel_rfl
theorem y5x(a:Addr)(w:World):(ReflectliteValue.parts (rv 154 a 150)).run Tryz.prog w=.ok (some (154,a,150)) w:=by kernel_rfl
theorem x9d(a:Addr)(w:World):(ReflectliteValue.parts (rv 152 a 130)).run Tryz.prog w=.ok (some (152,a,130)) w:=by kernel_rfl
theorem x4p(a:Addr)(w:World):(ReflectliteValue.parts (rv 152 a 386)).run Tryz.prog w=.ok (some (152,a,386)) w:=by kernel_rfl
theorem x5m(w:World):(Rtype.elem? 154).run Tryz.prog w=.ok (some 152) w:=by kernel_rfl
theorem v4o(p:Addr)(w:World):(ReflectliteValue.mk 152 p ReflectliteValue.flagAddr).run Tryz.prog w=.ok (rv 152 p 386) w:=by kernel_rfl
theorem x1y(w:World):(Rtype.directlyAssignable 152 152).run Tryz.prog w=.ok true w:=by kernel_rfl
theorem x8i(a p:Addr)(W:World)(ha:W.cell? a=some (.pointer (some p))) :
 (ReflectliteValue.method (ReflectliteValue.valueError "reflectlite.Value.IsNil" 0) ReflectliteValue.isNil #[rv 154 a 150]).run Tryz.prog W = .ok (.bool false) W := by
 change (ReflectliteValue.parts (rv 154 a 150) >>= _).run Tryz.prog W=_;simp only [Sem.run_bind,y5x,Result.andThen];simp [ReflectliteValue.isNil,loadVar,isAgg,underlying,Tryz.underlying154,ha,Result.andThen]
theorem x7r(a p:Addr)(W:World)(ha:W.cell? a=some (.pointer (some p))) :
 (ReflectliteValue.method (ReflectliteValue.valueError "reflectlite.Value.Elem" 0) ReflectliteValue.elem #[rv 154 a 150]).run Tryz.prog W = .ok (rv 152 p 386) W := by
 change (ReflectliteValue.parts (rv 154 a 150) >>= _).run Tryz.prog W=_;simp only [Sem.run_bind,y5x,Result.andThen];simp [ReflectliteValue.elem,loadVar,isAgg,underlying,Tryz.underlying154,ha,Result.andThen,x5m,v4o]
theorem v4c(ta b:Addr)(n:Int)(old:Value)(W:World)(hb:W.cell? b=some (.int .i64 n))(ht:W.cell? ta=some old)(hf:W.frozen? ta=false) :
 (ReflectliteValue.set #[rv 152 ta 386,rv 152 b 130]).run Tryz.prog W=.ok (.tuple #[]) (W.setCell ta (.int .i64 n)):=by
 change (ReflectliteValue.parts (rv 152 ta 386) >>= fun p=>ReflectliteValue.parts (rv 152 b 130) >>= _).run Tryz.prog W=_;simp only [Sem.run_bind,x4p,x9d,Result.andThen];simp [ReflectliteValue.flagAddr,loadVar,isAgg,underlying,Tryz.underlying152,hb,Result.andThen,x1y,storeVar,Value.cells,storeCells,Addr.add];rw [run_store Tryz.prog W ta _ _ (by rfl)];simp [ht,hf]
theorem v0t(t:Value)(w:World):Calls Tryz.prog 82 #[.nilIface,t] w fun e w'=>e=.returned (.bool false)/\w'=w:=by
 go_enter Tryz.func82,Tryz.ntmps82
 go_wp2;go_ret;exact ⟨rfl,rfl⟩
theorem y7l(w:World)(b:Nat)(o:Nat)(v:Value):w.grownBy (w.setCell ⟨b,o,none⟩ v) (some b) :=
 ⟨rfl,rfl,rfl,by simp [World.setCell],fun k _ hk=>Below.heap_setCell _ _ _ k (fun e=>hk (by rw [e]))⟩
theorem x1h(n:Int)(tb:Nat)(old:Value)(w:World)(hg:w.cell? ⟨0,0,none⟩=some (.iface 177 (rt 99)))(hb:Boxed w tb 152 old) :
 Calls Tryz.prog 82 #[.iface 152 (.int .i64 n),.iface 154 (.pointer (some ⟨tb,0,none⟩))] w fun e w'=>e=.returned (.bool true)/\w.grownBy w' (some tb)/\Boxed w' tb 152 (.int .i64 n):=by
 have h28:=@run_callFunc_extern Tryz.prog 73 _ (fun args=>ReflectliteValue.unpack (args.getD 0 (.tuple #[]))) Tryz.func73 (by kernel_rfl) (by kernel_rfl) (by kernel_rfl) (by kernel_rfl)
 have h29 := @run_callFunc_extern Tryz.prog 125 _ (ReflectliteValue.methodAny (ReflectliteValue.valueError "reflectlite.Value.Type" 0) (fun t _ _ _ => ReflectliteType.toType t)) Tryz.func125 (by kernel_rfl) (by kernel_rfl) (by kernel_rfl) (by kernel_rfl)
 have h30 := @run_callFunc_extern Tryz.prog 126 _ (ReflectliteValue.method (ReflectliteValue.valueError "reflectlite.Value.IsNil" 0) ReflectliteValue.isNil) Tryz.func126 (by kernel_rfl) (by kernel_rfl) (by kernel_rfl) (by kernel_rfl)
 have h66:=@run_callFunc_extern Tryz.prog 258 _ (ReflectliteType.abiMethod fun t=>do pure (.int .u8 (<- Rtype.kind t))) Tryz.func258 (by kernel_rfl) (by kernel_rfl) (by kernel_rfl) (by kernel_rfl);have h92:=@run_callFunc_extern Tryz.prog 312 _ (ReflectliteType.method ReflectliteType.elem) Tryz.func312 (by kernel_rfl) (by kernel_rfl) (by kernel_rfl) (by kernel_rfl)
 have h93 := @run_callFunc_extern Tryz.prog 313 _ (ReflectliteType.relation "Implements" ReflectliteType.implements_) Tryz.func313 (by kernel_rfl) (by kernel_rfl) (by kernel_rfl) (by kernel_rfl)
 have h38:=@run_callFunc_extern Tryz.prog 158 _ ReflectliteType.typeOf Tryz.func158 (by kernel_rfl) (by kernel_rfl) (by kernel_rfl) (by kernel_rfl)
 have h90 := @run_callFunc_extern Tryz.prog 311 _ (ReflectliteType.relation "AssignableTo" ReflectliteType.assignableTo) Tryz.func311 (by kernel_rfl) (by kernel_rfl) (by kernel_rfl) (by kernel_rfl)
 have h39 := @run_callFunc_extern Tryz.prog 159 _ (ReflectliteValue.method (ReflectliteValue.valueError "reflectlite.Value.Elem" 0) ReflectliteValue.elem) Tryz.func159 (by kernel_rfl) (by kernel_rfl) (by kernel_rfl) (by kernel_rfl)
 have h40:=@run_callFunc_extern Tryz.prog 160 _ ReflectliteValue.set Tryz.func160 (by kernel_rfl) (by kernel_rfl) (by kernel_rfl) (by kernel_rfl);have a1:=x0p;have a2:=v2x;have a3:=y2l;have a4:=y2k;have a5:=Dr;have a6:=G8;have a7:=x3a;have a8:=x2z;have a9:=x2a;have a10:=z4m;have a11:=x6p;have a12:=z3q;have a13:=x0o n;have htl:=hb.lt;have hb1:=hb.alloc (Obj.cells #[.pointer (some ⟨tb,0,none⟩)] 154);have hb2:=hb1.alloc (Obj.cells #[.pointer (some ⟨3,154,none⟩),.pointer (some ⟨w.heap.size,0,none⟩),.int .u64 150] 138);have n30:=x8i ⟨w.heap.size,0,none⟩ ⟨tb,0,none⟩ ((w.alloc (.cells #[.pointer (some ⟨tb,0,none⟩)] 154)).alloc (.cells #[.pointer (some ⟨3,154,none⟩),.pointer (some ⟨w.heap.size,0,none⟩),.int .u64 150] 138)) (by simp);have hlt:0<w.heap.size:=World.block_lt_of_cell? _ _ hg
 have hg2:((w.alloc (.cells #[.pointer (some ⟨tb,0,none⟩)] 154)).alloc (.cells #[.pointer (some ⟨3,154,none⟩),.pointer (some ⟨w.heap.size,0,none⟩),.int .u64 150] 138)).cell? ⟨0,0,none⟩=some (.iface 177 (rt 99)):=by
  rw [World.cell?_alloc_lt _ _ ⟨0,0,none⟩ (by simp),World.cell?_alloc_lt _ _ ⟨0,0,none⟩ hlt];exact hg
 have el:=x7r ⟨w.heap.size,0,none⟩ ⟨tb,0,none⟩ (((w.alloc (.cells #[.pointer (some ⟨tb,0,none⟩)] 154)).alloc (.cells #[.pointer (some ⟨3,154,none⟩),.pointer (some ⟨w.heap.size,0,none⟩),.int .u64 150] 138)).alloc (.cells #[.pointer (some ⟨3,154,none⟩),.pointer (some ⟨w.heap.size,0,none⟩),.int .u64 150] 138)) (by rw [World.cell?_alloc_lt _ _ ⟨w.heap.size,0,none⟩ (by simp;omega)];simp);have hb3:=(hb2.alloc (Obj.cells #[.pointer (some ⟨3,154,none⟩),.pointer (some ⟨w.heap.size,0,none⟩),.int .u64 150] 138)).alloc (Obj.cells #[.int .i64 n] 152)
 have st:=v4c ⟨tb,0,none⟩ ⟨w.heap.size+1+1+1,0,none⟩ n old ((((w.alloc (.cells #[.pointer (some ⟨tb,0,none⟩)] 154)).alloc (.cells #[.pointer (some ⟨3,154,none⟩),.pointer (some ⟨w.heap.size,0,none⟩),.int .u64 150] 138)).alloc (.cells #[.pointer (some ⟨3,154,none⟩),.pointer (some ⟨w.heap.size,0,none⟩),.int .u64 150] 138)).alloc (.cells #[.int .i64 n] 152))
  (by rw [World.cell?_alloc_at _ _ _ _ (by simp)];rfl) hb3.cell hb3.frozen
 have HB:=jY hb3;clear hb hb1 hb2 hb3
 go_enter Tryz.func82,Tryz.ntmps82
 go_wp2;refine wp_loop_rounds 1 ?_;rw [rounds_succ];go_wp2;go_ret;refine ⟨rfl,?_,Boxed.set _ HB.out⟩;exact (((((World.grownBy_alloc w _ _).trans (World.grownBy_alloc _ _ _)).trans (World.grownBy_alloc _ _ _)).trans (World.grownBy_alloc _ _ _))).trans (y7l _ _ _ _)
end Go.Proofs.YtcklcmafohlflaaGreatDoor.Er
namespace Go.Proofs.YtcklcmafohlflaaGreatDoor
open Zc (Ent Ext KeepC Ym Z9 Zg Xg Zx Zb Zv Yo Y5 Ze Zz Z4 Zd)
open Go.RowKit Go.Shelf Sk
attribute [local go_sem] Oper.semAt_some
def EnvE(W:World):Prop:=W.cell? ⟨0,0,none⟩=some (.iface 177 (Er.rt 99))
theorem EnvE.lt{W:World}(h:EnvE W):0<W.heap.size:=World.block_lt_of_cell? _ _ h
theorem EnvE.below{W W':World}{B:Nat}(h:EnvE W)(hb:Below B W W')(hB:0<B):EnvE W':=by
 unfold EnvE at *;exact (hb.cell (p:=⟨0,0,none⟩) hB).trans h
theorem EnvE.later{W W':World}(h:EnvE W)(hb:Bl W W'):EnvE W':=h.below hb h.lt
def Kv(n:Int):Value:=.iface 152 (.int .i64 n)
theorem y2q(w:World):Calls Tryz.prog 51 #[.nilIface] w fun e w'=>e=.returned (.int .i64 0)/\Bl w w':=by
 have HA:=fun t W=>jY (Er.v0t t W)
 go_enter Tryz.func51,Tryz.ntmps51
 go_wp2_with fail;refine (HA _ _).out.mono ?_;rintro e w1 ⟨rfl,rfl⟩;go_wp2;go_ret;exact ⟨rfl,Z0 _ _⟩
theorem P9(n:Int)(w:World)(hE:EnvE w):Calls Tryz.prog 51 #[Kv n] w fun e w'=>e=.returned (.int .i64 n)/\Bl w w':=by
 have hb0:=Z0 w (.cells #[.int .i64 0] 152);have HA:=jY (Er.x1h n w.heap.size (.int .i64 0) (w.alloc (.cells #[.int .i64 0] 152)) (hE.later hb0) (Blk.new w _ _));unfold Kv;clear hE
 go_enter Tryz.func51,Tryz.ntmps51
 go_wp2_with fail;refine HA.out.mono ?_;rintro e w1 ⟨rfl,hg,hB⟩;have h1:=(show Blk w1 w.heap.size 152 #[.int .i64 n] from hB).cell 0;simp at h1;have hbw:Bl w w1:=⟨hg.os.trans hb0.os,hg.tape.trans hb0.tape,hg.output.trans hb0.output,lAe hb0.size hg.size,fun k hk=>(hg.block k (Nat.lt_of_lt_of_le hk hb0.size) (fun e=>by injection e with e;omega)).trans (hb0.block k hk)⟩;have HB:=jY hbw;clear hg hB hbw hb0 HA;go_wp2;go_ret;exact ⟨rfl,HB.out⟩
def Q5(n:Int):Value:=if n=0 then .nilIface else Kv n
theorem Gb(n:Int)(w:World)(hE:EnvE w):Calls Tryz.prog 51 #[Q5 n] w fun e w'=>e=.returned (.int .i64 n)/\Bl w w':=by
 unfold Q5
 split
 ·rename_i h;subst h;exact y2q w
 ·exact P9 n w hE
theorem Vw(k:ByteArray)(hk:k.size<=281474976710656)(w:World):Calls Tryz.prog 53 #[.string k] w fun e w'=>e=.returned (Q5 (if 64<k.size then 140 else 0))/\w'=w:=by
 by_cases h:64<k.size
 ·rw [if_pos h];have h2:(64:Int)<k.size:=by omega
  clear h
  go_enter Tryz.func53,Tryz.ntmps53
  go_wp2;go_ret;exact ⟨rfl,rfl⟩
 ·rw [if_neg h];have h2:¬ (64:Int)<k.size:=by omega
  clear h
  go_enter Tryz.func53,Tryz.ntmps53
  go_wp2;go_ret;exact ⟨rfl,rfl⟩
end Go.Proofs.YtcklcmafohlflaaGreatDoor
namespace Go.Proofs.YtcklcmafohlflaaGreatDoor.Zr
open Zc
open Go.RowKit Go.Shelf
attribute [local go_sem] Oper.semAt_some
def itT(t:TypeId):Prop:=t=55\/t=94\/t=79\/t=85
end Go.Proofs.YtcklcmafohlflaaGreatDoor.Zr
namespace Go.Proofs.YtcklcmafohlflaaGreatDoor
open Zc (Ent Ext KeepC Ym Z9 Zg Xg Zx Zb Zv Yo Y5 Ze Zz Z4 Zd)
open Go.RowKit Go.Shelf Sk
attribute [local go_sem] Oper.semAt_some
def x7t(_:Nat)(e:En):Array Value:=#[.agg #[.string e.1,.int .i64 e.2]]
theorem Row.keepc{W W':World}{n0:Nat}{v:Value}{l:List En}{L:List Nat}(h:Row W n0 v l)(hk:Zc.KeepC Zr.itT L W W')(hL:∀ k∈L,k<n0):Row W' n0 v l :=
 ⟨h.form,fun i e he=>by
   obtain ⟨b,off,c,cur,h1,h2,h3,h4,h5⟩:=h.at' i e he;have h6:Blk W' b 94 cur:=hk.same b cur 94 (fun hb=>by have:=hL b hb;omega) (.inr (.inl rfl)) h3;refine ⟨b,off,c,cur,h1,h2,h6,?_,?_⟩
   ·rw [h6.cell,<- h3.cell];exact h4
   ·rw [h6.cell,<- h3.cell];exact h5⟩
theorem x6w(E:List En)(hl:E.length<=1000000000)(r:Value)(n0 bx:Nat)(L:List Nat)(w:World)(hr:Row w n0 r E)(hL:∀ k∈L,k<n0)(h1:Blk w bx 55 #[r]) :
 Zc.Cv Zr.itT Tryz.prog 182 #[.pointer (some ⟨bx,0,none⟩)] x7t E L w:=by
 intro y J Jx W hW hJ hJx hY hJ0;have k1:=h1.later hW;have hr1:=hr.later hW;obtain ⟨a,c,rfl⟩:=hr.form;refine callsIn_of_wp Tryz.func182 rfl trivial ?_ rfl;simp only [Tryz.ntmps182,List.size_toArray,List.length_cons,List.length_nil,Nat.reduceAdd,Nat.reduceSub,Array.replicate_succ,Array.replicate_zero,List.push_toArray,List.append_toArray,List.nil_append,List.cons_append];have HY:=jY hY;have a0:=k1.cell 0;simp at a0;have HR1:=jY hr1;clear hY hr hr1 h1 k1;gi_wp2
 gi_loopw [7] (fun s wr=>∃ (i:Nat),s=.int .i64 i/\i<=E.length/\J i wr/\Row wr n0 (.slice a E.length c) E)
  (fun s _=>E.length-(intOf s).toNat)
 case atStart=>exact ⟨0,rfl,by omega,hJ0,HR1.out⟩
 case round =>
  clear a0;obtain ⟨i,rfl,hi,hJi,hrw⟩:=hrel
  by_cases hlt:i<E.length
  ·have hx:E[i]?=some E[i]:=lAa hlt;obtain ⟨b,off,c',cur,h1,h2,h3,h4,h5⟩:=hrw.at' i _ hx
   cases h1
   generalize E[i]=e at *;obtain ⟨m,sc⟩:=e;simp only at h4 h5;have hlt2:(i:Int)<E.length:=by omega
   have hb6:Bl wr (wr.alloc (.cells #[.string m,.int .i64 sc] 94)):=(Below.refl _ _).alloc (lAd _) _;obtain ⟨fn,tmps,assign,body,hy,hR⟩:=HY.out i (m,sc) (wr.alloc (.cells #[.string m,.int .i64 sc] 94)) hx (hJ _ _ _ hJi hb6);unfold x7t at hy;simp only at hy;have R6:=jY (hrw.later hb6);clear hx hrw hJi hb6 h3
   gi_wp2_with fail
   (try refine ⟨fun _=>by decide,?_⟩)
   refine hR.mono ?_;rintro e W3 (⟨rfl,hJ3,hk3⟩|⟨rfl,hJx3⟩)
   ·have R3:=jY (R6.out.keepc hk3 hL);clear hR hy hk3;gi_wp2;refine ⟨⟨i+1,by go_num,hlt,hJ3,R3.out⟩,?_⟩;simp only [intOf];omega
   ·gi_wp2;exact bodyPost_ret (v:=.tuple #[]) (by simp [results,Tryz.results182,go_sem]) rfl ⟨⟨_,rfl⟩,.inr ⟨_,hJx3⟩⟩
  ·obtain rfl:i=E.length:=by omega
   have hle:¬ ((E.length:Int)<E.length):=by omega
   have HJ:=jY hJi;clear hrw hJi;gi_wp2
   go_end0
   exact ⟨⟨_,rfl⟩,.inl HJ.out⟩
end Go.Proofs.YtcklcmafohlflaaGreatDoor
