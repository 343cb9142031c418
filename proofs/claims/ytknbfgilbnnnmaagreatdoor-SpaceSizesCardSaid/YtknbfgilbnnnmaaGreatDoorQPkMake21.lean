/- Texts of one kind in one: PkMake, ZPack, ZLead, ZPut, ZPCut, ZList. -/
import Derived.Test.YtknbfgilbnnnmaaGreatDoorQPkWrite20
import Derived.Test.YtknbfgilbnnnmaaGreatDoorQSkRem17
import Derived.Test.YtknbfgilbnnnmaaGreatDoorQDcIs09
set_option maxRecDepth 200000
set_option maxHeartbeats 8000000
namespace Go.Proofs.YtknbfgilbnnnmaaGreatDoor.Pk
open Zc
open Go.RowKit Go.Shelf
attribute [local go_sem] Oper.semAt_some
theorem Qh(w:World):Calls Tryz.prog 140 #[] w fun e w'=>e=.returned (.string (Yc []))/\w'=w:=by
 go_enter Tryz.func140,Tryz.ntmps140
 go_wp2;go_ret;exact ⟨rfl,rfl⟩
theorem z7m{l:List Ent}(h:∀ e∈l,e.1.size<=64):(l.flatMap Ur).length<=74*l.length:=by
 induction l with
 | nil=>simp
 | cons e l ih =>
   have:=ih (fun e he=>h e (List.mem_cons_of_mem _ he))
   have h1:=h e (List.mem_cons_self ..);have h2:=Ui e;rw [List.flatMap_cons,List.length_append,List.length_cons];omega
theorem y1e(a b c d:Value)(W:World):(Instr.field 305 (.agg #[a,b,c,d]) 1).run Tryz.prog W=.ok c W:=by
 simp [Instr.field,go_sem,asAgg]
def x2j(p:ByteArray)(at_:Int)(x:Ent):ByteArray × Int :=
 if Zq p then
  if (Yf p).length=200 then (⟨#[]⟩,51)
  else if at_<0\/(Yf p).length<at_\/64<x.1.size then (⟨#[]⟩,2)
  else (Yc ((Yf p).take at_.toNat++[x]++(Yf p).drop at_.toNat),0)
 else (⟨#[]⟩,50)
theorem Gt(W:World)(x:Ent):Ents (W.alloc (.cells #[.string x.1,.int .i64 x.2] 111)) (some ⟨W.heap.size,0,none⟩) [x]:=fun i hi=>by
 have hB:=Blk.new W 111 #[.string x.1,.int .i64 x.2];obtain rfl:i=0:=by simpa using hi
 exact ⟨_,_,rfl,hB.cell 0,hB.cell 1⟩
theorem My{l:List Ent}(h:∀ e∈l,e.1.size<=64)(hl:l.length<=1000):(Yc l).size<=100000:=by
 rw [Gc]
 have:=z7m h
 omega
theorem G5(p:ByteArray)(hp:p.size<=281474976710656)(at_:Int)(hat:-9223372036854775808<=at_/\at_<=9223372036854775807)(x:Ent)(hx:x.1.size<=9223372036854775807)(w:World) :
 Calls Tryz.prog 278 #[.string p,.int .i64 at_,.agg #[.string x.1,.int .i64 x.2]] w fun e w'=>e=.returned (.tuple #[.string (x2j p at_ x).1,.int .i64 (x2j p at_ x).2])/\Bl w w':=by
 have HR:=fun w=>jY (Um p hp w);have HC:=fun w=>jY (Js p hp w);have hB0:=(Below.refl w.heap.size w).alloc (Nat.le_refl _) (Obj.cells #[Value.string x.1,Value.int IntKind.i64 x.2] 111);have k0:=Blk.new w 111 #[Value.string x.1,Value.int IntKind.i64 x.2];unfold x2j
 cases hr:Zq p with
 | false =>
   rw [hr] at HR;simp only [Bool.false_eq_true,if_false]
   go_enter Tryz.func278,Tryz.ntmps278
   go_wp2_with fail;refine (HR _).out.mono ?_;rintro e w1 ⟨rfl,hb1⟩;have HB:=jY (hB0.trans (hb1.mono hB0.size));clear hb1 hB0;go_wp2_with fail;go_ret2;exact ⟨rfl,HB.out⟩
 | true =>
   rw [hr] at HR;simp only [if_true];have hk:=Uk hr;rw [hk.count] at HC;have hlen:(Yf p).length=(Zi p).length:=by simp [Yf]
   have hmany:=hk.many;have hps:p.size<=100000:=by rw [Ik hr];exact My (fun e he=>((y0h hr).each e he).1) (by rw [hlen];omega)
   rw [hlen]
   by_cases h200:(Zi p).length=200
   ·rw [if_pos h200];have h9:((Zi p).length:Int)=200:=by omega
    generalize (Zi p).length=n at *
    go_enter Tryz.func278,Tryz.ntmps278
    go_wp2_with fail;refine (HR _).out.mono ?_;rintro e w1 ⟨rfl,hb1⟩;have hB1:=hB0.trans (hb1.mono hB0.size);clear hb1 hB0;go_wp2_with fail;refine (HC _).out.mono ?_;rintro e w2 ⟨rfl,hb2⟩;have HB:=jY (hB1.trans (hb2.mono hB1.size));clear hb2 hB1;go_wp2_with fail;go_ret2;exact ⟨rfl,HB.out⟩
   ·rw [if_neg h200];have h9:¬ ((Zi p).length:Int)=200:=by omega
    have HFT:=fun w=>jY (x7k (some ⟨World.heap w |>.size,0,none⟩) 1 [x] (by simp) (by simpa using hx) (w.alloc (.cells #[.string x.1,.int .i64 x.2] 111)) (Gt w x));have hfx:z4p [x]=decide (x.1.size<=64):=by simp [z4p]
    rw [hfx] at HFT
    by_cases hbad:at_<0\/((Zi p).length:Int)<at_\/64<x.1.size
    ·rw [if_pos hbad];generalize (Zi p).length=n at *
     go_enter Tryz.func278,Tryz.ntmps278
     go_wp2_with fail;refine (HR _).out.mono ?_;rintro e w1 ⟨rfl,hb1⟩;have hB1:=hB0.trans (hb1.mono hB0.size);have k1:=k0.later hb1;clear hb1;go_wp2_with fail;refine (HC _).out.mono ?_;rintro e w2 ⟨rfl,hb2⟩;have hB2:=hB1.trans (hb2.mono hB1.size);have k2:=k1.later hb2;clear hb2
     by_cases h0:at_<0
     ·have HB:=jY hB2;clear hB0 hB1 hB2;go_wp2_with fail;go_ret2;exact ⟨rfl,HB.out⟩
     ·go_wp2_with fail;refine (HC _).out.mono ?_;rintro e w3 ⟨rfl,hb3⟩;have hB3:=hB2.trans (hb3.mono hB2.size);have k3:=k2.later hb3;clear hb3
      by_cases hgt:(n:Int)<at_
      ·have HB:=jY hB3;clear hB0 hB1 hB2 hB3;go_wp2_with fail;go_ret2;exact ⟨rfl,HB.out⟩
      ·have hm64:decide (x.1.size<=64)=false:=by simp;omega
       rw [hm64] at HFT;obtain ⟨e0,e1,_⟩:=Zb k3;go_wp2_with fail;refine (HFT w3).out.mono ?_;rintro e w4 ⟨rfl,hb4⟩;have HB:=jY (hB3.trans (((Below.refl w3.heap.size w3).alloc (Nat.le_refl _) (Obj.cells #[Value.string x.1,Value.int IntKind.i64 x.2] 111)).trans (hb4.mono (by simp)) |>.mono hB3.size));clear hB0 hB1 hB2 hB3 hb4;go_wp2_with fail;go_ret2;exact ⟨rfl,HB.out⟩
    ·rw [if_neg hbad];obtain ⟨k,rfl⟩:∃ k:Nat,at_=(k:Int):=⟨at_.toNat,by omega⟩;have hkl:k<=(Zi p).length:=by omega
     have hk0:¬ ((k:Int)<0):=by omega
     have hk1:¬ ((Zi p).length:Int)<(k:Int):=by omega
     have hm64:decide (x.1.size<=64)=true:=by simp;omega
     rw [hm64] at HFT
     obtain ⟨nm,ns,nt,hnth⟩:∃ (nm:ByteArray) (ns nt:Int),∀ w,Hid (Calls Tryz.prog 285 #[.string p,.int .i64 (k:Int)] w fun e w'=>e=.returned (.agg #[.string nm,.int .i64 ns,.int .i64 (Yh (Zi p) k:Int),.int .i64 nt])/\Bl w w'):=by
      by_cases hlt:k<(Zi p).length
      ·have hxk:(Zi p)[k]?=some ((Zi p)[k]'hlt):=List.getElem?_eq_getElem hlt;refine ⟨((Zi p)[k]'hlt).m,((Zi p)[k]'hlt).s,(((Zi p)[k]'hlt).to:Int),fun w=>jY (Ap p hp (Zi p) hk.chain (fun c hc=>(hk.each c hc).2.2.1) k (by omega) _ (fun c hc=>?_) (fun hc=>by rw [hxk] at hc;cases hc) w)⟩;rw [hxk] at hc
       cases hc
       rw [<- x9r hk k _ hxk];rfl
      ·obtain rfl:k=(Zi p).length:=by omega
       refine ⟨⟨#[]⟩,0,(p.size:Int),fun w=>jY (Ap p hp (Zi p) hk.chain (fun c hc=>(hk.each c hc).2.2.1) (Zi p).length (by omega) _ (fun c hc=>by simp at hc) (fun hc=>?_) w)⟩;rw [hk.ends];rfl
     have hput:=z8y hk k k (Nat.le_refl _) hkl ((Zi p).length+1) [x] (by simp;omega);rw [List.flatMap_cons,List.flatMap_nil,List.append_nil,List.map_take,List.map_drop] at hput
     have he2:2<=Yh (Zi p) k:=by
      by_cases h0:k=0
      ·subst h0;exact Nat.le_refl _
      ·obtain ⟨i,rfl⟩:∃ i,k=i+1:=⟨k-1,by omega⟩;have hxk:(Zi p)[i]?=some ((Zi p)[i]'(by omega)):=List.getElem?_eq_getElem (by omega);rw [show Yh (Zi p) (i+1)=((Zi p)[i]'(by omega)).to by simp [Yh,hxk]];exact (hk.each _ (List.getElem_mem _)).2.1
     have hes:Yh (Zi p) k<=p.size:=by
      by_cases h0:k=0
      ·subst h0;exact hk.two
      ·obtain ⟨i,rfl⟩:∃ i,k=i+1:=⟨k-1,by omega⟩;have hxk:(Zi p)[i]?=some ((Zi p)[i]'(by omega)):=List.getElem?_eq_getElem (by omega);rw [show Yh (Zi p) (i+1)=((Zi p)[i]'(by omega)).to by simp [Yh,hxk]];exact (hk.each _ (List.getElem_mem _)).2.2.1
     have HW:=fun w=>jY (y0i (some ⟨World.heap w |>.size,0,none⟩) 1 [x] (by simp) (by simp;omega) (w.alloc (.cells #[.string x.1,.int .i64 x.2] 111)) (Gt w x));have HRP:=fun v w hy=>jY (Fp p hk.two (by omega) 1 ((Zi p).length+1) (by rw [hk.count];simp) (by omega) (Yh (Zi p) k) (Yh (Zi p) k) he2 (Nat.le_refl _) hes v (Ur x) (by have:=Ui x;omega) w hy);rw [hput] at HRP;rw [Int.toNat_natCast];rw [show (Zi p).map Cut.ent=Yf p from rfl] at HRP;generalize (Yf p).take k++[x]++(Yf p).drop k=out at *;generalize Yh (Zi p) k=en at *;generalize (Zi p).length=n at *;clear hput hbad
     go_enter Tryz.func278,Tryz.ntmps278
     go_wp2_with fail;refine (HR _).out.mono ?_;rintro e w1 ⟨rfl,hb1⟩;have hB1:=hB0.trans (hb1.mono hB0.size);have k1:=k0.later hb1;clear hb1;go_wp2_with fail;refine (HC _).out.mono ?_;rintro e w2 ⟨rfl,hb2⟩;have hB2:=hB1.trans (hb2.mono hB1.size);have k2:=k1.later hb2;clear hb2;go_wp2_with fail;refine (HC _).out.mono ?_;rintro e w3 ⟨rfl,hb3⟩;have hB3:=hB2.trans (hb3.mono hB2.size);have k3:=k2.later hb3;clear hb3;obtain ⟨e0,e1,_⟩:=Zb k3;go_wp2_with fail;refine (HFT w3).out.mono ?_;rintro e w4 ⟨rfl,hb4⟩;have hB4:=hB3.trans (((Below.refl w3.heap.size w3).alloc (Nat.le_refl _) (Obj.cells #[Value.string x.1,Value.int IntKind.i64 x.2] 111)).trans (hb4.mono (by simp)) |>.mono hB3.size);have k4:=(k3.alloc (Obj.cells #[Value.string x.1,Value.int IntKind.i64 x.2] 111)).later hb4;clear e0 e1 hb4;go_wp2_with fail;refine (hnth _).out.mono ?_;rintro e w5 ⟨rfl,hb5⟩;have hB5:=hB4.trans (hb5.mono hB4.size);have k5:=k4.later hb5;clear hb5;obtain ⟨e0,e1,_⟩:=Zb k5
     have hff:=y1e
     go_wp2_with fail;refine (HW w5).out.mono ?_;rintro e w6 ⟨v,rfl,ho,hb6⟩;have hB6:=hB5.trans (((Below.refl w5.heap.size w5).alloc (Nat.le_refl _) (Obj.cells #[Value.string x.1,Value.int IntKind.i64 x.2] 111)).trans (hb6.mono (by simp)) |>.mono hB5.size);have hbv:BytesV w6 v (Ur x):=by have:=Au ho;simpa using this
     have HB6:=jY hB6;have HV:=jY hbv;clear e0 e1 hb6 ho hbv hB0 hB1 hB2 hB3 hB4 hB5 hB6 k0 k1 k2 k3 k4 k5;go_wp2_with fail;refine (HRP v w6 HV.out).out.mono ?_;rintro e w7 ⟨rfl,hb7⟩;have HB7:=jY (HB6.out.trans (hb7.mono HB6.out.size));clear hb7;go_wp2_with fail;go_ret2;exact ⟨rfl,HB7.out⟩
def x6y(p:ByteArray)(at_:Int):ByteArray × Int :=
 if Zq p then
  if at_<0\/(Yf p).length<=at_ then (⟨#[]⟩,2)
  else (Yc ((Yf p).take at_.toNat++(Yf p).drop (at_.toNat+1)),0)
 else (⟨#[]⟩,50)
theorem Iz(p:ByteArray)(hp:p.size<=281474976710656)(at_:Int)(w:World) :
 Calls Tryz.prog 274 #[.string p,.int .i64 at_] w fun e w'=>e=.returned (.tuple #[.string (x6y p at_).1,.int .i64 (x6y p at_).2])/\Bl w w':=by
 have HP:=jY (z8t p hp at_ w);unfold x6y;have hlen:(Yf p).length=(Zi p).length:=by simp [Yf]
 by_cases hok:Zq p=true/\¬ (at_<0\/((Zi p).length:Int)<=at_)
 ·obtain ⟨hr,hat⟩:=hok;have hk:=Uk hr;have hmany:=hk.many;have hps:p.size<=100000:=by rw [Ik hr];exact My (fun e he=>((y0h hr).each e he).1) (by rw [hlen];omega)
  obtain ⟨k,rfl⟩:∃ k:Nat,at_=(k:Int):=⟨at_.toNat,by omega⟩;have hkl:k<(Zi p).length:=by omega
  have hx:(Zi p)[k]?=some ((Zi p)[k]'hkl):=List.getElem?_eq_getElem hkl
  have hpk:Il p (k:Int)=(some ((Zi p)[k]'hkl),0):=by
   unfold Il;rw [if_pos hr,if_neg hat,Int.toNat_natCast,hx]
  rw [hpk] at HP;rw [if_pos hr,hlen,if_neg hat,Int.toNat_natCast];have hfr:=x9r hk k _ hx;have hto:((Zi p)[k]'hkl).to=Yh (Zi p) (k+1):=by simp [Yh,hx]
  have hput:=z8y hk k (k+1) (by omega) (by omega) ((Zi p).length-1) [] (by simp;omega);rw [List.flatMap_nil,List.append_nil,List.map_take,List.map_drop,<- hfr,<- hto] at hput;have heach:=hk.each _ (List.getElem_mem hkl);have h2:=Xe (Me hk.chain (List.getElem_mem hkl));generalize hc:(Zi p)[k]'hkl=c at *;have HRP:=fun w=>jY (Fp p hk.two (by omega) (-1) ((Zi p).length-1) (by rw [hk.count];omega) (by omega) c.fr c.to (by omega) (by omega) (by omega) (.slice none 0 0) [] (by simp) w (.none 0));rw [hput] at HRP;rw [show (Zi p).map Cut.ent=Yf p from rfl] at HRP;generalize (Yf p).take k++(Yf p).drop (k+1)=out at *;unfold Og Cut.val at HP;clear hput hx hat hpk hfr hto h2
  go_enter Tryz.func274,Tryz.ntmps274
  go_wp2_with fail;refine HP.out.mono ?_;clear HP;rintro e w1 ⟨rfl,hb1⟩;have k1:=Blk.new w1 305 #[Value.string c.m,Value.int IntKind.i64 c.s,Value.int IntKind.i64 c.fr,Value.int IntKind.i64 c.to];have hB1:=jY (hb1.alloc hb1.size (Obj.cells #[Value.string c.m,Value.int IntKind.i64 c.s,Value.int IntKind.i64 c.fr,Value.int IntKind.i64 c.to] 305));clear hb1;go_wp2_with fail;refine (HRP _).out.mono ?_;rintro e w2 ⟨rfl,hb2⟩;have HB2:=jY (hB1.out.trans (hb2.mono hB1.out.size));clear hb2;go_wp2_with fail;go_ret2;exact ⟨rfl,HB2.out⟩
 ·obtain ⟨er,her,hpk⟩:∃ er:Int,(er=2\/er=50)/\Il p at_=(none,er)/\(if Zq p=true then if at_<0\/((Yf p).length:Int)<=at_ then ((⟨#[]⟩:ByteArray),(2:Int)) else (Yc ((Yf p).take at_.toNat++(Yf p).drop (at_.toNat+1)),0) else (⟨#[]⟩,50))=(⟨#[]⟩,er):=by
   unfold Il;rw [hlen]
   cases hr:Zq p with
   | false=>exact ⟨50,.inr rfl,by simp,by simp⟩
   | true =>
     have hat:at_<0\/((Zi p).length:Int)<=at_:=Decidable.byContradiction fun h=>hok ⟨hr,h⟩;exact ⟨2,.inl rfl,by simp [hat],by simp [hat]⟩
  obtain ⟨hpk,hans⟩:=hpk;rw [hpk] at HP;rw [hans];have h0:er≠0:=by omega
  have h1:¬ er=0:=h0;unfold Og z2n at HP;clear hpk hans hok
  go_enter Tryz.func274,Tryz.ntmps274
  go_wp2_with fail;refine HP.out.mono ?_;clear HP;rintro e w1 ⟨rfl,hb1⟩;have HB1:=jY (hb1.alloc hb1.size (Obj.cells #[Value.string { data:=#[] },Value.int IntKind.i64 0,Value.int IntKind.i64 0,Value.int IntKind.i64 0] 305));clear hb1;go_wp2_with fail;go_ret2;exact ⟨rfl,HB1.out⟩
end Go.Proofs.YtknbfgilbnnnmaaGreatDoor.Pk
namespace Go.Proofs.YtknbfgilbnnnmaaGreatDoor
open Zc (Ent Ext KeepC Yl Z9 Zg Xg Zw Zd Zu Yo Y6 Ze Zy Z4 Za)
open Go.RowKit Go.Shelf Sk
attribute [local go_sem] Oper.semAt_some
theorem Z0(w:World)(o:Obj):Bl w (w.alloc o):=(Below.refl _ _).alloc (Nat.le_refl _) _
abbrev Kg (W:World) (n0:Nat) (v:Value) (l:List En):Prop:=Pk.Own35 W n0 v l
abbrev Qx (E:List En):Prop:=Pk.Valid E
theorem Ug{E:List En}(h:Qx E):(Pk.Yc E).size<=281474976710656:=by
 have:=Pk.My (fun e he=>(h.each e he).1) (by have:=h.many;omega)
 omega
theorem z6t{E:List En}(h:Qx E)(i:Int):Pk.Kd (Pk.Yc E) i=(if i<0\/(E.length:Int)<=i then ((⟨#[]⟩,0),2) else (E.getD i.toNat (⟨#[]⟩,0),0)):=by
 unfold Pk.Kd;rw [Pk.Ob h,Pk.Ue h];rfl
structure PackAt (W:World) (b:Nat) (E:List En):Prop where
 blk:Blk W b 221 #[.string (Pk.Yc E)]
 ok:Qx E
theorem PackAt.far{W W':World}{b:Nat}{E:List En}{S:Nat->Prop}(h:PackAt W b E)(hf:Far S W W')(hn:¬ S b):PackAt W' b E:=⟨hf.blk h.blk hn,h.ok⟩
theorem PackAt.later{W W':World}{b:Nat}{E:List En}(h:PackAt W b E)(hb:Bl W W'):PackAt W' b E:=⟨h.blk.later hb,h.ok⟩
theorem Ul{W:World}{n0:Nat}{v:Value}{l:List En}(h:Kg W n0 v l):∃ a c,v=.slice a l.length c/\l.length<=c:=by
 rcases h.2 with ⟨rfl,h0⟩|⟨g,cap,cur,rfl,h1,h2,h3⟩
 ·have hl:l=[]:=List.eq_nil_of_length_eq_zero h0;subst hl;exact ⟨none,0,rfl,Nat.le_refl _⟩
 ·exact ⟨_,cap,rfl,h3.1⟩
structure Row (W:World) (n0:Nat) (v:Value) (l:List En):Prop where
 form:∃ a c,v=.slice a l.length c
 at':∀ i e,l[i]?=some e->∃ b off c cur,v=.slice (some ⟨b,off,none⟩) l.length c/\n0<=b/\Blk W b 111 cur/\W.cell? ⟨b,off+i*2,none⟩=some (.string e.1)/\W.cell? ⟨b,off+i*2+1,none⟩=some (.int .i64 e.2)
theorem Row.far{W W':World}{n0:Nat}{v:Value}{l:List En}{S:Nat->Prop}(h:Row W n0 v l)(hf:Far S W W')(hS:∀ k cur,n0<=k->Blk W k 111 cur->¬ S k):Row W' n0 v l :=
 ⟨h.form,fun i e he=>by
   obtain ⟨b,off,c,cur,h1,h2,h3,h4,h5⟩:=h.at' i e he;have h6:=hf.blk h3 (hS b cur h2 h3);refine ⟨b,off,c,cur,h1,h2,h6,?_,?_⟩
   ·rw [h6.cell,<- h3.cell];exact h4
   ·rw [h6.cell,<- h3.cell];exact h5⟩
theorem Row.later{W W':World}{n0:Nat}{v:Value}{l:List En}(h:Row W n0 v l)(hb:Bl W W'):Row W' n0 v l:=h.far (S:=fun _=>False) (Far.of_below hb) (fun _ _ _ _ h=>h)
theorem Row.mono{W:World}{n0 n1:Nat}{v:Value}{l:List En}(h:Row W n0 v l)(hn:n1<=n0):Row W n1 v l :=
 ⟨h.form,fun i e he=>by
   obtain ⟨b,off,c,cur,h1,h2,h3⟩:=h.at' i e he
   exact ⟨b,off,c,cur,h1,Nat.le_trans hn h2,h3⟩⟩
theorem Row.nil(W:World)(n0:Nat):Row W n0 (.slice none 0 0) []:=⟨⟨none,0,rfl⟩,fun i e h=>by simp at h⟩
theorem Bv:∀ (l:List En) (i:Nat) (e:En),l[i]?=some e->(Zc.Zw l)[i*2]?=some (.string e.1)/\(Zc.Zw l)[i*2+1]?=some (.int .i64 e.2)
 | [],i,e,h=>by simp at h
 | x :: l,0,e,h=>by
   simp at h;subst h;exact ⟨rfl,rfl⟩
 | x :: l,i+1,e,h=>by
   have:=Bv l i e (by simpa using h)
   rw [show (i+1)*2=i*2+1+1 by omega];exact this
theorem Ce:∀ l:List En,(Zc.Zw l).length=l.length*2
 | []=>rfl
 | x :: l=>by
   have:=Ce l
   show (Zc.Zw l).length+1+1=_;rw [this,List.length_cons];omega
theorem Mq{W:World}{n0:Nat}{v:Value}{l:List En}(h:Kg W n0 v l):Row W n0 v l:=by
 refine ⟨?_,fun i e he=>?_⟩
 ·obtain ⟨a,c,h1,_⟩:=Ul h;exact ⟨a,c,h1⟩
 ·obtain ⟨q1,q2⟩:=Bv l i e he;have hi:=(List.getElem?_eq_some_iff.1 he).1;have hcl:=Ce l;rcases h.2 with ⟨rfl,h0⟩|⟨g,cap,cur,rfl,h1,h2,h3⟩
  ·omega
  ·refine ⟨g,0,cap,cur,rfl,h1,h2,?_,?_⟩
   ·rw [Nat.zero_add,h.cellAt (i*2) (by omega)];exact q1
   ·rw [Nat.zero_add,h.cellAt (i*2+1) (by omega)];exact q2
theorem x4u{W:World}{n0 g cap:Nat}{l:List En}(h:Kg W n0 (.slice (some ⟨g,0,none⟩) l.length cap) l)(a k:Nat)(hk:a+k<=l.length)(hk0:0<k)(c:Nat) :
 Row W n0 (.slice (some ⟨g,a*2,none⟩) k c) ((l.drop a).take k):=by
 have hlen:((l.drop a).take k).length=k:=by simp;omega
 refine ⟨⟨_,c,by rw [hlen]⟩,fun i e he=>?_⟩;have hi:=(List.getElem?_eq_some_iff.1 he).1;rw [hlen] at hi;rw [List.getElem?_take_of_lt hi,List.getElem?_drop] at he;obtain ⟨b,off,c2,cur,e1,e2,e3,e4,e5⟩:=(Mq h).at' (a+i) e he
 injection e1 with e1 _ _
 injection e1 with e1
 injection e1 with e1 e6 _
 subst e1;subst e6;refine ⟨g,a*2,c,cur,by rw [hlen],e2,e3,?_,?_⟩
 ·rw [<- e4];congr 2;omega
 ·rw [<- e5];congr 2;omega
section
variable {w:World} {b:Nat} {E:List En}
theorem C2(h:PackAt w b E):Calls Tryz.prog 88 #[.pointer (some ⟨b,0,none⟩)] w fun e w'=>∃ r,e=.returned r/\Kg w' w.heap.size r E/\Bl w w':=by
 have HE:=jY (Pk.z4d (Pk.Yc E) (Ug h.ok) w);rw [Pk.Ue h.ok,Pk.Ob h.ok] at HE;simp only [if_true] at HE;obtain ⟨c0,_⟩:=Z5 h.blk;clear h
 go_enter Tryz.func88,Tryz.ntmps88
 go_wp2_with (go_at_call 139;refine HE.out.mono ?_;rintro e w1 ⟨r,rfl,ho,hb⟩)
 go_ret;exact ⟨_,rfl,ho,hb⟩
theorem z8m(h:PackAt w b E):Calls Tryz.prog 86 #[.pointer (some ⟨b,0,none⟩)] w fun e w'=>e=.returned (.int .i64 E.length)/\Bl w w':=by
 have HE:=jY (C2 h);clear h
 go_enter Tryz.func86,Tryz.ntmps86
 go_wp2_with (go_at_call 88;refine HE.out.mono ?_;rintro e w1 ⟨r,rfl,ho,hb⟩;obtain ⟨a,c,rfl,_⟩:=Ul ho)
 go_ret;exact ⟨rfl,hb⟩
theorem v3i(h:PackAt w b E)(i:Int):Calls Tryz.prog 265 #[.pointer (some ⟨b,0,none⟩),.int .i64 i] w fun e w' =>
 e=.returned (.tuple #[.agg #[.string (Pk.Kd (Pk.Yc E) i).1.1,.int .i64 (Pk.Kd (Pk.Yc E) i).1.2],.bool ((Pk.Kd (Pk.Yc E) i).2==0)])/\Bl w w':=by
 have hb0:=Z0 w (.cells #[.string ⟨#[]⟩,.int .i64 0] 111);have HE:=jY (Pk.F0 (Pk.Yc E) (Ug h.ok) i (w.alloc (.cells #[.string ⟨#[]⟩,.int .i64 0] 111)));obtain ⟨c0,_⟩:=Z5 (h.later hb0).blk;have HB:=jY hb0;have kR:=Blk.new w 111 #[.string ⟨#[]⟩,.int .i64 0];generalize (Pk.Kd (Pk.Yc E) i)=g at *;obtain ⟨⟨gm,gs⟩,er⟩:=g;simp only at *;clear h hb0
 go_enter Tryz.func265,Tryz.ntmps265
 go_wp2_with fail;refine HE.out.mono ?_;rintro e w1 ⟨rfl,hb⟩;have k1:=kR.later hb;have K2:=jY (k1.alloc (Obj.cells #[.string gm,.int .i64 gs] 111));have kN:=Blk.new w1 111 #[.string gm,.int .i64 gs];obtain ⟨e0,e1,f0,f1⟩:=Zb kN;obtain ⟨e2,e3,f2,f3⟩:=Zb K2.out;have hb2:=HB.out.trans (hb.mono HB.out.size);have HB2:=jY (hb2.trans ((Z0 w1 (Obj.cells #[.string gm,.int .i64 gs] 111)).mono hb2.size));clear hb hb2 k1 kN kR HE;go_wp2_with fail;obtain ⟨g1,g2,g3⟩:=Pk.set2 (.string gm) (.int .i64 gs) K2.out;exact Pk.v0b Tryz.results265 rfl rfl g1 rfl ⟨rfl,HB2.out.trans (g3 _ (Nat.le_refl _))⟩
theorem x8n(h:PackAt w b E)(f t:Int):Calls Tryz.prog 268 #[.pointer (some ⟨b,0,none⟩),.int .i64 f,.int .i64 t] w fun e w'=>∃ r,e=.returned r/\Row w' w.heap.size r (Uu E f t)/\Bl w w':=by
 have HE:=jY (C2 h);have hF:max f 0=(f0 f:Int):=by unfold f0;omega
 clear h
 by_cases hlt:f0 f<t0 t E.length
 ·have hT:min t (E.length:Int)=(t0 t E.length:Int):=by unfold t0 f0 at *;omega
  have hTl:t0 t E.length<=E.length:=by unfold t0;omega
  unfold Uu;generalize f0 f=F at *;generalize t0 t E.length=T at *;have h1:(0:Int)<=F:=by omega
  have h2:(F:Int)<=T:=by omega
  have h4:¬ (F:Int) >= T:=by omega
  have h5:(F:Int)<T:=by omega
  go_enter Tryz.func268,Tryz.ntmps268
  go_wp2_with fail;refine HE.out.mono ?_;rintro e w1 ⟨r,rfl,ho,hb⟩;have ho2:=ho.2;rcases ho2 with ⟨rfl,h0⟩|⟨g,cap,cur,rfl,q1,q2,q3⟩
  ·omega
  ·have h3:(T:Int)<=cap:=by have:=q3.1;omega
   have h6:¬ cap=F:=by have:=q3.1;omega
   have HR:=jY (x4u ho F (T-F) (by omega) (by omega));clear q1 q2 q3 ho;go_wp2_with fail
   all_goals (
    go_ret
    exact ⟨_,rfl,by simpa using HR.out _,hb⟩)
 ·have h0:Uu E f t=[]:=List.eq_nil_of_length_eq_zero (by rw [O0];omega);rw [h0];have h6:min t (E.length:Int)<=(f0 f:Int):=by unfold t0 f0 at *;omega
  generalize f0 f=F at *;clear hlt h0
  go_enter Tryz.func268,Tryz.ntmps268
  go_wp2_with fail;refine HE.out.mono ?_;rintro e w1 ⟨r,rfl,ho,hb⟩;obtain ⟨a,c,rfl,_⟩:=Ul ho;go_wp2_with fail
  all_goals (
   go_ret
   exact ⟨_,rfl,Row.nil _ _,hb⟩)
theorem x8m(h:PackAt w b E):Calls Tryz.prog 269 #[.pointer (some ⟨b,0,none⟩)] w fun e w'=>e=.returned (.int .i64 (Pk.Yc E).size)/\w'=w:=by
 obtain ⟨c0,_⟩:=Z5 h.blk;clear h
 go_enter Tryz.func269,Tryz.ntmps269
 go_wp2;go_ret;exact ⟨rfl,rfl⟩
theorem z0q(E:List En)(m:ByteArray):Pk.Xt E m=(match whE E m with|none=>-1|some i=>(i:Int)):=rfl
theorem v1u(h:PackAt w b E)(m:ByteArray):Calls Tryz.prog 271 #[.pointer (some ⟨b,0,none⟩),.string m] w fun e w' =>
 e=.returned (.tuple #[.int .i64 ((whE E m).getD 0),.bool (whE E m).isSome])/\Bl w w':=by
 have HE:=jY (Pk.Yq (Pk.Yc E) m (Ug h.ok) w);rw [Pk.Ue h.ok,z0q] at HE;obtain ⟨c0,_⟩:=Z5 h.blk;clear h;generalize whE E m=q at *
 cases q with
 | none =>
   go_enter Tryz.func271,Tryz.ntmps271
   go_wp2_with (go_at_call 275;refine HE.out.mono ?_;rintro e w1 ⟨rfl,hb⟩)
   go_ret2;exact ⟨rfl,hb⟩
 | some i =>
   have h1:(0:Int)<=i:=by omega
   have h2:max (i:Int) 0=i:=by omega
   have h3:(i:Int) >= 0:=by omega
   go_enter Tryz.func271,Tryz.ntmps271
   go_wp2_with (go_at_call 275;refine HE.out.mono ?_;rintro e w1 ⟨rfl,hb⟩)
   go_ret2;exact ⟨by simp,hb⟩
theorem z5l(h:PackAt w b E)(m:ByteArray):Calls Tryz.prog 273 #[.pointer (some ⟨b,0,none⟩),.string m] w fun e w' =>
 e=.returned (.tuple #[.int .i64 (Pk.Kd (Pk.Yc E) (Pk.Xt E m)).1.2,.bool ((Pk.Kd (Pk.Yc E) (Pk.Xt E m)).2==0)])/\Bl w w':=by
 have HE:=jY (Pk.Yq (Pk.Yc E) m (Ug h.ok) w);rw [Pk.Ue h.ok] at HE;have HA:=fun W (hb:Bl w W)=>jY (v3i (h.later hb) (Pk.Xt E m));obtain ⟨c0,_⟩:=Z5 h.blk;clear h;generalize Pk.Kd (Pk.Yc E) (Pk.Xt E m)=g at *;generalize Pk.Xt E m=q at *
 go_enter Tryz.func273,Tryz.ntmps273
 go_wp2_with fail;refine HE.out.mono ?_;rintro e w1 ⟨rfl,hb⟩;have HA1:=HA w1 hb;have HB:=jY hb;clear HA HE hb;go_wp2_with fail;refine HA1.out.mono ?_;rintro e w2 ⟨rfl,hb2⟩;have HB2:=jY (HB.out.trans (hb2.mono HB.out.size));have kN:=Blk.new w2 111 #[.string g.1.1,.int .i64 g.1.2];obtain ⟨e0,e1,_,_⟩:=Zb kN;clear hb2 HB kN;go_wp2_with fail;go_ret2;exact ⟨rfl,HB2.out.trans ((Z0 w2 _).mono HB2.out.size)⟩
end
theorem Zk(W:World)(n:Nat):Bl W (W.drewN n):=⟨rfl,rfl,rfl,Nat.le_refl _,fun _ _=>rfl⟩
theorem y3u(c0 c1:Value)(n k:Nat)(hk:k<=n)(hn:n<=1000000)(w:World)
 (H:∀ W,Bl w W->∀ i:Nat,i<n->Calls Tryz.prog 283 #[.int .i64 i,c0,c1] W fun e w'=>e=.returned (.bool (decide (k<=i)))/\Bl W w') :
 Calls Tryz.prog 282 #[.int .i64 n,.func (.func 283) #[] #[c0,c1]] w fun e w'=>e=.returned (.int .i64 k)/\Bl w w':=by
 have HF:=jY H;clear H
 go_enter Tryz.func282,Tryz.ntmps282
 go_wp2
 go_loopg [5,6] n (fun kx s5 s6 wr=>∃ (lo hi:Nat),s5=.int .i64 lo/\s6=.int .i64 hi/\lo<=k/\k<=hi/\hi<=n/\hi-lo<=kx/\Hid (Bl w wr))
 case atStart=>exact ⟨0,n,rfl,rfl,Nat.zero_le _,hk,Nat.le_refl _,by omega,Below.refl _ _⟩
 case round =>
  obtain ⟨lo,hi,rfl,rfl,hlk,hkh,hin,hg,I⟩:=hrel
  by_cases hlt:lo<hi
  ·have hc:=HF.out _ I.out ((lo+hi) / 2) (by omega);rw [show (((lo+hi) / 2:Nat):Int)=((lo:Int)+(hi:Int)) / 2 by omega] at hc
   by_cases hp:k<=(lo+hi) / 2
   ·rw [decide_eq_true hp] at hc
    go_wp2_with (go_at_call 283;refine hc.mono ?_;rintro e w' ⟨rfl,hb⟩)
    go_roundg ((lo+hi) / 2-lo)
    case measure=>omega
    case rel=>exact ⟨lo,(lo+hi) / 2,rfl,by rw [show ((lo:Int)+(hi:Int)) / 2=(((lo+hi) / 2:Nat):Int) by omega],hlk,hp,by omega,Nat.le_refl _,I.out.trans (hb.mono I.out.size)⟩
   ·rw [decide_eq_false hp] at hc
    go_wp2_with (go_at_call 283;refine hc.mono ?_;rintro e w' ⟨rfl,hb⟩)
    go_roundg (hi-((lo+hi) / 2+1))
    case measure=>omega
    case rel=>exact ⟨(lo+hi) / 2+1,hi,by rw [show ((lo:Int)+(hi:Int)) / 2+1=(((lo+hi) / 2+1:Nat):Int) by omega],rfl,by omega,hkh,hin,Nat.le_refl _,I.out.trans (hb.mono I.out.size)⟩
  ·obtain rfl:lo=k:=by omega
   go_wp2;go_ret;exact ⟨rfl,I.out⟩
structure Ask (w:World) (A:Nat) (cb:Array Value) (E:List En) (k:Nat):Prop where
 enter:∀ args w,(callFunc A args).run Tryz.prog w=.ok (.enter A args) w
 le:k<=E.length
 call:∀ W,Bl w W->∀ (i:Nat) (x:En),E[i]?=some x->Calls Tryz.prog A (#[.agg #[.string x.1,.int .i64 x.2]]++cb) W fun e w'=>e=.returned (.bool (decide (i<k)))/\Bl W w'
theorem Ask.later{w w':World}{A:Nat}{cb:Array Value}{E:List En}{k:Nat}(h:Ask w A cb E k)(hb:Bl w w'):Ask w' A cb E k:=⟨h.enter,h.le,fun W hW=>h.call W (hb.trans (hW.mono hb.size))⟩
theorem x3p(i k:Nat):(!decide (i<k))=decide (k<=i):=by
 by_cases h:i<k
 ·rw [decide_eq_true h,decide_eq_false (by omega)];rfl
 ·rw [decide_eq_false h,decide_eq_true (by omega)];rfl
variable {w:World} {b:Nat} {E:List En}
theorem v3h(h:PackAt w b E){A:Nat}{cb:Array Value}{k:Nat}(ha:Ask w A cb E k){q0 q1:Nat}(k0:Blk w q0 84 #[.iface 155 (.pointer (some ⟨b,0,none⟩))])(k1:Blk w q1 109 #[.func (.func A) #[] cb])(i:Nat)(hi:i<E.length) :
 Calls Tryz.prog 283 #[.int .i64 i,.pointer (some ⟨q0,0,none⟩),.pointer (some ⟨q1,0,none⟩)] w fun e w'=>e=.returned (.bool (decide (k<=i)))/\Bl w w':=by
 rw [<- x3p];have HA:=jY (v3i h i);rw [z6t h.ok] at HA;have hx:E[i]?=some E[i]:=List.getElem?_eq_getElem hi;have h1:¬ ((i:Int)<0\/(E.length:Int)<=i):=by omega
 rw [if_neg h1,Int.toNat_natCast,List.getD_eq_getElem?_getD,hx] at HA;simp only [Option.getD_some] at HA;generalize E[i]=x at *;have HC:=jY ha.call;have eg:=ha.enter;have HX:=jY hx;have K1:=jY k1;obtain ⟨e0,_⟩:=Z5 k0;clear h ha hx h1 k0 k1
 go_enter Tryz.func283,Tryz.ntmps283
 go_wp2_with fail;refine HA.out.mono ?_;rintro e w1 ⟨rfl,hb⟩;have kN:=Blk.new w1 111 #[.string x.1,.int .i64 x.2];have hb2:=hb.trans ((Z0 w1 (Obj.cells #[.string x.1,.int .i64 x.2] 111)).mono hb.size);have HQ:=jY (HC.out _ hb2 i x HX.out);obtain ⟨e1,_⟩:=Z5 (K1.out.later hb2);obtain ⟨e2,e3,_,_⟩:=Zb kN;have HB2:=jY hb2;clear hb hb2 HC HX K1 kN HA
 go_wp2_with (go_at_fn A;refine HQ.out.mono ?_;rintro e w2 ⟨rfl,hb3⟩)
 go_ret;exact ⟨rfl,HB2.out.trans (hb3.mono HB2.out.size)⟩
theorem v1t(h:PackAt w b E){A:Nat}{cb:Array Value}{k:Nat}(ha:Ask w A cb E k) :
 Calls Tryz.prog 276 #[.iface 155 (.pointer (some ⟨b,0,none⟩)),.func (.func A) #[] cb] w fun e w'=>e=.returned (.int .i64 k)/\Bl w w':=by
 obtain ⟨w1,hw1⟩:∃ w1,w1=(w.alloc (.cells #[.iface 155 (.pointer (some ⟨b,0,none⟩))] 84)).alloc (.cells #[.func (.func A) #[] cb] 109):=⟨_,rfl⟩;have hb1:Bl w w1:=by rw [hw1];exact (Z0 _ _).trans ((Z0 _ _).mono (by simp))
 have k0:Blk w1 w.heap.size 84 #[.iface 155 (.pointer (some ⟨b,0,none⟩))]:=by rw [hw1];exact (Blk.new _ _ _).alloc _
 have k1:Blk w1 (w.heap.size+1) 109 #[.func (.func A) #[] cb]:=by
  rw [hw1]
  have:=Blk.new (w.alloc (.cells #[.iface 155 (.pointer (some ⟨b,0,none⟩))] 84)) 109 #[.func (.func A) #[] cb]
  simpa using this
 have HL:=jY (z8m (h.later hb1));have hmany:=h.ok.many
 have HS:=fun W (hb:Bl w1 W)=>jY (y3u (.pointer (some ⟨w.heap.size,0,none⟩)) (.pointer (some ⟨w.heap.size+1,0,none⟩)) E.length k ha.le (by omega) W
  (fun W' hb' i hi=>v3h ((h.later hb1).later (hb.trans (hb'.mono hb.size))) ((ha.later hb1).later (hb.trans (hb'.mono hb.size))) (k0.later (hb.trans (hb'.mono hb.size))) (k1.later (hb.trans (hb'.mono hb.size))) i hi))
 obtain ⟨e0,_⟩:=Z5 k0;have HB1:=jY hb1;have HW:=jY hw1;clear h ha k0 k1 hb1 hmany;rw [hw1] at HL e0;clear hw1
 go_enter Tryz.func276,Tryz.ntmps276
 go_wp2_with fail;refine HL.out.mono ?_;rintro e w2 ⟨rfl,hb2⟩;rw [<- HW.out] at hb2;have HS2:=HS w2 hb2;have HB2:=jY (HB1.out.trans (hb2.mono HB1.out.size));clear hb2 HS HL
 go_wp2_with (go_at_call 282;refine HS2.out.mono ?_;rintro e w3 ⟨rfl,hb3⟩)
 go_ret;exact ⟨rfl,HB2.out.trans (hb3.mono HB2.out.size)⟩
theorem x0h{E E':List En}(h:Qx E)(hs:E'.Sublist E):Qx E':=⟨Nat.le_trans hs.length_le h.many,fun e he=>h.each e (hs.subset he)⟩
theorem x6g{E:List En}(h:Qx E)(m:ByteArray):Qx (rmE E m):=x0h h List.filter_sublist
theorem x0g{E:List En}(h:Qx E)(m:ByteArray)(s:Int)(hl:E.length<200)(hm:m.size<=64)(hs:Pk.Y9 s):Qx (Vu E m s) :=
 ⟨by rw [Fl];omega,fun e he=>by
   rcases Fe.1 he with rfl|he
   ·exact ⟨hm,hs⟩
   ·exact h.each e he⟩
theorem PackAt.write{W:World}{b:Nat}{E E':List En}(h:PackAt W b E)(ho:Qx E'):PackAt (W.setCell ⟨b,0,none⟩ (.string (Pk.Yc E'))) b E' :=
 ⟨h.blk.set 0 _,ho⟩
theorem Gv{S:Nat->Prop}(W:World)(b o:Nat)(v:Value)(hb:S b):Far S W (W.setCell ⟨b,o,none⟩ v):=(Far.refl S W).set ⟨b,o,none⟩ v (.inl hb)
variable {w:World} {b:Nat} {E:List En}
theorem z8l(h:PackAt w b E)(hd:Vj E)(m:ByteArray)(s:Int):Calls Tryz.prog 267 #[.pointer (some ⟨b,0,none⟩),.agg #[.string m,.int .i64 s]] w fun e w' =>
 e=.returned (.bool (Pp E m))/\PackAt w' b (rmE E m)/\Far (fun k=>k=b) w w':=by
 have hb0:=Z0 w (.cells #[.string m,.int .i64 s] 111);have hF:=fun W=>Pk.Yq (Pk.Yc E) m (Ug h.ok) W;have hD:=fun W=>Pk.Iz (Pk.Yc E) (Ug h.ok) (Pk.Xt E m) W;rw [O7];have hfo:=(h.later hb0);have hv:=x6g h.ok m;rw [Pk.Ue h.ok] at hF;unfold Pk.x6y at hD;rw [Pk.Ob h.ok,Pk.Ue h.ok] at hD;rw [z0q] at hF hD;have kE:=Blk.new w 111 #[.string m,.int .i64 s];have HP:=fun W (hb:Below (w.alloc (.cells #[.string m,.int .i64 s] 111)).heap.size (w.alloc (.cells #[.string m,.int .i64 s] 111)) W)=>jY (hfo.later hb)
 have HSW:=jY (fun W (hb:Below (w.alloc (.cells #[.string m,.int .i64 s] 111)).heap.size (w.alloc (.cells #[.string m,.int .i64 s] 111)) W) =>
  show W.cell? ⟨b,0,none⟩=some (.string (Pk.Yc E))/\W.cell? ⟨w.heap.size,0,none⟩=some (.string m) from ⟨(Z5 (hfo.later hb).blk).1,(Zb (kE.later hb)).1⟩)
 have HB0:=jY hb0
 cases hq:whE E m with
 | none =>
   rw [Vd (V4 hq)];rw [hq] at hF hD;simp only [show ((-1:Int)<0)=True by simp,true_or,if_true] at hD;have HF:=fun W=>jY (hF W);have HD:=fun W=>jY (hD W);obtain ⟨e0,_⟩:=Z5 hfo.blk;clear hF hD hfo h hb0 hq hv kE e0
   go_enter Tryz.func267,Tryz.ntmps267
   go_wp2_with fail;have hb1:=Zk (w.alloc (.cells #[.string m,.int .i64 s] 111)) 1;have S0:=HSW.out _ hb1;have HB1:=jY hb1;clear hb1
   go_region_held (fun W=>W.cell? ⟨b,0,none⟩=some (.string (Pk.Yc E))/\W.cell? ⟨w.heap.size,0,none⟩=some (.string m)) (first|exact S0|exact S1|exact S2)
    (first
      | (go_at_call 275;refine (HF _).out.mono ?_;rintro e w1 ⟨rfl,hb⟩
         have HB2:=jY (HB1.out.trans (hb.mono HB1.out.size));have S1:=HSW.out _ HB2.out
         clear hb HF)
      | (go_at_call 274;refine (HD _).out.mono ?_;rintro e w2 ⟨rfl,hb⟩
         have HB3:=jY (HB2.out.trans (hb.mono HB2.out.size));have S2:=HSW.out _ HB3.out
         clear hb HD))
   all_goals (
    go_wp2_with fail;go_ret
    exact ⟨rfl,(HP _ HB3.out).out,(Far.of_below HB0.out).then_below HB3.out⟩)
 | some i =>
   obtain ⟨s0,hs0⟩:=Uc hq;have hi:=(List.getElem?_eq_some_iff.1 hs0).1;rw [hq] at hF hD;have h9:¬ ((i:Int)<0\/(E.length:Int)<=i):=by omega
   have hrm:=C8 hd hs0;simp only at hrm;simp only [if_true,if_neg h9,Int.toNat_natCast,<- hrm] at hD;have HF:=fun W=>jY (hF W);have HD:=fun W=>jY (hD W);have HV:=jY hv;have hbb:=hfo.blk.lt;clear hF hD hfo h hb0 hq hv kE hs0 hi h9 hrm;generalize rmE E m=E' at *
   go_enter Tryz.func267,Tryz.ntmps267
   go_wp2_with fail;have hb1:=Zk (w.alloc (.cells #[.string m,.int .i64 s] 111)) 1;have S0:=HSW.out _ hb1;have HB1:=jY hb1;clear hb1
   go_region_held (fun W=>W.cell? ⟨b,0,none⟩=some (.string (Pk.Yc E))/\W.cell? ⟨w.heap.size,0,none⟩=some (.string m)) (first|exact S0|exact S1|exact S2)
    (first
      | (go_at_call 275;refine (HF _).out.mono ?_;rintro e w1 ⟨rfl,hb⟩
         have HB2:=jY (HB1.out.trans (hb.mono HB1.out.size));have S1:=HSW.out _ HB2.out
         clear hb HF)
      | (go_at_call 274;refine (HD _).out.mono ?_;rintro e w2 ⟨rfl,hb⟩
         have HB3:=jY (HB2.out.trans (hb.mono HB2.out.size));have S2:=HSW.out _ HB3.out
         clear hb HD))
   all_goals (
    have HP3:=HP _ HB3.out;obtain ⟨e0,f0⟩:=Z5 HP3.out.blk;go_wp2_with fail;go_ret
    exact ⟨rfl,HP3.out.write HV.out,((Far.of_below HB0.out).then_below HB3.out).trans (Gv (S:=fun k=>k=b) _ b 0 _ rfl) (fun k hk=>.inl hk)⟩)
theorem x4l(m:ByteArray)(s:Int)(q:Nat)(hs:O5 E)(kq:Blk w q 111 #[.string m,.int .i64 s]):Ask w 277 #[.pointer (some ⟨q,0,none⟩)] E (Vo E m s):=by
 refine ⟨enters_of Tryz.func277 (by kernel_rfl) rfl,Bf _ _ _,fun W hb i x hx=>?_⟩;have hl:=M1 hs m s i x hx;have HL:=fun W=>jY (z7z x.1 m x.2 s W);have hle:Sk.Yb x.1 x.2 m s=decide (i<Vo E m s):=hl;rw [hle] at HL;obtain ⟨g0,g1,_,_⟩:=Zb ((kq.later hb).alloc (.cells #[.string x.1,.int .i64 x.2] 111));obtain ⟨e0,e1,_,_⟩:=Zb (Blk.new W 111 #[.string x.1,.int .i64 x.2]);have HB:=jY (Z0 W (.cells #[.string x.1,.int .i64 x.2] 111));clear hl hle hx hs kq hb;generalize decide (i<Vo E m s)=bb at *;show Calls Tryz.prog 277 #[.agg #[.string x.1,.int .i64 x.2],.pointer (some ⟨q,0,none⟩)] W _
 go_enter Tryz.func277,Tryz.ntmps277
 go_wp2_with (go_at_call 206;refine (HL _).out.mono ?_;rintro e w1 ⟨rfl,hb1⟩)
 go_ret;exact ⟨rfl,HB.out.trans (hb1.mono HB.out.size)⟩
theorem x9y(h:PackAt w b E)(hsE:O5 E)(hl:E.length<200)(lv:Int)(v:Value)(m:ByteArray)(hm:m.size<=64)(s:Int)(hs:Pk.Y9 s)(hr:Row w 0 v [(m,s)])(hx:∀ k cur,Blk w k 111 cur->k≠b) :
 Calls Tryz.prog 270 #[.pointer (some ⟨b,0,none⟩),.int .i64 lv,v] w fun e w'=>e=.returned (.tuple #[])/\PackAt w' b (Vu E m s)/\Far (fun k=>k=b) w w':=by
 have hcell:∀ W,Far (fun k=>k=b) w W->∃ q off c,v=.slice (some ⟨q,off,none⟩) 1 c/\W.cell? ⟨q,off,none⟩=some (.string m)/\W.cell? ⟨q,off+1,none⟩=some (.int .i64 s):=fun W hf=>by
  obtain ⟨q,off,c,cur,h1,_,kq,c0,c1⟩:=(hr.far hf (fun k cur _ hk e=>hx k cur hk e)).at' 0 (m,s) rfl;exact ⟨q,off,c,h1,by simpa using c0,by simpa using c1⟩
 obtain ⟨q,off,c,rfl,_,_⟩:=hcell w (Far.refl _ _);have HC:=fun W hf=>jY (hcell W hf);have HS:=jY hsE;have HH:=jY h;have HPUT:=jY (x0g h.ok m s hl hm hs)
 have hins:Pk.x2j (Pk.Yc E) (Vo E m s) (m,s)=(Pk.Yc (Vu E m s),0):=by
  unfold Pk.x2j;have h1:¬ E.length=200:=by omega
  have h2:=Bf E m s;have h3:¬ ((Vo E m s:Int)<0\/(E.length:Int)<(Vo E m s:Int)\/64<m.size):=by omega
  rw [Pk.Ob h.ok,Pk.Ue h.ok,if_pos rfl,if_neg h1,if_neg h3,Int.toNat_natCast];unfold Vu;rw [List.append_assoc];rfl
 have hple:=Bf E m s;have HI:=fun W=>jY (Pk.G5 (Pk.Yc E) (Ug h.ok) (Vo E m s) (by omega) (m,s) (by simp;omega) W);rw [hins] at HI;simp only at HI;clear hcell hsE h hins hr hx hs hple
 go_enter Tryz.func270,Tryz.ntmps270
 go_wp2
 go_loopw [11] (fun i wr=>∃ (k:Nat),i=.int .i64 k/\k<=1/\PackAt wr b (if k=0 then E else Vu E m s)/\Far (fun k=>k=b) w wr) (fun i _=>1-(intOf i).toNat)
 case atStart=>exact ⟨0,rfl,by omega,HH.out,Far.refl _ _⟩
 case round =>
  obtain ⟨k,rfl,hk,hp,hf⟩:=hrel
  by_cases h0:k=0
  ·subst h0;rw [if_pos rfl] at hp;obtain ⟨q',off',c',e1,g0,g1⟩:=(HC wr hf).out
   injection e1 with e1 _ e2
   injection e1 with e1
   injection e1 with e1 e3 _
   subst e1;subst e2;subst e3;have hb1:=Z0 wr (.cells #[.string m,.int .i64 s] 111);have kE:=Blk.new wr 111 #[.string m,.int .i64 s];have HL:=jY (v1t (hp.later hb1) (x4l m s wr.heap.size HS.out kE))
   have HSW:=jY (fun W (hb:Below (wr.alloc (.cells #[.string m,.int .i64 s] 111)).heap.size (wr.alloc (.cells #[.string m,.int .i64 s] 111)) W) =>
    show W.cell? ⟨b,0,none⟩=some (.string (Pk.Yc E))/\W.cell? ⟨wr.heap.size,0,none⟩=some (.string m)/\W.cell? ⟨wr.heap.size,1,none⟩=some (.int .i64 s) from ⟨(Z5 ((hp.later hb1).later hb).blk).1,(Zb (kE.later hb)).1,(Zb (kE.later hb)).2.1⟩)
   have HP:=fun W (hb:Below (wr.alloc (.cells #[.string m,.int .i64 s] 111)).heap.size (wr.alloc (.cells #[.string m,.int .i64 s] 111)) W)=>jY ((hp.later hb1).later hb);have HF:=jY (hf.then_below hb1);clear hp hf hb1 kE hk HC;go_wp2_with fail;refine HL.out.mono ?_;rintro e w1 ⟨rfl,hb⟩;have HB1:=jY (show Below (wr.alloc (.cells #[.string m,.int .i64 s] 111)).heap.size (wr.alloc (.cells #[.string m,.int .i64 s] 111)) w1.drew from hb.trans ((Zk w1 1).mono hb.size));obtain ⟨a0,S0⟩:=HSW.out w1.drew HB1.out;clear hb HL g0 g1;go_wp2_with fail;obtain ⟨a1,a2⟩:=S0
   go_region_with (first
    | (go_at_call 278;refine (HI _).out.mono ?_;rintro e w2 ⟨rfl,hb⟩
       have HB2:=jY (HB1.out.trans (hb.mono HB1.out.size));have HP2:=HP _ HB2.out;obtain ⟨g0,g1⟩:=Z5 HP2.out.blk
       clear hb HI a1 a2 a0))
   all_goals (
    go_wp2_with fail
    refine ⟨⟨1,by go_num,by omega,HP2.out.write HPUT.out,(HF.out.then_below HB2.out).trans (Gv (S:=fun k=>k=b) _ b 0 _ rfl) (fun k hk=>.inl hk)⟩,by simp [intOf]⟩)
  ·have h1:k=1:=by omega
   subst h1;have HPF:=jY (And.intro hp hf);clear hp hf;go_wp2_with fail;go_returns;exact ⟨rfl,HPF.out⟩
theorem y3p(E l:List En)(k:Nat)(x:En)(h:l[k]?=some x):Io E (l.take (k+1))=rmE (Io E (l.take k)) x.1:=by
 obtain ⟨hk,rfl⟩:=List.getElem?_eq_some_iff.1 h;unfold Io;rw [List.take_succ_eq_append_getElem hk,List.foldl_append];rfl
theorem y0z{l:List En}:∀ {E:List En},Vj E->Vj (Io E l):=by
 induction l with
 | nil=>intro E h;exact h
 | cons x l ih=>intro E h;exact ih (z7d h x.1)
theorem Vw{W:World}{n0:Nat}{v:Value}{l:List En}(h:Row W n0 v l){k:Nat}{x:En}(hx:l[k]?=some x):∃ b off c,v=.slice (some ⟨b,off,none⟩) l.length c/\W.cell? ⟨b,off+k*2,none⟩=some (.string x.1)/\W.cell? ⟨b,off+k*2+1,none⟩=some (.int .i64 x.2):=by
 obtain ⟨b,off,c,cur,h1,_,_,h2,h3⟩:=h.at' k x hx;exact ⟨b,off,c,h1,h2,h3⟩
variable {w:World} {b:Nat} {E:List En}
theorem v3j(h:PackAt w b E)(hd:Vj E)(f t:Int):Calls Tryz.prog 266 #[.pointer (some ⟨b,0,none⟩),.int .i64 f,.int .i64 t] w fun e w' =>
 e=.returned (.int .i64 (Uu E f t).length)/\PackAt w' b (Q8 E f t)/\Far (fun k=>k=b) w w':=by
 have HR:=jY (x8n h f t);have hN:(Uu E f t).length<=200:=by rw [O0];have:=h.ok.many;unfold t0;omega
 have HCUT:=jY (z2y hd f t);have HH:=jY h;have HD:=jY hd;clear h hd;generalize Uu E f t=l at *
 go_enter Tryz.func266,Tryz.ntmps266
 go_wp2_with fail;refine HR.out.mono ?_;rintro e w1 ⟨r,rfl,hr,hb⟩;obtain ⟨a,c,rfl⟩:=hr.form;have hp1:=HH.out.later hb;have HF1:=jY (show Far (fun k=>k=b) w w1 from Far.of_below hb);have HP1:=jY hp1;have HROW:=jY (fun W (hf:Far (fun k=>k=b) w1 W)=>hr.far hf (fun k cur _ hk e=>by subst e;exact absurd (hk.ty hp1.blk) (by decide)));clear hb hp1 hr HR HH;go_wp2_with fail
 go_loopw [16] (fun i wr=>∃ (k:Nat),i=.int .i64 k/\k<=l.length/\PackAt wr b (Io E (l.take k))/\Far (fun k=>k=b) w1 wr) (fun i _=>l.length-(intOf i).toNat)
 case atStart=>exact ⟨0,rfl,by omega,HP1.out,Far.refl _ _⟩
 case round =>
  obtain ⟨k,rfl,hk,hp,hf⟩:=hrel
  by_cases hlt:k<l.length
  ·have hx:l[k]?=some l[k]:=List.getElem?_eq_getElem hlt;generalize l[k]=x at *;obtain ⟨q,off,c',e1,g0,g1⟩:=Vw (HROW.out wr hf) hx
   injection e1 with e1 _ e2
   subst e1;have HSN:=jY (y3p E l k x hx);have hb1:=Z0 wr (.cells #[.string x.1,.int .i64 x.2] 111);have HDL:=jY (z8l (hp.later hb1) (y0z HD.out) x.1 x.2);have HF:=jY (hf.then_below hb1);have hk2:(k:Int)<l.length:=by omega
   clear hp hf hb1 hx e2;go_wp2_with fail;refine HDL.out.mono ?_;rintro e w2 ⟨rfl,hp2,hf2⟩;have HP2:=jY hp2;have HF2:=jY (HF.out.trans hf2 (fun k hk=>.inl hk));clear hp2 hf2 HDL g0 g1;go_wp2_with fail;exact ⟨⟨k+1,by go_num,hlt,HSN.out ▸ HP2.out,HF2.out⟩,by simp [intOf];omega⟩
  ·obtain rfl:k=l.length:=by omega
   rw [List.take_length,HCUT.out] at hp;have HP2:=jY hp;have HF2:=jY (HF1.out.trans hf (fun k hk=>.inl hk));clear hp hf;go_wp2_with fail;go_ret;exact ⟨rfl,HP2.out,HF2.out⟩
theorem y4l{S:Nat->Prop}{W W':World}(h:Far S W W'):Dc.Far S W W':=⟨h.os,h.tape,h.output,h.size,h.block⟩
theorem y2t{S:Nat->Prop}{W W':World}(h:Dc.Far S W W'):Far S W W':=⟨h.os,h.tape,h.output,h.size,h.block⟩
def en(x:Nd):En:=(x.m,x.s)
theorem z5p(L:List Nd)(m:ByteArray)(s:Int):pos L m s=Vo (L.map en) m s:=by
 unfold pos Vo;rw [List.takeWhile_map,List.length_map];rfl
theorem y4c{L:List Nd}(h:Srt L):O5 (L.map en):=by unfold O5;rw [List.pairwise_map];exact h
theorem y1s{L:List Nd}(hs:Srt L)(m:ByteArray)(s:Int):has L m s=true↔(m,s)∈L.map en:=by
 constructor
 ·intro h;unfold has at h
  split at h
  ·rename_i x hx
   have:=of_decide_eq_true h
   exact List.mem_map.2 ⟨x,List.mem_of_getElem? hx,by unfold en;rw [this.1,this.2]⟩
  ·cases h
 ·intro h;obtain ⟨i,hi⟩:=List.mem_iff_getElem?.1 h;have hp:=C3 (y4c hs) hi;simp only at hp;rw [List.getElem?_map] at hi;obtain ⟨x,hx,he⟩:=Option.map_eq_some_iff.1 hi;unfold has;rw [z5p,hp,hx];unfold en at he
  injection he with h1 h2
  simp [h1,h2]
theorem v1y(L:List Nd)(x:Nd):(Xf L x).map en=Vu (L.map en) x.m x.s:=by
 unfold Xf Vu;rw [z5p,List.map_append,List.map_cons,List.map_take,List.map_drop];rfl
structure LAt (W:World) (l p q:Nat) (D:Nat->Prop) (sd:Nat) (L:List Nd) (m:ByteArray->Option Int) (n:Dc.Sh):Prop where
 blk:Blk W l 217 #[.pointer (some ⟨p,0,none⟩),.pointer (some ⟨q,0,none⟩)]
 ls:Ls W p L
 is:Dc.Is W q D sd m n
 sd:sd<4294967296
variable {w w':World} {l p q sd:Nat} {D:Nat->Prop} {L:List Nd} {m:ByteArray->Option Int} {n:Dc.Sh}
theorem LAt.d_ty(h:LAt w l p q D sd L m n){k:Nat}(hk:D k):∃ t c,(t=271\/t=300\/t=299)/\Blk w k t c:=h.is.cells k hk
theorem LAt.d_node(h:LAt w l p q D sd L m n){k:Nat}(hk:D k):¬ isB (hd p :: L) k:=by
 obtain ⟨t,c,ht,hb⟩:=h.d_ty hk;exact h.ls.sk.not_ty hb fun q e=>by unfold tyq at e;rcases ht with rfl|rfl|rfl <;> (split at e <;> exact absurd e (by decide))
theorem LAt.d_l(h:LAt w l p q D sd L m n){k:Nat}(hk:D k):k≠l:=by
 obtain ⟨t,c,ht,hb⟩:=h.d_ty hk;rintro rfl
 have:=hb.ty h.blk
 rcases ht with rfl|rfl|rfl <;> exact absurd this (by decide)
theorem LAt.l_node(h:LAt w l p q D sd L m n):¬ isB (hd p :: L) l:=h.ls.sk.not_ty h.blk fun q e=>by unfold tyq at e;split at e <;> exact absurd e (by decide)
def M8(l p:Nat)(L:List Nd)(D:Nat->Prop)(k:Nat):Prop:=k=l\/isB (hd p :: L) k\/D k
theorem LAt.own_lt(h:LAt w l p q D sd L m n){k:Nat}(hk:M8 l p L D k):k<w.heap.size:=by
 rcases hk with rfl|hk|hk
 ·exact h.blk.lt
 ·exact h.ls.sk.lt hk
 ·exact h.is.lt k hk
theorem LAt.own_ty(h:LAt w l p q D sd L m n){k t:Nat}{c:Array Value}(hk:M8 l p L D k)(hb:Blk w k t c)(ht:t≠217/\t≠264/\t≠266/\t≠271/\t≠299/\t≠300):False:=by
 rcases hk with rfl|hk|hk
 ·exact ht.1 (hb.ty h.blk)
 ·exact h.ls.sk.not_ty hb (fun q e=>by unfold tyq at e;split at e;exact ht.2.2.1 e.symm;exact ht.2.1 e.symm) hk
 ·obtain ⟨t',c',ht',hb'⟩:=h.d_ty hk
  have:=hb.ty hb'
  subst this;rcases ht' with e|e|e
  ·exact ht.2.2.2.1 e
  ·exact ht.2.2.2.2.2 e
  ·exact ht.2.2.2.2.1 e
theorem LAt.far{S:Nat->Prop}(h:LAt w l p q D sd L m n)(hf:Far S w w')(hS:∀ k,M8 l p L D k->¬ S k):LAt w' l p q D sd L m n :=
 ⟨hf.blk h.blk (hS l (.inl rfl)),h.ls.far hf (fun k hk=>hS k (.inr (.inl hk))),h.is.far (y4l hf) (fun k hk=>hS k (.inr (.inr hk))),h.sd⟩
theorem LAt.later(h:LAt w l p q D sd L m n)(hb:Bl w w'):LAt w' l p q D sd L m n:=h.far (S:=fun _=>False) (Far.of_below hb) (fun _ _ h=>h)
theorem LAt.dict(h:LAt w l p q D sd L m n){m2:ByteArray->Option Int}{n2:Dc.Sh}(hn:Dc.IsNow D w q sd m2 n2 w'):LAt w' l p q (Dc.Xz Dc.tyI D w w') sd L m2 n2 :=
 ⟨(y2t hn.2).blk h.blk (fun hk=>h.d_l hk rfl),h.ls.far (y2t hn.2) (fun _ hk hd=>h.d_node hd hk),hn.1,h.sd⟩
theorem z7i(p:Nat)(L:List Nd)(a k:Nat)(h:a+k<=L.length):Ij (hd p :: L) (List.range' (a+1) k)=((L.map en).drop a).take k:=by
 unfold Ij
 apply List.ext_getElem?
 intro i;rw [List.getElem?_map,List.getElem?_take]
 by_cases hi:i<k
 ·rw [if_pos hi,List.getElem?_drop,List.getElem?_map]
  have h1:(List.range' (a+1) k)[i]?=some (a+1+i):=by
   rw [List.getElem?_eq_getElem (by simpa using hi)];simp
  have h2:L[a+i]?=some L[a+i]:=List.getElem?_eq_getElem (by omega);rw [h1,h2];simp only [Option.map_some];rw [show a+1+i=(a+i)+1 by omega,List.getElem?_cons_succ,h2];rfl
 ·rw [if_neg hi,List.getElem?_eq_none (by simpa using hi)];rfl
theorem y5n(h:Ls w p L)(hN:L.length<=100000)(f t:Int):Calls Tryz.prog 291 #[.pointer (some ⟨p,0,none⟩),.int .i64 f,.int .i64 t] w fun e w'=>∃ r,e=.returned r/\Row w' w.heap.size r (Uu (L.map en) f t)/\Bl w w':=by
 unfold Uu;rw [List.length_map]
 by_cases hab:f0 f<t0 t L.length
 ·have:=y8s p L rfl w h.sk (by simp;omega) rfl f t (f0 f) (t0 t L.length) (by unfold f0;omega) (by unfold f0 t0 at *;omega) hab
  have hle:f0 f+(t0 t L.length-f0 f)<=L.length:=by unfold t0 at *;omega
  rw [z7i p L _ _ hle] at this;exact this.mono fun e w' ⟨r,h1,h2,h3⟩=>⟨r,h1,Mq h2,h3⟩
 ·refine (y3h p L rfl w h.sk f t (by unfold f0 t0 at hab;omega)).mono ?_;rintro e w' ⟨rfl,hb⟩;refine ⟨_,rfl,?_,hb⟩;rw [show t0 t L.length-f0 f=0 by omega,List.take_zero];exact Row.nil _ _
theorem z4w(h:LAt w l p q D sd L m n)(hn:n.n<=1000000)(key:ByteArray)(hk:key.size<=281474976710656):Calls Tryz.prog 295 #[.pointer (some ⟨l,0,none⟩),.string key] w fun e w' =>
 e=.returned (.tuple #[.int .i64 ((m key).getD 0),.bool (m key).isSome])/\Dc.IsNow D w q sd m n.step1 w':=by
 have HG:=jY (Dc.y1q h.sd h.is hn key hk);obtain ⟨e0,e1,_,_⟩:=Zb h.blk;clear h hk hn;generalize (m key).getD 0=x at *;generalize (m key).isSome=y at *
 go_enter Tryz.func295,Tryz.ntmps295
 go_wp2_with (go_at_call 301;refine HG.out.mono ?_;rintro e w1 ⟨rfl,hd⟩)
 go_ret2;exact ⟨rfl,hd⟩
theorem z5c{E:List En}(hm:MapOf m E)(key:ByteArray):match whE E key with
 | none=>m key=none
 | some i=>∃ v,m key=some v/\E[i]?=some (key,v):=by
 cases h:whE E key with
 | none =>
   cases h2:m key with
   | none=>rfl
   | some v=>exact absurd rfl (V4 h _ ((hm key v).1 h2))
 | some i =>
   obtain ⟨v,hv⟩:=Uc h;exact ⟨v,(hm key v).2 (List.mem_of_getElem? hv),hv⟩
theorem v1e(h:LAt w l p q D sd L m n)(hn:n.n<=1000000)(hN:L.length<=100000)(hm:MapOf m (L.map en))(key:ByteArray)(hk:key.size<=281474976710656):Calls Tryz.prog 293 #[.pointer (some ⟨l,0,none⟩),.string key] w fun e w' =>
 e=.returned (.tuple #[.int .i64 ((whE (L.map en) key).getD 0:Nat),.bool (whE (L.map en) key).isSome])/\Dc.IsNow D w q sd m n.step1 w':=by
 have HS:=jY (z4w h hn key hk);have hmg:=z5c hm key
 cases hq:whE (L.map en) key with
 | none =>
   rw [hq] at hmg;simp only at hmg;rw [hmg] at HS;clear h hk hn hN hm hq hmg
   go_enter Tryz.func293,Tryz.ntmps293
   go_wp2_with (go_at_call 295;refine HS.out.mono ?_;rintro e w1 ⟨rfl,hd⟩)
   go_ret2;exact ⟨rfl,hd⟩
 | some i =>
   rw [hq] at hmg;obtain ⟨v,hv,hi⟩:=hmg;rw [hv] at HS;have hps:=C3 (y4c h.ls.srt) hi;simp only at hps;have hhas:has L key v=true:=(y1s h.ls.srt key v).2 (List.mem_of_getElem? hi);have HK:=fun w1 (hd:Dc.IsNow D w q sd m n.step1 w1)=>jY (x8x (h.dict hd).ls hN key v);rw [z5p,hps,hhas] at HK;have HB:=fun w1 (hd:Dc.IsNow D w q sd m n.step1 w1)=>jY (Zb (h.dict hd).blk);clear h hk hn hN hm hq hi hv hps hhas
   go_enter Tryz.func293,Tryz.ntmps293
   go_wp2_with fail;refine HS.out.mono ?_;rintro e w1 ⟨rfl,hd⟩;have HK1:=HK w1 hd;obtain ⟨e0,e1,_,_⟩:=(HB w1 hd).out;have HD:=jY hd;clear hd HK HB HS
   go_wp2_with (go_at_call 299;refine HK1.out.mono ?_;rintro e w2 ⟨rfl,hb⟩)
   go_ret2;exact ⟨by simp,HD.out.later hb⟩
end Go.Proofs.YtknbfgilbnnnmaaGreatDoor
