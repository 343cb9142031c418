/- Texts of one kind in one: PkMake, ZPack, ZLead, ZPut, ZPCut, ZList. -/
import Derived.Test.YtmehfohpjigmmaaGreatDoorQPkWrite17
import Derived.Test.YtmehfohpjigmmaaGreatDoorQSkRem14
import Derived.Test.YtmehfohpjigmmaaGreatDoorQDcLike07
set_option maxRecDepth 200000
set_option maxHeartbeats 8000000
namespace Go.Proofs.YtmehfohpjigmmaaGreatDoor.Pk
open Zc
open Go.RowKit Go.Shelf
attribute [local go_sem] Oper.semAt_some
theorem V4(w:World):Calls Tryz.prog 83 #[] w fun e w'=>e=.returned (.string (Zv []))/\w'=w:=by
 go_enter Tryz.func83,Tryz.ntmps83
 go_wp2;go_ret;exact ⟨rfl,rfl⟩
theorem C6{l:List Ent}(h:∀ e∈l,e.1.size<=64):(l.flatMap Xo).length<=74*l.length:=by
 induction l with
 | nil=>simp
 | cons e l ih =>
   have:=ih (fun e he=>h e (List.mem_cons_of_mem _ he))
   have h1:=h e (List.mem_cons_self ..);have h2:=Xk e;rw [List.flatMap_cons,List.length_append,List.length_cons];omega
theorem Af(a b c d:Value)(W:World):(Instr.field 295 (.agg #[a,b,c,d]) 1).run Tryz.prog W=.ok c W:=by
 simp [Instr.field,go_sem,asAgg]
def z7a(p:ByteArray)(at_:Int)(x:Ent):ByteArray × Int :=
 if Zz p then
  if (Zu p).length=200 then (⟨#[]⟩,51)
  else if at_<0\/(Zu p).length<at_\/64<x.1.size then (⟨#[]⟩,2)
  else (Zv ((Zu p).take at_.toNat++[x]++(Zu p).drop at_.toNat),0)
 else (⟨#[]⟩,50)
theorem C2(W:World)(x:Ent):Ents (W.alloc (.cells #[.string x.1,.int .i64 x.2] 107)) (some ⟨W.heap.size,0,none⟩) [x]:=fun i hi=>by
 have hB:=Blk.new W 107 #[.string x.1,.int .i64 x.2];obtain rfl:i=0:=by simpa using hi
 exact ⟨_,_,rfl,hB.cell 0,hB.cell 1⟩
theorem Uy{l:List Ent}(h:∀ e∈l,e.1.size<=64)(hl:l.length<=1000):(Zv l).size<=100000:=by
 rw [O4]
 have:=C6 h
 omega
theorem Pz(p:ByteArray)(hp:p.size<=281474976710656)(at_:Int)(hat:-9223372036854775808<=at_/\at_<=9223372036854775807)(x:Ent)(hx:x.1.size<=9223372036854775807)(w:World) :
 Calls Tryz.prog 248 #[.string p,.int .i64 at_,.agg #[.string x.1,.int .i64 x.2]] w fun e w'=>e=.returned (.tuple #[.string (z7a p at_ x).1,.int .i64 (z7a p at_ x).2])/\Bl w w':=by
 have HR:=fun w=>jY (V1 p hp w);have HC:=fun w=>jY (Qz p hp w);have hB0:=(Below.refl w.heap.size w).alloc (Nat.le_refl _) (Obj.cells #[Value.string x.1,Value.int IntKind.i64 x.2] 107);have k0:=Blk.new w 107 #[Value.string x.1,Value.int IntKind.i64 x.2];unfold z7a
 cases hr:Zz p with
 | false =>
   rw [hr] at HR;simp only [Bool.false_eq_true,if_false]
   go_enter Tryz.func248,Tryz.ntmps248
   go_wp2_with fail;refine (HR _).out.mono ?_;rintro e w1 ⟨rfl,hb1⟩;have HB:=jY (hB0.trans (hb1.mono hB0.size));clear hb1 hB0;go_wp2_with fail;go_ret2;exact ⟨rfl,HB.out⟩
 | true =>
   rw [hr] at HR;simp only [if_true];have hk:=Xl hr;rw [hk.count] at HC;have hlen:(Zu p).length=(Z8 p).length:=by simp [Zu]
   have hmany:=hk.many;have hps:p.size<=100000:=by rw [Pn hr];exact Uy (fun e he=>((Bu hr).each e he).1) (by rw [hlen];omega)
   rw [hlen]
   by_cases h200:(Z8 p).length=200
   ·rw [if_pos h200];have h9:((Z8 p).length:Int)=200:=by omega
    generalize (Z8 p).length=n at *
    go_enter Tryz.func248,Tryz.ntmps248
    go_wp2_with fail;refine (HR _).out.mono ?_;rintro e w1 ⟨rfl,hb1⟩;have hB1:=hB0.trans (hb1.mono hB0.size);clear hb1 hB0;go_wp2_with fail;refine (HC _).out.mono ?_;rintro e w2 ⟨rfl,hb2⟩;have HB:=jY (hB1.trans (hb2.mono hB1.size));clear hb2 hB1;go_wp2_with fail;go_ret2;exact ⟨rfl,HB.out⟩
   ·rw [if_neg h200];have h9:¬ ((Z8 p).length:Int)=200:=by omega
    have HFT:=fun w=>jY (y0l (some ⟨World.heap w |>.size,0,none⟩) 1 [x] (by simp) (by simpa using hx) (w.alloc (.cells #[.string x.1,.int .i64 x.2] 107)) (C2 w x));have hfx:Fi [x]=decide (x.1.size<=64):=by simp [Fi]
    rw [hfx] at HFT
    by_cases hbad:at_<0\/((Z8 p).length:Int)<at_\/64<x.1.size
    ·rw [if_pos hbad];generalize (Z8 p).length=n at *
     go_enter Tryz.func248,Tryz.ntmps248
     go_wp2_with fail;refine (HR _).out.mono ?_;rintro e w1 ⟨rfl,hb1⟩;have hB1:=hB0.trans (hb1.mono hB0.size);have k1:=k0.later hb1;clear hb1;go_wp2_with fail;refine (HC _).out.mono ?_;rintro e w2 ⟨rfl,hb2⟩;have hB2:=hB1.trans (hb2.mono hB1.size);have k2:=k1.later hb2;clear hb2
     by_cases h0:at_<0
     ·have HB:=jY hB2;clear hB0 hB1 hB2;go_wp2_with fail;go_ret2;exact ⟨rfl,HB.out⟩
     ·go_wp2_with fail;refine (HC _).out.mono ?_;rintro e w3 ⟨rfl,hb3⟩;have hB3:=hB2.trans (hb3.mono hB2.size);have k3:=k2.later hb3;clear hb3
      by_cases hgt:(n:Int)<at_
      ·have HB:=jY hB3;clear hB0 hB1 hB2 hB3;go_wp2_with fail;go_ret2;exact ⟨rfl,HB.out⟩
      ·have hm64:decide (x.1.size<=64)=false:=by simp;omega
       rw [hm64] at HFT;obtain ⟨e0,e1,_⟩:=Zd k3;go_wp2_with fail;refine (HFT w3).out.mono ?_;rintro e w4 ⟨rfl,hb4⟩;have HB:=jY (hB3.trans (((Below.refl w3.heap.size w3).alloc (Nat.le_refl _) (Obj.cells #[Value.string x.1,Value.int IntKind.i64 x.2] 107)).trans (hb4.mono (by simp)) |>.mono hB3.size));clear hB0 hB1 hB2 hB3 hb4;go_wp2_with fail;go_ret2;exact ⟨rfl,HB.out⟩
    ·rw [if_neg hbad];obtain ⟨k,rfl⟩:∃ k:Nat,at_=(k:Int):=⟨at_.toNat,by omega⟩;have hkl:k<=(Z8 p).length:=by omega
     have hk0:¬ ((k:Int)<0):=by omega
     have hk1:¬ ((Z8 p).length:Int)<(k:Int):=by omega
     have hm64:decide (x.1.size<=64)=true:=by simp;omega
     rw [hm64] at HFT
     obtain ⟨nm,ns,nt,hnth⟩:∃ (nm:ByteArray) (ns nt:Int),∀ w,Hid (Calls Tryz.prog 255 #[.string p,.int .i64 (k:Int)] w fun e w'=>e=.returned (.agg #[.string nm,.int .i64 ns,.int .i64 (Zx (Z8 p) k:Int),.int .i64 nt])/\Bl w w'):=by
      by_cases hlt:k<(Z8 p).length
      ·have hxk:(Z8 p)[k]?=some ((Z8 p)[k]'hlt):=List.getElem?_eq_getElem hlt;refine ⟨((Z8 p)[k]'hlt).m,((Z8 p)[k]'hlt).s,(((Z8 p)[k]'hlt).to:Int),fun w=>jY (Jq p hp (Z8 p) hk.chain (fun c hc=>(hk.each c hc).2.2.1) k (by omega) _ (fun c hc=>?_) (fun hc=>by rw [hxk] at hc;cases hc) w)⟩;rw [hxk] at hc
       cases hc
       rw [<- y2i hk k _ hxk];rfl
      ·obtain rfl:k=(Z8 p).length:=by omega
       refine ⟨⟨#[]⟩,0,(p.size:Int),fun w=>jY (Jq p hp (Z8 p) hk.chain (fun c hc=>(hk.each c hc).2.2.1) (Z8 p).length (by omega) _ (fun c hc=>by simp at hc) (fun hc=>?_) w)⟩;rw [hk.ends];rfl
     have hput:=B8 hk k k (Nat.le_refl _) hkl ((Z8 p).length+1) [x] (by simp;omega);rw [List.flatMap_cons,List.flatMap_nil,List.append_nil,List.map_take,List.map_drop] at hput
     have he2:2<=Zx (Z8 p) k:=by
      by_cases h0:k=0
      ·subst h0;exact Nat.le_refl _
      ·obtain ⟨i,rfl⟩:∃ i,k=i+1:=⟨k-1,by omega⟩;have hxk:(Z8 p)[i]?=some ((Z8 p)[i]'(by omega)):=List.getElem?_eq_getElem (by omega);rw [show Zx (Z8 p) (i+1)=((Z8 p)[i]'(by omega)).to by simp [Zx,hxk]];exact (hk.each _ (List.getElem_mem _)).2.1
     have hes:Zx (Z8 p) k<=p.size:=by
      by_cases h0:k=0
      ·subst h0;exact hk.two
      ·obtain ⟨i,rfl⟩:∃ i,k=i+1:=⟨k-1,by omega⟩;have hxk:(Z8 p)[i]?=some ((Z8 p)[i]'(by omega)):=List.getElem?_eq_getElem (by omega);rw [show Zx (Z8 p) (i+1)=((Z8 p)[i]'(by omega)).to by simp [Zx,hxk]];exact (hk.each _ (List.getElem_mem _)).2.2.1
     have HW:=fun w=>jY (Bw (some ⟨World.heap w |>.size,0,none⟩) 1 [x] (by simp) (by simp;omega) (w.alloc (.cells #[.string x.1,.int .i64 x.2] 107)) (C2 w x));have HRP:=fun v w hy=>jY (M5 p hk.two (by omega) 1 ((Z8 p).length+1) (by rw [hk.count];simp) (by omega) (Zx (Z8 p) k) (Zx (Z8 p) k) he2 (Nat.le_refl _) hes v (Xo x) (by have:=Xk x;omega) w hy);rw [hput] at HRP;rw [Int.toNat_natCast];rw [show (Z8 p).map Cut.ent=Zu p from rfl] at HRP;generalize (Zu p).take k++[x]++(Zu p).drop k=out at *;generalize Zx (Z8 p) k=en at *;generalize (Z8 p).length=n at *;clear hput hbad
     go_enter Tryz.func248,Tryz.ntmps248
     go_wp2_with fail;refine (HR _).out.mono ?_;rintro e w1 ⟨rfl,hb1⟩;have hB1:=hB0.trans (hb1.mono hB0.size);have k1:=k0.later hb1;clear hb1;go_wp2_with fail;refine (HC _).out.mono ?_;rintro e w2 ⟨rfl,hb2⟩;have hB2:=hB1.trans (hb2.mono hB1.size);have k2:=k1.later hb2;clear hb2;go_wp2_with fail;refine (HC _).out.mono ?_;rintro e w3 ⟨rfl,hb3⟩;have hB3:=hB2.trans (hb3.mono hB2.size);have k3:=k2.later hb3;clear hb3;obtain ⟨e0,e1,_⟩:=Zd k3;go_wp2_with fail;refine (HFT w3).out.mono ?_;rintro e w4 ⟨rfl,hb4⟩;have hB4:=hB3.trans (((Below.refl w3.heap.size w3).alloc (Nat.le_refl _) (Obj.cells #[Value.string x.1,Value.int IntKind.i64 x.2] 107)).trans (hb4.mono (by simp)) |>.mono hB3.size);have k4:=(k3.alloc (Obj.cells #[Value.string x.1,Value.int IntKind.i64 x.2] 107)).later hb4;clear e0 e1 hb4;go_wp2_with fail;refine (hnth _).out.mono ?_;rintro e w5 ⟨rfl,hb5⟩;have hB5:=hB4.trans (hb5.mono hB4.size);have k5:=k4.later hb5;clear hb5;obtain ⟨e0,e1,_⟩:=Zd k5
     have hff:=Af
     go_wp2_with fail;refine (HW w5).out.mono ?_;rintro e w6 ⟨v,rfl,ho,hb6⟩;have hB6:=hB5.trans (((Below.refl w5.heap.size w5).alloc (Nat.le_refl _) (Obj.cells #[Value.string x.1,Value.int IntKind.i64 x.2] 107)).trans (hb6.mono (by simp)) |>.mono hB5.size);have hbv:BytesV w6 v (Xo x):=by have:=Js ho;simpa using this
     have HB6:=jY hB6;have HV:=jY hbv;clear e0 e1 hb6 ho hbv hB0 hB1 hB2 hB3 hB4 hB5 hB6 k0 k1 k2 k3 k4 k5;go_wp2_with fail;refine (HRP v w6 HV.out).out.mono ?_;rintro e w7 ⟨rfl,hb7⟩;have HB7:=jY (HB6.out.trans (hb7.mono HB6.out.size));clear hb7;go_wp2_with fail;go_ret2;exact ⟨rfl,HB7.out⟩
def y0c(p:ByteArray)(at_:Int):ByteArray × Int :=
 if Zz p then
  if at_<0\/(Zu p).length<=at_ then (⟨#[]⟩,2)
  else (Zv ((Zu p).take at_.toNat++(Zu p).drop (at_.toNat+1)),0)
 else (⟨#[]⟩,50)
theorem Pu(p:ByteArray)(hp:p.size<=281474976710656)(at_:Int)(w:World) :
 Calls Tryz.prog 244 #[.string p,.int .i64 at_] w fun e w'=>e=.returned (.tuple #[.string (y0c p at_).1,.int .i64 (y0c p at_).2])/\Bl w w':=by
 have HP:=jY (Cw p hp at_ w);unfold y0c;have hlen:(Zu p).length=(Z8 p).length:=by simp [Zu]
 by_cases hok:Zz p=true/\¬ (at_<0\/((Z8 p).length:Int)<=at_)
 ·obtain ⟨hr,hat⟩:=hok;have hk:=Xl hr;have hmany:=hk.many;have hps:p.size<=100000:=by rw [Pn hr];exact Uy (fun e he=>((Bu hr).each e he).1) (by rw [hlen];omega)
  obtain ⟨k,rfl⟩:∃ k:Nat,at_=(k:Int):=⟨at_.toNat,by omega⟩;have hkl:k<(Z8 p).length:=by omega
  have hx:(Z8 p)[k]?=some ((Z8 p)[k]'hkl):=List.getElem?_eq_getElem hkl
  have hpk:Po p (k:Int)=(some ((Z8 p)[k]'hkl),0):=by
   unfold Po;rw [if_pos hr,if_neg hat,Int.toNat_natCast,hx]
  rw [hpk] at HP;rw [if_pos hr,hlen,if_neg hat,Int.toNat_natCast];have hfr:=y2i hk k _ hx;have hto:((Z8 p)[k]'hkl).to=Zx (Z8 p) (k+1):=by simp [Zx,hx]
  have hput:=B8 hk k (k+1) (by omega) (by omega) ((Z8 p).length-1) [] (by simp;omega);rw [List.flatMap_nil,List.append_nil,List.map_take,List.map_drop,<- hfr,<- hto] at hput;have heach:=hk.each _ (List.getElem_mem hkl);have h2:=Yh (Uh hk.chain (List.getElem_mem hkl));generalize hc:(Z8 p)[k]'hkl=c at *;have HRP:=fun w=>jY (M5 p hk.two (by omega) (-1) ((Z8 p).length-1) (by rw [hk.count];omega) (by omega) c.fr c.to (by omega) (by omega) (by omega) (.slice none 0 0) [] (by simp) w (.none 0));rw [hput] at HRP;rw [show (Z8 p).map Cut.ent=Zu p from rfl] at HRP;generalize (Zu p).take k++(Zu p).drop (k+1)=out at *;unfold U1 Cut.val at HP;clear hput hx hat hpk hfr hto h2
  go_enter Tryz.func244,Tryz.ntmps244
  go_wp2_with fail;refine HP.out.mono ?_;clear HP;rintro e w1 ⟨rfl,hb1⟩;have k1:=Blk.new w1 295 #[Value.string c.m,Value.int IntKind.i64 c.s,Value.int IntKind.i64 c.fr,Value.int IntKind.i64 c.to];have hB1:=jY (hb1.alloc hb1.size (Obj.cells #[Value.string c.m,Value.int IntKind.i64 c.s,Value.int IntKind.i64 c.fr,Value.int IntKind.i64 c.to] 295));clear hb1;go_wp2_with fail;refine (HRP _).out.mono ?_;rintro e w2 ⟨rfl,hb2⟩;have HB2:=jY (hB1.out.trans (hb2.mono hB1.out.size));clear hb2;go_wp2_with fail;go_ret2;exact ⟨rfl,HB2.out⟩
 ·obtain ⟨er,her,hpk⟩:∃ er:Int,(er=2\/er=50)/\Po p at_=(none,er)/\(if Zz p=true then if at_<0\/((Zu p).length:Int)<=at_ then ((⟨#[]⟩:ByteArray),(2:Int)) else (Zv ((Zu p).take at_.toNat++(Zu p).drop (at_.toNat+1)),0) else (⟨#[]⟩,50))=(⟨#[]⟩,er):=by
   unfold Po;rw [hlen]
   cases hr:Zz p with
   | false=>exact ⟨50,.inr rfl,by simp,by simp⟩
   | true =>
     have hat:at_<0\/((Z8 p).length:Int)<=at_:=Decidable.byContradiction fun h=>hok ⟨hr,h⟩;exact ⟨2,.inl rfl,by simp [hat],by simp [hat]⟩
  obtain ⟨hpk,hans⟩:=hpk;rw [hpk] at HP;rw [hans];have h0:er≠0:=by omega
  have h1:¬ er=0:=h0;unfold U1 Gd at HP;clear hpk hans hok
  go_enter Tryz.func244,Tryz.ntmps244
  go_wp2_with fail;refine HP.out.mono ?_;clear HP;rintro e w1 ⟨rfl,hb1⟩;have HB1:=jY (hb1.alloc hb1.size (Obj.cells #[Value.string { data:=#[] },Value.int IntKind.i64 0,Value.int IntKind.i64 0,Value.int IntKind.i64 0] 295));clear hb1;go_wp2_with fail;go_ret2;exact ⟨rfl,HB1.out⟩
end Go.Proofs.YtmehfohpjigmmaaGreatDoor.Pk
namespace Go.Proofs.YtmehfohpjigmmaaGreatDoor
open Zc (Ent Ext KeepC Y5 Z7 Z9 Yw Y1 Za Zl Ya Zp Z6 Zo Z0 Zf)
open Go.RowKit Go.Shelf Sk
attribute [local go_sem] Oper.semAt_some
theorem Z5(w:World)(o:Obj):Bl w (w.alloc o):=(Below.refl _ _).alloc (Nat.le_refl _) _
abbrev z5x (W:World) (n0:Nat) (v:Value) (l:List En):Prop:=Pk.Own35 W n0 v l
abbrev Ve (E:List En):Prop:=Pk.Valid E
theorem V3{E:List En}(h:Ve E):(Pk.Zv E).size<=281474976710656:=by
 have:=Pk.Uy (fun e he=>(h.each e he).1) (by have:=h.many;omega)
 omega
theorem Dq{E:List En}(h:Ve E)(i:Int):Pk.Q9 (Pk.Zv E) i=(if i<0\/(E.length:Int)<=i then ((⟨#[]⟩,0),2) else (E.getD i.toNat (⟨#[]⟩,0),0)):=by
 unfold Pk.Q9;rw [Pk.U0 h,Pk.Xx h];rfl
structure PackAt (W:World) (b:Nat) (E:List En):Prop where
 blk:Blk W b 160 #[.string (Pk.Zv E)]
 ok:Ve E
theorem PackAt.far{W W':World}{b:Nat}{E:List En}{S:Nat->Prop}(h:PackAt W b E)(hf:Far S W W')(hn:¬ S b):PackAt W' b E:=⟨hf.blk h.blk hn,h.ok⟩
theorem PackAt.later{W W':World}{b:Nat}{E:List En}(h:PackAt W b E)(hb:Bl W W'):PackAt W' b E:=⟨h.blk.later hb,h.ok⟩
theorem Gh{W:World}{n0:Nat}{v:Value}{l:List En}(h:z5x W n0 v l):∃ a c,v=.slice a l.length c/\l.length<=c:=by
 rcases h.2 with ⟨rfl,h0⟩|⟨g,cap,cur,rfl,h1,h2,h3⟩
 ·have hl:l=[]:=List.eq_nil_of_length_eq_zero h0;subst hl;exact ⟨none,0,rfl,Nat.le_refl _⟩
 ·exact ⟨_,cap,rfl,h3.1⟩
structure Row (W:World) (n0:Nat) (v:Value) (l:List En):Prop where
 form:∃ a c,v=.slice a l.length c
 at':∀ i e,l[i]?=some e->∃ b off c cur,v=.slice (some ⟨b,off,none⟩) l.length c/\n0<=b/\Blk W b 107 cur/\W.cell? ⟨b,off+i*2,none⟩=some (.string e.1)/\W.cell? ⟨b,off+i*2+1,none⟩=some (.int .i64 e.2)
theorem Row.far{W W':World}{n0:Nat}{v:Value}{l:List En}{S:Nat->Prop}(h:Row W n0 v l)(hf:Far S W W')(hS:∀ k cur,n0<=k->Blk W k 107 cur->¬ S k):Row W' n0 v l :=
 ⟨h.form,fun i e he=>by
   obtain ⟨b,off,c,cur,h1,h2,h3,h4,h5⟩:=h.at' i e he;have h6:=hf.blk h3 (hS b cur h2 h3);refine ⟨b,off,c,cur,h1,h2,h6,?_,?_⟩
   ·rw [h6.cell,<- h3.cell];exact h4
   ·rw [h6.cell,<- h3.cell];exact h5⟩
theorem Row.later{W W':World}{n0:Nat}{v:Value}{l:List En}(h:Row W n0 v l)(hb:Bl W W'):Row W' n0 v l:=h.far (S:=fun _=>False) (Far.of_below hb) (fun _ _ _ _ h=>h)
theorem Row.mono{W:World}{n0 n1:Nat}{v:Value}{l:List En}(h:Row W n0 v l)(hn:n1<=n0):Row W n1 v l :=
 ⟨h.form,fun i e he=>by
   obtain ⟨b,off,c,cur,h1,h2,h3⟩:=h.at' i e he
   exact ⟨b,off,c,cur,h1,Nat.le_trans hn h2,h3⟩⟩
theorem Row.nil(W:World)(n0:Nat):Row W n0 (.slice none 0 0) []:=⟨⟨none,0,rfl⟩,fun i e h=>by simp at h⟩
theorem Ja:∀ (l:List En) (i:Nat) (e:En),l[i]?=some e->(Zc.Y1 l)[i*2]?=some (.string e.1)/\(Zc.Y1 l)[i*2+1]?=some (.int .i64 e.2)
 | [],i,e,h=>by simp at h
 | x :: l,0,e,h=>by
   simp at h;subst h;exact ⟨rfl,rfl⟩
 | x :: l,i+1,e,h=>by
   have:=Ja l i e (by simpa using h)
   rw [show (i+1)*2=i*2+1+1 by omega];exact this
theorem K8:∀ l:List En,(Zc.Y1 l).length=l.length*2
 | []=>rfl
 | x :: l=>by
   have:=K8 l
   show (Zc.Y1 l).length+1+1=_;rw [this,List.length_cons];omega
theorem J0{W:World}{n0:Nat}{v:Value}{l:List En}(h:z5x W n0 v l):Row W n0 v l:=by
 refine ⟨?_,fun i e he=>?_⟩
 ·obtain ⟨a,c,h1,_⟩:=Gh h;exact ⟨a,c,h1⟩
 ·obtain ⟨q1,q2⟩:=Ja l i e he;have hi:=(List.getElem?_eq_some_iff.1 he).1;have hcl:=K8 l;rcases h.2 with ⟨rfl,h0⟩|⟨g,cap,cur,rfl,h1,h2,h3⟩
  ·omega
  ·refine ⟨g,0,cap,cur,rfl,h1,h2,?_,?_⟩
   ·rw [Nat.zero_add,h.cellAt (i*2) (by omega)];exact q1
   ·rw [Nat.zero_add,h.cellAt (i*2+1) (by omega)];exact q2
section
variable {w:World} {b:Nat} {E:List En}
theorem Gi(h:PackAt w b E):Calls Tryz.prog 125 #[.pointer (some ⟨b,0,none⟩)] w fun e w'=>∃ r,e=.returned r/\z5x w' w.heap.size r E/\Bl w w':=by
 have HE:=jY (Pk.Fa (Pk.Zv E) (V3 h.ok) w);rw [Pk.Xx h.ok,Pk.U0 h.ok] at HE;simp only [if_true] at HE;obtain ⟨c0,_⟩:=Z4 h.blk;clear h
 go_enter Tryz.func125,Tryz.ntmps125
 go_wp2_with (go_at_call 145;refine HE.out.mono ?_;rintro e w1 ⟨r,rfl,ho,hb⟩)
 go_ret;exact ⟨_,rfl,ho,hb⟩
theorem z2s(h:PackAt w b E):Calls Tryz.prog 123 #[.pointer (some ⟨b,0,none⟩)] w fun e w'=>e=.returned (.int .i64 E.length)/\Bl w w':=by
 have HE:=jY (Gi h);clear h
 go_enter Tryz.func123,Tryz.ntmps123
 go_wp2_with (go_at_call 125;refine HE.out.mono ?_;rintro e w1 ⟨r,rfl,ho,hb⟩;obtain ⟨a,c,rfl,_⟩:=Gh ho)
 go_ret;exact ⟨rfl,hb⟩
theorem y4w(h:PackAt w b E)(i:Int):Calls Tryz.prog 235 #[.pointer (some ⟨b,0,none⟩),.int .i64 i] w fun e w' =>
 e=.returned (.tuple #[.agg #[.string (Pk.Q9 (Pk.Zv E) i).1.1,.int .i64 (Pk.Q9 (Pk.Zv E) i).1.2],.bool ((Pk.Q9 (Pk.Zv E) i).2==0)])/\Bl w w':=by
 have hb0:=Z5 w (.cells #[.string ⟨#[]⟩,.int .i64 0] 107);have HE:=jY (Pk.Oo (Pk.Zv E) (V3 h.ok) i (w.alloc (.cells #[.string ⟨#[]⟩,.int .i64 0] 107)));obtain ⟨c0,_⟩:=Z4 (h.later hb0).blk;have HB:=jY hb0;have kR:=Blk.new w 107 #[.string ⟨#[]⟩,.int .i64 0];generalize (Pk.Q9 (Pk.Zv E) i)=g at *;obtain ⟨⟨gm,gs⟩,er⟩:=g;simp only at *;clear h hb0
 go_enter Tryz.func235,Tryz.ntmps235
 go_wp2_with fail;refine HE.out.mono ?_;rintro e w1 ⟨rfl,hb⟩;have k1:=kR.later hb;have K2:=jY (k1.alloc (Obj.cells #[.string gm,.int .i64 gs] 107));have kN:=Blk.new w1 107 #[.string gm,.int .i64 gs];obtain ⟨e0,e1,f0,f1⟩:=Zd kN;obtain ⟨e2,e3,f2,f3⟩:=Zd K2.out;have hb2:=HB.out.trans (hb.mono HB.out.size);have HB2:=jY (hb2.trans ((Z5 w1 (Obj.cells #[.string gm,.int .i64 gs] 107)).mono hb2.size));clear hb hb2 k1 kN kR HE;go_wp2_with fail;obtain ⟨g1,g2,g3⟩:=Pk.set2 (.string gm) (.int .i64 gs) K2.out;exact Pk.y2o Tryz.results235 rfl rfl g1 rfl ⟨rfl,HB2.out.trans (g3 _ (Nat.le_refl _))⟩
theorem y1m(h:PackAt w b E):Calls Tryz.prog 239 #[.pointer (some ⟨b,0,none⟩)] w fun e w'=>e=.returned (.int .i64 (Pk.Zv E).size)/\w'=w:=by
 obtain ⟨c0,_⟩:=Z4 h.blk;clear h
 go_enter Tryz.func239,Tryz.ntmps239
 go_wp2;go_ret;exact ⟨rfl,rfl⟩
theorem Bv(E:List En)(m:ByteArray):Pk.Vg E m=(match whE E m with|none=>-1|some i=>(i:Int)):=rfl
theorem D0(h:PackAt w b E)(m:ByteArray):Calls Tryz.prog 243 #[.pointer (some ⟨b,0,none⟩),.string m] w fun e w' =>
 e=.returned (.tuple #[.int .i64 (Pk.Q9 (Pk.Zv E) (Pk.Vg E m)).1.2,.bool ((Pk.Q9 (Pk.Zv E) (Pk.Vg E m)).2==0)])/\Bl w w':=by
 have HE:=jY (Pk.Yd (Pk.Zv E) m (V3 h.ok) w);rw [Pk.Xx h.ok] at HE;have HA:=fun W (hb:Bl w W)=>jY (y4w (h.later hb) (Pk.Vg E m));obtain ⟨c0,_⟩:=Z4 h.blk;clear h;generalize Pk.Q9 (Pk.Zv E) (Pk.Vg E m)=g at *;generalize Pk.Vg E m=q at *
 go_enter Tryz.func243,Tryz.ntmps243
 go_wp2_with fail;refine HE.out.mono ?_;rintro e w1 ⟨rfl,hb⟩;have HA1:=HA w1 hb;have HB:=jY hb;clear HA HE hb;go_wp2_with fail;refine HA1.out.mono ?_;rintro e w2 ⟨rfl,hb2⟩;have HB2:=jY (HB.out.trans (hb2.mono HB.out.size));have kN:=Blk.new w2 107 #[.string g.1.1,.int .i64 g.1.2];obtain ⟨e0,e1,_,_⟩:=Zd kN;clear hb2 HB kN;go_wp2_with fail;go_ret2;exact ⟨rfl,HB2.out.trans ((Z5 w2 _).mono HB2.out.size)⟩
end
theorem Zn(W:World)(n:Nat):Bl W (W.drewN n):=⟨rfl,rfl,rfl,Nat.le_refl _,fun _ _=>rfl⟩
theorem z1i(c0 c1:Value)(n k:Nat)(hk:k<=n)(hn:n<=1000000)(w:World)
 (H:∀ W,Bl w W->∀ i:Nat,i<n->Calls Tryz.prog 253 #[.int .i64 i,c0,c1] W fun e w'=>e=.returned (.bool (decide (k<=i)))/\Bl W w') :
 Calls Tryz.prog 252 #[.int .i64 n,.func (.func 253) #[] #[c0,c1]] w fun e w'=>e=.returned (.int .i64 k)/\Bl w w':=by
 have HF:=jY H;clear H
 go_enter Tryz.func252,Tryz.ntmps252
 go_wp2
 go_loopg [5,6] n (fun kx s5 s6 wr=>∃ (lo hi:Nat),s5=.int .i64 lo/\s6=.int .i64 hi/\lo<=k/\k<=hi/\hi<=n/\hi-lo<=kx/\Hid (Bl w wr))
 case atStart=>exact ⟨0,n,rfl,rfl,Nat.zero_le _,hk,Nat.le_refl _,by omega,Below.refl _ _⟩
 case round =>
  obtain ⟨lo,hi,rfl,rfl,hlk,hkh,hin,hg,I⟩:=hrel
  by_cases hlt:lo<hi
  ·have hc:=HF.out _ I.out ((lo+hi) / 2) (by omega);rw [show (((lo+hi) / 2:Nat):Int)=((lo:Int)+(hi:Int)) / 2 by omega] at hc
   by_cases hp:k<=(lo+hi) / 2
   ·rw [decide_eq_true hp] at hc
    go_wp2_with (go_at_call 253;refine hc.mono ?_;rintro e w' ⟨rfl,hb⟩)
    go_roundg ((lo+hi) / 2-lo)
    case measure=>omega
    case rel=>exact ⟨lo,(lo+hi) / 2,rfl,by rw [show ((lo:Int)+(hi:Int)) / 2=(((lo+hi) / 2:Nat):Int) by omega],hlk,hp,by omega,Nat.le_refl _,I.out.trans (hb.mono I.out.size)⟩
   ·rw [decide_eq_false hp] at hc
    go_wp2_with (go_at_call 253;refine hc.mono ?_;rintro e w' ⟨rfl,hb⟩)
    go_roundg (hi-((lo+hi) / 2+1))
    case measure=>omega
    case rel=>exact ⟨(lo+hi) / 2+1,hi,by rw [show ((lo:Int)+(hi:Int)) / 2+1=(((lo+hi) / 2+1:Nat):Int) by omega],rfl,by omega,hkh,hin,Nat.le_refl _,I.out.trans (hb.mono I.out.size)⟩
  ·obtain rfl:lo=k:=by omega
   go_wp2;go_ret;exact ⟨rfl,I.out⟩
structure Ask (w:World) (A:Nat) (cb:Array Value) (E:List En) (k:Nat):Prop where
 enter:∀ args w,(callFunc A args).run Tryz.prog w=.ok (.enter A args) w
 le:k<=E.length
 call:∀ W,Bl w W->∀ (i:Nat) (x:En),E[i]?=some x->Calls Tryz.prog A (#[.agg #[.string x.1,.int .i64 x.2]]++cb) W fun e w'=>e=.returned (.bool (decide (i<k)))/\Bl W w'
theorem Ask.later{w w':World}{A:Nat}{cb:Array Value}{E:List En}{k:Nat}(h:Ask w A cb E k)(hb:Bl w w'):Ask w' A cb E k:=⟨h.enter,h.le,fun W hW=>h.call W (hb.trans (hW.mono hb.size))⟩
theorem y3p(i k:Nat):(!decide (i<k))=decide (k<=i):=by
 by_cases h:i<k
 ·rw [decide_eq_true h,decide_eq_false (by omega)];rfl
 ·rw [decide_eq_false h,decide_eq_true (by omega)];rfl
variable {w:World} {b:Nat} {E:List En}
theorem y4v(h:PackAt w b E){A:Nat}{cb:Array Value}{k:Nat}(ha:Ask w A cb E k){q0 q1:Nat}(k0:Blk w q0 112 #[.iface 157 (.pointer (some ⟨b,0,none⟩))])(k1:Blk w q1 163 #[.func (.func A) #[] cb])(i:Nat)(hi:i<E.length) :
 Calls Tryz.prog 253 #[.int .i64 i,.pointer (some ⟨q0,0,none⟩),.pointer (some ⟨q1,0,none⟩)] w fun e w'=>e=.returned (.bool (decide (k<=i)))/\Bl w w':=by
 rw [<- y3p];have HA:=jY (y4w h i);rw [Dq h.ok] at HA;have hx:E[i]?=some E[i]:=List.getElem?_eq_getElem hi;have h1:¬ ((i:Int)<0\/(E.length:Int)<=i):=by omega
 rw [if_neg h1,Int.toNat_natCast,List.getD_eq_getElem?_getD,hx] at HA;simp only [Option.getD_some] at HA;generalize E[i]=x at *;have HC:=jY ha.call;have eg:=ha.enter;have HX:=jY hx;have K1:=jY k1;obtain ⟨e0,_⟩:=Z4 k0;clear h ha hx h1 k0 k1
 go_enter Tryz.func253,Tryz.ntmps253
 go_wp2_with fail;refine HA.out.mono ?_;rintro e w1 ⟨rfl,hb⟩;have kN:=Blk.new w1 107 #[.string x.1,.int .i64 x.2];have hb2:=hb.trans ((Z5 w1 (Obj.cells #[.string x.1,.int .i64 x.2] 107)).mono hb.size);have HQ:=jY (HC.out _ hb2 i x HX.out);obtain ⟨e1,_⟩:=Z4 (K1.out.later hb2);obtain ⟨e2,e3,_,_⟩:=Zd kN;have HB2:=jY hb2;clear hb hb2 HC HX K1 kN HA
 go_wp2_with (go_at_fn A;refine HQ.out.mono ?_;rintro e w2 ⟨rfl,hb3⟩)
 go_ret;exact ⟨rfl,HB2.out.trans (hb3.mono HB2.out.size)⟩
theorem y3r(h:PackAt w b E){A:Nat}{cb:Array Value}{k:Nat}(ha:Ask w A cb E k) :
 Calls Tryz.prog 246 #[.iface 157 (.pointer (some ⟨b,0,none⟩)),.func (.func A) #[] cb] w fun e w'=>e=.returned (.int .i64 k)/\Bl w w':=by
 obtain ⟨w1,hw1⟩:∃ w1,w1=(w.alloc (.cells #[.iface 157 (.pointer (some ⟨b,0,none⟩))] 112)).alloc (.cells #[.func (.func A) #[] cb] 163):=⟨_,rfl⟩;have hb1:Bl w w1:=by rw [hw1];exact (Z5 _ _).trans ((Z5 _ _).mono (by simp))
 have k0:Blk w1 w.heap.size 112 #[.iface 157 (.pointer (some ⟨b,0,none⟩))]:=by rw [hw1];exact (Blk.new _ _ _).alloc _
 have k1:Blk w1 (w.heap.size+1) 163 #[.func (.func A) #[] cb]:=by
  rw [hw1]
  have:=Blk.new (w.alloc (.cells #[.iface 157 (.pointer (some ⟨b,0,none⟩))] 112)) 163 #[.func (.func A) #[] cb]
  simpa using this
 have HL:=jY (z2s (h.later hb1));have hmany:=h.ok.many
 have HS:=fun W (hb:Bl w1 W)=>jY (z1i (.pointer (some ⟨w.heap.size,0,none⟩)) (.pointer (some ⟨w.heap.size+1,0,none⟩)) E.length k ha.le (by omega) W
  (fun W' hb' i hi=>y4v ((h.later hb1).later (hb.trans (hb'.mono hb.size))) ((ha.later hb1).later (hb.trans (hb'.mono hb.size))) (k0.later (hb.trans (hb'.mono hb.size))) (k1.later (hb.trans (hb'.mono hb.size))) i hi))
 obtain ⟨e0,_⟩:=Z4 k0;have HB1:=jY hb1;have HW:=jY hw1;clear h ha k0 k1 hb1 hmany;rw [hw1] at HL e0;clear hw1
 go_enter Tryz.func246,Tryz.ntmps246
 go_wp2_with fail;refine HL.out.mono ?_;rintro e w2 ⟨rfl,hb2⟩;rw [<- HW.out] at hb2;have HS2:=HS w2 hb2;have HB2:=jY (HB1.out.trans (hb2.mono HB1.out.size));clear hb2 HS HL
 go_wp2_with (go_at_call 252;refine HS2.out.mono ?_;rintro e w3 ⟨rfl,hb3⟩)
 go_ret;exact ⟨rfl,HB2.out.trans (hb3.mono HB2.out.size)⟩
theorem z5o{E E':List En}(h:Ve E)(hs:E'.Sublist E):Ve E':=⟨Nat.le_trans hs.length_le h.many,fun e he=>h.each e (hs.subset he)⟩
theorem z9q{E:List En}(h:Ve E)(m:ByteArray):Ve (rmE E m):=z5o h List.filter_sublist
theorem z5n{E:List En}(h:Ve E)(m:ByteArray)(s:Int)(hl:E.length<200)(hm:m.size<=64)(hs:Pk.Yl s):Ve (V9 E m s) :=
 ⟨by rw [M4];omega,fun e he=>by
   rcases Oy.1 he with rfl|he
   ·exact ⟨hm,hs⟩
   ·exact h.each e he⟩
theorem PackAt.write{W:World}{b:Nat}{E E':List En}(h:PackAt W b E)(ho:Ve E'):PackAt (W.setCell ⟨b,0,none⟩ (.string (Pk.Zv E'))) b E' :=
 ⟨h.blk.set 0 _,ho⟩
theorem Fc{S:Nat->Prop}(W:World)(b o:Nat)(v:Value)(hb:S b):Far S W (W.setCell ⟨b,o,none⟩ v):=(Far.refl S W).set ⟨b,o,none⟩ v (.inl hb)
variable {w:World} {b:Nat} {E:List En}
theorem z8d(h:PackAt w b E)(hd:Uf E)(m:ByteArray)(s:Int):Calls Tryz.prog 237 #[.pointer (some ⟨b,0,none⟩),.agg #[.string m,.int .i64 s]] w fun e w' =>
 e=.returned (.bool (Ks E m))/\PackAt w' b (rmE E m)/\Far (fun k=>k=b) w w':=by
 have hb0:=Z5 w (.cells #[.string m,.int .i64 s] 107);have hF:=fun W=>Pk.Yd (Pk.Zv E) m (V3 h.ok) W;have hD:=fun W=>Pk.Pu (Pk.Zv E) (V3 h.ok) (Pk.Vg E m) W;rw [Kv];have hfo:=(h.later hb0);have hv:=z9q h.ok m;rw [Pk.Xx h.ok] at hF;unfold Pk.y0c at hD;rw [Pk.U0 h.ok,Pk.Xx h.ok] at hD;rw [Bv] at hF hD;have kE:=Blk.new w 107 #[.string m,.int .i64 s];have HP:=fun W (hb:Below (w.alloc (.cells #[.string m,.int .i64 s] 107)).heap.size (w.alloc (.cells #[.string m,.int .i64 s] 107)) W)=>jY (hfo.later hb)
 have HSW:=jY (fun W (hb:Below (w.alloc (.cells #[.string m,.int .i64 s] 107)).heap.size (w.alloc (.cells #[.string m,.int .i64 s] 107)) W) =>
  show W.cell? ⟨b,0,none⟩=some (.string (Pk.Zv E))/\W.cell? ⟨w.heap.size,0,none⟩=some (.string m) from ⟨(Z4 (hfo.later hb).blk).1,(Zd (kE.later hb)).1⟩)
 have HB0:=jY hb0
 cases hq:whE E m with
 | none =>
   rw [Vb (Vt hq)];rw [hq] at hF hD;simp only [show ((-1:Int)<0)=True by simp,true_or,if_true] at hD;have HF:=fun W=>jY (hF W);have HD:=fun W=>jY (hD W);obtain ⟨e0,_⟩:=Z4 hfo.blk;clear hF hD hfo h hb0 hq hv kE e0
   go_enter Tryz.func237,Tryz.ntmps237
   go_wp2_with fail;have hb1:=Zn (w.alloc (.cells #[.string m,.int .i64 s] 107)) 1;have S0:=HSW.out _ hb1;have HB1:=jY hb1;clear hb1
   go_region_held (fun W=>W.cell? ⟨b,0,none⟩=some (.string (Pk.Zv E))/\W.cell? ⟨w.heap.size,0,none⟩=some (.string m)) (first|exact S0|exact S1|exact S2)
    (first
      | (go_at_call 245;refine (HF _).out.mono ?_;rintro e w1 ⟨rfl,hb⟩
         have HB2:=jY (HB1.out.trans (hb.mono HB1.out.size));have S1:=HSW.out _ HB2.out
         clear hb HF)
      | (go_at_call 244;refine (HD _).out.mono ?_;rintro e w2 ⟨rfl,hb⟩
         have HB3:=jY (HB2.out.trans (hb.mono HB2.out.size));have S2:=HSW.out _ HB3.out
         clear hb HD))
   all_goals (
    go_wp2_with fail;go_ret
    exact ⟨rfl,(HP _ HB3.out).out,(Far.of_below HB0.out).then_below HB3.out⟩)
 | some i =>
   obtain ⟨s0,hs0⟩:=Qv hq;have hi:=(List.getElem?_eq_some_iff.1 hs0).1;rw [hq] at hF hD;have h9:¬ ((i:Int)<0\/(E.length:Int)<=i):=by omega
   have hrm:=z1e hd hs0;simp only at hrm;simp only [if_true,if_neg h9,Int.toNat_natCast,<- hrm] at hD;have HF:=fun W=>jY (hF W);have HD:=fun W=>jY (hD W);have HV:=jY hv;have hbb:=hfo.blk.lt;clear hF hD hfo h hb0 hq hv kE hs0 hi h9 hrm;generalize rmE E m=E' at *
   go_enter Tryz.func237,Tryz.ntmps237
   go_wp2_with fail;have hb1:=Zn (w.alloc (.cells #[.string m,.int .i64 s] 107)) 1;have S0:=HSW.out _ hb1;have HB1:=jY hb1;clear hb1
   go_region_held (fun W=>W.cell? ⟨b,0,none⟩=some (.string (Pk.Zv E))/\W.cell? ⟨w.heap.size,0,none⟩=some (.string m)) (first|exact S0|exact S1|exact S2)
    (first
      | (go_at_call 245;refine (HF _).out.mono ?_;rintro e w1 ⟨rfl,hb⟩
         have HB2:=jY (HB1.out.trans (hb.mono HB1.out.size));have S1:=HSW.out _ HB2.out
         clear hb HF)
      | (go_at_call 244;refine (HD _).out.mono ?_;rintro e w2 ⟨rfl,hb⟩
         have HB3:=jY (HB2.out.trans (hb.mono HB2.out.size));have S2:=HSW.out _ HB3.out
         clear hb HD))
   all_goals (
    have HP3:=HP _ HB3.out;obtain ⟨e0,f0⟩:=Z4 HP3.out.blk;go_wp2_with fail;go_ret
    exact ⟨rfl,HP3.out.write HV.out,((Far.of_below HB0.out).then_below HB3.out).trans (Fc (S:=fun k=>k=b) _ b 0 _ rfl) (fun k hk=>.inl hk)⟩)
theorem z8l(m:ByteArray)(s:Int)(q:Nat)(hs:Pi E)(kq:Blk w q 107 #[.string m,.int .i64 s]):Ask w 247 #[.pointer (some ⟨q,0,none⟩)] E (Xj E m s):=by
 refine ⟨enters_of Tryz.func247 (by kernel_rfl) rfl,D4 _ _ _,fun W hb i x hx=>?_⟩;have hl:=P9 hs m s i x hx;have HL:=fun W=>jY (Ch x.1 m x.2 s W);have hle:Sk.Y2 x.1 x.2 m s=decide (i<Xj E m s):=hl;rw [hle] at HL;obtain ⟨g0,g1,_,_⟩:=Zd ((kq.later hb).alloc (.cells #[.string x.1,.int .i64 x.2] 107));obtain ⟨e0,e1,_,_⟩:=Zd (Blk.new W 107 #[.string x.1,.int .i64 x.2]);have HB:=jY (Z5 W (.cells #[.string x.1,.int .i64 x.2] 107));clear hl hle hx hs kq hb;generalize decide (i<Xj E m s)=bb at *;show Calls Tryz.prog 247 #[.agg #[.string x.1,.int .i64 x.2],.pointer (some ⟨q,0,none⟩)] W _
 go_enter Tryz.func247,Tryz.ntmps247
 go_wp2_with (go_at_call 194;refine (HL _).out.mono ?_;rintro e w1 ⟨rfl,hb1⟩)
 go_ret;exact ⟨rfl,HB.out.trans (hb1.mono HB.out.size)⟩
theorem y2n(h:PackAt w b E)(hsE:Pi E)(hl:E.length<200)(lv:Int)(v:Value)(m:ByteArray)(hm:m.size<=64)(s:Int)(hs:Pk.Yl s)(hr:Row w 0 v [(m,s)])(hx:∀ k cur,Blk w k 107 cur->k≠b) :
 Calls Tryz.prog 240 #[.pointer (some ⟨b,0,none⟩),.int .i64 lv,v] w fun e w'=>e=.returned (.tuple #[])/\PackAt w' b (V9 E m s)/\Far (fun k=>k=b) w w':=by
 have hcell:∀ W,Far (fun k=>k=b) w W->∃ q off c,v=.slice (some ⟨q,off,none⟩) 1 c/\W.cell? ⟨q,off,none⟩=some (.string m)/\W.cell? ⟨q,off+1,none⟩=some (.int .i64 s):=fun W hf=>by
  obtain ⟨q,off,c,cur,h1,_,kq,c0,c1⟩:=(hr.far hf (fun k cur _ hk e=>hx k cur hk e)).at' 0 (m,s) rfl;exact ⟨q,off,c,h1,by simpa using c0,by simpa using c1⟩
 obtain ⟨q,off,c,rfl,_,_⟩:=hcell w (Far.refl _ _);have HC:=fun W hf=>jY (hcell W hf);have HS:=jY hsE;have HH:=jY h;have HPUT:=jY (z5n h.ok m s hl hm hs)
 have hins:Pk.z7a (Pk.Zv E) (Xj E m s) (m,s)=(Pk.Zv (V9 E m s),0):=by
  unfold Pk.z7a;have h1:¬ E.length=200:=by omega
  have h2:=D4 E m s;have h3:¬ ((Xj E m s:Int)<0\/(E.length:Int)<(Xj E m s:Int)\/64<m.size):=by omega
  rw [Pk.U0 h.ok,Pk.Xx h.ok,if_pos rfl,if_neg h1,if_neg h3,Int.toNat_natCast];unfold V9;rw [List.append_assoc];rfl
 have hple:=D4 E m s;have HI:=fun W=>jY (Pk.Pz (Pk.Zv E) (V3 h.ok) (Xj E m s) (by omega) (m,s) (by simp;omega) W);rw [hins] at HI;simp only at HI;clear hcell hsE h hins hr hx hs hple
 go_enter Tryz.func240,Tryz.ntmps240
 go_wp2
 go_loopw [11] (fun i wr=>∃ (k:Nat),i=.int .i64 k/\k<=1/\PackAt wr b (if k=0 then E else V9 E m s)/\Far (fun k=>k=b) w wr) (fun i _=>1-(intOf i).toNat)
 case atStart=>exact ⟨0,rfl,by omega,HH.out,Far.refl _ _⟩
 case round =>
  obtain ⟨k,rfl,hk,hp,hf⟩:=hrel
  by_cases h0:k=0
  ·subst h0;rw [if_pos rfl] at hp;obtain ⟨q',off',c',e1,g0,g1⟩:=(HC wr hf).out
   injection e1 with e1 _ e2
   injection e1 with e1
   injection e1 with e1 e3 _
   subst e1;subst e2;subst e3;have hb1:=Z5 wr (.cells #[.string m,.int .i64 s] 107);have kE:=Blk.new wr 107 #[.string m,.int .i64 s];have HL:=jY (y3r (hp.later hb1) (z8l m s wr.heap.size HS.out kE))
   have HSW:=jY (fun W (hb:Below (wr.alloc (.cells #[.string m,.int .i64 s] 107)).heap.size (wr.alloc (.cells #[.string m,.int .i64 s] 107)) W) =>
    show W.cell? ⟨b,0,none⟩=some (.string (Pk.Zv E))/\W.cell? ⟨wr.heap.size,0,none⟩=some (.string m)/\W.cell? ⟨wr.heap.size,1,none⟩=some (.int .i64 s) from ⟨(Z4 ((hp.later hb1).later hb).blk).1,(Zd (kE.later hb)).1,(Zd (kE.later hb)).2.1⟩)
   have HP:=fun W (hb:Below (wr.alloc (.cells #[.string m,.int .i64 s] 107)).heap.size (wr.alloc (.cells #[.string m,.int .i64 s] 107)) W)=>jY ((hp.later hb1).later hb);have HF:=jY (hf.then_below hb1);clear hp hf hb1 kE hk HC;go_wp2_with fail;refine HL.out.mono ?_;rintro e w1 ⟨rfl,hb⟩;have HB1:=jY (show Below (wr.alloc (.cells #[.string m,.int .i64 s] 107)).heap.size (wr.alloc (.cells #[.string m,.int .i64 s] 107)) w1.drew from hb.trans ((Zn w1 1).mono hb.size));obtain ⟨a0,S0⟩:=HSW.out w1.drew HB1.out;clear hb HL g0 g1;go_wp2_with fail;obtain ⟨a1,a2⟩:=S0
   go_region_with (first
    | (go_at_call 248;refine (HI _).out.mono ?_;rintro e w2 ⟨rfl,hb⟩
       have HB2:=jY (HB1.out.trans (hb.mono HB1.out.size));have HP2:=HP _ HB2.out;obtain ⟨g0,g1⟩:=Z4 HP2.out.blk
       clear hb HI a1 a2 a0))
   all_goals (
    go_wp2_with fail
    refine ⟨⟨1,by go_num,by omega,HP2.out.write HPUT.out,(HF.out.then_below HB2.out).trans (Fc (S:=fun k=>k=b) _ b 0 _ rfl) (fun k hk=>.inl hk)⟩,by simp [intOf]⟩)
  ·have h1:k=1:=by omega
   subst h1;have HPF:=jY (And.intro hp hf);clear hp hf;go_wp2_with fail;go_returns;exact ⟨rfl,HPF.out⟩
theorem Gn{W:World}{n0:Nat}{v:Value}{l:List En}(h:Row W n0 v l){k:Nat}{x:En}(hx:l[k]?=some x):∃ b off c,v=.slice (some ⟨b,off,none⟩) l.length c/\W.cell? ⟨b,off+k*2,none⟩=some (.string x.1)/\W.cell? ⟨b,off+k*2+1,none⟩=some (.int .i64 x.2):=by
 obtain ⟨b,off,c,cur,h1,_,_,h2,h3⟩:=h.at' k x hx;exact ⟨b,off,c,h1,h2,h3⟩
variable {w:World} {b:Nat} {E:List En}
theorem z5j{S:Nat->Prop}{W W':World}(h:Far S W W'):Dc.Far S W W':=⟨h.os,h.tape,h.output,h.size,h.block⟩
theorem z0t{S:Nat->Prop}{W W':World}(h:Dc.Far S W W'):Far S W W':=⟨h.os,h.tape,h.output,h.size,h.block⟩
def en(x:Nd):En:=(x.m,x.s)
theorem z0v(L:List Nd)(m:ByteArray)(s:Int):pos L m s=Xj (L.map en) m s:=by
 unfold pos Xj;rw [List.takeWhile_map,List.length_map];rfl
theorem z8z{L:List Nd}(h:Srt L):Pi (L.map en):=by unfold Pi;rw [List.pairwise_map];exact h
theorem z6x{L:List Nd}(hs:Srt L)(m:ByteArray)(s:Int):has L m s=true↔(m,s)∈L.map en:=by
 constructor
 ·intro h;unfold has at h
  split at h
  ·rename_i x hx
   have:=of_decide_eq_true h
   exact List.mem_map.2 ⟨x,List.mem_of_getElem? hx,by unfold en;rw [this.1,this.2]⟩
  ·cases h
 ·intro h;obtain ⟨i,hi⟩:=List.mem_iff_getElem?.1 h;have hp:=Gk (z8z hs) hi;simp only at hp;rw [List.getElem?_map] at hi;obtain ⟨x,hx,he⟩:=Option.map_eq_some_iff.1 hi;unfold has;rw [z0v,hp,hx];unfold en at he
  injection he with h1 h2
  simp [h1,h2]
theorem y3t(L:List Nd)(x:Nd):(Yi L x).map en=V9 (L.map en) x.m x.s:=by
 unfold Yi V9;rw [z0v,List.map_append,List.map_cons,List.map_take,List.map_drop];rfl
structure LAt (W:World) (l p q:Nat) (D:Nat->Prop) (sd:Nat) (L:List Nd) (m:ByteArray->Option Int) (n:Dc.Sh):Prop where
 blk:Blk W l 237 #[.pointer (some ⟨p,0,none⟩),.pointer (some ⟨q,0,none⟩)]
 ls:Ls W p L
 is:Dc.Is W q D sd m n
 sd:sd<4294967296
variable {w w':World} {l p q sd:Nat} {D:Nat->Prop} {L:List Nd} {m:ByteArray->Option Int} {n:Dc.Sh}
theorem LAt.d_ty(h:LAt w l p q D sd L m n){k:Nat}(hk:D k):∃ t c,(t=262\/t=289\/t=288)/\Blk w k t c:=h.is.cells k hk
theorem LAt.d_node(h:LAt w l p q D sd L m n){k:Nat}(hk:D k):¬ isB (hd p :: L) k:=by
 obtain ⟨t,c,ht,hb⟩:=h.d_ty hk;exact h.ls.sk.not_ty hb fun q e=>by unfold tyq at e;rcases ht with rfl|rfl|rfl <;> (split at e <;> exact absurd e (by decide))
theorem LAt.d_l(h:LAt w l p q D sd L m n){k:Nat}(hk:D k):k≠l:=by
 obtain ⟨t,c,ht,hb⟩:=h.d_ty hk;rintro rfl
 have:=hb.ty h.blk
 rcases ht with rfl|rfl|rfl <;> exact absurd this (by decide)
theorem LAt.l_node(h:LAt w l p q D sd L m n):¬ isB (hd p :: L) l:=h.ls.sk.not_ty h.blk fun q e=>by unfold tyq at e;split at e <;> exact absurd e (by decide)
def Ug(l p:Nat)(L:List Nd)(D:Nat->Prop)(k:Nat):Prop:=k=l\/isB (hd p :: L) k\/D k
theorem LAt.own_lt(h:LAt w l p q D sd L m n){k:Nat}(hk:Ug l p L D k):k<w.heap.size:=by
 rcases hk with rfl|hk|hk
 ·exact h.blk.lt
 ·exact h.ls.sk.lt hk
 ·exact h.is.lt k hk
theorem LAt.own_ty(h:LAt w l p q D sd L m n){k t:Nat}{c:Array Value}(hk:Ug l p L D k)(hb:Blk w k t c)(ht:t≠237/\t≠255/\t≠257/\t≠262/\t≠288/\t≠289):False:=by
 rcases hk with rfl|hk|hk
 ·exact ht.1 (hb.ty h.blk)
 ·exact h.ls.sk.not_ty hb (fun q e=>by unfold tyq at e;split at e;exact ht.2.2.1 e.symm;exact ht.2.1 e.symm) hk
 ·obtain ⟨t',c',ht',hb'⟩:=h.d_ty hk
  have:=hb.ty hb'
  subst this;rcases ht' with e|e|e
  ·exact ht.2.2.2.1 e
  ·exact ht.2.2.2.2.2 e
  ·exact ht.2.2.2.2.1 e
theorem LAt.far{S:Nat->Prop}(h:LAt w l p q D sd L m n)(hf:Far S w w')(hS:∀ k,Ug l p L D k->¬ S k):LAt w' l p q D sd L m n :=
 ⟨hf.blk h.blk (hS l (.inl rfl)),h.ls.far hf (fun k hk=>hS k (.inr (.inl hk))),h.is.far (z5j hf) (fun k hk=>hS k (.inr (.inr hk))),h.sd⟩
theorem LAt.later(h:LAt w l p q D sd L m n)(hb:Bl w w'):LAt w' l p q D sd L m n:=h.far (S:=fun _=>False) (Far.of_below hb) (fun _ _ h=>h)
theorem LAt.dict(h:LAt w l p q D sd L m n){m2:ByteArray->Option Int}{n2:Dc.Sh}(hn:Dc.IsNow D w q sd m2 n2 w'):LAt w' l p q (Dc.Xe Dc.tyI D w w') sd L m2 n2 :=
 ⟨(z0t hn.2).blk h.blk (fun hk=>h.d_l hk rfl),h.ls.far (z0t hn.2) (fun _ hk hd=>h.d_node hd hk),hn.1,h.sd⟩
theorem C1(p:Nat)(L:List Nd)(a k:Nat)(h:a+k<=L.length):Pm (hd p :: L) (List.range' (a+1) k)=((L.map en).drop a).take k:=by
 unfold Pm
 apply List.ext_getElem?
 intro i;rw [List.getElem?_map,List.getElem?_take]
 by_cases hi:i<k
 ·rw [if_pos hi,List.getElem?_drop,List.getElem?_map]
  have h1:(List.range' (a+1) k)[i]?=some (a+1+i):=by
   rw [List.getElem?_eq_getElem (by simpa using hi)];simp
  have h2:L[a+i]?=some L[a+i]:=List.getElem?_eq_getElem (by omega);rw [h1,h2];simp only [Option.map_some];rw [show a+1+i=(a+i)+1 by omega,List.getElem?_cons_succ,h2];rfl
 ·rw [if_neg hi,List.getElem?_eq_none (by simpa using hi)];rfl
theorem y0w(h:Ls w p L)(hN:L.length<=100000)(f t:Int):Calls Tryz.prog 273 #[.pointer (some ⟨p,0,none⟩),.int .i64 f,.int .i64 t] w fun e w'=>∃ r,e=.returned r/\Row w' w.heap.size r (z9f (L.map en) f t)/\Bl w w':=by
 unfold z9f;rw [List.length_map]
 by_cases hab:f0 f<t0 t L.length
 ·have:=z4i p L rfl w h.sk (by simp;omega) rfl f t (f0 f) (t0 t L.length) (by unfold f0;omega) (by unfold f0 t0 at *;omega) hab
  have hle:f0 f+(t0 t L.length-f0 f)<=L.length:=by unfold t0 at *;omega
  rw [C1 p L _ _ hle] at this;exact this.mono fun e w' ⟨r,h1,h2,h3⟩=>⟨r,h1,J0 h2,h3⟩
 ·refine (z1c p L rfl w h.sk f t (by unfold f0 t0 at hab;omega)).mono ?_;rintro e w' ⟨rfl,hb⟩;refine ⟨_,rfl,?_,hb⟩;rw [show t0 t L.length-f0 f=0 by omega,List.take_zero];exact Row.nil _ _
theorem z2m(h:LAt w l p q D sd L m n)(hn:n.n<=1000000)(key:ByteArray)(hk:key.size<=281474976710656):Calls Tryz.prog 277 #[.pointer (some ⟨l,0,none⟩),.string key] w fun e w' =>
 e=.returned (.tuple #[.int .i64 ((m key).getD 0),.bool (m key).isSome])/\Dc.IsNow D w q sd m n.step1 w':=by
 have HG:=jY (Dc.Ar h.sd h.is hn key hk);obtain ⟨e0,e1,_,_⟩:=Zd h.blk;clear h hk hn;generalize (m key).getD 0=x at *;generalize (m key).isSome=y at *
 go_enter Tryz.func277,Tryz.ntmps277
 go_wp2_with (go_at_call 282;refine HG.out.mono ?_;rintro e w1 ⟨rfl,hd⟩)
 go_ret2;exact ⟨rfl,hd⟩
theorem z2n{E:List En}(hm:MapOf m E)(key:ByteArray):match whE E key with
 | none=>m key=none
 | some i=>∃ v,m key=some v/\E[i]?=some (key,v):=by
 cases h:whE E key with
 | none =>
   cases h2:m key with
   | none=>rfl
   | some v=>exact absurd rfl (Vt h _ ((hm key v).1 h2))
 | some i =>
   obtain ⟨v,hv⟩:=Qv h;exact ⟨v,(hm key v).2 (List.mem_of_getElem? hv),hv⟩
end Go.Proofs.YtmehfohpjigmmaaGreatDoor
