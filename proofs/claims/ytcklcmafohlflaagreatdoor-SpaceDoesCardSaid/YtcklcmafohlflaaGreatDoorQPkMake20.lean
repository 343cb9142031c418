/- Texts of one kind in one: PkMake, ZPack, ZLead, ZPut, ZPCut, ZList. -/
import Derived.Test.YtcklcmafohlflaaGreatDoorQPkWrite19
import Derived.Test.YtcklcmafohlflaaGreatDoorQSkRem16
import Derived.Test.YtcklcmafohlflaaGreatDoorQDcIs08
set_option maxRecDepth 200000
set_option maxHeartbeats 8000000
namespace Go.Proofs.YtcklcmafohlflaaGreatDoor.Pk
open Zc
open Go.RowKit Go.Shelf
attribute [local go_sem] Oper.semAt_some
theorem Uv(w:World):Calls Tryz.prog 80 #[] w fun e w'=>e=.returned (.string (Y9 []))/\w'=w:=by
 go_enter Tryz.func80,Tryz.ntmps80
 go_wp2;go_ret;exact ⟨rfl,rfl⟩
theorem z7i{l:List Ent}(h:∀ e∈l,e.1.size<=64):(l.flatMap Ut).length<=74*l.length:=by
 induction l with
 | nil=>simp
 | cons e l ih =>
   have:=ih (fun e he=>h e (List.mem_cons_of_mem _ he))
   have h1:=h e (List.mem_cons_self ..);have h2:=Vn e;rw [List.flatMap_cons,lAh,List.length_cons];omega
theorem y1b(a b c d:Value)(W:World):(Instr.field 306 (.agg #[a,b,c,d]) 1).run Tryz.prog W=.ok c W:=by
 simp [Instr.field,go_sem,asAgg]
def x2p(p:ByteArray)(at_:Int)(x:Ent):ByteArray × Int :=
 if Zt p then
  if (Yf p).length=200 then (⟨#[]⟩,51)
  else if at_<0\/(Yf p).length<at_\/64<x.1.size then (⟨#[]⟩,2)
  else (Y9 ((Yf p).take at_.toNat++[x]++(Yf p).drop at_.toNat),0)
 else (⟨#[]⟩,50)
theorem Gt(W:World)(x:Ent):Ents (W.alloc (.cells #[.string x.1,.int .i64 x.2] 94)) (some ⟨W.heap.size,0,none⟩) [x]:=fun i hi=>by
 have hB:=Blk.new W 94 #[.string x.1,.int .i64 x.2];obtain rfl:i=0:=by simpa using hi
 exact ⟨_,_,rfl,hB.cell 0,hB.cell 1⟩
theorem Mx{l:List Ent}(h:∀ e∈l,e.1.size<=64)(hl:l.length<=1000):(Y9 l).size<=100000:=by
 rw [Pt]
 have:=z7i h
 omega
theorem G6(p:ByteArray)(hp:p.size<=281474976710656)(at_:Int)(hat:-9223372036854775808<=at_/\at_<=9223372036854775807)(x:Ent)(hx:x.1.size<=9223372036854775807)(w:World) :
 Calls Tryz.prog 279 #[.string p,.int .i64 at_,.agg #[.string x.1,.int .i64 x.2]] w fun e w'=>e=.returned (.tuple #[.string (x2p p at_ x).1,.int .i64 (x2p p at_ x).2])/\Bl w w':=by
 have HR:=fun w=>jY (Uq p hp w);have HC:=fun w=>jY (Ju p hp w);have hB0:=(Below.refl w.heap.size w).alloc (lAd _) (Obj.cells #[Value.string x.1,Value.int IntKind.i64 x.2] 94);have k0:=Blk.new w 94 #[Value.string x.1,Value.int IntKind.i64 x.2];unfold x2p
 cases hr:Zt p with
 | false =>
   rw [hr] at HR;simp only [Bool.false_eq_true,if_false]
   go_enter Tryz.func279,Tryz.ntmps279
   go_wp2_with fail;refine (HR _).out.mono ?_;rintro e w1 ⟨rfl,hb1⟩;have HB:=jY (hB0.trans (hb1.mono hB0.size));clear hb1 hB0;go_wp2_with fail;go_ret2;exact ⟨rfl,HB.out⟩
 | true =>
   rw [hr] at HR;simp only [if_true];have hk:=Uo hr;rw [hk.count] at HC;have hlen:(Yf p).length=(Zi p).length:=by simp [Yf]
   have hmany:=hk.many;have hps:p.size<=100000:=by rw [Ik hr];exact Mx (fun e he=>((y0e hr).each e he).1) (by rw [hlen];omega)
   rw [hlen]
   by_cases h200:(Zi p).length=200
   ·rw [if_pos h200];have h9:((Zi p).length:Int)=200:=by omega
    generalize (Zi p).length=n at *
    go_enter Tryz.func279,Tryz.ntmps279
    go_wp2_with fail;refine (HR _).out.mono ?_;rintro e w1 ⟨rfl,hb1⟩;have hB1:=hB0.trans (hb1.mono hB0.size);clear hb1 hB0;go_wp2_with fail;refine (HC _).out.mono ?_;rintro e w2 ⟨rfl,hb2⟩;have HB:=jY (hB1.trans (hb2.mono hB1.size));clear hb2 hB1;go_wp2_with fail;go_ret2;exact ⟨rfl,HB.out⟩
   ·rw [if_neg h200];have h9:¬ ((Zi p).length:Int)=200:=by omega
    have HFT:=fun w=>jY (x7y (some ⟨World.heap w |>.size,0,none⟩) 1 [x] (by simp) (by simpa using hx) (w.alloc (.cells #[.string x.1,.int .i64 x.2] 94)) (Gt w x));have hfx:z4j [x]=decide (x.1.size<=64):=by simp [z4j]
    rw [hfx] at HFT
    by_cases hbad:at_<0\/((Zi p).length:Int)<at_\/64<x.1.size
    ·rw [if_pos hbad];generalize (Zi p).length=n at *
     go_enter Tryz.func279,Tryz.ntmps279
     go_wp2_with fail;refine (HR _).out.mono ?_;rintro e w1 ⟨rfl,hb1⟩;have hB1:=hB0.trans (hb1.mono hB0.size);have k1:=k0.later hb1;clear hb1;go_wp2_with fail;refine (HC _).out.mono ?_;rintro e w2 ⟨rfl,hb2⟩;have hB2:=hB1.trans (hb2.mono hB1.size);have k2:=k1.later hb2;clear hb2
     by_cases h0:at_<0
     ·have HB:=jY hB2;clear hB0 hB1 hB2;go_wp2_with fail;go_ret2;exact ⟨rfl,HB.out⟩
     ·go_wp2_with fail;refine (HC _).out.mono ?_;rintro e w3 ⟨rfl,hb3⟩;have hB3:=hB2.trans (hb3.mono hB2.size);have k3:=k2.later hb3;clear hb3
      by_cases hgt:(n:Int)<at_
      ·have HB:=jY hB3;clear hB0 hB1 hB2 hB3;go_wp2_with fail;go_ret2;exact ⟨rfl,HB.out⟩
      ·have hm64:decide (x.1.size<=64)=false:=by simp;omega
       rw [hm64] at HFT;obtain ⟨e0,e1,_⟩:=Za k3;go_wp2_with fail;refine (HFT w3).out.mono ?_;rintro e w4 ⟨rfl,hb4⟩;have HB:=jY (hB3.trans (((Below.refl w3.heap.size w3).alloc (lAd _) (Obj.cells #[Value.string x.1,Value.int IntKind.i64 x.2] 94)).trans (hb4.mono (by simp)) |>.mono hB3.size));clear hB0 hB1 hB2 hB3 hb4;go_wp2_with fail;go_ret2;exact ⟨rfl,HB.out⟩
    ·rw [if_neg hbad];obtain ⟨k,rfl⟩:∃ k:Nat,at_=(k:Int):=⟨at_.toNat,by omega⟩;have hkl:k<=(Zi p).length:=by omega
     have hk0:¬ ((k:Int)<0):=by omega
     have hk1:¬ ((Zi p).length:Int)<(k:Int):=by omega
     have hm64:decide (x.1.size<=64)=true:=by simp;omega
     rw [hm64] at HFT
     obtain ⟨nm,ns,nt,hnth⟩:∃ (nm:ByteArray) (ns nt:Int),∀ w,Hid (Calls Tryz.prog 286 #[.string p,.int .i64 (k:Int)] w fun e w'=>e=.returned (.agg #[.string nm,.int .i64 ns,.int .i64 (Yh (Zi p) k:Int),.int .i64 nt])/\Bl w w'):=by
      by_cases hlt:k<(Zi p).length
      ·have hxk:(Zi p)[k]?=some ((Zi p)[k]'hlt):=lAa hlt;refine ⟨((Zi p)[k]'hlt).m,((Zi p)[k]'hlt).s,(((Zi p)[k]'hlt).to:Int),fun w=>jY (As p hp (Zi p) hk.chain (fun c hc=>(hk.each c hc).2.2.1) k (by omega) _ (fun c hc=>?_) (fun hc=>by rw [hxk] at hc;cases hc) w)⟩;rw [hxk] at hc
       cases hc
       rw [<- v0f hk k _ hxk];rfl
      ·obtain rfl:k=(Zi p).length:=by omega
       refine ⟨⟨#[]⟩,0,(p.size:Int),fun w=>jY (As p hp (Zi p) hk.chain (fun c hc=>(hk.each c hc).2.2.1) (Zi p).length (by omega) _ (fun c hc=>by simp at hc) (fun hc=>?_) w)⟩;rw [hk.ends];rfl
     have hput:=z8u hk k k (lAd _) hkl ((Zi p).length+1) [x] (by simp;omega);rw [List.flatMap_cons,List.flatMap_nil,List.append_nil,List.map_take,List.map_drop] at hput
     have he2:2<=Yh (Zi p) k:=by
      by_cases h0:k=0
      ·subst h0;exact lAd _
      ·obtain ⟨i,rfl⟩:∃ i,k=i+1:=⟨k-1,by omega⟩;have hxk:(Zi p)[i]?=some ((Zi p)[i]'(by omega)):=lAa (by omega);rw [show Yh (Zi p) (i+1)=((Zi p)[i]'(by omega)).to by simp [Yh,hxk]];exact (hk.each _ (List.getElem_mem _)).2.1
     have hes:Yh (Zi p) k<=p.size:=by
      by_cases h0:k=0
      ·subst h0;exact hk.two
      ·obtain ⟨i,rfl⟩:∃ i,k=i+1:=⟨k-1,by omega⟩;have hxk:(Zi p)[i]?=some ((Zi p)[i]'(by omega)):=lAa (by omega);rw [show Yh (Zi p) (i+1)=((Zi p)[i]'(by omega)).to by simp [Yh,hxk]];exact (hk.each _ (List.getElem_mem _)).2.2.1
     have HW:=fun w=>jY (y0f (some ⟨World.heap w |>.size,0,none⟩) 1 [x] (by simp) (by simp;omega) (w.alloc (.cells #[.string x.1,.int .i64 x.2] 94)) (Gt w x));have HRP:=fun v w hy=>jY (Fl p hk.two (by omega) 1 ((Zi p).length+1) (by rw [hk.count];simp) (by omega) (Yh (Zi p) k) (Yh (Zi p) k) he2 (lAd _) hes v (Ut x) (by have:=Vn x;omega) w hy);rw [hput] at HRP;rw [Int.toNat_natCast];rw [show (Zi p).map Cut.ent=Yf p from rfl] at HRP;generalize (Yf p).take k++[x]++(Yf p).drop k=out at *;generalize Yh (Zi p) k=en at *;generalize (Zi p).length=n at *;clear hput hbad
     go_enter Tryz.func279,Tryz.ntmps279
     go_wp2_with fail;refine (HR _).out.mono ?_;rintro e w1 ⟨rfl,hb1⟩;have hB1:=hB0.trans (hb1.mono hB0.size);have k1:=k0.later hb1;clear hb1;go_wp2_with fail;refine (HC _).out.mono ?_;rintro e w2 ⟨rfl,hb2⟩;have hB2:=hB1.trans (hb2.mono hB1.size);have k2:=k1.later hb2;clear hb2;go_wp2_with fail;refine (HC _).out.mono ?_;rintro e w3 ⟨rfl,hb3⟩;have hB3:=hB2.trans (hb3.mono hB2.size);have k3:=k2.later hb3;clear hb3;obtain ⟨e0,e1,_⟩:=Za k3;go_wp2_with fail;refine (HFT w3).out.mono ?_;rintro e w4 ⟨rfl,hb4⟩;have hB4:=hB3.trans (((Below.refl w3.heap.size w3).alloc (lAd _) (Obj.cells #[Value.string x.1,Value.int IntKind.i64 x.2] 94)).trans (hb4.mono (by simp)) |>.mono hB3.size);have k4:=(k3.alloc (Obj.cells #[Value.string x.1,Value.int IntKind.i64 x.2] 94)).later hb4;clear e0 e1 hb4;go_wp2_with fail;refine (hnth _).out.mono ?_;rintro e w5 ⟨rfl,hb5⟩;have hB5:=hB4.trans (hb5.mono hB4.size);have k5:=k4.later hb5;clear hb5;obtain ⟨e0,e1,_⟩:=Za k5
     have hff:=y1b
     go_wp2_with fail;refine (HW w5).out.mono ?_;rintro e w6 ⟨v,rfl,ho,hb6⟩;have hB6:=hB5.trans (((Below.refl w5.heap.size w5).alloc (lAd _) (Obj.cells #[Value.string x.1,Value.int IntKind.i64 x.2] 94)).trans (hb6.mono (by simp)) |>.mono hB5.size);have hbv:BytesV w6 v (Ut x):=by have:=Ay ho;simpa using this
     have HB6:=jY hB6;have HV:=jY hbv;clear e0 e1 hb6 ho hbv hB0 hB1 hB2 hB3 hB4 hB5 hB6 k0 k1 k2 k3 k4 k5;go_wp2_with fail;refine (HRP v w6 HV.out).out.mono ?_;rintro e w7 ⟨rfl,hb7⟩;have HB7:=jY (HB6.out.trans (hb7.mono HB6.out.size));clear hb7;go_wp2_with fail;go_ret2;exact ⟨rfl,HB7.out⟩
def x7m(p:ByteArray)(at_:Int):ByteArray × Int :=
 if Zt p then
  if at_<0\/(Yf p).length<=at_ then (⟨#[]⟩,2)
  else (Y9 ((Yf p).take at_.toNat++(Yf p).drop (at_.toNat+1)),0)
 else (⟨#[]⟩,50)
theorem Iz(p:ByteArray)(hp:p.size<=281474976710656)(at_:Int)(w:World) :
 Calls Tryz.prog 275 #[.string p,.int .i64 at_] w fun e w'=>e=.returned (.tuple #[.string (x7m p at_).1,.int .i64 (x7m p at_).2])/\Bl w w':=by
 have HP:=jY (z8p p hp at_ w);unfold x7m;have hlen:(Yf p).length=(Zi p).length:=by simp [Yf]
 by_cases hok:Zt p=true/\¬ (at_<0\/((Zi p).length:Int)<=at_)
 ·obtain ⟨hr,hat⟩:=hok;have hk:=Uo hr;have hmany:=hk.many;have hps:p.size<=100000:=by rw [Ik hr];exact Mx (fun e he=>((y0e hr).each e he).1) (by rw [hlen];omega)
  obtain ⟨k,rfl⟩:∃ k:Nat,at_=(k:Int):=⟨at_.toNat,by omega⟩;have hkl:k<(Zi p).length:=by omega
  have hx:(Zi p)[k]?=some ((Zi p)[k]'hkl):=lAa hkl
  have hpk:Il p (k:Int)=(some ((Zi p)[k]'hkl),0):=by
   unfold Il;rw [if_pos hr,if_neg hat,Int.toNat_natCast,hx]
  rw [hpk] at HP;rw [if_pos hr,hlen,if_neg hat,Int.toNat_natCast];have hfr:=v0f hk k _ hx;have hto:((Zi p)[k]'hkl).to=Yh (Zi p) (k+1):=by simp [Yh,hx]
  have hput:=z8u hk k (k+1) (by omega) (by omega) ((Zi p).length-1) [] (by simp;omega);rw [List.flatMap_nil,List.append_nil,List.map_take,List.map_drop,<- hfr,<- hto] at hput;have heach:=hk.each _ (List.getElem_mem hkl);have h2:=Xd (Md hk.chain (List.getElem_mem hkl));generalize hc:(Zi p)[k]'hkl=c at *;have HRP:=fun w=>jY (Fl p hk.two (by omega) (-1) ((Zi p).length-1) (by rw [hk.count];omega) (by omega) c.fr c.to (by omega) (by omega) (by omega) (.slice none 0 0) [] (by simp) w (.none 0));rw [hput] at HRP;rw [show (Zi p).map Cut.ent=Yf p from rfl] at HRP;generalize (Yf p).take k++(Yf p).drop (k+1)=out at *;unfold Oh Cut.val at HP;clear hput hx hat hpk hfr hto h2
  go_enter Tryz.func275,Tryz.ntmps275
  go_wp2_with fail;refine HP.out.mono ?_;clear HP;rintro e w1 ⟨rfl,hb1⟩;have k1:=Blk.new w1 306 #[Value.string c.m,Value.int IntKind.i64 c.s,Value.int IntKind.i64 c.fr,Value.int IntKind.i64 c.to];have hB1:=jY (hb1.alloc hb1.size (Obj.cells #[Value.string c.m,Value.int IntKind.i64 c.s,Value.int IntKind.i64 c.fr,Value.int IntKind.i64 c.to] 306));clear hb1;go_wp2_with fail;refine (HRP _).out.mono ?_;rintro e w2 ⟨rfl,hb2⟩;have HB2:=jY (hB1.out.trans (hb2.mono hB1.out.size));clear hb2;go_wp2_with fail;go_ret2;exact ⟨rfl,HB2.out⟩
 ·obtain ⟨er,her,hpk⟩:∃ er:Int,(er=2\/er=50)/\Il p at_=(none,er)/\(if Zt p=true then if at_<0\/((Yf p).length:Int)<=at_ then ((⟨#[]⟩:ByteArray),(2:Int)) else (Y9 ((Yf p).take at_.toNat++(Yf p).drop (at_.toNat+1)),0) else (⟨#[]⟩,50))=(⟨#[]⟩,er):=by
   unfold Il;rw [hlen]
   cases hr:Zt p with
   | false=>exact ⟨50,.inr rfl,by simp,by simp⟩
   | true =>
     have hat:at_<0\/((Zi p).length:Int)<=at_:=Decidable.byContradiction fun h=>hok ⟨hr,h⟩;exact ⟨2,.inl rfl,by simp [hat],by simp [hat]⟩
  obtain ⟨hpk,hans⟩:=hpk;rw [hpk] at HP;rw [hans];have h0:er≠0:=by omega
  have h1:¬ er=0:=h0;unfold Oh z2k at HP;clear hpk hans hok
  go_enter Tryz.func275,Tryz.ntmps275
  go_wp2_with fail;refine HP.out.mono ?_;clear HP;rintro e w1 ⟨rfl,hb1⟩;have HB1:=jY (hb1.alloc hb1.size (Obj.cells #[Value.string { data:=#[] },Value.int IntKind.i64 0,Value.int IntKind.i64 0,Value.int IntKind.i64 0] 306));clear hb1;go_wp2_with fail;go_ret2;exact ⟨rfl,HB1.out⟩
end Go.Proofs.YtcklcmafohlflaaGreatDoor.Pk
namespace Go.Proofs.YtcklcmafohlflaaGreatDoor
open Zc (Ent Ext KeepC Ym Z9 Zg Xg Zx Zb Zv Yo Y5 Ze Zz Z4 Zd)
open Go.RowKit Go.Shelf Sk
attribute [local go_sem] Oper.semAt_some
theorem Z0(w:World)(o:Obj):Bl w (w.alloc o):=(Below.refl _ _).alloc (lAd _) _
abbrev Kh (W:World) (n0:Nat) (v:Value) (l:List En):Prop:=Pk.Own35 W n0 v l
abbrev P4 (E:List En):Prop:=Pk.Valid E
theorem Ul{E:List En}(h:P4 E):(Pk.Y9 E).size<=281474976710656:=by
 have:=Pk.Mx (fun e he=>(h.each e he).1) (by have:=h.many;omega)
 omega
theorem z6p{E:List En}(h:P4 E)(i:Int):Pk.Ke (Pk.Y9 E) i=(if i<0\/(E.length:Int)<=i then ((⟨#[]⟩,0),2) else (E.getD i.toNat (⟨#[]⟩,0),0)):=by
 unfold Pk.Ke;rw [Pk.Oc h,Pk.Uj h];rfl
structure PackAt (W:World) (b:Nat) (E:List En):Prop where
 blk:Blk W b 151 #[.string (Pk.Y9 E)]
 ok:P4 E
theorem PackAt.far{W W':World}{b:Nat}{E:List En}{S:Nat->Prop}(h:PackAt W b E)(hf:Far S W W')(hn:¬ S b):PackAt W' b E:=⟨hf.blk h.blk hn,h.ok⟩
theorem PackAt.later{W W':World}{b:Nat}{E:List En}(h:PackAt W b E)(hb:Bl W W'):PackAt W' b E:=⟨h.blk.later hb,h.ok⟩
theorem Up{W:World}{n0:Nat}{v:Value}{l:List En}(h:Kh W n0 v l):∃ a c,v=.slice a l.length c/\l.length<=c:=by
 rcases h.2 with ⟨rfl,h0⟩|⟨g,cap,cur,rfl,h1,h2,h3⟩
 ·have hl:l=[]:=List.eq_nil_of_length_eq_zero h0;subst hl;exact ⟨none,0,rfl,lAd _⟩
 ·exact ⟨_,cap,rfl,h3.1⟩
structure Row (W:World) (n0:Nat) (v:Value) (l:List En):Prop where
 form:∃ a c,v=.slice a l.length c
 at':∀ i e,l[i]?=some e->∃ b off c cur,v=.slice (some ⟨b,off,none⟩) l.length c/\n0<=b/\Blk W b 94 cur/\W.cell? ⟨b,off+i*2,none⟩=some (.string e.1)/\W.cell? ⟨b,off+i*2+1,none⟩=some (.int .i64 e.2)
theorem Row.far{W W':World}{n0:Nat}{v:Value}{l:List En}{S:Nat->Prop}(h:Row W n0 v l)(hf:Far S W W')(hS:∀ k cur,n0<=k->Blk W k 94 cur->¬ S k):Row W' n0 v l :=
 ⟨h.form,fun i e he=>by
   obtain ⟨b,off,c,cur,h1,h2,h3,h4,h5⟩:=h.at' i e he;have h6:=hf.blk h3 (hS b cur h2 h3);refine ⟨b,off,c,cur,h1,h2,h6,?_,?_⟩
   ·rw [h6.cell,<- h3.cell];exact h4
   ·rw [h6.cell,<- h3.cell];exact h5⟩
theorem Row.later{W W':World}{n0:Nat}{v:Value}{l:List En}(h:Row W n0 v l)(hb:Bl W W'):Row W' n0 v l:=h.far (S:=fun _=>False) (Far.of_below hb) (fun _ _ _ _ h=>h)
theorem Row.mono{W:World}{n0 n1:Nat}{v:Value}{l:List En}(h:Row W n0 v l)(hn:n1<=n0):Row W n1 v l :=
 ⟨h.form,fun i e he=>by
   obtain ⟨b,off,c,cur,h1,h2,h3⟩:=h.at' i e he
   exact ⟨b,off,c,cur,h1,lAe hn h2,h3⟩⟩
theorem Row.nil(W:World)(n0:Nat):Row W n0 (.slice none 0 0) []:=⟨⟨none,0,rfl⟩,fun i e h=>by simp at h⟩
theorem Bx:∀ (l:List En) (i:Nat) (e:En),l[i]?=some e->(Zc.Zx l)[i*2]?=some (.string e.1)/\(Zc.Zx l)[i*2+1]?=some (.int .i64 e.2)
 | [],i,e,h=>by simp at h
 | x :: l,0,e,h=>by
   simp at h;subst h;exact ⟨rfl,rfl⟩
 | x :: l,i+1,e,h=>by
   have:=Bx l i e (by simpa using h)
   rw [show (i+1)*2=i*2+1+1 by omega];exact this
theorem Cd:∀ l:List En,(Zc.Zx l).length=l.length*2
 | []=>rfl
 | x :: l=>by
   have:=Cd l
   show (Zc.Zx l).length+1+1=_;rw [this,List.length_cons];omega
theorem Mp{W:World}{n0:Nat}{v:Value}{l:List En}(h:Kh W n0 v l):Row W n0 v l:=by
 refine ⟨?_,fun i e he=>?_⟩
 ·obtain ⟨a,c,h1,_⟩:=Up h;exact ⟨a,c,h1⟩
 ·obtain ⟨q1,q2⟩:=Bx l i e he;have hi:=(lAb.1 he).1;have hcl:=Cd l;rcases h.2 with ⟨rfl,h0⟩|⟨g,cap,cur,rfl,h1,h2,h3⟩
  ·omega
  ·refine ⟨g,0,cap,cur,rfl,h1,h2,?_,?_⟩
   ·rw [Nat.zero_add,h.cellAt (i*2) (by omega)];exact q1
   ·rw [Nat.zero_add,h.cellAt (i*2+1) (by omega)];exact q2
theorem x5j{W:World}{n0 g cap:Nat}{l:List En}(h:Kh W n0 (.slice (some ⟨g,0,none⟩) l.length cap) l)(a k:Nat)(hk:a+k<=l.length)(hk0:0<k)(c:Nat) :
 Row W n0 (.slice (some ⟨g,a*2,none⟩) k c) ((l.drop a).take k):=by
 have hlen:((l.drop a).take k).length=k:=by simp;omega
 refine ⟨⟨_,c,by rw [hlen]⟩,fun i e he=>?_⟩;have hi:=(lAb.1 he).1;rw [hlen] at hi;rw [List.getElem?_take_of_lt hi,List.getElem?_drop] at he;obtain ⟨b,off,c2,cur,e1,e2,e3,e4,e5⟩:=(Mp h).at' (a+i) e he
 injection e1 with e1 _ _
 injection e1 with e1
 injection e1 with e1 e6 _
 subst e1;subst e6;refine ⟨g,a*2,c,cur,by rw [hlen],e2,e3,?_,?_⟩
 ·rw [<- e4];congr 2;omega
 ·rw [<- e5];congr 2;omega
section
variable {w:World} {b:Nat} {E:List En}
theorem Dz(h:PackAt w b E):Calls Tryz.prog 92 #[.pointer (some ⟨b,0,none⟩)] w fun e w'=>∃ r,e=.returned r/\Kh w' w.heap.size r E/\Bl w w':=by
 have HE:=jY (Pk.z3w (Pk.Y9 E) (Ul h.ok) w);rw [Pk.Uj h.ok,Pk.Oc h.ok] at HE;simp only [if_true] at HE;obtain ⟨c0,_⟩:=Z5 h.blk;clear h
 go_enter Tryz.func92,Tryz.ntmps92
 go_wp2_with (go_at_call 143;refine HE.out.mono ?_;rintro e w1 ⟨r,rfl,ho,hb⟩)
 go_ret;exact ⟨_,rfl,ho,hb⟩
theorem z2p(h:PackAt w b E):Calls Tryz.prog 90 #[.pointer (some ⟨b,0,none⟩)] w fun e w'=>e=.returned (.int .i64 E.length)/\Bl w w':=by
 have HE:=jY (Dz h);clear h
 go_enter Tryz.func90,Tryz.ntmps90
 go_wp2_with (go_at_call 92;refine HE.out.mono ?_;rintro e w1 ⟨r,rfl,ho,hb⟩;obtain ⟨a,c,rfl,_⟩:=Up ho)
 go_ret;exact ⟨rfl,hb⟩
theorem v3v(h:PackAt w b E)(i:Int):Calls Tryz.prog 266 #[.pointer (some ⟨b,0,none⟩),.int .i64 i] w fun e w' =>
 e=.returned (.tuple #[.agg #[.string (Pk.Ke (Pk.Y9 E) i).1.1,.int .i64 (Pk.Ke (Pk.Y9 E) i).1.2],.bool ((Pk.Ke (Pk.Y9 E) i).2==0)])/\Bl w w':=by
 have hb0:=Z0 w (.cells #[.string ⟨#[]⟩,.int .i64 0] 94);have HE:=jY (Pk.Gy (Pk.Y9 E) (Ul h.ok) i (w.alloc (.cells #[.string ⟨#[]⟩,.int .i64 0] 94)));obtain ⟨c0,_⟩:=Z5 (h.later hb0).blk;have HB:=jY hb0;have kR:=Blk.new w 94 #[.string ⟨#[]⟩,.int .i64 0];generalize (Pk.Ke (Pk.Y9 E) i)=g at *;obtain ⟨⟨gm,gs⟩,er⟩:=g;simp only at *;clear h hb0
 go_enter Tryz.func266,Tryz.ntmps266
 go_wp2_with fail;refine HE.out.mono ?_;rintro e w1 ⟨rfl,hb⟩;have k1:=kR.later hb;have K2:=jY (k1.alloc (Obj.cells #[.string gm,.int .i64 gs] 94));have kN:=Blk.new w1 94 #[.string gm,.int .i64 gs];obtain ⟨e0,e1,f0,f1⟩:=Za kN;obtain ⟨e2,e3,f2,f3⟩:=Za K2.out;have hb2:=HB.out.trans (hb.mono HB.out.size);have HB2:=jY (hb2.trans ((Z0 w1 (Obj.cells #[.string gm,.int .i64 gs] 94)).mono hb2.size));clear hb hb2 k1 kN kR HE;go_wp2_with fail;obtain ⟨g1,g2,g3⟩:=Pk.set2 (.string gm) (.int .i64 gs) K2.out;exact Pk.v0o Tryz.results266 rfl rfl g1 rfl ⟨rfl,HB2.out.trans (g3 _ (lAd _))⟩
theorem z5g(h:PackAt w b E)(f t:Int):Calls Tryz.prog 269 #[.pointer (some ⟨b,0,none⟩),.int .i64 f,.int .i64 t] w fun e w'=>∃ r,e=.returned r/\Row w' w.heap.size r (Ua E f t)/\Bl w w':=by
 have HE:=jY (Dz h);have hF:max f 0=(f0 f:Int):=by unfold f0;omega
 clear h
 by_cases hlt:f0 f<t0 t E.length
 ·have hT:min t (E.length:Int)=(t0 t E.length:Int):=by unfold t0 f0 at *;omega
  have hTl:t0 t E.length<=E.length:=by unfold t0;omega
  unfold Ua;generalize f0 f=F at *;generalize t0 t E.length=T at *;have h1:(0:Int)<=F:=by omega
  have h2:(F:Int)<=T:=by omega
  have h4:¬ (F:Int) >= T:=by omega
  have h5:(F:Int)<T:=by omega
  go_enter Tryz.func269,Tryz.ntmps269
  go_wp2_with fail;refine HE.out.mono ?_;rintro e w1 ⟨r,rfl,ho,hb⟩;have ho2:=ho.2;rcases ho2 with ⟨rfl,h0⟩|⟨g,cap,cur,rfl,q1,q2,q3⟩
  ·omega
  ·have h3:(T:Int)<=cap:=by have:=q3.1;omega
   have h6:¬ cap=F:=by have:=q3.1;omega
   have HR:=jY (x5j ho F (T-F) (by omega) (by omega));clear q1 q2 q3 ho;go_wp2_with fail
   all_goals (
    go_ret
    exact ⟨_,rfl,by simpa using HR.out _,hb⟩)
 ·have h0:Ua E f t=[]:=List.eq_nil_of_length_eq_zero (by rw [P0];omega);rw [h0];have h6:min t (E.length:Int)<=(f0 f:Int):=by unfold t0 f0 at *;omega
  generalize f0 f=F at *;clear hlt h0
  go_enter Tryz.func269,Tryz.ntmps269
  go_wp2_with fail;refine HE.out.mono ?_;rintro e w1 ⟨r,rfl,ho,hb⟩;obtain ⟨a,c,rfl,_⟩:=Up ho;go_wp2_with fail
  all_goals (
   go_ret
   exact ⟨_,rfl,Row.nil _ _,hb⟩)
theorem x9b(h:PackAt w b E):Calls Tryz.prog 270 #[.pointer (some ⟨b,0,none⟩)] w fun e w'=>e=.returned (.int .i64 (Pk.Y9 E).size)/\w'=w:=by
 obtain ⟨c0,_⟩:=Z5 h.blk;clear h
 go_enter Tryz.func270,Tryz.ntmps270
 go_wp2;go_ret;exact ⟨rfl,rfl⟩
theorem z0r(E:List En)(m:ByteArray):Pk.Xw E m=(match whE E m with|none=>-1|some i=>(i:Int)):=rfl
theorem v2i(h:PackAt w b E)(m:ByteArray):Calls Tryz.prog 272 #[.pointer (some ⟨b,0,none⟩),.string m] w fun e w' =>
 e=.returned (.tuple #[.int .i64 ((whE E m).getD 0),.bool (whE E m).isSome])/\Bl w w':=by
 have HE:=jY (Pk.Yq (Pk.Y9 E) m (Ul h.ok) w);rw [Pk.Uj h.ok,z0r] at HE;obtain ⟨c0,_⟩:=Z5 h.blk;clear h;generalize whE E m=q at *
 cases q with
 | none =>
   go_enter Tryz.func272,Tryz.ntmps272
   go_wp2_with (go_at_call 276;refine HE.out.mono ?_;rintro e w1 ⟨rfl,hb⟩)
   go_ret2;exact ⟨rfl,hb⟩
 | some i =>
   have h1:(0:Int)<=i:=by omega
   have h2:max (i:Int) 0=i:=by omega
   have h3:(i:Int) >= 0:=by omega
   go_enter Tryz.func272,Tryz.ntmps272
   go_wp2_with (go_at_call 276;refine HE.out.mono ?_;rintro e w1 ⟨rfl,hb⟩)
   go_ret2;exact ⟨by simp,hb⟩
theorem z5h(h:PackAt w b E)(m:ByteArray):Calls Tryz.prog 274 #[.pointer (some ⟨b,0,none⟩),.string m] w fun e w' =>
 e=.returned (.tuple #[.int .i64 (Pk.Ke (Pk.Y9 E) (Pk.Xw E m)).1.2,.bool ((Pk.Ke (Pk.Y9 E) (Pk.Xw E m)).2==0)])/\Bl w w':=by
 have HE:=jY (Pk.Yq (Pk.Y9 E) m (Ul h.ok) w);rw [Pk.Uj h.ok] at HE;have HA:=fun W (hb:Bl w W)=>jY (v3v (h.later hb) (Pk.Xw E m));obtain ⟨c0,_⟩:=Z5 h.blk;clear h;generalize Pk.Ke (Pk.Y9 E) (Pk.Xw E m)=g at *;generalize Pk.Xw E m=q at *
 go_enter Tryz.func274,Tryz.ntmps274
 go_wp2_with fail;refine HE.out.mono ?_;rintro e w1 ⟨rfl,hb⟩;have HA1:=HA w1 hb;have HB:=jY hb;clear HA HE hb;go_wp2_with fail;refine HA1.out.mono ?_;rintro e w2 ⟨rfl,hb2⟩;have HB2:=jY (HB.out.trans (hb2.mono HB.out.size));have kN:=Blk.new w2 94 #[.string g.1.1,.int .i64 g.1.2];obtain ⟨e0,e1,_,_⟩:=Za kN;clear hb2 HB kN;go_wp2_with fail;go_ret2;exact ⟨rfl,HB2.out.trans ((Z0 w2 _).mono HB2.out.size)⟩
end
theorem Zk(W:World)(n:Nat):Bl W (W.drewN n):=⟨rfl,rfl,rfl,lAd _,fun _ _=>rfl⟩
theorem y3t(c0 c1:Value)(n k:Nat)(hk:k<=n)(hn:n<=1000000)(w:World)
 (H:∀ W,Bl w W->∀ i:Nat,i<n->Calls Tryz.prog 284 #[.int .i64 i,c0,c1] W fun e w'=>e=.returned (.bool (decide (k<=i)))/\Bl W w') :
 Calls Tryz.prog 283 #[.int .i64 n,.func (.func 284) #[] #[c0,c1]] w fun e w'=>e=.returned (.int .i64 k)/\Bl w w':=by
 have HF:=jY H;clear H
 go_enter Tryz.func283,Tryz.ntmps283
 go_wp2
 go_loopg [5,6] n (fun kx s5 s6 wr=>∃ (lo hi:Nat),s5=.int .i64 lo/\s6=.int .i64 hi/\lo<=k/\k<=hi/\hi<=n/\hi-lo<=kx/\Hid (Bl w wr))
 case atStart=>exact ⟨0,n,rfl,rfl,Nat.zero_le _,hk,lAd _,by omega,Below.refl _ _⟩
 case round =>
  obtain ⟨lo,hi,rfl,rfl,hlk,hkh,hin,hg,I⟩:=hrel
  by_cases hlt:lo<hi
  ·have hc:=HF.out _ I.out ((lo+hi) / 2) (by omega);rw [show (((lo+hi) / 2:Nat):Int)=((lo:Int)+(hi:Int)) / 2 by omega] at hc
   by_cases hp:k<=(lo+hi) / 2
   ·rw [decide_eq_true hp] at hc
    go_wp2_with (go_at_call 284;refine hc.mono ?_;rintro e w' ⟨rfl,hb⟩)
    go_roundg ((lo+hi) / 2-lo)
    case measure=>omega
    case rel=>exact ⟨lo,(lo+hi) / 2,rfl,by rw [show ((lo:Int)+(hi:Int)) / 2=(((lo+hi) / 2:Nat):Int) by omega],hlk,hp,by omega,lAd _,I.out.trans (hb.mono I.out.size)⟩
   ·rw [decide_eq_false hp] at hc
    go_wp2_with (go_at_call 284;refine hc.mono ?_;rintro e w' ⟨rfl,hb⟩)
    go_roundg (hi-((lo+hi) / 2+1))
    case measure=>omega
    case rel=>exact ⟨(lo+hi) / 2+1,hi,by rw [show ((lo:Int)+(hi:Int)) / 2+1=(((lo+hi) / 2+1:Nat):Int) by omega],rfl,by omega,hkh,hin,lAd _,I.out.trans (hb.mono I.out.size)⟩
  ·obtain rfl:lo=k:=by omega
   go_wp2;go_ret;exact ⟨rfl,I.out⟩
structure Ask (w:World) (A:Nat) (cb:Array Value) (E:List En) (k:Nat):Prop where
 enter:∀ args w,(callFunc A args).run Tryz.prog w=.ok (.enter A args) w
 le:k<=E.length
 call:∀ W,Bl w W->∀ (i:Nat) (x:En),E[i]?=some x->Calls Tryz.prog A (#[.agg #[.string x.1,.int .i64 x.2]]++cb) W fun e w'=>e=.returned (.bool (decide (i<k)))/\Bl W w'
theorem Ask.later{w w':World}{A:Nat}{cb:Array Value}{E:List En}{k:Nat}(h:Ask w A cb E k)(hb:Bl w w'):Ask w' A cb E k:=⟨h.enter,h.le,fun W hW=>h.call W (hb.trans (hW.mono hb.size))⟩
theorem x3y(i k:Nat):(!decide (i<k))=decide (k<=i):=by
 by_cases h:i<k
 ·rw [decide_eq_true h,decide_eq_false (by omega)];rfl
 ·rw [decide_eq_false h,decide_eq_true (by omega)];rfl
variable {w:World} {b:Nat} {E:List En}
theorem v3u(h:PackAt w b E){A:Nat}{cb:Array Value}{k:Nat}(ha:Ask w A cb E k){q0 q1:Nat}(k0:Blk w q0 96 #[.iface 148 (.pointer (some ⟨b,0,none⟩))])(k1:Blk w q1 116 #[.func (.func A) #[] cb])(i:Nat)(hi:i<E.length) :
 Calls Tryz.prog 284 #[.int .i64 i,.pointer (some ⟨q0,0,none⟩),.pointer (some ⟨q1,0,none⟩)] w fun e w'=>e=.returned (.bool (decide (k<=i)))/\Bl w w':=by
 rw [<- x3y];have HA:=jY (v3v h i);rw [z6p h.ok] at HA;have hx:E[i]?=some E[i]:=lAa hi;have h1:¬ ((i:Int)<0\/(E.length:Int)<=i):=by omega
 rw [if_neg h1,Int.toNat_natCast,List.getD_eq_getElem?_getD,hx] at HA;simp only [Option.getD_some] at HA;generalize E[i]=x at *;have HC:=jY ha.call;have eg:=ha.enter;have HX:=jY hx;have K1:=jY k1;obtain ⟨e0,_⟩:=Z5 k0;clear h ha hx h1 k0 k1
 go_enter Tryz.func284,Tryz.ntmps284
 go_wp2_with fail;refine HA.out.mono ?_;rintro e w1 ⟨rfl,hb⟩;have kN:=Blk.new w1 94 #[.string x.1,.int .i64 x.2];have hb2:=hb.trans ((Z0 w1 (Obj.cells #[.string x.1,.int .i64 x.2] 94)).mono hb.size);have HQ:=jY (HC.out _ hb2 i x HX.out);obtain ⟨e1,_⟩:=Z5 (K1.out.later hb2);obtain ⟨e2,e3,_,_⟩:=Za kN;have HB2:=jY hb2;clear hb hb2 HC HX K1 kN HA
 go_wp2_with (go_at_fn A;refine HQ.out.mono ?_;rintro e w2 ⟨rfl,hb3⟩)
 go_ret;exact ⟨rfl,HB2.out.trans (hb3.mono HB2.out.size)⟩
theorem v2h(h:PackAt w b E){A:Nat}{cb:Array Value}{k:Nat}(ha:Ask w A cb E k) :
 Calls Tryz.prog 277 #[.iface 148 (.pointer (some ⟨b,0,none⟩)),.func (.func A) #[] cb] w fun e w'=>e=.returned (.int .i64 k)/\Bl w w':=by
 obtain ⟨w1,hw1⟩:∃ w1,w1=(w.alloc (.cells #[.iface 148 (.pointer (some ⟨b,0,none⟩))] 96)).alloc (.cells #[.func (.func A) #[] cb] 116):=⟨_,rfl⟩;have hb1:Bl w w1:=by rw [hw1];exact (Z0 _ _).trans ((Z0 _ _).mono (by simp))
 have k0:Blk w1 w.heap.size 96 #[.iface 148 (.pointer (some ⟨b,0,none⟩))]:=by rw [hw1];exact (Blk.new _ _ _).alloc _
 have k1:Blk w1 (w.heap.size+1) 116 #[.func (.func A) #[] cb]:=by
  rw [hw1]
  have:=Blk.new (w.alloc (.cells #[.iface 148 (.pointer (some ⟨b,0,none⟩))] 96)) 116 #[.func (.func A) #[] cb]
  simpa using this
 have HL:=jY (z2p (h.later hb1));have hmany:=h.ok.many
 have HS:=fun W (hb:Bl w1 W)=>jY (y3t (.pointer (some ⟨w.heap.size,0,none⟩)) (.pointer (some ⟨w.heap.size+1,0,none⟩)) E.length k ha.le (by omega) W
  (fun W' hb' i hi=>v3u ((h.later hb1).later (hb.trans (hb'.mono hb.size))) ((ha.later hb1).later (hb.trans (hb'.mono hb.size))) (k0.later (hb.trans (hb'.mono hb.size))) (k1.later (hb.trans (hb'.mono hb.size))) i hi))
 obtain ⟨e0,_⟩:=Z5 k0;have HB1:=jY hb1;have HW:=jY hw1;clear h ha k0 k1 hb1 hmany;rw [hw1] at HL e0;clear hw1
 go_enter Tryz.func277,Tryz.ntmps277
 go_wp2_with fail;refine HL.out.mono ?_;rintro e w2 ⟨rfl,hb2⟩;rw [<- HW.out] at hb2;have HS2:=HS w2 hb2;have HB2:=jY (HB1.out.trans (hb2.mono HB1.out.size));clear hb2 HS HL
 go_wp2_with (go_at_call 283;refine HS2.out.mono ?_;rintro e w3 ⟨rfl,hb3⟩)
 go_ret;exact ⟨rfl,HB2.out.trans (hb3.mono HB2.out.size)⟩
theorem x0n{E E':List En}(h:P4 E)(hs:E'.Sublist E):P4 E':=⟨lAe hs.length_le h.many,fun e he=>h.each e (hs.subset he)⟩
theorem x6v{E:List En}(h:P4 E)(m:ByteArray):P4 (rmE E m):=x0n h List.filter_sublist
theorem x0m{E:List En}(h:P4 E)(m:ByteArray)(s:Int)(hl:E.length<200)(hm:m.size<=64)(hs:Pk.Ya s):P4 (Vy E m s) :=
 ⟨by rw [Fi];omega,fun e he=>by
   rcases Fb.1 he with rfl|he
   ·exact ⟨hm,hs⟩
   ·exact h.each e he⟩
theorem PackAt.write{W:World}{b:Nat}{E E':List En}(h:PackAt W b E)(ho:P4 E'):PackAt (W.setCell ⟨b,0,none⟩ (.string (Pk.Y9 E'))) b E' :=
 ⟨h.blk.set 0 _,ho⟩
theorem Gu{S:Nat->Prop}(W:World)(b o:Nat)(v:Value)(hb:S b):Far S W (W.setCell ⟨b,o,none⟩ v):=(Far.refl S W).set ⟨b,o,none⟩ v (.inl hb)
variable {w:World} {b:Nat} {E:List En}
theorem z8k(h:PackAt w b E)(hd:Vk E)(m:ByteArray)(s:Int):Calls Tryz.prog 268 #[.pointer (some ⟨b,0,none⟩),.agg #[.string m,.int .i64 s]] w fun e w' =>
 e=.returned (.bool (Pp E m))/\PackAt w' b (rmE E m)/\Far (fun k=>k=b) w w':=by
 have hb0:=Z0 w (.cells #[.string m,.int .i64 s] 94);have hF:=fun W=>Pk.Yq (Pk.Y9 E) m (Ul h.ok) W;have hD:=fun W=>Pk.Iz (Pk.Y9 E) (Ul h.ok) (Pk.Xw E m) W;rw [O9];have hfo:=(h.later hb0);have hv:=x6v h.ok m;rw [Pk.Uj h.ok] at hF;unfold Pk.x7m at hD;rw [Pk.Oc h.ok,Pk.Uj h.ok] at hD;rw [z0r] at hF hD;have kE:=Blk.new w 94 #[.string m,.int .i64 s];have HP:=fun W (hb:Below (w.alloc (.cells #[.string m,.int .i64 s] 94)).heap.size (w.alloc (.cells #[.string m,.int .i64 s] 94)) W)=>jY (hfo.later hb)
 have HSW:=jY (fun W (hb:Below (w.alloc (.cells #[.string m,.int .i64 s] 94)).heap.size (w.alloc (.cells #[.string m,.int .i64 s] 94)) W) =>
  show W.cell? ⟨b,0,none⟩=some (.string (Pk.Y9 E))/\W.cell? ⟨w.heap.size,0,none⟩=some (.string m) from ⟨(Z5 (hfo.later hb).blk).1,(Za (kE.later hb)).1⟩)
 have HB0:=jY hb0
 cases hq:whE E m with
 | none =>
   rw [Ve (V7 hq)];rw [hq] at hF hD;simp only [show ((-1:Int)<0)=True by simp,true_or,if_true] at hD;have HF:=fun W=>jY (hF W);have HD:=fun W=>jY (hD W);obtain ⟨e0,_⟩:=Z5 hfo.blk;clear hF hD hfo h hb0 hq hv kE e0
   go_enter Tryz.func268,Tryz.ntmps268
   go_wp2_with fail;have hb1:=Zk (w.alloc (.cells #[.string m,.int .i64 s] 94)) 1;have S0:=HSW.out _ hb1;have HB1:=jY hb1;clear hb1
   go_region_held (fun W=>W.cell? ⟨b,0,none⟩=some (.string (Pk.Y9 E))/\W.cell? ⟨w.heap.size,0,none⟩=some (.string m)) (first|exact S0|exact S1|exact S2)
    (first
      | (go_at_call 276;refine (HF _).out.mono ?_;rintro e w1 ⟨rfl,hb⟩
         have HB2:=jY (HB1.out.trans (hb.mono HB1.out.size));have S1:=HSW.out _ HB2.out
         clear hb HF)
      | (go_at_call 275;refine (HD _).out.mono ?_;rintro e w2 ⟨rfl,hb⟩
         have HB3:=jY (HB2.out.trans (hb.mono HB2.out.size));have S2:=HSW.out _ HB3.out
         clear hb HD))
   all_goals (
    go_wp2_with fail;go_ret
    exact ⟨rfl,(HP _ HB3.out).out,(Far.of_below HB0.out).then_below HB3.out⟩)
 | some i =>
   obtain ⟨s0,hs0⟩:=Uh hq;have hi:=(lAb.1 hs0).1;rw [hq] at hF hD;have h9:¬ ((i:Int)<0\/(E.length:Int)<=i):=by omega
   have hrm:=C7 hd hs0;simp only at hrm;simp only [if_true,if_neg h9,Int.toNat_natCast,<- hrm] at hD;have HF:=fun W=>jY (hF W);have HD:=fun W=>jY (hD W);have HV:=jY hv;have hbb:=hfo.blk.lt;clear hF hD hfo h hb0 hq hv kE hs0 hi h9 hrm;generalize rmE E m=E' at *
   go_enter Tryz.func268,Tryz.ntmps268
   go_wp2_with fail;have hb1:=Zk (w.alloc (.cells #[.string m,.int .i64 s] 94)) 1;have S0:=HSW.out _ hb1;have HB1:=jY hb1;clear hb1
   go_region_held (fun W=>W.cell? ⟨b,0,none⟩=some (.string (Pk.Y9 E))/\W.cell? ⟨w.heap.size,0,none⟩=some (.string m)) (first|exact S0|exact S1|exact S2)
    (first
      | (go_at_call 276;refine (HF _).out.mono ?_;rintro e w1 ⟨rfl,hb⟩
         have HB2:=jY (HB1.out.trans (hb.mono HB1.out.size));have S1:=HSW.out _ HB2.out
         clear hb HF)
      | (go_at_call 275;refine (HD _).out.mono ?_;rintro e w2 ⟨rfl,hb⟩
         have HB3:=jY (HB2.out.trans (hb.mono HB2.out.size));have S2:=HSW.out _ HB3.out
         clear hb HD))
   all_goals (
    have HP3:=HP _ HB3.out;obtain ⟨e0,f0⟩:=Z5 HP3.out.blk;go_wp2_with fail;go_ret
    exact ⟨rfl,HP3.out.write HV.out,((Far.of_below HB0.out).then_below HB3.out).trans (Gu (S:=fun k=>k=b) _ b 0 _ rfl) (fun k hk=>.inl hk)⟩)
theorem x4y(m:ByteArray)(s:Int)(q:Nat)(hs:O6 E)(kq:Blk w q 94 #[.string m,.int .i64 s]):Ask w 278 #[.pointer (some ⟨q,0,none⟩)] E (Vq E m s):=by
 refine ⟨enters_of Tryz.func278 (by kernel_rfl) rfl,Bh _ _ _,fun W hb i x hx=>?_⟩;have hl:=M1 hs m s i x hx;have HL:=fun W=>jY (z7x x.1 m x.2 s W);have hle:Sk.Yc x.1 x.2 m s=decide (i<Vq E m s):=hl;rw [hle] at HL;obtain ⟨g0,g1,_,_⟩:=Za ((kq.later hb).alloc (.cells #[.string x.1,.int .i64 x.2] 94));obtain ⟨e0,e1,_,_⟩:=Za (Blk.new W 94 #[.string x.1,.int .i64 x.2]);have HB:=jY (Z0 W (.cells #[.string x.1,.int .i64 x.2] 94));clear hl hle hx hs kq hb;generalize decide (i<Vq E m s)=bb at *;show Calls Tryz.prog 278 #[.agg #[.string x.1,.int .i64 x.2],.pointer (some ⟨q,0,none⟩)] W _
 go_enter Tryz.func278,Tryz.ntmps278
 go_wp2_with (go_at_call 207;refine (HL _).out.mono ?_;rintro e w1 ⟨rfl,hb1⟩)
 go_ret;exact ⟨rfl,HB.out.trans (hb1.mono HB.out.size)⟩
theorem v0l(h:PackAt w b E)(hsE:O6 E)(hl:E.length<200)(lv:Int)(v:Value)(m:ByteArray)(hm:m.size<=64)(s:Int)(hs:Pk.Ya s)(hr:Row w 0 v [(m,s)])(hx:∀ k cur,Blk w k 94 cur->k≠b) :
 Calls Tryz.prog 271 #[.pointer (some ⟨b,0,none⟩),.int .i64 lv,v] w fun e w'=>e=.returned (.tuple #[])/\PackAt w' b (Vy E m s)/\Far (fun k=>k=b) w w':=by
 have hcell:∀ W,Far (fun k=>k=b) w W->∃ q off c,v=.slice (some ⟨q,off,none⟩) 1 c/\W.cell? ⟨q,off,none⟩=some (.string m)/\W.cell? ⟨q,off+1,none⟩=some (.int .i64 s):=fun W hf=>by
  obtain ⟨q,off,c,cur,h1,_,kq,c0,c1⟩:=(hr.far hf (fun k cur _ hk e=>hx k cur hk e)).at' 0 (m,s) rfl;exact ⟨q,off,c,h1,by simpa using c0,by simpa using c1⟩
 obtain ⟨q,off,c,rfl,_,_⟩:=hcell w (Far.refl _ _);have HC:=fun W hf=>jY (hcell W hf);have HS:=jY hsE;have HH:=jY h;have HPUT:=jY (x0m h.ok m s hl hm hs)
 have hins:Pk.x2p (Pk.Y9 E) (Vq E m s) (m,s)=(Pk.Y9 (Vy E m s),0):=by
  unfold Pk.x2p;have h1:¬ E.length=200:=by omega
  have h2:=Bh E m s;have h3:¬ ((Vq E m s:Int)<0\/(E.length:Int)<(Vq E m s:Int)\/64<m.size):=by omega
  rw [Pk.Oc h.ok,Pk.Uj h.ok,if_pos rfl,if_neg h1,if_neg h3,Int.toNat_natCast];unfold Vy;rw [List.append_assoc];rfl
 have hple:=Bh E m s;have HI:=fun W=>jY (Pk.G6 (Pk.Y9 E) (Ul h.ok) (Vq E m s) (by omega) (m,s) (by simp;omega) W);rw [hins] at HI;simp only at HI;clear hcell hsE h hins hr hx hs hple
 go_enter Tryz.func271,Tryz.ntmps271
 go_wp2
 go_loopw [11] (fun i wr=>∃ (k:Nat),i=.int .i64 k/\k<=1/\PackAt wr b (if k=0 then E else Vy E m s)/\Far (fun k=>k=b) w wr) (fun i _=>1-(intOf i).toNat)
 case atStart=>exact ⟨0,rfl,by omega,HH.out,Far.refl _ _⟩
 case round =>
  obtain ⟨k,rfl,hk,hp,hf⟩:=hrel
  by_cases h0:k=0
  ·subst h0;rw [if_pos rfl] at hp;obtain ⟨q',off',c',e1,g0,g1⟩:=(HC wr hf).out
   injection e1 with e1 _ e2
   injection e1 with e1
   injection e1 with e1 e3 _
   subst e1;subst e2;subst e3;have hb1:=Z0 wr (.cells #[.string m,.int .i64 s] 94);have kE:=Blk.new wr 94 #[.string m,.int .i64 s];have HL:=jY (v2h (hp.later hb1) (x4y m s wr.heap.size HS.out kE))
   have HSW:=jY (fun W (hb:Below (wr.alloc (.cells #[.string m,.int .i64 s] 94)).heap.size (wr.alloc (.cells #[.string m,.int .i64 s] 94)) W) =>
    show W.cell? ⟨b,0,none⟩=some (.string (Pk.Y9 E))/\W.cell? ⟨wr.heap.size,0,none⟩=some (.string m)/\W.cell? ⟨wr.heap.size,1,none⟩=some (.int .i64 s) from ⟨(Z5 ((hp.later hb1).later hb).blk).1,(Za (kE.later hb)).1,(Za (kE.later hb)).2.1⟩)
   have HP:=fun W (hb:Below (wr.alloc (.cells #[.string m,.int .i64 s] 94)).heap.size (wr.alloc (.cells #[.string m,.int .i64 s] 94)) W)=>jY ((hp.later hb1).later hb);have HF:=jY (hf.then_below hb1);clear hp hf hb1 kE hk HC;go_wp2_with fail;refine HL.out.mono ?_;rintro e w1 ⟨rfl,hb⟩;have HB1:=jY (show Below (wr.alloc (.cells #[.string m,.int .i64 s] 94)).heap.size (wr.alloc (.cells #[.string m,.int .i64 s] 94)) w1.drew from hb.trans ((Zk w1 1).mono hb.size));obtain ⟨a0,S0⟩:=HSW.out w1.drew HB1.out;clear hb HL g0 g1;go_wp2_with fail;obtain ⟨a1,a2⟩:=S0
   go_region_with (first
    | (go_at_call 279;refine (HI _).out.mono ?_;rintro e w2 ⟨rfl,hb⟩
       have HB2:=jY (HB1.out.trans (hb.mono HB1.out.size));have HP2:=HP _ HB2.out;obtain ⟨g0,g1⟩:=Z5 HP2.out.blk
       clear hb HI a1 a2 a0))
   all_goals (
    go_wp2_with fail
    refine ⟨⟨1,by go_num,by omega,HP2.out.write HPUT.out,(HF.out.then_below HB2.out).trans (Gu (S:=fun k=>k=b) _ b 0 _ rfl) (fun k hk=>.inl hk)⟩,by simp [intOf]⟩)
  ·have h1:k=1:=by omega
   subst h1;have HPF:=jY (And.intro hp hf);clear hp hf;go_wp2_with fail;go_returns;exact ⟨rfl,HPF.out⟩
theorem y3n(E l:List En)(k:Nat)(x:En)(h:l[k]?=some x):Io E (l.take (k+1))=rmE (Io E (l.take k)) x.1:=by
 obtain ⟨hk,rfl⟩:=lAb.1 h;unfold Io;rw [lAf hk,List.foldl_append];rfl
theorem y0w{l:List En}:∀ {E:List En},Vk E->Vk (Io E l):=by
 induction l with
 | nil=>intro E h;exact h
 | cons x l ih=>intro E h;exact ih (z6z h x.1)
theorem Xo{W:World}{n0:Nat}{v:Value}{l:List En}(h:Row W n0 v l){k:Nat}{x:En}(hx:l[k]?=some x):∃ b off c,v=.slice (some ⟨b,off,none⟩) l.length c/\W.cell? ⟨b,off+k*2,none⟩=some (.string x.1)/\W.cell? ⟨b,off+k*2+1,none⟩=some (.int .i64 x.2):=by
 obtain ⟨b,off,c,cur,h1,_,_,h2,h3⟩:=h.at' k x hx;exact ⟨b,off,c,h1,h2,h3⟩
variable {w:World} {b:Nat} {E:List En}
theorem v3w(h:PackAt w b E)(hd:Vk E)(f t:Int):Calls Tryz.prog 267 #[.pointer (some ⟨b,0,none⟩),.int .i64 f,.int .i64 t] w fun e w' =>
 e=.returned (.int .i64 (Ua E f t).length)/\PackAt w' b (Qa E f t)/\Far (fun k=>k=b) w w':=by
 have HR:=jY (z5g h f t);have hN:(Ua E f t).length<=200:=by rw [P0];have:=h.ok.many;unfold t0;omega
 have HCUT:=jY (z2u hd f t);have HH:=jY h;have HD:=jY hd;clear h hd;generalize Ua E f t=l at *
 go_enter Tryz.func267,Tryz.ntmps267
 go_wp2_with fail;refine HR.out.mono ?_;rintro e w1 ⟨r,rfl,hr,hb⟩;obtain ⟨a,c,rfl⟩:=hr.form;have hp1:=HH.out.later hb;have HF1:=jY (show Far (fun k=>k=b) w w1 from Far.of_below hb);have HP1:=jY hp1;have HROW:=jY (fun W (hf:Far (fun k=>k=b) w1 W)=>hr.far hf (fun k cur _ hk e=>by subst e;exact absurd (hk.ty hp1.blk) (by decide)));clear hb hp1 hr HR HH;go_wp2_with fail
 go_loopw [16] (fun i wr=>∃ (k:Nat),i=.int .i64 k/\k<=l.length/\PackAt wr b (Io E (l.take k))/\Far (fun k=>k=b) w1 wr) (fun i _=>l.length-(intOf i).toNat)
 case atStart=>exact ⟨0,rfl,by omega,HP1.out,Far.refl _ _⟩
 case round =>
  obtain ⟨k,rfl,hk,hp,hf⟩:=hrel
  by_cases hlt:k<l.length
  ·have hx:l[k]?=some l[k]:=lAa hlt;generalize l[k]=x at *;obtain ⟨q,off,c',e1,g0,g1⟩:=Xo (HROW.out wr hf) hx
   injection e1 with e1 _ e2
   subst e1;have HSN:=jY (y3n E l k x hx);have hb1:=Z0 wr (.cells #[.string x.1,.int .i64 x.2] 94);have HDL:=jY (z8k (hp.later hb1) (y0w HD.out) x.1 x.2);have HF:=jY (hf.then_below hb1);have hk2:(k:Int)<l.length:=by omega
   clear hp hf hb1 hx e2;go_wp2_with fail;refine HDL.out.mono ?_;rintro e w2 ⟨rfl,hp2,hf2⟩;have HP2:=jY hp2;have HF2:=jY (HF.out.trans hf2 (fun k hk=>.inl hk));clear hp2 hf2 HDL g0 g1;go_wp2_with fail;exact ⟨⟨k+1,by go_num,hlt,HSN.out ▸ HP2.out,HF2.out⟩,by simp [intOf];omega⟩
  ·obtain rfl:k=l.length:=by omega
   rw [List.take_length,HCUT.out] at hp;have HP2:=jY hp;have HF2:=jY (HF1.out.trans hf (fun k hk=>.inl hk));clear hp hf;go_wp2_with fail;go_ret;exact ⟨rfl,HP2.out,HF2.out⟩
theorem y4m{S:Nat->Prop}{W W':World}(h:Far S W W'):Dc.Far S W W':=⟨h.os,h.tape,h.output,h.size,h.block⟩
theorem y2r{S:Nat->Prop}{W W':World}(h:Dc.Far S W W'):Far S W W':=⟨h.os,h.tape,h.output,h.size,h.block⟩
def en(x:Nd):En:=(x.m,x.s)
theorem z5l(L:List Nd)(m:ByteArray)(s:Int):pos L m s=Vq (L.map en) m s:=by
 unfold pos Vq;rw [List.takeWhile_map,List.length_map];rfl
theorem y4c{L:List Nd}(h:Srt L):O6 (L.map en):=by unfold O6;rw [List.pairwise_map];exact h
theorem y1p{L:List Nd}(hs:Srt L)(m:ByteArray)(s:Int):has L m s=true↔(m,s)∈L.map en:=by
 constructor
 ·intro h;unfold has at h
  split at h
  ·rename_i x hx
   have:=of_decide_eq_true h
   exact List.mem_map.2 ⟨x,lAc hx,by unfold en;rw [this.1,this.2]⟩
  ·cases h
 ·intro h;obtain ⟨i,hi⟩:=List.mem_iff_getElem?.1 h;have hp:=C2 (y4c hs) hi;simp only at hp;rw [List.getElem?_map] at hi;obtain ⟨x,hx,he⟩:=Option.map_eq_some_iff.1 hi;unfold has;rw [z5l,hp,hx];unfold en at he
  injection he with h1 h2
  simp [h1,h2]
theorem v2m(L:List Nd)(x:Nd):(Xe L x).map en=Vy (L.map en) x.m x.s:=by
 unfold Xe Vy;rw [z5l,List.map_append,List.map_cons,List.map_take,List.map_drop];rfl
structure LAt (W:World) (l p q:Nat) (D:Nat->Prop) (sd:Nat) (L:List Nd) (m:ByteArray->Option Int) (n:Dc.Sh):Prop where
 blk:Blk W l 219 #[.pointer (some ⟨p,0,none⟩),.pointer (some ⟨q,0,none⟩)]
 ls:Ls W p L
 is:Dc.Is W q D sd m n
 sd:sd<4294967296
variable {w w':World} {l p q sd:Nat} {D:Nat->Prop} {L:List Nd} {m:ByteArray->Option Int} {n:Dc.Sh}
theorem LAt.d_ty(h:LAt w l p q D sd L m n){k:Nat}(hk:D k):∃ t c,(t=270\/t=301\/t=300)/\Blk w k t c:=h.is.cells k hk
theorem LAt.d_node(h:LAt w l p q D sd L m n){k:Nat}(hk:D k):¬ isB (hd p :: L) k:=by
 obtain ⟨t,c,ht,hb⟩:=h.d_ty hk;exact h.ls.sk.not_ty hb fun q e=>by unfold tyq at e;rcases ht with rfl|rfl|rfl <;> (split at e <;> exact absurd e (by decide))
theorem LAt.d_l(h:LAt w l p q D sd L m n){k:Nat}(hk:D k):k≠l:=by
 obtain ⟨t,c,ht,hb⟩:=h.d_ty hk;rintro rfl
 have:=hb.ty h.blk
 rcases ht with rfl|rfl|rfl <;> exact absurd this (by decide)
theorem LAt.l_node(h:LAt w l p q D sd L m n):¬ isB (hd p :: L) l:=h.ls.sk.not_ty h.blk fun q e=>by unfold tyq at e;split at e <;> exact absurd e (by decide)
def M8(l p:Nat)(L:List Nd)(D:Nat->Prop)(k:Nat):Prop:=k=l\/isB (hd p :: L) k\/D k
theorem LAt.own_lt(h:LAt w l p q D sd L m n){k:Nat}(hk:M8 l p L D k):k<w.heap.size:=by
 rcases hk with rfl|hk|hk
 ·exact h.blk.lt
 ·exact h.ls.sk.lt hk
 ·exact h.is.lt k hk
theorem LAt.own_ty(h:LAt w l p q D sd L m n){k t:Nat}{c:Array Value}(hk:M8 l p L D k)(hb:Blk w k t c)(ht:t≠219/\t≠263/\t≠265/\t≠270/\t≠300/\t≠301):False:=by
 rcases hk with rfl|hk|hk
 ·exact ht.1 (hb.ty h.blk)
 ·exact h.ls.sk.not_ty hb (fun q e=>by unfold tyq at e;split at e;exact ht.2.2.1 e.symm;exact ht.2.1 e.symm) hk
 ·obtain ⟨t',c',ht',hb'⟩:=h.d_ty hk
  have:=hb.ty hb'
  subst this;rcases ht' with e|e|e
  ·exact ht.2.2.2.1 e
  ·exact ht.2.2.2.2.2 e
  ·exact ht.2.2.2.2.1 e
theorem LAt.far{S:Nat->Prop}(h:LAt w l p q D sd L m n)(hf:Far S w w')(hS:∀ k,M8 l p L D k->¬ S k):LAt w' l p q D sd L m n :=
 ⟨hf.blk h.blk (hS l (.inl rfl)),h.ls.far hf (fun k hk=>hS k (.inr (.inl hk))),h.is.far (y4m hf) (fun k hk=>hS k (.inr (.inr hk))),h.sd⟩
theorem LAt.later(h:LAt w l p q D sd L m n)(hb:Bl w w'):LAt w' l p q D sd L m n:=h.far (S:=fun _=>False) (Far.of_below hb) (fun _ _ h=>h)
theorem LAt.dict(h:LAt w l p q D sd L m n){m2:ByteArray->Option Int}{n2:Dc.Sh}(hn:Dc.IsNow D w q sd m2 n2 w'):LAt w' l p q (Dc.V3 Dc.tyI D w w') sd L m2 n2 :=
 ⟨(y2r hn.2).blk h.blk (fun hk=>h.d_l hk rfl),h.ls.far (y2r hn.2) (fun _ hk hd=>h.d_node hd hk),hn.1,h.sd⟩
theorem z7e(p:Nat)(L:List Nd)(a k:Nat)(h:a+k<=L.length):Ij (hd p :: L) (List.range' (a+1) k)=((L.map en).drop a).take k:=by
 unfold Ij
 apply List.ext_getElem?
 intro i;rw [List.getElem?_map,List.getElem?_take]
 by_cases hi:i<k
 ·rw [if_pos hi,List.getElem?_drop,List.getElem?_map]
  have h1:(List.range' (a+1) k)[i]?=some (a+1+i):=by
   rw [lAa (by simpa using hi)];simp
  have h2:L[a+i]?=some L[a+i]:=lAa (by omega);rw [h1,h2];simp only [Option.map_some];rw [show a+1+i=(a+i)+1 by omega,List.getElem?_cons_succ,h2];rfl
 ·rw [if_neg hi,List.getElem?_eq_none (by simpa using hi)];rfl
theorem z4r(h:Ls w p L)(hN:L.length<=100000)(f t:Int):Calls Tryz.prog 293 #[.pointer (some ⟨p,0,none⟩),.int .i64 f,.int .i64 t] w fun e w'=>∃ r,e=.returned r/\Row w' w.heap.size r (Ua (L.map en) f t)/\Bl w w':=by
 unfold Ua;rw [List.length_map]
 by_cases hab:f0 f<t0 t L.length
 ·have:=y8s p L rfl w h.sk (by simp;omega) rfl f t (f0 f) (t0 t L.length) (by unfold f0;omega) (by unfold f0 t0 at *;omega) hab
  have hle:f0 f+(t0 t L.length-f0 f)<=L.length:=by unfold t0 at *;omega
  rw [z7e p L _ _ hle] at this;exact this.mono fun e w' ⟨r,h1,h2,h3⟩=>⟨r,h1,Mp h2,h3⟩
 ·refine (y3f p L rfl w h.sk f t (by unfold f0 t0 at hab;omega)).mono ?_;rintro e w' ⟨rfl,hb⟩;refine ⟨_,rfl,?_,hb⟩;rw [show t0 t L.length-f0 f=0 by omega,List.take_zero];exact Row.nil _ _
theorem z4s(h:LAt w l p q D sd L m n)(hn:n.n<=1000000)(key:ByteArray)(hk:key.size<=281474976710656):Calls Tryz.prog 297 #[.pointer (some ⟨l,0,none⟩),.string key] w fun e w' =>
 e=.returned (.tuple #[.int .i64 ((m key).getD 0),.bool (m key).isSome])/\Dc.IsNow D w q sd m n.step1 w':=by
 have HG:=jY (Dc.y1n h.sd h.is hn key hk);obtain ⟨e0,e1,_,_⟩:=Za h.blk;clear h hk hn;generalize (m key).getD 0=x at *;generalize (m key).isSome=y at *
 go_enter Tryz.func297,Tryz.ntmps297
 go_wp2_with (go_at_call 303;refine HG.out.mono ?_;rintro e w1 ⟨rfl,hd⟩)
 go_ret2;exact ⟨rfl,hd⟩
theorem z4y{E:List En}(hm:MapOf m E)(key:ByteArray):match whE E key with
 | none=>m key=none
 | some i=>∃ v,m key=some v/\E[i]?=some (key,v):=by
 cases h:whE E key with
 | none =>
   cases h2:m key with
   | none=>rfl
   | some v=>exact absurd rfl (V7 h _ ((hm key v).1 h2))
 | some i =>
   obtain ⟨v,hv⟩:=Uh h;exact ⟨v,(hm key v).2 (lAc hv),hv⟩
theorem v1r(h:LAt w l p q D sd L m n)(hn:n.n<=1000000)(hN:L.length<=100000)(hm:MapOf m (L.map en))(key:ByteArray)(hk:key.size<=281474976710656):Calls Tryz.prog 295 #[.pointer (some ⟨l,0,none⟩),.string key] w fun e w' =>
 e=.returned (.tuple #[.int .i64 ((whE (L.map en) key).getD 0:Nat),.bool (whE (L.map en) key).isSome])/\Dc.IsNow D w q sd m n.step1 w':=by
 have HS:=jY (z4s h hn key hk);have hmg:=z4y hm key
 cases hq:whE (L.map en) key with
 | none =>
   rw [hq] at hmg;simp only at hmg;rw [hmg] at HS;clear h hk hn hN hm hq hmg
   go_enter Tryz.func295,Tryz.ntmps295
   go_wp2_with (go_at_call 297;refine HS.out.mono ?_;rintro e w1 ⟨rfl,hd⟩)
   go_ret2;exact ⟨rfl,hd⟩
 | some i =>
   rw [hq] at hmg;obtain ⟨v,hv,hi⟩:=hmg;rw [hv] at HS;have hps:=C2 (y4c h.ls.srt) hi;simp only at hps;have hhas:has L key v=true:=(y1p h.ls.srt key v).2 (lAc hi);have HK:=fun w1 (hd:Dc.IsNow D w q sd m n.step1 w1)=>jY (x9m (h.dict hd).ls hN key v);rw [z5l,hps,hhas] at HK;have HB:=fun w1 (hd:Dc.IsNow D w q sd m n.step1 w1)=>jY (Za (h.dict hd).blk);clear h hk hn hN hm hq hi hv hps hhas
   go_enter Tryz.func295,Tryz.ntmps295
   go_wp2_with fail;refine HS.out.mono ?_;rintro e w1 ⟨rfl,hd⟩;have HK1:=HK w1 hd;obtain ⟨e0,e1,_,_⟩:=(HB w1 hd).out;have HD:=jY hd;clear hd HK HB HS
   go_wp2_with (go_at_call 301;refine HK1.out.mono ?_;rintro e w2 ⟨rfl,hb⟩)
   go_ret2;exact ⟨by simp,HD.out.later hb⟩
end Go.Proofs.YtcklcmafohlflaaGreatDoor
