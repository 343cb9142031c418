/- Texts of one kind in one: SkSplit, SkOver, SkIns, SkJoin, SkPut, SkInsert. -/
import Derived.Test.YtcklcmafohlflaaGreatDoorQSkDown14
import Derived.Deep.RegionHeld
set_option maxRecDepth 200000
set_option maxHeartbeats 8000000
namespace Go.Proofs.YtcklcmafohlflaaGreatDoor.Sk
open Zc
open Go.RowKit Go.Shelf
attribute [local go_sem] Oper.semAt_some
theorem v2p:(Tryz.prog.info? 260).map (·.size)=some 2:=by kernel_rfl
theorem Dp{W:World}{b:Nat}{v0 v1:Value}(h:Blk W b 260 #[v0,v1]):(loadVar 260 ⟨b,0,none⟩).run Tryz.prog W=.ok (.agg #[v0,v1]) W :=
 run_loadVar_row _ _ 260 260 #[v0,v1] (0,0) _ h Tryz.underlying260 rfl v2p
theorem Me{w W:World}(h:Bl w W)(b o1 o2:Nat)(v1 v2:Value)(hb:w.heap.size<=b):Bl w ((W.setCell ⟨b,o1,none⟩ v1).setCell ⟨b,o2,none⟩ v2) :=
 ⟨h.os,h.tape,h.output,by simpa [World.setCell] using h.size,fun q hq=>(Below.heap_setCell _ _ _ _ (by show q≠b;omega)).trans ((Below.heap_setCell _ _ _ _ (by show q≠b;omega)).trans (h.block q hq))⟩
theorem x4q(b t:Nat)(A:Array Value)(pl:Int)(k:Nat)(hk:k<32)(o:Option Addr)(ps:Int)(w:World)(hA:Blk w b t A)(h0:A[3+k*2]?=some (.pointer o))(h1:A[3+k*2+1]?=some (.int .i64 ps))(hp:-2000000<=ps/\ps<=2000000) :
 Calls Tryz.prog 210 #[.agg #[.pointer (some ⟨b,0,none⟩),.int .i64 pl,.int .i64 k]] w fun e w'=>e=.returned (.agg #[.pointer o,.int .i64 (ps+1)])/\Bl w w':=by
 have c0:=(hA.cell _).trans h0;have c1:=(hA.cell _).trans h1;have HLK:=fun w=>jY (Ox b pl k hk w);have HA:=jY hA;obtain ⟨p1,p2⟩:=hp;have hb1:Bl w ((w.alloc (.cells #[.pointer (some ⟨b,0,none⟩),.int .i64 pl,.int .i64 k] 292)).alloc (.cells #[.pointer none,.int .i64 0] 260)):=((Below.refl _ _).alloc (lAd _) _).alloc (by simp) _
 have kR:Blk ((w.alloc (.cells #[.pointer (some ⟨b,0,none⟩),.int .i64 pl,.int .i64 k] 292)).alloc (.cells #[.pointer none,.int .i64 0] 260)) (w.heap.size+1) 260 #[.pointer none,.int .i64 0]:=by
  have:=Blk.new (w.alloc (.cells #[.pointer (some ⟨b,0,none⟩),.int .i64 pl,.int .i64 k] 292)) 260 #[.pointer none,.int .i64 0];simpa using this
 have HB1:=jY hb1;have HR:=jY kR;clear hb1 kR hA h0 h1
 go_enter Tryz.func210,Tryz.ntmps210
 go_wp2_with fail;refine (HLK _).out.mono ?_;rintro e w2 ⟨rfl,hb2⟩;have hb3:=HB1.out.trans (hb2.mono HB1.out.size);have c0':=(hb3.cell (p:=⟨b,3+k*2,none⟩) HA.out.lt).trans c0;have c1':=(hb3.cell (p:=⟨b,3+k*2+1,none⟩) HA.out.lt).trans c1;have kR2:=HR.out.later hb2;obtain ⟨e0,e1,e2,e3⟩:=Za kR2;have z1:=kR2.lt;have KR:=jY kR2;have HB3:=jY hb3;clear hb2 hb3 c0 c1 kR2;go_wp2_with fail;have k5:=((KR.out.set 0 (.pointer o)).set 1 (.int .i64 (ps+1))).alloc (Obj.cells #[Value.pointer o,Value.int IntKind.i64 ps] 260);refine bodyPost_ret (Vz Tryz.results210 (b:=⟨w.heap.size+1,0,none⟩) rfl (Dp k5)) rfl ?_;have h3:=HB3.out;refine ⟨rfl,Below.alloc ?_ (by simpa [World.setCell] using h3.size) _⟩;exact Me h3 _ _ _ _ _ (by omega)
abbrev SpS (b k s3 wb:Nat) (o:Option Addr) (ps pl pl0:Int) (w:World) (w':World):Prop :=
 w'.cell? ⟨b,3+k*2,none⟩=some (.pointer o)/\w'.cell? ⟨b,3+k*2+1,none⟩=some (.int .i64 ps)/\w'.cell? ⟨s3,0,none⟩=some (.pointer (some ⟨b,0,none⟩))/\w'.cell? ⟨s3,1,none⟩=some (.int .i64 pl)/\w'.cell? ⟨s3,2,none⟩=some (.int .i64 k) /\
  w'.cell? ⟨wb,1,none⟩=some (.int .i64 pl0)/\Bl w w'/\w.heap.size<=w'.heap.size
theorem SpS.later{b k s3 wb:Nat}{o:Option Addr}{ps pl pl0:Int}{w w' w5:World}(h:SpS b k s3 wb o ps pl pl0 w w')(hb:Bl w' w5):SpS b k s3 wb o ps pl pl0 w w5:=by
 obtain ⟨h1,h2,h3,h4,h5,h6,h7,h8⟩:=h;have key:∀ {a:Addr} {v:Value},w'.cell? a=some v->w5.cell? a=some v:=fun {a v} ha=>(hb.cell (World.block_lt_of_cell? w' a ha)).trans ha;exact ⟨key h1,key h2,key h3,key h4,key h5,key h6,h7.trans (hb.mono h8),lAe h8 hb.size⟩
theorem Ku{S:Nat->Prop}{w W:World}(h:Far S w W)(b o1 o2:Nat)(v1 v2:Value)(hb:S b\/w.heap.size<=b):Far S w ((W.setCell ⟨b,o1,none⟩ v1).setCell ⟨b,o2,none⟩ v2) :=
 (h.set ⟨b,o1,none⟩ v1 hb).set ⟨b,o2,none⟩ v2 hb
theorem v2d{w1 w5:World}{c0 c1:Value}(hb5:Below (w1.drew.alloc (.cells #[c0,c1] 260)).heap.size (w1.drew.alloc (.cells #[c0,c1] 260)) w5):w5.cell? ⟨w1.heap.size,0,none⟩=some c0/\w5.cell? ⟨w1.heap.size,1,none⟩=some c1/\w5.frozen? ⟨w1.heap.size,0,none⟩=false/\w5.frozen? ⟨w1.heap.size,1,none⟩=false :=
 Za ((Blk.new w1.drew 260 #[c0,c1]).later hb5)
theorem SpS.set2{b k s3 wb:Nat}{o:Option Addr}{ps pl pl0:Int}{w w':World}{c:Nat}(h:SpS b k s3 wb o ps pl pl0 w w')(v0 v1:Value)(h1:b≠c)(h2:s3≠c)(h3:wb≠c)(h4:w.heap.size<=c):SpS b k s3 wb o ps pl pl0 w ((w'.setCell ⟨c,0,none⟩ v0).setCell ⟨c,1,none⟩ v1):=by
 obtain ⟨t1,t2,t3,t4,t5,t6,t7,t8⟩:=h
 have key:∀ (d i:Nat) (v:Value),d≠c->w'.cell? ⟨d,i,none⟩=some v->((w'.setCell ⟨c,0,none⟩ v0).setCell ⟨c,1,none⟩ v1).cell? ⟨d,i,none⟩=some v:=fun d i v hd hv=>by
  have e:((w'.setCell ⟨c,0,none⟩ v0).setCell ⟨c,1,none⟩ v1).heap[d]?=w'.heap[d]?:=(Below.heap_setCell _ _ _ _ hd).trans (Below.heap_setCell _ _ _ _ hd);rw [<- hv];unfold World.cell?;simp only [e]
 exact ⟨key _ _ _ h1 t1,key _ _ _ h1 t2,key _ _ _ h2 t3,key _ _ _ h2 t4,key _ _ _ h2 t5,key _ _ _ h3 t6,Me t7 _ _ _ _ _ h4,by simpa [World.setCell] using t8⟩
theorem y9z(b t:Nat)(A B WA:Array Value)(pl pl0:Int)(k wb b6 nb:Nat)(hk:k<32)(o:Option Addr)(ps:Int)(w:World)(hA:Blk w b t A)(h0:A[3+k*2]?=some (.pointer o))(h1:A[3+k*2+1]?=some (.int .i64 ps))(hp:-2000000<=ps/\ps<=2000000)
 (hW:Blk w wb 294 WA) (hpl:WA[1]?=some (.int .i64 pl0)) (hq:-2000000<=pl/\pl<=2000000) (hq0:-2000000<=pl0/\pl0<=2000000) (h6:Blk w b6 258 #[.pointer (some ⟨nb,0,none⟩)]) (hnb:Blk w nb 263 B) (hB:B.size=67) (_:nb≠b) :
 Calls Tryz.prog 209 #[.agg #[.pointer (some ⟨b,0,none⟩),.int .i64 pl,.int .i64 k],.pointer (some ⟨wb,0,none⟩),.pointer (some ⟨b6,0,none⟩)] w fun e w'=>e=.returned (.agg #[.pointer (some ⟨nb,0,none⟩),.int .i64 (pl0-pl)]) /\
  Far (fun q=>q=nb) w w'/\Blk w' nb 263 ((B.setIfInBounds (3+k*2) (.pointer o)).setIfInBounds (3+k*2+1) (.int .i64 (ps-(pl0-pl)))):=by
 have HLK:=fun w=>jY (Ox b pl k hk w);obtain ⟨w1,hw1⟩:∃ w1,w1=(w.alloc (.cells #[.pointer (some ⟨b,0,none⟩),.int .i64 pl,.int .i64 k] 292)).alloc (.cells #[.pointer none,.int .i64 0] 260):=⟨_,rfl⟩;have hb1:Bl w w1:=by rw [hw1];exact ((Below.refl _ _).alloc (lAd _) _).alloc (by simp) _
 have kS:Blk w1 w.heap.size 292 #[.pointer (some ⟨b,0,none⟩),.int .i64 pl,.int .i64 k]:=by rw [hw1];exact (Blk.new _ _ _).alloc _
 have kR:Blk w1 (w.heap.size+1) 260 #[.pointer none,.int .i64 0]:=by
  rw [hw1]
  have:=Blk.new (w.alloc (.cells #[.pointer (some ⟨b,0,none⟩),.int .i64 pl,.int .i64 k] 292)) 260 #[.pointer none,.int .i64 0];simpa using this
 have hS1:SpS b k w.heap.size wb o ps pl pl0 w w1 :=
  ⟨((hA.later hb1).cell _).trans h0,((hA.later hb1).cell _).trans h1,kS.cell 0,kS.cell 1,kS.cell 2,((hW.later hb1).cell _).trans hpl,hb1,hb1.size⟩
 obtain ⟨hp1,hp2⟩:=hp;obtain ⟨hq1,hq2⟩:=hq;obtain ⟨hq3,hq4⟩:=hq0;have hwr:IntKind.i64.wrap (pl0-pl)=pl0-pl:=IntWalk.i64_in _ (by omega);have hwr2:IntKind.i64.wrap (ps-(pl0-pl))=ps-(pl0-pl):=IntWalk.i64_in _ (by omega);have HS1:=jY hS1;have HR:=jY kR;have HW1:=jY hw1;have HB:=jY hb1;have H6:=jY h6;have HNB:=jY hnb;have hlt1:b<w1.heap.size:=Nat.lt_of_lt_of_le hA.lt hb1.size;have hlt2:wb<w1.heap.size:=Nat.lt_of_lt_of_le hW.lt hb1.size;have hlt3:=kS.lt;clear kS kR hS1 hw1 hb1 h6 hnb hA h0 h1 hW hpl
 go_enter Tryz.func209,Tryz.ntmps209
 go_wp2_with fail;rw [<- HW1.out];have HS1D:SpS b k w.heap.size wb o ps pl pl0 w w1.drew:=HS1.out.later (Zk _ 1);rename_i K1 hK1;have HK1:=jY hK1;clear hK1
 have hfin:∀ (d:Nat) (W6:World),SpS b k w.heap.size wb o ps pl pl0 w W6->Blk W6 d 260 #[.pointer o,.int .i64 ps]->Bl w1 W6->w1.heap.size<=d->K1 { tmps:=#[.agg #[.pointer (some ⟨b,0,none⟩),.int .i64 pl,.int .i64 k],.pointer (some ⟨wb,0,none⟩),.pointer (some ⟨b6,0,none⟩),.pointer (some ⟨w.heap.size,0,none⟩),.pointer (some ⟨w.heap.size+1,0,none⟩),.pointer (some ⟨d,0,none⟩),.int .i64 (pl0-pl),.agg #[.pointer (some ⟨b,0,none⟩),.int .i64 pl,.int .i64 k],.pointer (some ⟨b,3+k*2,none⟩),.pointer (some ⟨b,3+k*2,none⟩),.agg #[.pointer o,.int .i64 ps],.pointer (some ⟨wb,0,none⟩),.pointer (some ⟨wb,1,none⟩),.int .i64 pl0,.pointer (some ⟨w.heap.size,1,none⟩),.int .i64 pl,.int .i64 (pl0-pl),undef,undef,undef,undef,undef,undef,undef,undef,undef,undef,undef,undef,undef,undef,undef,undef],defers:=[] } W6:=by
  rintro d W6 ⟨s1,s2,s3,s4,s5,s6,s7,s8⟩ kd hb6 hd;refine HK1.out _ _ ?_;obtain ⟨d0,d1,_,_⟩:=Za kd;have hbw:=HB.out.trans (hb6.mono HB.out.size);have k6:=H6.out.later hbw;have e6:=(Z5 k6).1;have kn:=HNB.out.later hbw;have n0:=kn.cell (3+k*2);have n1:=kn.cell (3+k*2+1);rw [Array.getElem?_eq_getElem (by omega)] at n0 n1;have n2:=kn.free (3+k*2);have n3:=kn.free (3+k*2+1);have kR:=jY (HR.out.later hb6);have r0:=(Za kR.out).1;have r1:=(Za kR.out).2.1;have r2:=(Za kR.out).2.2.1;have r3:=(Za kR.out).2.2.2;have hnd:nb<w.heap.size:=HNB.out.lt;have h6d:b6<w.heap.size:=H6.out.lt;have hws:=HB.out.size;have HBW:=jY hbw;have HKN:=jY (kn.set (3+k*2) (.pointer o) |>.set (3+k*2+1) (.int .i64 (ps-(pl0-pl))));have HF7:=jY (Ku (S:=fun q=>q=nb) (Far.of_below hbw) nb (3+k*2) (3+k*2+1) (.pointer o) (.int .i64 (ps-(pl0-pl))) (.inl rfl));have HR7:=jY (((kR.out.setOther (3+k*2) (.pointer o) (Nat.ne_of_gt (Nat.lt_of_lt_of_le hnd (Nat.le_succ _)))).setOther (3+k*2+1) (.int .i64 (ps-(pl0-pl))) (Nat.ne_of_gt (Nat.lt_of_lt_of_le hnd (Nat.le_succ _)))));have hsz7:((W6.setCell ⟨nb,3+k*2,none⟩ (.pointer o)).setCell ⟨nb,3+k*2+1,none⟩ (.int .i64 (ps-(pl0-pl)))).heap.size=W6.heap.size:=by simp [World.setCell]
  clear hbw kn k6 kd hb6;go_wp2_with fail
  go_region
  generalize (W6.setCell ⟨nb,3+k * 2,none⟩ (.pointer o)).setCell ⟨nb,3+k * 2+1,none⟩ (.int .i64 (ps-(pl0-pl)))=W7 at *;have hs7:W7.drew.heap.size=W6.heap.size:=hsz7;have KN7:=jY (HKN.out.drew);have F7:=jY (HF7.out.then_below (Zk _ 1));have R7:=jY (HR7.out.drew);obtain ⟨t0,t1,t2,t3⟩:=Za R7.out;have F7':Far (fun q=>q=nb) w W7.drew:=F7.out;have F8:=jY F7';have e8:=(Z5 (F7'.blk H6.out (fun e=>absurd ((e ▸ H6.out:Blk w nb 258 _).ty HNB.out) (by decide)))).1;clear F7' F7 HF7 HKN HR7 r0 r1 r2 r3 n0 n1 n2 n3 d0 d1 s1 s2 s3 s4 s5 s6 s7 s8 e6;generalize W7.drew=W8 at *;go_wp2_with fail;have k9:=(R7.out.set 0 (.pointer (some ⟨nb,0,none⟩))).set 1 (.int .i64 (pl0-pl));refine bodyPost_ret (Vz Tryz.results209 (b:=⟨w.heap.size+1,0,none⟩) rfl (Dp k9)) rfl ?_;exact ⟨rfl,Ku F8.out _ _ _ _ _ (.inr (Nat.le_succ _)),(KN7.out.setOther _ _ (by omega)).setOther _ _ (by omega)⟩
 go_region_held (fun w'=>w'.cell? ⟨b,3+k*2,none⟩=some (.pointer o)/\w'.cell? ⟨b,3+k*2+1,none⟩=some (.int .i64 ps)/\w'.cell? ⟨w.heap.size,0,none⟩=some (.pointer (some ⟨b,0,none⟩))/\w'.cell? ⟨w.heap.size,1,none⟩=some (.int .i64 pl)/\w'.cell? ⟨w.heap.size,2,none⟩=some (.int .i64 k) /\
  w'.cell? ⟨wb,1,none⟩=some (.int .i64 pl0)/\Bl w w'/\w.heap.size<=w'.heap.size)
  (first
    | exact HS1D
    | exact S5
    | exact SpS.later S5 ((Below.refl _ _).alloc (lAd _) _)
    | exact SpS.later HS1D ((Below.refl _ _).alloc (lAd _) _)
    | (refine SpS.set2 S5 _ _ ?_ ?_ ?_ ?_ <;> omega))
  (first
    | (go_at_call 208;refine (HLK _).out.mono ?_;rintro e w5 ⟨rfl,hb5⟩;first
        | have S5:=SpS.later HS1D hb5
        | (have S5:=SpS.later (SpS.later HS1D ((Below.refl _ _).alloc (lAd _) _)) hb5;obtain ⟨z0,z1,z2,z3⟩:=v2d hb5)))
 ·exact hfin _ _ (SpS.later S5 ((Below.refl _ _).alloc (lAd _) _)) (Blk.new _ _ _) (((Zk _ 1).trans hb5).trans ((Below.refl _ _).alloc (((Zk _ 1).trans hb5).size) _)) (((Zk _ 1).trans hb5).size)
 ·have kd:=(Blk.new w1.drew 260 #[.pointer none,.int .i64 0]).later hb5;have hb6:Bl w1 w5:=(((Zk _ 1).alloc (lAd _) _).trans (hb5.mono (by simp)));refine hfin w1.heap.size _ (SpS.set2 S5 _ _ (Nat.ne_of_lt hlt1) (Nat.ne_of_lt hlt3) (Nat.ne_of_lt hlt2) (Nat.le_of_lt hlt3)) ((kd.set 0 _).set 1 _) ?_ (lAd _);exact Me hb6 _ _ _ _ _ (lAd _)
theorem x4e(b yb ty:Nat)(A WF:Array Value)(pl plf nn:Int)(k wf c:Nat)(hk:k<32)(o:Option Addr)(ps:Int)(w:World)(hA:Blk w yb ty A)(h0:A[3+k*2]?=some (.pointer o))(h1:A[3+k*2+1]?=some (.int .i64 ps))(hp:-2000000<=ps/\ps<=2000000)
 (hW:Blk w wf 294 WF) (hw0:WF[k*3]?=some (.pointer (some ⟨yb,0,none⟩))) (hw1:WF[k*3+1]?=some (.int .i64 plf)) (hw2:WF[k*3+2]?=some (.int .i64 k)) (hq:-2000000<=pl/\pl<=2000000) (hq0:-2000000<=plf/\plf<=2000000) (hc:Blk w c 3 #[.int .i64 nn]) (hn:0<=nn/\nn<=2000000) :
 Calls Tryz.prog 310 #[.agg #[.pointer (some ⟨b,0,none⟩),.int .i64 pl,.int .i64 k],.pointer (some ⟨wf,0,none⟩),.pointer (some ⟨c,0,none⟩)] w fun e w'=>e=.returned (.agg #[.pointer o,.int .i64 (plf-pl+ps-nn)])/\Bl w w':=by
 obtain ⟨hp1,hp2⟩:=hp;obtain ⟨hq1,hq2⟩:=hq;obtain ⟨hq3,hq4⟩:=hq0;obtain ⟨hn1,hn2⟩:=hn;have HLK:=fun w=>jY (Ox yb plf k hk w);have hb1:Bl w ((w.alloc (.cells #[.pointer (some ⟨b,0,none⟩),.int .i64 pl,.int .i64 k] 292)).alloc (.cells #[.pointer none,.int .i64 0] 260)):=((Below.refl _ _).alloc (lAd _) _).alloc (by simp) _
 have kR:Blk ((w.alloc (.cells #[.pointer (some ⟨b,0,none⟩),.int .i64 pl,.int .i64 k] 292)).alloc (.cells #[.pointer none,.int .i64 0] 260)) (w.heap.size+1) 260 #[.pointer none,.int .i64 0]:=by
  have:=Blk.new (w.alloc (.cells #[.pointer (some ⟨b,0,none⟩),.int .i64 pl,.int .i64 k] 292)) 260 #[.pointer none,.int .i64 0];simpa using this
 have kS:Blk ((w.alloc (.cells #[.pointer (some ⟨b,0,none⟩),.int .i64 pl,.int .i64 k] 292)).alloc (.cells #[.pointer none,.int .i64 0] 260)) w.heap.size 292 #[.pointer (some ⟨b,0,none⟩),.int .i64 pl,.int .i64 k]:=(Blk.new _ _ _).alloc _;have e0:=(hW.cell _).trans hw0;have e1:=(hW.cell _).trans hw1;have e2:=(hW.cell _).trans hw2;have hlW:=hW.lt;have HA:=jY hA;have HC:=jY hc;have HB1:=jY hb1;have HR:=jY kR;have HS:=jY kS;clear hb1 kR kS hA hW hw0 hw1 hw2 hc
 go_enter Tryz.func310,Tryz.ntmps310
 go_wp2_with fail;refine (HLK _).out.mono ?_;rintro e w2 ⟨rfl,hb2⟩;have hba:Below ((w.alloc (.cells #[.pointer (some ⟨b,0,none⟩),.int .i64 pl,.int .i64 k] 292)).alloc (.cells #[.pointer none,.int .i64 0] 260)).heap.size ((w.alloc (.cells #[.pointer (some ⟨b,0,none⟩),.int .i64 pl,.int .i64 k] 292)).alloc (.cells #[.pointer none,.int .i64 0] 260)) w2:=((Below.refl _ _).alloc (lAd _) _).trans (hb2.mono (by simp));have hb3:=HB1.out.trans (hba.mono HB1.out.size);have c0:=((HA.out.later hb3).cell _).trans h0;have c1:=((HA.out.later hb3).cell _).trans h1;obtain ⟨g0,g1⟩:=Z5 (HC.out.later hb3);obtain ⟨r0,r1,r2,r3⟩:=Za (HR.out.later hba);have s1:=(Uu (HS.out.later hba)).2.1;have kB:=(Blk.new ((w.alloc (.cells #[.pointer (some ⟨b,0,none⟩),.int .i64 pl,.int .i64 k] 292)).alloc (.cells #[.pointer none,.int .i64 0] 260)) 292 #[.pointer (some ⟨yb,0,none⟩),.int .i64 plf,.int .i64 k]).later hb2;simp only [World.size_alloc] at kB;have t1:=(Uu kB).2.1;have z1:=kB.lt;have z2:=(HR.out.later hba).lt;have z3:=(HC.out.later hb3).lt;have z0:w.heap.size<w2.heap.size:=by omega
 have KR:=jY (HR.out.later hba);have HB3:=jY hb3;clear hb2 hb3 hba kB e0 e1 e2 h0 h1;go_wp2_with fail;have k5:=((KR.out.set 0 (.pointer o)).set 1 (.int .i64 (plf-pl+ps-nn))).alloc (Obj.cells #[Value.pointer o,Value.int IntKind.i64 ps] 260);refine bodyPost_ret (Vz Tryz.results310 (b:=⟨w.heap.size+1,0,none⟩) rfl (Dp k5)) rfl ?_;have h3:=HB3.out;refine ⟨rfl,Below.alloc ?_ (by simpa [World.setCell] using h3.size) _⟩;exact Me h3 _ _ _ _ _ (by omega)
end Go.Proofs.YtcklcmafohlflaaGreatDoor.Sk
namespace Go.Proofs.YtcklcmafohlflaaGreatDoor.Sk
open Zc
open Go.RowKit Go.Shelf
def Va(F:List Nd)(a:Nat)(x:Nd):List Nd:=F.take (a+1)++x :: F.drop (a+1)
variable {F:List Nd} {a:Nat} {x:Nd}
theorem V4(h:a<F.length):(Va F a x).length=F.length+1:=by unfold Va;simp;omega
theorem Be(h:a<F.length){i:Nat}(hi:i<=a):(Va F a x)[i]?=F[i]?:=by
 unfold Va;rw [List.getElem?_append_left (by simp;omega),List.getElem?_take_of_lt (by omega)]
theorem z4n(h:a<F.length):(Va F a x)[a+1]?=some x:=by
 unfold Va;rw [List.getElem?_append_right (by simp;omega)];simp [Nat.min_eq_left (show a+1<=F.length by omega)]
theorem z4o(h:a<F.length){i:Nat}(hi:a<i):(Va F a x)[i+1]?=F[i]?:=by
 unfold Va;rw [List.getElem?_append_right (by simp;omega),List.length_take,Nat.min_eq_left (show a+1<=F.length by omega),show i+1-(a+1)=(i-(a+1))+1 by omega,List.getElem?_cons_succ,List.getElem?_drop]
 congr 1;omega
theorem z4v(h:a<F.length){i:Nat}(hi:i<=a):lev (Va F a x) i=lev F i:=by unfold lev;rw [Be h hi]
theorem x3f(h:a<F.length):lev (Va F a x) (a+1)=x.l:=by unfold lev;rw [z4n h];rfl
theorem Dm(h:a<F.length){i:Nat}(hi:a<i):lev (Va F a x) (i+1)=lev F i:=by unfold lev;rw [z4o h hi]
theorem y0k(h:a<F.length){i:Nat}(hi:i<=a):adr (Va F a x) i=adr F i:=by unfold adr;rw [Be h hi]
theorem x1c(h:a<F.length):adr (Va F a x) (a+1)=.pointer (some ⟨x.b,0,none⟩):=by unfold adr;rw [z4n h];rfl
theorem z3o(h:a<F.length){i:Nat}(hi:a<i):adr (Va F a x) (i+1)=adr F i:=by unfold adr;rw [z4o h hi]
theorem x8w(h:a<F.length){k q:Nat}(h0:k<lev F 0)(hq:q=Zn F k a)(hk:k<x.l):nxt (Va F a x) k q=a+1:=by
 obtain ⟨l1,l2,l3⟩:=Yi F k h0 a;subst hq;refine Xt (by rw [V4 h];omega) (by omega) (by rw [V4 h];omega) (fun i h1 h2=>?_) (fun _=>by rw [x3f h];exact hk);rw [z4v h (by omega)];exact l3 i h1 (by omega)
theorem Oz(h:a<F.length){k:Nat}(h0:k<lev F 0):a<nxt F k (Zn F k a):=by
 obtain ⟨l1,l2,l3⟩:=Yi F k h0 a;obtain ⟨n1,n2,n3,n4,_⟩:=Yy F k (Zn F k a) (by omega);rcases Nat.lt_or_ge a (nxt F k (Zn F k a)) with e|e
 ·exact e
 ·have:=l3 _ n1 e
  have:=n4 (by omega)
  omega
theorem x4a(h:a<F.length){k q:Nat}(h0:k<lev F 0)(hq:q=Zn F k a)(hk:¬ k<x.l):nxt (Va F a x) k q=nxt F k q+1:=by
 obtain ⟨l1,l2,l3⟩:=Yi F k h0 a;have ha:=Oz h h0;subst hq;obtain ⟨n1,n2,n3,n4,_⟩:=Yy F k (Zn F k a) (by omega);refine Xt (by rw [V4 h];omega) (by omega) (by rw [V4 h];omega) (fun i h1 h2=>?_) (fun hl=>?_)
 ·by_cases e:i<=a
  ·rw [z4v h e];exact n3 i h1 (by omega)
  ·by_cases e2:i=a+1
   ·subst e2;rw [x3f h];omega
   ·obtain ⟨j,rfl⟩:∃ j,i=j+1:=⟨i-1,by omega⟩;rw [Dm h (by omega)];exact n3 j (by omega) (by omega)
 ·rw [V4 h] at hl;rw [Dm h ha];exact n4 (by omega)
theorem y8a(h:a<F.length){k q:Nat}(h0:k<lev F 0)(hq:q<=a)(hkq:k<lev F q)(hne:q≠Zn F k a):nxt (Va F a x) k q=nxt F k q/\nxt F k q<=a:=by
 obtain ⟨l1,l2,l3⟩:=Yi F k h0 a;obtain ⟨n1,n2,n3,n4,_⟩:=Yy F k q (by omega)
 have hql:q<Zn F k a:=by
  rcases Nat.lt_trichotomy q (Zn F k a) with e|e|e
  ·exact e
  ·exact absurd e hne
  ·have:=l3 q e hq;omega
 have hle:nxt F k q<=Zn F k a:=by
  rcases Nat.lt_or_ge (Zn F k a) (nxt F k q) with e|e
  ·have:=n3 _ hql e;omega
  ·exact e
 refine ⟨Xt (by rw [V4 h];omega) n1 (by rw [V4 h];omega) (fun i h1 h2=>?_) (fun _=>?_),by omega⟩
 ·rw [z4v h (by omega)];exact n3 i h1 h2
 ·rw [z4v h (by omega)];exact n4 (by omega)
theorem x8x(h:a<F.length){k:Nat}(h0:k<lev F 0):nxt (Va F a x) k (a+1)=nxt F k (Zn F k a)+1:=by
 obtain ⟨l1,l2,l3⟩:=Yi F k h0 a;have ha:=Oz h h0;obtain ⟨n1,n2,n3,n4,_⟩:=Yy F k (Zn F k a) (by omega);refine Xt (by rw [V4 h];omega) (by omega) (by rw [V4 h];omega) (fun i h1 h2=>?_) (fun hl=>?_)
 ·obtain ⟨j,rfl⟩:∃ j,i=j+1:=⟨i-1,by omega⟩;rw [Dm h (by omega)];exact n3 j (by omega) (by omega)
 ·rw [V4 h] at hl;rw [Dm h ha];exact n4 (by omega)
theorem x3z(h:a<F.length){k q:Nat}(hq:a<q)(hql:q<F.length):nxt (Va F a x) k (q+1)=nxt F k q+1:=by
 obtain ⟨n1,n2,n3,n4,_⟩:=Yy F k q hql;refine Xt (by rw [V4 h];omega) (by omega) (by rw [V4 h];omega) (fun i h1 h2=>?_) (fun hl=>?_)
 ·obtain ⟨j,rfl⟩:∃ j,i=j+1:=⟨i-1,by omega⟩;rw [Dm h (by omega)];exact n3 j (by omega) (by omega)
 ·rw [V4 h] at hl;rw [Dm h (by omega)];exact n4 (by omega)
def lkJ(F:List Nd)(a l nb k:Nat)(q k':Nat):Value × Int :=
 if k'<k/\q=Zn F k' a then (if k'<l then (.pointer (some ⟨nb,0,none⟩),(a:Int)-q) else ((lk0 F q k').1,(lk0 F q k').2+1)) else lk0 F q k'
theorem x3i(F:List Nd)(a l nb q k':Nat):lkJ F a l nb 0 q k'=lk0 F q k':=by unfold lkJ;rw [if_neg (by omega)]
theorem y7w(h:a<F.length)(h32:lev F 0=32){k q:Nat}(hk:k<32)(hq:q<=a)(hkq:k<lev F q):lk0 (Va F a x) q k=lkJ F a x.l x.b 32 q k:=by
 unfold lkJ
 by_cases e:q=Zn F k a
 ·rw [if_pos ⟨hk,e⟩]
  by_cases e2:k<x.l
  ·rw [if_pos e2];unfold lk0;rw [x8w h (by omega) e e2,x1c h];refine congrArg _ ?_;omega
  ·rw [if_neg e2];unfold lk0
   have:=Oz (k:=k) h (by omega)
   rw [<- e] at this;rw [x4a h (by omega) e e2,z3o h this];refine congrArg _ ?_;show ((nxt F k q+1:Nat):Int)-q-1=_;omega
 ·rw [if_neg (fun t=>e t.2)];unfold lk0;obtain ⟨e1,e2⟩:=y8a (x:=x) h (by omega) hq hkq e;rw [e1,y0k h e2]
theorem y7u(h:a<F.length)(h32:lev F 0=32){k:Nat}(hk:k<32):lk0 (Va F a x) (a+1) k=((lk0 F (Zn F k a) k).1,(lk0 F (Zn F k a) k).2-((a:Int)-Zn F k a)):=by
 unfold lk0
 have:=Oz (k:=k) h (by omega)
 rw [x8x h (by omega),z3o h this];refine congrArg _ ?_;show ((nxt F k (Zn F k a)+1:Nat):Int)-((a+1:Nat):Int)-1=_;omega
theorem y7v(h:a<F.length){k q:Nat}(hq:a<q)(hql:q<F.length):lk0 (Va F a x) (q+1) k=lk0 F q k:=by
 unfold lk0;obtain ⟨n1,_⟩:=Yy F k q hql;rw [x3z h hq hql,z3o h (by omega)];refine congrArg _ ?_;show ((nxt F k q+1:Nat):Int)-((q+1:Nat):Int)-1=_;omega
theorem v1w{l nb k q k':Nat}(hq:a<q)(h0:k'<lev F 0):lkJ F a l nb k q k'=lk0 F q k':=by
 unfold lkJ;rw [if_neg (fun t=>by have:=(Yi F k' h0 a).1;omega)]
variable {W:World} {lk:Nat->Nat->Value × Int} {ah:Nat->Value} {n:Int}
theorem NodeA.set{A:Array Value}{q:Nat}{x:Nd}{lk lk':Nat->Value × Int}{ah:Value}{n:Int}(h:NodeA A q x lk ah n){k:Nat}(hk:k<32)(v:Value)(u:Int)(h1:lk' k=(v,u))(h2:∀ k',k'≠k->lk' k'=lk k') :
 NodeA ((A.setIfInBounds (3+k*2) v).setIfInBounds (3+k*2+1) (.int .i64 u)) q x lk' ah n:=by
 have hs:67<=A.size:=by rw [h.size];unfold szq;split <;> decide
 have far:∀ i,i≠3+k*2->i≠3+k*2+1->((A.setIfInBounds (3+k*2) v).setIfInBounds (3+k*2+1) (.int .i64 u))[i]?=A[i]?:=fun i e1 e2=>by
  rw [Array.getElem?_setIfInBounds_ne (Ne.symm e2),Array.getElem?_setIfInBounds_ne (Ne.symm e1)]
 refine ⟨by simpa using h.size,(far 0 (by omega) (by omega)).trans h.m,(far 1 (by omega) (by omega)).trans h.s,(far 2 (by omega) (by omega)).trans h.a,fun k' hk'=>?_,fun hq=>(far 67 (by omega) (by omega)).trans (h.n hq)⟩
 by_cases e:k'=k
 ·subst e;rw [h1]
  constructor
  ·rw [Array.getElem?_setIfInBounds_ne (by omega),Array.getElem?_setIfInBounds_self_of_lt (by omega)]
  ·rw [Array.getElem?_setIfInBounds_self_of_lt (by simp;omega)]
 ·rw [h2 k' e];exact ⟨(far _ (by omega) (by omega)).trans (h.link k' hk').1,(far _ (by omega) (by omega)).trans (h.link k' hk').2⟩
theorem Sk.setLink(h:Sk W F lk ah n){q k:Nat}{x:Nd}(hq:F[q]?=some x)(hk:k<32)(v:Value)(u:Int)(lk':Nat->Nat->Value × Int)(h1:lk' q k=(v,u))(h2:∀ q' k',q'≠q\/k'≠k->lk' q' k'=lk q' k') :
 Sk ((W.setCell ⟨x.b,3+k*2,none⟩ v).setCell ⟨x.b,3+k*2+1,none⟩ (.int .i64 u)) F lk' ah n:=by
 refine ⟨fun q' x' hx'=>?_,h.inj,h.lev⟩;obtain ⟨A,hA,hN⟩:=h.node q' x' hx'
 by_cases e:q'=q
 ·subst e;rw [hq] at hx'
  cases hx'
  exact ⟨_,(hA.set _ _).set _ _,hN.set hk v u h1 (fun k' hk'=>h2 _ _ (.inr hk'))⟩
 ·have hne:x'.b≠x.b:=fun e2=>e (h.inj _ _ _ _ hx' hq e2);refine ⟨A,(hA.setOther _ _ hne).setOther _ _ hne,?_⟩
  have:lk' q'=lk q':=funext fun k'=>h2 _ _ (.inl e)
  rw [this];exact hN
theorem NodeA.setAh{A:Array Value}{q:Nat}{x:Nd}{lk:Nat->Value × Int}{ah:Value}{n:Int}(h:NodeA A q x lk ah n)(v:Value):NodeA (A.setIfInBounds 2 v) q x lk v n:=by
 have hs:67<=A.size:=by rw [h.size];unfold szq;split <;> decide
 have far:∀ i,i≠2->(A.setIfInBounds 2 v)[i]?=A[i]?:=fun i e=>Array.getElem?_setIfInBounds_ne (Ne.symm e);exact ⟨by simpa using h.size,(far 0 (by omega)).trans h.m,(far 1 (by omega)).trans h.s,Array.getElem?_setIfInBounds_self_of_lt (by omega),fun k' hk'=>⟨(far _ (by omega)).trans (h.link k' hk').1,(far _ (by omega)).trans (h.link k' hk').2⟩,fun hq=>(far 67 (by omega)).trans (h.n hq)⟩
theorem Sk.setAh(h:Sk W F lk ah n){q:Nat}{x:Nd}(hq:F[q]?=some x)(v:Value)(ah':Nat->Value)(h1:ah' q=v)(h2:∀ q',q'≠q->ah' q'=ah q'):Sk (W.setCell ⟨x.b,2,none⟩ v) F lk ah' n:=by
 refine ⟨fun q' x' hx'=>?_,h.inj,h.lev⟩;obtain ⟨A,hA,hN⟩:=h.node q' x' hx'
 by_cases e:q'=q
 ·subst e;rw [hq] at hx'
  cases hx'
  exact ⟨_,hA.set _ _,by rw [h1];exact hN.setAh v⟩
 ·have hne:x'.b≠x.b:=fun e2=>e (h.inj _ _ _ _ hx' hq e2);exact ⟨A,hA.setOther _ _ hne,by rw [h2 _ e];exact hN⟩
theorem Sk.setN(h:Sk W F lk ah n){x:Nd}(hq:F[0]?=some x)(n':Int):Sk (W.setCell ⟨x.b,67,none⟩ (.int .i64 n')) F lk ah n':=by
 refine ⟨fun q' x' hx'=>?_,h.inj,h.lev⟩;obtain ⟨A,hA,hN⟩:=h.node q' x' hx';have far:∀ i,i≠67->(A.setIfInBounds 67 (.int .i64 n'))[i]?=A[i]?:=fun i e=>Array.getElem?_setIfInBounds_ne (Ne.symm e);have hl:=(h.lev _ _ hx').2
 by_cases e:q'=0
 ·subst e;rw [hq] at hx'
  cases hx'
  have hs:=hN.size;exact ⟨_,hA.set _ _,⟨by simpa using hN.size,(far 0 (by omega)).trans hN.m,(far 1 (by omega)).trans hN.s,(far 2 (by omega)).trans hN.a,fun k' hk'=>⟨(far _ (by omega)).trans (hN.link k' hk').1,(far _ (by omega)).trans (hN.link k' hk').2⟩,fun _=>Array.getElem?_setIfInBounds_self_of_lt (by rw [hs];decide)⟩⟩
 ·have hne:x'.b≠x.b:=fun e2=>e (h.inj _ _ _ _ hx' hq e2);exact ⟨A,hA.setOther _ _ hne,⟨hN.size,hN.m,hN.s,hN.a,hN.link,fun e2=>absurd e2 e⟩⟩
theorem y9u(h:Sk W F lk ah n)(ha:a<F.length){B:Array Value}(hB:Blk W x.b 263 B)(hx:0<x.l/\x.l<=32)(lk':Nat->Nat->Value × Int)(ah':Nat->Value)(hN:NodeA B (a+1) x (lk' (a+1)) (ah' (a+1)) n)(hfresh:¬ isB F x.b)
 (h1:∀ q k,q<=a->k<lev F q->lk' q k=lk q k) (h2:∀ q k,a<q->q<F.length->k<lev F q->lk' (q+1) k=lk q k) (h3:∀ q,q<=a->ah' q=ah q) (h4:∀ q,a<q->q<F.length->ah' (q+1)=ah q):Sk W (Va F a x) lk' ah' n:=by
 have part:∀ (q:Nat) (y:Nd),(Va F a x)[q]?=some y->(q<=a/\F[q]?=some y)\/(q=a+1/\y=x)\/(∃ i,q=i+1/\a<i/\F[i]?=some y):=fun q y hy=>by
  rcases Nat.lt_trichotomy q (a+1) with e|e|e
  ·rw [Be ha (by omega)] at hy;exact .inl ⟨by omega,hy⟩
  ·subst e;rw [z4n ha] at hy;cases hy;exact .inr (.inl ⟨rfl,rfl⟩)
  ·obtain ⟨i,rfl⟩:∃ i,q=i+1:=⟨q-1,by omega⟩;rw [z4o ha (by omega)] at hy;exact .inr (.inr ⟨i,rfl,by omega,hy⟩)
 refine ⟨fun q y hy=>?_,fun q q' y y' hy hy' hb=>?_,fun q y hy=>?_⟩
 ·rcases part q y hy with ⟨e,hy'⟩|⟨rfl,rfl⟩|⟨i,rfl,e,hy'⟩
  ·obtain ⟨A,hA,hNA⟩:=h.node q y hy';refine ⟨A,hA,hNA.size,hNA.m,hNA.s,by rw [h3 q e];exact hNA.a,fun k hk=>?_,hNA.n⟩;rw [h1 q k e (by rw [X8 hy'];exact hk)];exact hNA.link k hk
  ·exact ⟨B,by unfold tyq;rw [if_neg (by omega)];exact hB,hN⟩
  ·obtain ⟨A,hA,hNA⟩:=h.node i y hy';have hil:=(lAb.1 hy').1;refine ⟨A,by unfold tyq at hA ⊢;rw [if_neg (by omega)] at hA ⊢;exact hA,by have:=hNA.size;unfold szq at this ⊢;rw [if_neg (by omega)] at this ⊢;exact this,hNA.m,hNA.s,by rw [h4 i e hil];exact hNA.a,fun k hk=>?_,fun e2=>by omega⟩;rw [h2 i k e hil (by rw [X8 hy'];exact hk)];exact hNA.link k hk
 ·rcases part q y hy with ⟨e,hz⟩|⟨rfl,rfl⟩|⟨i,rfl,e,hz⟩ <;> rcases part q' y' hy' with ⟨e',hz'⟩|⟨rfl,rfl⟩|⟨i',rfl,e',hz'⟩
  ·exact h.inj _ _ _ _ hz hz' hb
  ·exact absurd (hb ▸ Vl hz) hfresh
  ·have:=h.inj _ _ _ _ hz hz' hb;omega
  ·exact absurd (hb ▸ Vl hz') hfresh
  ·rfl
  ·exact absurd (hb ▸ Vl hz') hfresh
  ·have:=h.inj _ _ _ _ hz hz' hb;omega
  ·exact absurd (hb ▸ Vl hz) hfresh
  ·have:=h.inj _ _ _ _ hz hz' hb;omega
 ·rcases part q y hy with ⟨e,hz⟩|⟨rfl,rfl⟩|⟨i,rfl,e,hz⟩
  ·exact h.lev _ _ hz
  ·exact hx
  ·exact h.lev _ _ hz
end Go.Proofs.YtcklcmafohlflaaGreatDoor.Sk
namespace Go.Proofs.YtcklcmafohlflaaGreatDoor.Sk
open Zc
open Go.RowKit Go.Shelf
attribute [local go_sem] Oper.semAt_some
structure JInv (w0:World) (F:List Nd) (a l nb wb b6:Nat) (m:ByteArray) (s:Int) (ah:Nat->Value) (n:Int) (k:Nat) (W:World):Prop where
 sk:Sk W F (lkJ F a l nb k) ah n
 new:∃ B,Blk W nb 263 B/\B.size=67/\B[0]?=some (.string m)/\B[1]?=some (.int .i64 s)/\B[2]?=some (.pointer none) /\
  ∀ k',k'<k->k'<l->B[3+k'*2]?=some (lk0 F (Zn F k' a) k').1/\B[3+k'*2+1]?=some (.int .i64 ((lk0 F (Zn F k' a) k').2-((a:Int)-Zn F k' a)))
 way:Blk W wb 294 (Ys F a)
 box:Blk W b6 258 #[.pointer (some ⟨nb,0,none⟩)]
 far:Far (fun q=>isB F q\/q=nb) w0 W
 fresh:¬ isB F nb
variable {w0:World} {F:List Nd} {a l nb wb b6:Nat} {m:ByteArray} {s:Int} {ah:Nat->Value} {n:Int} {k:Nat}
theorem JInv.later{W W':World}(h:JInv w0 F a l nb wb b6 m s ah n k W)(hb:Bl W W'):JInv w0 F a l nb wb b6 m s ah n k W':=by
 obtain ⟨h1,⟨B,h2,h3⟩,h4,h5,h6,h7⟩:=h;exact ⟨h1.later hb,⟨B,h2.later hb,h3⟩,h4.later hb,h5.later hb,h6.then_below hb,h7⟩
theorem z4w(F:List Nd)(q k:Nat):∃ o,(lk0 F q k).1=.pointer o:=⟨_,rfl⟩
theorem Dn(F:List Nd)(hN:F.length<=1000000)(q k:Nat)(hq:q<F.length):-2000000<=(lk0 F q k).2/\(lk0 F q k).2<=2000000:=by
 obtain ⟨n1,n2,_⟩:=Yy F k q hq;unfold lk0;exact ⟨by show _<=(nxt F k q:Int)-q-1;omega,by show (nxt F k q:Int)-q-1<=_;omega⟩
theorem z8a(F:List Nd)(a l nb k:Nat):lkJ F a l nb k (Zn F k a) k=lk0 F (Zn F k a) k:=by unfold lkJ;rw [if_neg (by omega)]
theorem z8b(F:List Nd)(a l nb k:Nat)(q' k':Nat)(h:q'≠Zn F k a\/k'≠k):lkJ F a l nb (k+1) q' k'=lkJ F a l nb k q' k':=by
 unfold lkJ
 by_cases e:k'<k/\q'=Zn F k' a
 ·rw [if_pos e,if_pos ⟨by omega,e.2⟩]
 ·rw [if_neg e,if_neg];rintro ⟨h1,h2⟩
  by_cases e2:k'=k
  ·subst e2;rcases h with h|h
   ·exact h h2
   ·exact h rfl
  ·exact e ⟨by omega,h2⟩
theorem z7z(hF0:lev F 0=32)(hp:∀ i,i<F.length->0<lev F i)(hN:F.length<=1000000)(ha:a<F.length)(hl:l<=32):Links F a wb 0 l 209 #[.pointer (some ⟨wb,0,none⟩),.pointer (some ⟨b6,0,none⟩)] (JInv w0 F a l nb wb b6 m s ah n):=by
 refine ⟨enters_of Tryz.func209 (by kernel_rfl) rfl,fun k W W' h hb=>h.later hb,fun k W h=>h.way,fun k W x _ hk h hx=>?_⟩;obtain ⟨A,hA,hNA⟩:=h.sk.node _ x hx;obtain ⟨B,hB,hBs,b0,b1,b2,hBl⟩:=h.new;obtain ⟨l1,l2,l3⟩:=Yi F k (by omega) a;rw [X8 hx] at l2;obtain ⟨k1,k2⟩:=hNA.link k l2;rw [z8a] at k1 k2;obtain ⟨o,ho⟩:=z4w F (Zn F k a) k;rw [ho] at k1;have hlb:=Dn F hN (Zn F k a) k (by omega);have hne:nb≠x.b:=fun e=>h.fresh (e ▸ Vl hx);have w1:=(Pf F a 0 (by decide)).2.1;rw [Qe F hp a ha] at w1;refine (y9z x.b _ A B (Ys F a) ((Zn F k a:Int)-1) ((a:Int)-1) k wb b6 nb (by omega) o _ W hA k1 k2 hlb h.way w1 (by omega) (by omega) h.box hB hBs hne).mono ?_;rintro e w' ⟨rfl,hf,hB'⟩;have hA':=hf.blk hA (Ne.symm hne);have hs67:67<=A.size:=by rw [hNA.size];unfold szq;split <;> decide
 have hsk:=h.sk.far (S:=fun q=>q=nb) hf (fun q hq e=>h.fresh (e ▸ hq));refine ⟨_,_,A[3+k*2],A[3+k*2+1],rfl,?_,?_,hA'.free _,hA'.free _,⟨?_,?_,?_,?_,?_,h.fresh⟩,hf.size⟩
 ·rw [hA'.cell];exact Array.getElem?_eq_getElem _
 ·rw [hA'.cell];exact Array.getElem?_eq_getElem _
 ·refine hsk.setLink hx (by omega) _ _ _ ?_ (fun q' k' hh=>z8b F a l nb k q' k' hh);unfold lkJ;rw [if_pos ⟨by omega,rfl⟩,if_pos (by omega)];refine congrArg _ ?_;omega
 ·refine ⟨_,(hB'.setOther _ _ hne).setOther _ _ hne,by simpa using hBs,?_,?_,?_,fun k' hk' hl'=>?_⟩
  ·rw [Array.getElem?_setIfInBounds_ne (by omega),Array.getElem?_setIfInBounds_ne (by omega)];exact b0
  ·rw [Array.getElem?_setIfInBounds_ne (by omega),Array.getElem?_setIfInBounds_ne (by omega)];exact b1
  ·rw [Array.getElem?_setIfInBounds_ne (by omega),Array.getElem?_setIfInBounds_ne (by omega)];exact b2
  ·by_cases e:k'=k
   ·subst e
    constructor
    ·rw [Array.getElem?_setIfInBounds_ne (by omega),Array.getElem?_setIfInBounds_self_of_lt (by omega),ho]
    ·rw [Array.getElem?_setIfInBounds_self_of_lt (by simp;omega)];refine congrArg (fun z=>some (Value.int IntKind.i64 z)) ?_;omega
   ·obtain ⟨y1,y2⟩:=hBl k' (by omega) hl';exact ⟨by rw [Array.getElem?_setIfInBounds_ne (by omega),Array.getElem?_setIfInBounds_ne (by omega)];exact y1,by rw [Array.getElem?_setIfInBounds_ne (by omega),Array.getElem?_setIfInBounds_ne (by omega)];exact y2⟩
 ·have hwx:wb≠x.b:=fun e=>absurd ((e ▸ h.way:Blk W x.b 294 _).ty hA) (fun e2=>(z0m _).2.2.1 e2.symm);have hwn:wb≠nb:=fun e=>absurd ((e ▸ h.way:Blk W nb 294 _).ty hB) (by decide);exact ((hf.blk h.way hwn).setOther _ _ hwx).setOther _ _ hwx
 ·have hwx:b6≠x.b:=fun e=>by
   have:=(e ▸ h.box:Blk W x.b 258 _).ty hA
   unfold tyq at this;split at this <;> exact absurd this (by decide)
  have hwn:b6≠nb:=fun e=>absurd ((e ▸ h.box:Blk W nb 258 _).ty hB) (by decide);exact ((hf.blk h.box hwn).setOther _ _ hwx).setOther _ _ hwx
 ·exact Ku (h.far.trans (hf.mono (S1:=fun q=>isB F q\/q=nb) (fun q e=>.inr e)) (fun q e=>.inl e)) _ _ _ _ _ (.inl (.inl (Vl hx)))
theorem y2d(hF0:lev F 0=32)(hN:F.length<=1000000)(ha:a<F.length)(hl:l<=32):Links F a wb l (32-l) 210 #[] (JInv w0 F a l nb wb b6 m s ah n):=by
 refine ⟨enters_of Tryz.func210 (by kernel_rfl) rfl,fun k W W' h hb=>h.later hb,fun k W h=>h.way,fun k W x hk0 hk h hx=>?_⟩;obtain ⟨A,hA,hNA⟩:=h.sk.node _ x hx;obtain ⟨B,hB,hBs,b0,b1,b2,hBl⟩:=h.new;obtain ⟨l1,l2,l3⟩:=Yi F k (by omega) a;rw [X8 hx] at l2;obtain ⟨k1,k2⟩:=hNA.link k l2;rw [z8a] at k1 k2;obtain ⟨o,ho⟩:=z4w F (Zn F k a) k;rw [ho] at k1;have hlb:=Dn F hN (Zn F k a) k (by omega);have hne:nb≠x.b:=fun e=>h.fresh (e ▸ Vl hx);refine (x4q x.b _ A ((Zn F k a:Int)-1) k (by omega) o _ W hA k1 k2 hlb).mono ?_;rintro e w' ⟨rfl,hb⟩;have h':=h.later hb;have hA':=hA.later hb;have hB':=hB.later hb;have hs67:67<=A.size:=by rw [hNA.size];unfold szq;split <;> decide
 refine ⟨_,_,A[3+k*2],A[3+k*2+1],rfl,?_,?_,hA'.free _,hA'.free _,⟨?_,?_,?_,?_,?_,h.fresh⟩,hb.size⟩
 ·rw [hA'.cell];exact Array.getElem?_eq_getElem _
 ·rw [hA'.cell];exact Array.getElem?_eq_getElem _
 ·refine h'.sk.setLink hx (by omega) _ _ _ ?_ (fun q' k' hh=>z8b F a l nb k q' k' hh);unfold lkJ;rw [if_pos ⟨by omega,rfl⟩,if_neg (by omega),ho]
 ·exact ⟨B,(hB'.setOther _ _ hne).setOther _ _ hne,hBs,b0,b1,b2,fun k' hk' hl'=>hBl k' (by omega) hl'⟩
 ·have hwx:wb≠x.b:=fun e=>absurd ((e ▸ h.way:Blk W x.b 294 _).ty hA) (fun e2=>(z0m _).2.2.1 e2.symm);exact (h'.way.setOther _ _ hwx).setOther _ _ hwx
 ·have hwx:b6≠x.b:=fun e=>by
   have:=(e ▸ h.box:Blk W x.b 258 _).ty hA
   unfold tyq at this;split at this <;> exact absurd this (by decide)
  exact (h'.box.setOther _ _ hwx).setOther _ _ hwx
 ·exact Ku h'.far _ _ _ _ _ (.inl (.inl (Vl hx)))
theorem Ot(s:ByteArray)(w:World)(hs:s.size<=281474976710656):Calls Tryz.prog 85 #[.string s] w fun e w'=>e=.returned (.string s)/\Bl w w':=by
 have HC:=fun w=>jY (Tryz.stringslite_Clone s w hs);clear hs
 go_enter Tryz.func85,Tryz.ntmps85
 go_wp2_with fail;refine (HC _).out.mono ?_;rintro e w1 ⟨rfl,hb⟩;have HB:=jY hb;clear hb;go_wp2_with fail;go_ret;exact ⟨rfl,HB.out⟩
def z61:Array Value:=#[.string ⟨#[]⟩,.int .i64 0,.pointer none]++((List.range 32).flatMap fun _=>[Value.pointer none,.int .i64 0]).toArray
theorem x8e:(Tryz.prog.info? 263).map (fun i=>(i.zero,i.size))=some (some (.agg z61),67):=by kernel_rfl
theorem v3f(w:World):(zeroValue 263).run Tryz.prog w=.ok (.agg z61) w:=(zero_of_info x8e).1 w
theorem x2e{W1:World}{F:List Nd}{a l nb:Nat}{m:ByteArray}{s:Int}{ah1:Nat->Value}{n:Int}{B:Array Value}(hF0:lev F 0=32)(ha:a<F.length)(hl:0<l/\l<=32)(hsk:Sk W1 F (lkJ F a l nb 32) ah1 n)(hah:∀ q,q<F.length->ah1 q=if q=a+1 then .pointer (some ⟨nb,0,none⟩) else ah0 F q)
 (hB:Blk W1 nb 263 B) (hBs:B.size=67) (b0:B[0]?=some (.string m)) (b1:B[1]?=some (.int .i64 s)) (hBl:∀ k',k'<32->k'<l->B[3+k'*2]?=some (lk0 F (Zn F k' a) k').1/\B[3+k'*2+1]?=some (.int .i64 ((lk0 F (Zn F k' a) k').2-((a:Int)-Zn F k' a)))) (hfr:¬ isB F nb) :
 Sk (W1.setCell ⟨nb,2,none⟩ (adr F a)) (Va F a ⟨nb,m,s,l⟩) (lk0 (Va F a ⟨nb,m,s,l⟩)) (ah0 (Va F a ⟨nb,m,s,l⟩)) n:=by
 have hle:∀ q k,q<F.length->k<lev F q->k<32:=fun q k hq hk=>by
  have:=(hsk.lev q _ (lAa hq)).2
  rw [X8 (lAa hq)] at hk;omega
 have far:∀ i,i≠2->(B.setIfInBounds 2 (adr F a))[i]?=B[i]?:=fun i e=>Array.getElem?_setIfInBounds_ne (Ne.symm e);refine y9u (x:=⟨nb,m,s,l⟩) (hsk.setOther nb 2 (adr F a) hfr) ha (hB.set 2 (adr F a)) hl _ _ ?_ hfr (fun q k hq hk=>?_) (fun q k hq hq2 hk=>?_) (fun q hq=>?_) (fun q hq hq2=>?_)
 ·refine ⟨by simpa [szq] using hBs,(far 0 (by decide)).trans b0,(far 1 (by decide)).trans b1,?_,fun k hk=>?_,fun e=>absurd e (Nat.succ_ne_zero a)⟩
  ·rw [Array.getElem?_setIfInBounds_self_of_lt (by omega)];unfold ah0;rw [if_neg (Nat.succ_ne_zero a),Nat.add_sub_cancel,y0k ha (lAd _)]
  ·have hk':k<l:=hk;have hb:=hBl k (by omega) hk';rw [y7u ha hF0 (by omega)];exact ⟨(far _ (by omega)).trans hb.1,(far _ (by omega)).trans hb.2⟩
 ·exact y7w ha hF0 (hle q k (by omega) hk) hq hk
 ·rw [y7v ha hq hq2,v1w hq (by have:=hle q k hq2 hk;omega)]
 ·rw [hah q (by omega),if_neg (by omega)];unfold ah0
  by_cases e:q=0
  ·rw [if_pos e,if_pos e]
  ·rw [if_neg e,if_neg e,y0k ha (by omega)]
 ·rw [hah q hq2];show (if q+1=0 then _ else adr _ (q+1-1))=_;rw [if_neg (by omega),Nat.add_sub_cancel]
  by_cases e:q=a+1
  ·subst e;rw [if_pos rfl,x1c ha]
  ·rw [if_neg e];obtain ⟨i,rfl⟩:∃ i,q=i+1:=⟨q-1,by omega⟩;rw [z3o ha (by omega)];unfold ah0;rw [if_neg (by omega),Nat.add_sub_cancel]
theorem v3o{w W:World}{F:List Nd}{a l nb wb b6:Nat}{m:ByteArray}{s:Int}{n:Int}{B:Array Value}(hw:Sk w F (lk0 F) (ah0 F) n)(hb:Bl w W)(hB:Blk W nb 263 B)(hBs:B.size=67)(b0:B[0]?=some (.string m))(b1:B[1]?=some (.int .i64 s))(b2:B[2]?=some (.pointer none))
 (hway:Blk W wb 294 (Ys F a)) (hbox:Blk W b6 258 #[.pointer (some ⟨nb,0,none⟩)]) (hnb:w.heap.size<=nb):JInv w F a l nb wb b6 m s (ah0 F) n 0 W:=by
 have he:lkJ F a l nb 0=lk0 F:=by funext q k;exact x3i ..
 exact ⟨by rw [he];exact hw.later hb,⟨B,hB,hBs,b0,b1,b2,fun k' h=>absurd h (Nat.not_lt_zero _)⟩,hway,hbox,Far.of_below hb,fun e=>by have:=hw.lt e;omega⟩
theorem z9b(G:Nat)(caps:Array Value)(b:Addr)(cap:Nat)(w:World):Calls Tryz.prog 211 #[.func (.func G) #[] caps,.slice (some b) 0 cap] w fun e w'=>e=.returned (.tuple #[])/\w'=w:=by
 go_enter Tryz.func211,Tryz.ntmps211
 go_wp2
 go_loopw [8] (fun i wr=>i=.int .i64 0/\wr=w) (fun _ _=>0)
 case atStart=>exact ⟨rfl,rfl⟩
 case round =>
  obtain ⟨rfl,rfl⟩:=hrel;go_wp2;go_returns;exact ⟨rfl,rfl⟩
theorem v1q{w0 w3:World}{F:List Nd}{a l nb wb b6:Nat}{m:ByteArray}{s:Int}{n:Int}{x0:Nd}(hF0:lev F 0=32)(ha:a<F.length)(hl:0<l/\l<=32)(hJ:JInv w0 F a l nb wb b6 m s (ah0 F) n 32 w3)(hx0:F[a]?=some x0) :
 w3.cell? ⟨b6,0,none⟩=some (.pointer (some ⟨nb,0,none⟩))/\w3.cell? ⟨wb,0,none⟩=some (.pointer (some ⟨x0.b,0,none⟩))/\∃ w4,(Calls Tryz.prog 212 #[.pointer (some ⟨nb,0,none⟩)] w3 fun e w'=>e=.returned (.tuple #[])/\w'=w4)/\w4.cell? ⟨wb,0,none⟩=some (.pointer (some ⟨x0.b,0,none⟩)) /\
  (Calls Tryz.prog 212 #[.pointer (some ⟨x0.b,0,none⟩)] w4 fun e w'=>e=.returned (.tuple #[])/\w'=w4.setCell ⟨nb,2,none⟩ (.pointer (some ⟨x0.b,0,none⟩))) /\
  Far (fun q=>isB F q\/q=nb) w0 (w4.setCell ⟨nb,2,none⟩ (.pointer (some ⟨x0.b,0,none⟩)))/\Sk (w4.setCell ⟨nb,2,none⟩ (.pointer (some ⟨x0.b,0,none⟩))) (Va F a ⟨nb,m,s,l⟩) (lk0 (Va F a ⟨nb,m,s,l⟩)) (ah0 (Va F a ⟨nb,m,s,l⟩)) n:=by
 obtain ⟨hsk,⟨B,hB,hBs,b0,b1,b2,hBl⟩,hway,hbox,hfar,hfr⟩:=hJ;have hp:∀ i,i<F.length->0<lev F i:=fun i hi=>by rw [X8 (lAa hi)];exact (hsk.lev i _ (lAa hi)).1
 have hla:=Qe F hp a ha;have hnx:=Fd hp a ha;have hax:=Yk hx0;have w0c:=(Pf F a 0 (by decide)).1;rw [hla,hax] at w0c
 have hwb:∀ q (x:Nd),F[q]?=some x->wb≠x.b:=fun q x hq e=>by
  obtain ⟨A,hA,_⟩:=hsk.node q x hq;exact absurd ((e ▸ hway:Blk w3 x.b 294 _).ty hA) (fun e2=>(z0m _).2.2.1 e2.symm)
 have hB3:=(hBl 0 (by decide) hl.1).1;rw [hla] at hB3;have hB3:B[3]?=some (adr F (a+1)):=by unfold lk0 at hB3;rw [hnx] at hB3;exact hB3
 obtain ⟨A0,hA0,hN0⟩:=hsk.node a x0 hx0;have hA3:=(hN0.link 0 (hsk.lev _ _ hx0).1).1;have hA3:A0[3]?=some (.pointer (some ⟨nb,0,none⟩)):=by unfold lkJ at hA3;rw [if_pos ⟨by decide,hla.symm⟩,if_pos hl.1] at hA3;exact hA3
 have hnx0:nb≠x0.b:=fun e=>hfr (e ▸ Vl hx0);refine ⟨hbox.cell 0,(hway.cell _).trans w0c,?_⟩
 by_cases hlast:a+1<F.length
 ·obtain ⟨y,hy⟩:∃ y,F[a+1]?=some y:=⟨_,lAa hlast⟩;rw [Yk hy] at hB3;obtain ⟨A1,hA1,hN1⟩:=hsk.node _ y hy;have hs1:67<=A1.size:=by rw [hN1.size];unfold szq;split <;> decide
  have hny:nb≠y.b:=fun e=>hfr (e ▸ Vl hy);have hxy:x0.b≠y.b:=fun e=>absurd (hsk.inj _ _ _ _ hx0 hy e) (by omega);have hsk4:=hsk.setAh hy (.pointer (some ⟨nb,0,none⟩)) (fun q=>if q=a+1 then .pointer (some ⟨nb,0,none⟩) else ah0 F q) (if_pos rfl) (fun q hq=>if_neg hq);refine ⟨_,Fx nb 263 y.b _ B A1 w3 hB hB3 hA1 (by omega),((hway.setOther 2 _ (hwb _ y hy)).cell _).trans w0c,Fx x0.b _ nb 263 A0 B _ (hA0.setOther 2 _ hxy) hA3 (hB.setOther 2 _ hny) (by omega),?_,?_⟩
  ·exact (hfar.set ⟨y.b,2,none⟩ _ (.inl (.inl (Vl hy)))).set ⟨nb,2,none⟩ _ (.inl (.inr rfl))
  ·have:=x2e hF0 ha hl hsk4 (fun q _=>rfl) (hB.setOther 2 _ hny) hBs b0 b1 hBl hfr
   rw [hax] at this;exact this
 ·rw [Gn (by omega)] at hB3;refine ⟨w3,y0b nb 263 B w3 hB hB3,(hway.cell _).trans w0c,Fx x0.b _ nb 263 A0 B _ hA0 hA3 hB (by omega),?_,?_⟩
  ·exact hfar.set ⟨nb,2,none⟩ _ (.inl (.inr rfl))
  ·have:=x2e (ah1:=ah0 F) hF0 ha hl hsk (fun q hq=>by rw [if_neg (by omega)]) hB hBs b0 b1 hBl hfr
   rw [hax] at this;exact this
variable {F:List Nd} {ah:Nat->Value} {n:Int}
theorem x2s(p:Nat)(L:List Nd)(hF:F=hd p :: L)(w:World)(hw:Sk w F (lk0 F) (ah0 F) n)(hN:F.length<=1000000)(a:Nat)(ha:a<F.length)(m:ByteArray)(hm:m.size<=281474976710656)(s:Int)(l:Nat)(hl:0<l/\l<=32) :
 Calls Tryz.prog 185 #[.agg (Ys F a),.agg #[.string m,.int .i64 s],.int .i64 l] w fun e w'=>e=.returned (.tuple #[])/\∃ nb,w.heap.size<=nb/\Far (fun q=>isB F q\/q=nb) w w'/\Sk w' (Va F a ⟨nb,m,s,l⟩) (lk0 (Va F a ⟨nb,m,s,l⟩)) (ah0 (Va F a ⟨nb,m,s,l⟩)) n:=by
 have hz:=v3f;have HC:=fun w=>jY (Ot m w hm);have hw1:=X6 F a;have HWA:=jY (rfl:Ys F a=Ys F a);generalize hWA:Ys F a=WA at *;have HWA2:=jY hWA;clear hWA HWA;have hzs:z61.size=67:=by decide +kernel
 have hz2:z61[2]?=some (.pointer none):=by rfl
 generalize hz61:z61=zz at *;have HZ2:=jY hz2;clear hz2;have HZ:=jY hz61;have HW:=jY hw;clear hz61 hw;have hl1:(0:Int)<l:=by omega
 have hl2:(l:Int)<=32:=by omega
 go_enter Tryz.func185,Tryz.ntmps185
 go_wp2_with fail;refine (HC _).out.mono ?_;rintro e w1 ⟨rfl,hb1⟩;have kW:=((Blk.new w 294 WA).alloc (Obj.cells #[.string m,.int .i64 s] 94)).later hb1;have kE:=(Blk.new (w.alloc (Obj.cells WA 294)) 94 #[.string m,.int .i64 s]).later hb1;simp only [World.size_alloc] at kE;have hbw:Bl w w1:=(((Below.refl _ _).alloc (lAd _) _).alloc (by simp) _).trans (hb1.mono (by simp;omega));obtain ⟨e0,e1,e2,e3⟩:=Za kE;have KW:=jY kW;have KE:=jY kE;have HBW:=jY hbw;clear kW kE hbw hb1
 have hJ0:JInv w F a l w1.heap.size w.heap.size (w1.heap.size+1) m s (ah0 F) n 0 (((w1.setCell ⟨w.heap.size+1,0,none⟩ (.string m)).alloc (.cells ((zz.setIfInBounds 0 (.string m)).setIfInBounds 1 (.int .i64 s)) 263)).alloc (.cells #[.pointer (some ⟨w1.heap.size,0,none⟩)] 258)):=by
  have hsz:(w1.setCell ⟨w.heap.size+1,0,none⟩ (.string m)).heap.size=w1.heap.size:=by simp [World.setCell]
  have hnb:=(Blk.new (w1.setCell ⟨w.heap.size+1,0,none⟩ (.string m)) 263 ((zz.setIfInBounds 0 (.string m)).setIfInBounds 1 (.int .i64 s))).alloc (Obj.cells #[.pointer (some ⟨w1.heap.size,0,none⟩)] 258);have hb6:=Blk.new ((w1.setCell ⟨w.heap.size+1,0,none⟩ (.string m)).alloc (.cells ((zz.setIfInBounds 0 (.string m)).setIfInBounds 1 (.int .i64 s)) 263)) 258 #[.pointer (some ⟨w1.heap.size,0,none⟩)];rw [World.size_alloc,hsz] at hb6;rw [hsz] at hnb;have hbw:=HBW.out;have hb':Bl w (w1.setCell ⟨w.heap.size+1,0,none⟩ (.string m)):=⟨hbw.os,hbw.tape,hbw.output,by rw [hsz];exact hbw.size,fun q hq=>(Below.heap_setCell _ _ _ _ (by show q≠w.heap.size+1;omega)).trans (hbw.block q hq)⟩;refine v3o HW.out ((hb'.alloc hb'.size _).alloc (by rw [World.size_alloc];exact Nat.le_succ_of_le hb'.size) _) hnb (by simpa using hzs) ?_ ?_ ?_ ?_ hb6 hbw.size
  ·rw [Array.getElem?_setIfInBounds_ne (by decide),Array.getElem?_setIfInBounds_self_of_lt (by omega)]
  ·rw [Array.getElem?_setIfInBounds_self_of_lt (by simp;omega)]
  ·rw [Array.getElem?_setIfInBounds_ne (by decide),Array.getElem?_setIfInBounds_ne (by decide)];exact HZ2.out
  ·rw [HWA2.out];exact ((KW.out.setOther 0 (.string m) (by omega)).alloc _).alloc _
 have hF0:lev F 0=32:=by rw [hF];rfl
 have hlast:∀ k,k<32->Zn F k a<F.length:=fun k hk=>by have:=(Yi F k (by omega) a).1;omega
 have hp:=Bf HW.out;have HR1:=jY (Gf (z7z (w0:=w) (wb:=w.heap.size) (b6:=w1.heap.size+1) (nb:=w1.heap.size) (m:=m) (s:=s) (ah:=ah0 F) (n:=n) hF0 hp hN ha hl.2) hlast (by omega) 32 _ hJ0);have HR2:=fun W hW=>jY (Gf (y2d (w0:=w) (wb:=w.heap.size) (b6:=w1.heap.size+1) (nb:=w1.heap.size) (m:=m) (s:=s) (ah:=ah0 F) (n:=n) (l:=l) hF0 hN ha hl.2) hlast (by omega) (32-l) W hW);have hnb1:=HBW.out.size;clear hJ0 KW KE HZ2 HC hp hlast;go_wp2_with fail;clear e0 e1 e2 e3 hz hzs;refine HR1.out.mono ?_;rintro e w2 ⟨rfl,hJ1⟩;rw [Nat.zero_add] at hJ1;have HR3:=jY (HR2 w2 hJ1).out;have HN3:=jY (z9b 210 #[] ⟨w.heap.size,0,none⟩ 0 w2);clear HR1 HR2;obtain ⟨x0,hx0⟩:∃ x0,F[a]?=some x0:=⟨_,lAa ha⟩;have HFIN:=fun w3 (hJ:JInv w F a l w1.heap.size w.heap.size (w1.heap.size+1) m s (ah0 F) n 32 w3)=>jY (v1q hF0 ha hl hJ hx0);have hpath:l=32\/l<32:=by omega
 have HJ1:=jY hJ1;clear hJ1 HW HWA2 hF hx0;rcases hpath with rfl|hlt
 ·clear HR3;go_wp2_with fail;refine HN3.out.mono ?_;rintro e w3 ⟨rfl,rfl⟩;obtain ⟨q0,q1,w4,T1,q2,q3⟩:=(HFIN _ HJ1.out).out;have T1:=jY T1;have q3:=jY q3;clear HFIN HJ1 HN3;go_wp2_with fail;refine T1.out.mono ?_;rintro e w5 ⟨rfl,rfl⟩;obtain ⟨T2,hf⟩:=q3.out;have T2:=jY T2;have HF:=jY hf;clear hf q3 T1;go_wp2_with fail;refine T2.out.mono ?_;rintro e w6 ⟨rfl,rfl⟩;go_wp2_with fail;go_returns;exact ⟨rfl,w1.heap.size,hnb1,HF.out⟩
 ·clear HN3;have hne:¬ ((l:Int)=32):=by omega
  go_wp2_with fail;refine HR3.out.mono ?_;rintro e w3 ⟨rfl,hJ2⟩;rw [show l+(32-l)=32 by omega] at hJ2;obtain ⟨q0,q1,w4,T1,q2,q3⟩:=(HFIN _ hJ2).out;have T1:=jY T1;have q3:=jY q3;clear HFIN HJ1 HR3 hJ2;go_wp2_with fail;refine T1.out.mono ?_;rintro e w5 ⟨rfl,rfl⟩;obtain ⟨T2,hf⟩:=q3.out;have T2:=jY T2;have HF:=jY hf;clear hf q3 T1;go_wp2_with fail;refine T2.out.mono ?_;rintro e w6 ⟨rfl,rfl⟩;go_wp2_with fail;go_returns;exact ⟨rfl,w1.heap.size,hnb1,HF.out⟩
theorem z0s{op:Oper}{a:Act}{w:World}{K:Act->World->Prop}{Q:Exit->Act->World->Prop}(ho:op.op=.alloc 294)(h:K (a.put op.dst (.pointer (some ⟨w.heap.size,0,none⟩))) (w.alloc (.cells zW 294))):op.wp Tryz.prog a w K Q:=by
 unfold Oper.wp execOp;simp [ho,go_sem];exact h
variable {F:List Nd} {n:Int}
theorem G6(p:Nat)(L:List Nd)(hF:F=hd p :: L)(w:World)(hw:Sk w F (lk0 F) (ah0 F) n)(hN:F.length<=1000000)(hn:n=L.length)(a:Nat)(ha:a<F.length)(m:ByteArray)(hm:m.size<=281474976710656)(s:Int)(l:Nat)(hl:0<l/\l<=32)(hq:∀ q x,0<q->F[q]?=some x->Yc x.m x.s m s=decide (q<=a)) :
 Calls Tryz.prog 166 #[.pointer (some ⟨p,0,none⟩),.agg #[.string m,.int .i64 s],.int .i64 l] w fun e w' =>
  (Qq F (a+1) m s=true->e=.returned (.int .i64 90)/\Bl w w') /\
  (Qq F (a+1) m s=false->e=.returned (.int .i64 0)/\∃ nb,w.heap.size<=nb/\Far (isB F) w w'/\Sk w' (Va F a ⟨nb,m,s,l⟩) (lk0 (Va F a ⟨nb,m,s,l⟩)) (ah0 (Va F a ⟨nb,m,s,l⟩)) (n+1)):=by
 have hb1:Bl w (w.alloc (.cells #[.string m,.int .i64 s] 94)):=(Below.refl _ _).alloc (lAd _) _;have kE:Blk (w.alloc (.cells #[.string m,.int .i64 s] 94)) w.heap.size 94 #[.string m,.int .i64 s]:=Blk.new _ _ _;have HT:=jY (Cs p L hF (hw.later hb1) hN m s a ha hq);have HB1:=jY hb1;have HE:=jY kE;have HW:=jY hw;have h1:¬ (l:Int)<1:=by omega
 have h2:¬ 32<(l:Int):=by omega
 have HF:=jY hF;have hF0:F[0]?=some (hd p):=by rw [hF];rfl
 have HF0:=jY hF0
 have hnn:n<=1000000:=by
  have:=congrArg List.length hF
  simp at this;omega
 have hn0:0<=n:=by omega
 clear hb1 kE hw hq hF hF0 hn
 go_enter Tryz.func166,Tryz.ntmps166
 go_wp2_with fail;rename_i Kk hKk;refine HT.out.mono ?_;rintro e w2 ⟨rfl,hb2⟩;have hb3:=HB1.out.trans (hb2.mono HB1.out.size);have kE2:=HE.out.later hb2;refine hKk _ _ ?_;refine wpList_plain rfl ?_;intro K2 hK2;refine z0s rfl ?_;refine hK2 _ _ ?_;clear hK2 K2;refine wpList_plain rfl ?_;intro K2 hK2;refine O5 _ _ rfl _ rfl rfl (Blk.new _ _ _) Ig (X6 F a) (Ie F a) ?_;refine hK2 _ _ ?_;clear hK2 K2;have kW:Blk ((w2.alloc (.cells zW 294)).setRow w2.heap.size (Ys F a)) w2.heap.size 294 (Ys F a):=(Blk.new _ _ _).setRow _;have hb4:Bl w2 ((w2.alloc (.cells zW 294)).setRow w2.heap.size (Ys F a)):=⟨rfl,rfl,rfl,by rw [Qy];simp,fun q hq=>(U0 _ (Nat.ne_of_lt hq)).trans (((Below.refl w2.heap.size w2).alloc (lAd _) _).block q hq)⟩;have kE4:=kE2.later hb4;have hb5:=hb3.trans (hb4.mono hb3.size);generalize (w2.alloc (.cells zW 294)).setRow w2.heap.size (Ys F a)=w3 at *;generalize w2.heap.size=wb at *;have hp:=Bf HW.out;have hla:=Qe F hp a ha;have hnx:=Fd hp a ha;obtain ⟨x0,hx0⟩:∃ x0,F[a]?=some x0:=⟨_,lAa ha⟩;have HLD:=jY (z2a (HW.out.later hb5) 0 a (by decide) ha (hp a ha) m s);obtain ⟨c0,c1,c2⟩:=Pf F a 0 (by decide);rw [hnx,Yk hx0] at HLD;rw [hla] at c0 c1;rw [Yk hx0] at c0;have c0:=(kW.cell _).trans c0;have c1:=(kW.cell _).trans c1;have c2:=(kW.cell _).trans c2;simp only [Nat.zero_mul,Nat.zero_add] at c0 c1 c2;obtain ⟨e0,e1,_,_⟩:=Za kE4;have KW:=jY kW;have KE:=jY kE4;have HB5:=jY hb5;clear HT HE kE2 hb2 hb3 hb4 hb5 kW kE4 hp hla hnx hx0 hKk Kk;have hws:=X6 F a;have hw1:=Ie F a;have HJN:=fun W (hb:Bl w W)=>jY (x2s p L HF.out W (HW.out.later hb) hN a ha m hm s l hl);obtain ⟨A0,hA0,hN0⟩:=HW.out.node 0 (hd p) HF0.out;have n0:=(hA0.cell 67).trans (hN0.n rfl);have HA0:=jY hA0;obtain ⟨bb,hbb⟩:∃ bb,Qq F (a+1) m s=bb:=⟨_,rfl⟩;rw [hbb] at HLD;have HBB:=jY hbb;clear hbb;generalize Ys F a=WA at *;clear hA0 hN0;go_wp2_with fail;rename_i K3 hK3 K2 hK2 K1 hK1;have HK3:=jY hK3;clear hK3;refine HLD.out.mono ?_;rintro e w4 ⟨rfl,hb6⟩;have hbw:=HB5.out.trans (hb6.mono HB5.out.size);have kW4:=KW.out.later hb6;have kE4:=KE.out.later hb6;obtain ⟨e0',e1',_,_⟩:=Za kE4;have HBW:=jY hbw;have KW4:=jY kW4;clear hb6 hbw kW4 kE4 c0 c1 c2 e0 e1
 cases bb with
 | true =>
   go_wp2_with fail;go_returns;refine ⟨fun _=>⟨rfl,HBW.out⟩,fun h=>?_⟩;rw [HBB.out] at h
   cases h
 | false =>
   go_wp2_with fail;refine HK3.out _ _ ?_;refine wp_seq_k fun K4 hK4=>wp_region_lit ?_;refine wpList_plain rfl ?_;intro K5 hK5;refine z3j _ rfl _ rfl KW4.out hws ?_;refine hK5 _ _ ?_;clear hK5 K5;go_wp2_with fail;refine (HJN _ HBW.out).out.mono ?_;rintro e w5 ⟨rfl,nb,hnb,hf,hsk⟩;have hx0':(Va F a ⟨nb,m,s,l⟩)[0]?=some (hd p):=by rw [Be ha (Nat.zero_le _)];exact HF0.out
   obtain ⟨A5,hA5,hN5⟩:=hsk.node 0 (hd p) hx0';have n5:w5.cell? ⟨p,67,none⟩=some (.int .i64 n):=(hA5.cell 67).trans (hN5.n rfl);have n6:w5.frozen? ⟨p,67,none⟩=false:=hA5.free 67;have HSK:=jY hsk;have HFF:=jY hf;have HX0:=jY hx0';clear hsk hf hA5 hN5 hx0';go_wp2_with fail;go_returns;refine ⟨fun h=>?_,fun _=>⟨rfl,nb,?_,?_,HSK.out.setN HX0.out (n+1)⟩⟩
   ·rw [HBB.out] at h
    cases h
   ·exact lAe HBW.out.size hnb
   ·have f1:Far (isB F) w w5:=(Far.of_below HBW.out).trans (HFF.out) (fun q hq=>by
     rcases hq with h|rfl
     ·exact .inl h
     ·exact .inr (lAe HBW.out.size hnb))
    exact f1.set ⟨p,67,none⟩ _ (.inl (Vl HF0.out))
end Go.Proofs.YtcklcmafohlflaaGreatDoor.Sk
