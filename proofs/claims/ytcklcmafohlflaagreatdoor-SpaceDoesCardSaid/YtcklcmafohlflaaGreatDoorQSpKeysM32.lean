/- Texts of one kind in one: SpKeysM, ZSame, PkRefIns, SkRefLess. -/
import Derived.Test.YtcklcmafohlflaaGreatDoorQSpRename28
import Derived.Test.YtcklcmafohlflaaGreatDoorQStPdq31
import Derived.Deep.DrawnRows
set_option maxRecDepth 200000
set_option maxHeartbeats 8000000
namespace Go.Proofs.YtcklcmafohlflaaGreatDoor
open Zc (Ent Ext KeepC Ym Z9 Zg Xg Zx Zb Zv Yo Y5 Ze Zz Z4 Zd)
open Go.RowKit Go.Shelf Go.Sort Sk
attribute [local go_sem] Oper.semAt_some
theorem y6u(w:World)(os:Array Obj):Bl w (Sort.grow w os):=⟨rfl,rfl,rfl,by rw [Sort.size_grow];omega,fun k hk=>Sort.heap_grow_old _ _ hk⟩
theorem y9x:Dc.Dt.Xh []=[]:=by unfold Dc.Dt.Xh;simp
theorem z2d(l:List (List UInt8)):(Dc.Dt.Xh l).length=l.length:=by unfold Dc.Dt.Xh;simp
section
variable {w w':World} {p sd c:Nat} {S:Nat->Prop} {en mn:Int} {L:List Th}
theorem x9s(h:SpSt w p en mn sd c L S)(hE:Dc.Dt.Env w) :
 Calls Tryz.prog 11 #[.pointer (some ⟨p,0,none⟩)] w fun e w'=>∃ u,e=.returned u/\Dc.Dt.Own9 w' w.heap.size u (Dc.Dt.Xh ((itl L).map Dl))/\Bl w w':=by
 have hlen:=h.len;obtain ⟨d,⟨rv,hblk⟩,hall⟩:=v2t h hE;have HT:=jY (M5 p d sd en mn rv w hblk);have HA:=jY hall;clear hall hblk h hE
 go_enter Tryz.func11,Tryz.ntmps11
 go_wp2_with fail;refine HT.out.mono ?_;rintro e w1 ⟨rfl,rfl⟩;go_wp2_with fail;refine HA.out.mono ?_;rintro e w2 ⟨u,ks,rfl,hO,hperm,hb⟩
 have hkl:ks.length<=500:=by
  rw [hperm.length_eq,List.length_map];unfold itl;rw [List.length_map];exact hlen
 have HSK:=jY (show Dc.Dt.Xh ((itl L).map Dl)=Dc.Dt.Xh ks from z9p hperm.symm);have HB:=jY hb;clear hb hperm HT HA hlen;have hO':=hO;unfold Dc.Dt.Own9 at hO';rcases hO'.2 with ⟨hnil,h0⟩|⟨g,cap2,cur,hv,hbase,hgb,h1,h2,h3,h4⟩
 ·subst hnil;have hks:ks=[]:=List.eq_nil_of_length_eq_zero h0;have HS:=jY (fun W (lf:Fn) (la lb:Array Value)=>St.z0j none 0 0 (by omega) lf la lb W);have HK:=jY hks;clear hO hO' h0 hks hkl;go_wp2_with fail;refine (HS.out _ _ _ _).mono ?_;rintro e w3 ⟨rfl,os,rfl⟩;have hfin:=HB.out.trans ((y6u w2 os).mono HB.out.size);go_wp2;go_ret;refine ⟨_,rfl,?_,hfin⟩;rw [HSK.out,HK.out,y9x];exact show Dc.Dt.Own9 _ _ (.slice none 0 0) [] from World.ownsRow_nil _ _ _ _
 ·subst hv;have hgl:g<w2.heap.size:=(Array.getElem?_eq_some_iff.1 hgb).1;have hS:=St.y9v (g:=g) (cap:=cap2) (w:=w2) (ss:=ks) (holds_of_block hgb (by simpa using h4)) hgl (by omega);have HS:=jY hS
  have HFN:=jY (fun n os=>show Dc.Dt.Own9 (Sort.grow (putRow encStr (Sort.ahead w2 n) g 0 (ks.mergeSort fun x y=>decide (x<=y)).toArray) os) w1.heap.size (.slice (some ⟨g,0,none⟩) ks.length cap2) (Dc.Dt.Xh ((itl L).map Dl))/\Bl w1 (Sort.grow (putRow encStr (Sort.ahead w2 n) g 0 (ks.mergeSort fun x y=>decide (x<=y)).toArray) os) from by
   rw [HSK.out];have e1:=ownsRow_sorted (n:=n) (os:=os) (ss:=ks) (ts:=Dc.Dt.Xh ks) (by rw [z2d]) hbase hgb h1 h2 h3;refine ⟨?_,HB.out.grown (grownBy_sorted _) HB.out.size (fun k e=>by cases e;exact hbase)⟩;unfold Dc.Dt.Own9;rw [z2d]
   exact e1)
  clear hO hO' hgb hS h1 h2 h3 h4 hgl hkl HSK;go_wp2_with fail;refine HS.out.mono ?_;rintro e w3 ⟨rfl,n8,os8,rfl⟩;have hfin:=HFN.out n8 os8;go_wp2;go_ret;exact ⟨_,rfl,hfin⟩
end
end Go.Proofs.YtcklcmafohlflaaGreatDoor
namespace Go.Proofs.YtcklcmafohlflaaGreatDoor
open Zc (Ent Ext KeepC Ym Z9 Zg Xg Zx Zb Zv Yo Y5 Ze Zz Z4 Zd)
open Go.RowKit Go.Shelf Sk
attribute [local go_sem] Oper.semAt_some
theorem x3u(m:ByteArray)(s:Int)(W:World):(binOp .neq 94 (.agg #[.string m,.int .i64 s]) (.agg #[.string m,.int .i64 s])).run Tryz.prog W=.ok (.bool false) W:=by simp [go_sem]
theorem y9g{n0 n1:Nat}(v1 v2:Value)(l:List En)(hl:l.length<=1000000)(w:World)(h1:Row w n0 v1 l)(h2:Row w n1 v2 l):Calls Tryz.prog 17 #[v1,v2] w fun e w'=>e=.returned (.bool true)/\Bl w w':=by
 obtain ⟨a1,c1,rfl⟩:=h1.form;obtain ⟨a2,c2,rfl⟩:=h2.form;have H1:=jY (fun W (hb:Bl w W)=>h1.later hb);have H2:=jY (fun W (hb:Bl w W)=>h2.later hb);clear h1 h2
 go_enter Tryz.func17,Tryz.ntmps17
 go_wp2
 go_loopw [5] (fun i wr=>∃ (k:Nat),i=.int .i64 k/\k<=l.length/\Bl w wr) (fun i _=>l.length-(intOf i).toNat)
 case atStart=>exact ⟨0,rfl,by omega,Below.refl _ _⟩
 case round =>
  obtain ⟨k,rfl,hk,hbr⟩:=hrel
  by_cases hlt:k<l.length
  ·have hx:l[k]?=some l[k]:=lAa hlt;generalize l[k]=x at *;obtain ⟨b1,o1,c1',e1,p1,q1⟩:=Xo (H1.out wr hbr) hx;obtain ⟨b2,o2,c2',e2,p2,q2⟩:=Xo (H2.out wr hbr) hx
   injection e1 with e1 _ f1
   injection e2 with e2 _ f2
   subst e1 f1 e2 f2;have hk2:(k:Int)<l.length:=by omega
   have hne:=x3u x.1 x.2;have HBR:=jY hbr;clear hx hbr H1 H2;go_wp2_with fail
   go_quiet (fail)
   go_wp2_with fail;exact ⟨⟨k+1,by go_num,hlt,HBR.out.trans ((Zk wr _).mono HBR.out.size)⟩,by simp [intOf];omega⟩
  ·obtain rfl:k=l.length:=by omega
   go_wp2;go_returns;exact ⟨rfl,hbr⟩
end Go.Proofs.YtcklcmafohlflaaGreatDoor
namespace Go.Proofs.YtcklcmafohlflaaGreatDoor.Pk
open Zc
open Go.RowKit Go.Shelf
attribute [local go_sem] Oper.semAt_some
theorem y0q(xs:List Ent):∀ (j:Nat) (u:Value),(Zx xs)[j]?=some u->∃ i,∃ h:i<xs.length,(j=i*2/\u=.string xs[i].1)\/(j=i*2+1/\u=.int .i64 xs[i].2):=by
 induction xs with
 | nil=>intro j u h;simp [Zx] at h
 | cons e xs ih =>
   intro j u h;rw [show Zx (e :: xs)=.string e.1 :: .int .i64 e.2 :: Zx xs from rfl] at h
   match j,h with
   | 0,h=>exact ⟨0,by simp,.inl ⟨rfl,by simpa using h.symm⟩⟩
   | 1,h=>exact ⟨0,by simp,.inr ⟨rfl,by simpa using h.symm⟩⟩
   | j+2,h =>
     obtain ⟨i,hi,hx⟩:=ih j u (by simpa using h);refine ⟨i+1,by simp;omega,?_⟩;simp only [List.getElem_cons_succ];rcases hx with ⟨h1,h2⟩|⟨h1,h2⟩
     ·exact .inl ⟨by omega,h2⟩
     ·exact .inr ⟨by omega,h2⟩
theorem y0r(xs:List Ent):∀ u∈Zx xs,u.oneCell'=true:=by
 intro u hu;obtain ⟨e,_,he⟩:=List.mem_flatMap.1 hu;simp at he;rcases he with rfl|rfl <;> rfl
theorem z6m{W:World}{n0:Nat}{r:Value}{l xs:List Ent}{a:Option Addr}(hown:Own35 W n0 r l)(hE:Ents W a xs)(cap:Nat)(hl:l.length<=1000000)(hx:xs.length<=1000000)(hn:n0<=W.heap.size) :
 ∃ v' W',(Builtin.append_ #[55,55] 55 #[r,.slice a xs.length cap]).run Tryz.prog W=.ok v' W'/\Own35 W' n0 v' (l++xs)/\W.grownBy W' r.ownBlock:=by
 obtain ⟨i0,hi0,hz0,hz1,hz2⟩:=info_parts Yo;have hlen:(l++xs).length=l.length+xs.length:=lAh
 cases a with
 | none =>
   have h0:xs=[]:=by
    cases xs with
    | nil=>rfl
    | cons e xs=>obtain ⟨b,off,h,_⟩:=hE 0 (by simp);cases h
   subst h0;refine ⟨r,W,?_,by rw [List.append_nil];exact hown,World.grownBy.refl W _⟩;rcases hown.2 with ⟨rfl,hl0⟩|⟨g,c,cur,rfl,_,_,hc,_⟩
   ·simp [Builtin.append_,run_underlying Tryz.underlying55,sizeOf,typeInfo,hi0,Builtin.lenOf,Builtin.firstCells]
   ·simp [Builtin.append_,run_underlying Tryz.underlying55,sizeOf,typeInfo,hi0,Builtin.lenOf,Builtin.firstCells,hc,storeCells]
 | some ad =>
   obtain ⟨v',W',h1,h2,h3,_⟩:=run_append_own (P:=Tryz.prog) W n0 55 55 94 i0 _ 2 24 Tryz.underlying55 hi0 hz0 hz1 hz2 rfl (by decide) r _ _ hown ad xs.length cap (Zx xs) (z0w xs)
    (fun j u hu=>by
      obtain ⟨i,hi,hx⟩:=y0q xs j u hu;obtain ⟨b,off,h,c0,c1⟩:=hE i hi
      cases h
      rcases hx with ⟨rfl,rfl⟩|⟨rfl,rfl⟩
      ·rw [Addr.add_lit];exact c0
      ·rw [Addr.add_lit,<- Nat.add_assoc];exact c1)
    (y0r xs) (by unfold maxLen;omega) (by omega) hn
   refine ⟨v',W',h1,?_,h3⟩;unfold Own35;rw [hlen,Zb];exact h2
theorem Ents.take{W:World}{a:Option Addr}{l:List Ent}(h:Ents W a l)(k:Nat):Ents W a (l.take k):=fun i hi=>by
 have h2:i<l.length:=by simp at hi;omega
 simp only [List.getElem_take];exact h i h2
theorem Ents.drop{W:World}{a:Option Addr}{l:List Ent}(h:Ents W a l)(k cap:Nat)(hc:l.length<=cap):Ents W (if cap=k then a else a.map (·.add (k*2))) (l.drop k):=fun i hi=>by
 have h2:k+i<l.length:=by simp at hi;omega
 obtain ⟨b,off,rfl,c0,c1⟩:=h (k+i) h2;rw [if_neg (by omega)];refine ⟨b,off+k*2,by simp [Addr.add_lit],?_,?_⟩
 ·simp only [List.getElem_drop];rw [show off+k*2+i*2=off+(k+i)*2 by omega];exact c0
 ·simp only [List.getElem_drop];rw [show off+k*2+i*2+1=off+(k+i)*2+1 by omega];exact c1
theorem Oj{ops:Array Oper}{o:Oper}{a:Act}{W:World}{K:Act->World->Prop}{Q:Exit->Act->World->Prop}{E:Prop}(hgd:o.guard=none)(s x:Operand)
 (ho:o.op=Op.call { callee:=Callee.builtin Builtin.append,args:=#[s,x],argTypes:=#[55,55] }) (hty:o.type=55)
 {n0:Nat} {r:Value} {l xs:List Ent} {ad:Option Addr} {m cap:Nat} (hs:a.eval s=r) (hx:a.eval x=.slice ad m cap) (hm:m=xs.length)
 (hown:Own35 W n0 r l) (hE:Ents W ad xs) (hl:l.length<=1000000) (hxl:xs.length<=1000000) (hn:n0<=W.heap.size)
 (h:∀ v' W',Own35 W' n0 v' (l++xs)->W.grownBy W' r.ownBlock->K (a.put o.dst v') W'):if Region.wanted o (yielded ops a.tmps)=true then Oper.wp Tryz.prog o a W K Q else E:=by
 subst hm;obtain ⟨v',W',hrun,h2,h3⟩:=z6m hown hE cap hl hxl hn;exact Dc.Vg hgd s x 55 55 ho hs hx (by rw [hty];exact hrun) (h v' W' h2 h3)
theorem P6{ops:Array Oper}{rest:List Oper}{o:Oper}{a:Act}{W:World}{Q:Exit->Act->World->Prop}(hgd:o.guard=none)(s x:Operand)
 (ho:o.op=Op.call { callee:=Callee.builtin Builtin.append,args:=#[s,x],argTypes:=#[55,55] }) (hty:o.type=55)
 {n0:Nat} {r:Value} {l xs:List Ent} {ad:Option Addr} {m cap:Nat} (hs:a.eval s=r) (hx:a.eval x=.slice ad m cap) (hm:m=xs.length)
 (hown:Own35 W n0 r l) (hE:Ents W ad xs) (hl:l.length<=1000000) (hxl:xs.length<=1000000) (hn:n0<=W.heap.size)
 (h:∀ v' W',Own35 W' n0 v' (l++xs)->W.grownBy W' r.ownBlock->wpList Tryz.prog ops Q rest (a.put o.dst v') W'):wpList Tryz.prog ops Q (o :: rest) a W:=by
 subst hm;obtain ⟨v',W',hrun,h2,h3⟩:=z6m hown hE cap hl hxl hn;refine wpList_plain hgd fun K hK=>?_;unfold Oper.wp;simp [execOp,ho,resolve,invoke,builtin,hs,hx,hty,hrun,Result.andThen];exact hK _ _ (h v' W' h2 h3)
theorem Im(a:Option Addr)(cap:Nat)(l:List Ent)(hl:l.length<=1000)(hc:l.length<=cap)(k:Nat)(hk:k<l.length)(w:World)(hE:Ents w a l) :
 Calls Tryz.prog 63 #[.slice a l.length cap,.int .i64 k] w fun e w'=>∃ r,e=.returned r/\Own35 w' w.heap.size r (l.take k++l.drop (k+1))/\Bl w w':=by
 have hk0:(0:Int)<=k:=by omega
 have hk1:(k:Int)<=cap:=by omega
 have hk2:(k:Int)<l.length:=by omega
 have hk3:(k:Int)<=1000:=by omega
 have ho0:Own35 w w.heap.size (.slice none 0 0) []:=World.ownsRow_nil _ _ _ _;have HE:=jY hE;have hd:=HE.out.drop (k+1) cap hc;have hg1:IntKind.i64.wrap ((k:Int)+1)=(k:Int)+1:=IntWalk.i64_in _ (by omega);have ht:(l.take k).length=k:=by simp;omega
 have hdl:(l.drop (k+1)).length=l.length-(k+1):=List.length_drop;have HT:=jY ht;have HD:=jY hd;have HDL:=jY hdl;clear ht hd hdl hE
 go_enter Tryz.func63,Tryz.ntmps63
 go_wp2_with (first
  | (at_builtin
     refine P6 rfl (.tmp 6) (.tmp 9) rfl rfl (n0:=w.heap.size) (r:=.slice none 0 0) (l:=[]) (xs:=l.take k) (ad:=a) (m:=k) rfl rfl HT.out.symm ho0 (HE.out.take k) (by simp) (by rw [HT.out];omega) (lAd _) ?_;rintro v1 w1 ho1 hg1;have hb1:Bl w w1:=(Below.refl _ _).grown hg1 (lAd _) (by simp [Value.ownBlock]);have HB1:=jY hb1;have HO1:=jY ho1
     clear hb1 ho1 hg1)
  | (at_builtin
     refine P6 rfl (.tmp 11) (.tmp 15) rfl rfl (n0:=w.heap.size) (r:=v1) (l:=[]++l.take k) (xs:=l.drop (k+1)) (ad:=if cap=k+1 then a else a.map (fun x=>x.add ((k+1)*2))) (m:=l.length-(k+1)) rfl rfl HDL.out.symm HO1.out (HD.out.below HB1.out) (by simp;omega) (by rw [HDL.out];omega) HB1.out.size ?_;rintro v2 w2 ho2 hg2;have hb2:Bl w w2:=HB1.out.grown hg2 HB1.out.size (fun k e=>(World.ownsRow.lt HO1.out k e).1);have HB2:=jY hb2;have HO2:=jY ho2
     clear hb2 ho2 hg2))
 all_goals (
  go_ret
  exact ⟨_,rfl,HO2.out,HB2.out⟩)
theorem z6r{W w1:World}{b:Nat}{v u:Value}{t:TypeId}(hk:Blk W b t #[v,u])(hg:W.grownBy w1 none):w1.cell? ⟨b,0,none⟩=some v/\w1.cell? ⟨b,1,none⟩=some u/\b<w1.heap.size :=
 have hb:Bl W w1:=(Below.refl _ _).grown hg (lAd _) (fun _ h=>nomatch h);have hl:=hk.later hb
 ⟨hl.cell 0,hl.cell 1,hl.lt⟩
theorem y7h{W w1:World}{x:Ent}{v u:Value}(hg:((W.alloc (.cells #[v,u] 94)).alloc (.cells #[.string x.1,.int .i64 x.2] 94)).grownBy w1 none):Ents w1 (some ⟨W.heap.size+1,0,none⟩) [x]:=by
 have hb:Below ((W.alloc (.cells #[v,u] 94)).alloc (.cells #[.string x.1,.int .i64 x.2] 94)).heap.size ((W.alloc (.cells #[v,u] 94)).alloc (.cells #[.string x.1,.int .i64 x.2] 94)) w1:=(Below.refl _ _).grown hg (lAd _) (fun _ h=>nomatch h)
 have:=(Gt (W.alloc (.cells #[v,u] 94)) x).below hb
 simpa using this
theorem Po{W w1:World}{r:Option Nat}(hg:W.drew.grownBy w1 r):W.grownBy w1 r:=⟨hg.os,hg.tape,hg.output,hg.size,hg.block⟩
theorem z1e(a:Option Addr)(cap:Nat)(l:List Ent)(hl:l.length<=1000)(hc:l.length<=cap)(k:Nat)(hk:k<=l.length)(x:Ent)(w:World)(hE:Ents w a l) :
 Calls Tryz.prog 94 #[.slice a l.length cap,.int .i64 k,.agg #[.string x.1,.int .i64 x.2]] w fun e w'=>∃ r,e=.returned r/\Own35 w' w.heap.size r (l.take k++[x]++l.drop k)/\Bl w w':=by
 have hk0:(0:Int)<=k:=by omega
 have hk1:(k:Int)<=cap:=by omega
 have hk2:(k:Int)<=l.length:=by omega
 have hk3:(k:Int)<=1000:=by omega
 have HE:=jY hE;have ht:(l.take k).length=k:=by simp;omega
 have hdl:(l.drop k).length=l.length-k:=List.length_drop;have HT:=jY ht;have HD:=jY (HE.out.drop k cap hc);have HDL:=jY hdl;clear ht hdl hE;have hb0:=(Below.refl w.heap.size w).alloc (lAd _) (Obj.cells #[Value.string x.1,Value.int IntKind.i64 x.2] 94);have B0:=Blk.new w 94 #[Value.string x.1,Value.int IntKind.i64 x.2];obtain ⟨f0,f1,f2,f3⟩:=Za B0;have HB0:=jY hb0;have HK0:=jY B0;have hs0:w.heap.size<=(w.alloc (Obj.cells #[Value.string x.1,Value.int IntKind.i64 x.2] 94)).heap.size:=hb0.size;clear hb0 B0
 go_enter Tryz.func94,Tryz.ntmps94
 go_wp2
 go_region_law (first
  | (refine Oj rfl (.tmp 8) (.tmp 11) rfl rfl (n0:=w.heap.size) (r:=.slice none 0 0) (l:=[]) (xs:=l.take k) (ad:=a) (m:=k) (by simp [Act.eval,Act.put]) (by simp [Act.eval,Act.put];rfl) HT.out.symm (World.ownsRow_nil _ _ _ _) (by first|exact (HE.out.take k).below HB0.out.drew|exact (HE.out.take k).below (HB0.out.alloc HB0.out.size _).drew) (by simp) (by rw [HT.out];omega) (by first|exact HB0.out.size|exact (HB0.out.alloc HB0.out.size _).size) ?_
     rintro v1 w1 ho1 hg1
     first
      | (obtain ⟨g0,g1,g2⟩:=z6r HK0.out (Po hg1)
         have HB1:=jY (HB0.out.grown (Po hg1) HB0.out.size (fun _ h=>nomatch h)))
      | (obtain ⟨g0,g1,g2⟩:=z6r (HK0.out.alloc _) (Po hg1)
         have HX1:=jY (y7h (Po hg1))
         have HB1:=jY ((HB0.out.alloc HB0.out.size _).grown (Po hg1) (HB0.out.alloc HB0.out.size _).size (fun _ h=>nomatch h)))
     have HO1:=jY ho1
     clear ho1 hg1)
  | (refine Oj rfl (.tmp 12) (.tmp 14) rfl rfl (n0:=w.heap.size) (r:=v1) (l:=[]++l.take k) (xs:=[x]) (m:=1) (ad:=some ⟨w1.heap.size,0,none⟩) (cap:=1) rfl rfl rfl (World.ownsRow.alloc HO1.out _) (Gt _ x) (by simp;omega) (by simp) (HB1.out.alloc HB1.out.size _).size ?_
     rintro v2 w2 ho2 hg2;have HO2:=jY ho2;have HB2:=jY ((HB1.out.alloc HB1.out.size _).grown hg2 (HB1.out.alloc HB1.out.size _).size (fun k e=>(World.ownsRow.lt HO1.out k e).1))
     clear ho2 hg2)
  | (refine Oj rfl (.tmp 12) (.tmp 14) rfl rfl (n0:=w.heap.size) (r:=v1) (l:=[]++l.take k) (xs:=[x]) (m:=1) (ad:=some ⟨w.heap.size+1,0,none⟩) (cap:=1) rfl rfl rfl HO1.out HX1.out (by simp;omega) (by simp) HB1.out.size ?_
     rintro v2 w2 ho2 hg2;have HO2:=jY ho2;have HB2:=jY (HB1.out.grown hg2 HB1.out.size (fun k e=>(World.ownsRow.lt HO1.out k e).1))
     clear ho2 hg2))
 all_goals (
  go_wp2_with (
   at_builtin
   refine P6 rfl (.tmp 16) (.tmp 19) rfl rfl (n0:=w.heap.size) (r:=v2) (l:=[]++l.take k++[x]) (xs:=l.drop k) (ad:=if cap=k then a else a.map (fun x=>x.add (k*2))) (m:=l.length-k) rfl rfl HDL.out.symm HO2.out (HD.out.below HB2.out) (by simp;omega) (by rw [HDL.out];omega) HB2.out.size ?_;rintro v3 w3 ho3 hg3;have hb3:Bl w w3:=HB2.out.grown hg3 HB2.out.size (fun k e=>(World.ownsRow.lt HO2.out k e).1);have HB3:=jY hb3;have HO3:=jY ho3
   clear hb3 ho3 hg3)
  all_goals (
   go_ret;have hfin:=HO3.out;rw [List.nil_append,List.append_assoc] at hfin
   exact ⟨_,rfl,hfin,HB3.out⟩))
end Go.Proofs.YtcklcmafohlflaaGreatDoor.Pk
namespace Go.Proofs.YtcklcmafohlflaaGreatDoor.Sk
open Zc
open Go.RowKit Go.Shelf
attribute [local go_sem] Oper.semAt_some
theorem x8q{x y:List UInt8}{i:Nat}(hx:i<x.length)(hy:i<y.length):(x.drop i<y.drop i)↔(x[i]<y[i]\/x[i]=y[i]/\x.drop (i+1)<y.drop (i+1)):=by
 rw [List.drop_eq_getElem_cons hx,List.drop_eq_getElem_cons hy,List.cons_lt_cons_iff]
theorem v2a{x y:List UInt8}{i:Nat}(hx:i<=x.length)(hy:i<=y.length)(h:i=x.length\/i=y.length):(x.drop i<y.drop i)↔x.length<y.length:=by
 rcases h with rfl|rfl
 ·rw [List.drop_length]
  cases hd:y.drop x.length with
  | nil =>
    have:=List.drop_eq_nil_iff.1 hd
    simp;omega
  | cons u v =>
    have:x.length<y.length:=by
     have h1:(y.drop x.length).length=v.length+1:=by rw [hd];rfl
     rw [List.length_drop] at h1;omega
    simp [this]
 ·rw [List.drop_length]
  simp;omega
theorem Cn(a b:ByteArray)(ha:a.size<=281474976710656)(hb:b.size<=281474976710656)(w:World):Calls Tryz.prog 87 #[.string a,.string b] w fun e w'=>e=.returned (.bool (decide (a.data.toList<b.data.toList)))/\Bl w w':=by
 obtain ⟨bv,hbv⟩:∃ bv,bv=decide (a.data.toList<b.data.toList):=⟨_,rfl⟩;have HBV:=jY hbv;rw [<- hbv];clear hbv
 go_enter Tryz.func87,Tryz.ntmps87
 go_wp2
 go_loopw [5] (fun i wr=>∃ j:Nat,i=.int .i64 j/\j<=a.size/\j<=b.size/\Hid ((a.data.toList.drop j<b.data.toList.drop j)↔(a.data.toList<b.data.toList))/\Bl w wr) (fun i _=>a.size-(intOf i).toNat)
 case atStart=>exact ⟨0,rfl,by omega,by omega,jY (by rw [List.drop_zero,List.drop_zero]),Below.refl _ _⟩
 case round =>
  obtain ⟨j,rfl,hja,hjb,HI,hbel⟩:=hrel;have HW:=jY hbel;clear hbel
  by_cases hlt:j<a.size/\j<b.size
  ·obtain ⟨h1,h2⟩:=hlt;have hst:=x8q (x:=a.data.toList) (y:=b.data.toList) (i:=j) (by simpa using h1) (by simpa using h2);have HST:=jY hst;clear hst
   by_cases he:a[j]=b[j]
   ·have he2:((a[j].toNat:Int)==(b[j].toNat:Int))=true:=by rw [he];simp
    have HE:=jY he;clear he;go_wp2
    go_quiet (fail)
    go_wp2;refine ⟨⟨j+1,by go_num,by omega,by omega,jY ?_,HW.out.trans ⟨rfl,rfl,rfl,lAd _,fun _ _=>rfl⟩⟩,by simp [intOf];omega⟩;rw [<- HI.out,HST.out];have h1:a.data.toList[j]'(by simpa using h1)=b.data.toList[j]'(by simpa using h2):=HE.out;simp [h1]
   ·have he2:((a[j].toNat:Int)==(b[j].toNat:Int))=false:=by
     rw [beq_eq_false_iff_ne];intro e;exact he (UInt8.toNat_inj.1 (by omega))
    have HE:=jY he;clear he;go_wp2
    go_quiet (fail)
    go_wp2
    go_quiet (fail)
    go_wp2;go_returns;refine ⟨?_,HW.out.trans ⟨rfl,rfl,rfl,lAd _,fun _ _=>rfl⟩⟩
    have hv:decide (a[j].toNat<b[j].toNat)=bv:=by
     rw [HBV.out,decide_eq_decide,<- HI.out,HST.out];have hne:¬ a.data.toList[j]'(by simpa using h1)=b.data.toList[j]'(by simpa using h2):=HE.out;simp only [hne,false_and,or_false];exact UInt8.lt_iff_toNat_lt.symm
    rw [<- hv];rfl
  ·have hex:(a.size:Int)<=j\/((j:Int)<a.size/\(b.size:Int)<=j):=by omega
   have HX:=jY (show decide (a.size<b.size)=bv by
    have h:=v2a (x:=a.data.toList) (y:=b.data.toList) (i:=j) (by simpa using hja) (by simpa using hjb) (by simp;omega);rw [HBV.out,decide_eq_decide,<- HI.out,h]
    simp)
   clear hlt;rcases hex with hex|⟨hex,hex2⟩
   all_goals (
    go_wp2;go_returns;refine ⟨?_,HW.out⟩;rw [<- HX.out]
    rfl)
theorem z8w(m m':ByteArray)(hm:m.size<=281474976710656)(hm':m'.size<=281474976710656)(s s':Int)(w:World):Calls Tryz.prog 93 #[.agg #[.string m,.int .i64 s],.agg #[.string m',.int .i64 s']] w fun e w'=>e=.returned (.bool (Yc m s m' s'))/\Bl w w':=by
 have hb:Bl w ((w.alloc (.cells #[.string m,.int .i64 s] 94)).alloc (.cells #[.string m',.int .i64 s'] 94)):=((Below.refl _ _).alloc (lAd _) _).alloc (by simp) _;have HB:=jY hb;clear hb;have HL:=fun w=>Cn m m' hm hm' w;clear hm hm';have HL:=fun w=>jY (HL w)
 by_cases h1:s<s'
 ·go_enter Tryz.func93,Tryz.ntmps93
  go_wp2;go_ret;refine ⟨congrArg (fun b=>Ending.returned (.bool b)) ?_,HB.out⟩;simp [Yc,h1]
 ·by_cases h:s=s'
  ·have e1:(s==s')=true:=by simpa using h
   have H:=jY h;clear h
   go_enter Tryz.func93,Tryz.ntmps93
   go_wp2_with fail;refine (HL _).out.mono ?_;rintro e w5 ⟨rfl,hb5⟩;have hb6:=jY (HB.out.trans (hb5.mono HB.out.size));clear hb5;go_wp2_with fail;go_ret;refine ⟨congrArg (fun b=>Ending.returned (.bool b)) ?_,hb6.out⟩
   have:=H.out
   subst this;simp [Yc]
  ·have e1:(s==s')=false:=by simpa using h
   go_enter Tryz.func93,Tryz.ntmps93
   go_wp2;go_ret;refine ⟨congrArg (fun b=>Ending.returned (.bool b)) ?_,HB.out⟩;simp [Yc,h1,h]
end Go.Proofs.YtcklcmafohlflaaGreatDoor.Sk
