/- Texts of one kind in one: SpRename, SpLast, SpKeys. -/
import Derived.Test.YtcklcmafohlflaaGreatDoorQSpSet27
import Derived.Test.YtcklcmafohlflaaGreatDoorQSnTold12
set_option maxRecDepth 200000
set_option maxHeartbeats 8000000
namespace Go.Proofs.YtcklcmafohlflaaGreatDoor
open Zc (Ent Ext KeepC Ym Z9 Zg Xg Zx Zb Zv Yo Y5 Ze Zz Z4 Zd)
open Go.RowKit Go.Shelf Sk
attribute [local go_sem] Oper.semAt_some
section
variable {w w' w1 w2:World} {p c sd:Nat} {S:Nat->Prop} {en mn:Int} {L L':List Th} {t:Th}
def x1a(v:Value)(a:Act):Prop:=∃ u0 u1 u2 u3 u4 u5 u6 u7 u9 u10 u11 u12 u13 u14 u15 u16 u17 u18 u19 u20 u21 u22 u23 u24 u25 u26 u27 u28 u29 u30 u31 u32 u33 u34,a={ tmps:=#[u0,u1,u2,u3,u4,u5,u6,u7,v,u9,u10,u11,u12,u13,u14,u15,u16,u17,u18,u19,u20,u21,u22,u23,u24,u25,u26,u27,u28,u29,u30,u31,u32,u33,u34],defers:=[] }
def Ih(L:List Th)(f k:ByteArray):Int:=if (Y4 L f).isSome then (if 64<k.size then 140 else 0) else 141
def Ki(L:List Th)(f k:ByteArray)(L':List Th):Prop:=(Ih L f k≠0/\L'=L)\/(Ih L f k=0/\f=k/\L'=L)\/(Ih L f k=0/\f≠k/\k.size<=64/\∃ t∈L,t.key=f/\L'=Yl (Yl L f) k++[t.named k])
theorem y2z(ht:t∈L):0<L.length:=List.length_pos_of_mem ht
theorem z3e(h:SpSt w p en mn sd c L S)(hE:EnvE w)(hS0:¬ S 0)(f k:ByteArray)(hf:f.size<=281474976710656)(hk:k.size<=281474976710656) :
 Calls Tryz.prog 21 #[.pointer (some ⟨p,0,none⟩),.string f,.string k] w fun e w'=>∃ L',e=.returned (.int .i64 (Ih L f k))/\SpNow w p en mn sd c S L' w'/\Ki L f k L':=by
 have HF:=jY (z9r h f hf);have HEN:=jY (fun L' w' (g:SpNow w p en mn sd c S L' w')=>g.env hE hS0);have HN:=fun W=>jY (Vw k hk W);have HNB:=jY (fun n W (hW:EnvE W)=>Gb n W hW)
 cases hm:Y4 L f with
 | none =>
   rw [hm] at HF;have e1:Ih L f k=141:=by unfold Ih;rw [hm];rfl
   have HA:=jY (show Ki L f k L from .inl ⟨by rw [e1];decide,rfl⟩);rw [e1];clear h hE hS0 hm e1
   go_enter Tryz.func21,Tryz.ntmps21
   go_wp2_with fail;refine wp_scope_jumps 0 (fun a' w'=>Hid (SpNow w p en mn sd c S L w')/\x1a (.iface 152 (.int .i64 141)) a') (fun _ _=>0) rfl ?_ ?_
   ·go_wp2_with fail;refine HF.out.mono ?_;rintro e w1 ⟨rfl,h1⟩;have H1:=jY h1;clear h1 HF HNB HEN HN;simp only [Option.isSome_none,Bool.false_eq_true,if_false];rw [show Q5 141=.iface 152 (.int .i64 141) from rfl];go_wp2_with fail
    go_step3
    exact ⟨rfl,H1,_,_,_,_,_,_,_,_,_,_,_,_,_,_,_,_,_,_,_,_,_,_,_,_,_,_,_,_,_,_,_,_,_,_,rfl⟩
   ·rintro a' w' ⟨H1,u0,u1,u2,u3,u4,u5,u6,u7,u9,u10,u11,u12,u13,u14,u15,u16,u17,u18,u19,u20,u21,u22,u23,u24,u25,u26,u27,u28,u29,u30,u31,u32,u33,u34,rfl⟩;have HB:=jY (HNB.out 141 w' (HEN.out _ _ H1.out));rw [show Q5 141=.iface 152 (.int .i64 141) from rfl] at HB;clear HF HNB HEN HN;go_wp2_with fail;refine HB.out.mono ?_;rintro e w2 ⟨rfl,hb⟩;have HB2:=jY (H1.out.later hb);clear hb HB;go_wp2_with fail;simp only [Exit.jump];go_ret;exact ⟨L,rfl,HB2.out,HA.out⟩
 | some a =>
   rw [hm] at HF;obtain ⟨t,ht,htk,rfl⟩:=U2 hm
   by_cases h64:64<k.size
   ·have e1:Ih L f k=140:=by unfold Ih;rw [hm,if_pos h64];rfl
    have HA:=jY (show Ki L f k L from .inl ⟨by rw [e1];decide,rfl⟩);rw [e1];simp only [if_pos h64] at HN;clear h hE hS0 hm e1 h64;rw [show Q5 140=.iface 152 (.int .i64 140) from rfl] at HN
    go_enter Tryz.func21,Tryz.ntmps21
    go_wp2_with fail;refine wp_scope_jumps 0 (fun a' w'=>Hid (SpNow w p en mn sd c S L w')/\x1a (.iface 152 (.int .i64 140)) a') (fun _ _=>0) rfl ?_ ?_
    ·go_wp2_with fail;refine HF.out.mono ?_;rintro e w1 ⟨rfl,h1⟩;have H1:=jY h1;clear h1 HF HNB HEN;simp only [Option.isSome_some,if_true,show Q5 0=.nilIface from rfl];go_wp2_with fail;refine (HN _).out.mono ?_;rintro e w2 ⟨rfl,rfl⟩;go_wp2_with fail
     go_step3
     exact ⟨rfl,H1,_,_,_,_,_,_,_,_,_,_,_,_,_,_,_,_,_,_,_,_,_,_,_,_,_,_,_,_,_,_,_,_,_,_,rfl⟩
    ·rintro a' w' ⟨H1,u0,u1,u2,u3,u4,u5,u6,u7,u9,u10,u11,u12,u13,u14,u15,u16,u17,u18,u19,u20,u21,u22,u23,u24,u25,u26,u27,u28,u29,u30,u31,u32,u33,u34,rfl⟩;have HB:=jY (HNB.out 140 w' (HEN.out _ _ H1.out));rw [show Q5 140=.iface 152 (.int .i64 140) from rfl] at HB;clear HF HNB HEN HN;go_wp2_with fail;refine HB.out.mono ?_;rintro e w2 ⟨rfl,hb⟩;have HB2:=jY (H1.out.later hb);clear hb HB;go_wp2_with fail;simp only [Exit.jump];go_ret;exact ⟨L,rfl,HB2.out,HA.out⟩
   ·have e1:Ih L f k=0:=by unfold Ih;rw [hm,if_neg h64];rfl
    simp only [if_neg h64] at HN;rw [show Q5 0=.nilIface from rfl] at HN
    by_cases hfk:f=k
    ·have HA:=jY (show Ki L f k L from .inr (.inl ⟨e1,hfk,rfl⟩));have hbeq:(f.toList==k.toList)=true:=by rw [hfk];simp
     rw [e1];clear h hE hS0 hm e1 h64 hfk
     go_enter Tryz.func21,Tryz.ntmps21
     go_wp2_with fail;refine wp_scope_jumps 0 (fun a' w'=>Hid (SpNow w p en mn sd c S L w')/\x1a (.nilIface) a') (fun _ _=>0) rfl ?_ ?_
     ·go_wp2_with fail;refine HF.out.mono ?_;rintro e w1 ⟨rfl,h1⟩;have H1:=jY h1;clear h1 HF HNB HEN;simp only [Option.isSome_some,if_true,show Q5 0=.nilIface from rfl];go_wp2_with fail;refine (HN _).out.mono ?_;rintro e w2 ⟨rfl,rfl⟩;go_wp2_with fail
      go_step3
      exact ⟨rfl,H1,_,_,_,_,_,_,_,_,_,_,_,_,_,_,_,_,_,_,_,_,_,_,_,_,_,_,_,_,_,_,_,_,_,_,rfl⟩
     ·rintro a' w' ⟨H1,u0,u1,u2,u3,u4,u5,u6,u7,u9,u10,u11,u12,u13,u14,u15,u16,u17,u18,u19,u20,u21,u22,u23,u24,u25,u26,u27,u28,u29,u30,u31,u32,u33,u34,rfl⟩;have HB:=jY (HNB.out 0 w' (HEN.out _ _ H1.out));rw [show Q5 0=.nilIface from rfl] at HB;clear HF HNB HEN HN;go_wp2_with fail;refine HB.out.mono ?_;rintro e w2 ⟨rfl,hb⟩;have HB2:=jY (H1.out.later hb);clear hb HB;go_wp2_with fail;simp only [Exit.jump];go_ret;exact ⟨L,rfl,HB2.out,HA.out⟩
    ·have HA:=jY (show Ki L f k (Yl (Yl L f) k++[t.named k]) from .inr (.inr ⟨e1,hfk,by omega,t,ht,htk,rfl⟩))
     have hbeq:(f.toList==k.toList)=false:=by
      rw [Bool.eq_false_iff];intro h;exact hfk (V9 (by simpa using h))
     have hkeys:=h.keys
     have hlen:(Yl (Yl L f) k).length<500:=by
      have h1:=z0c hkeys f;rw [hm] at h1;simp only [Option.isSome_some,if_true] at h1;have h2:=(Qx (Yl L f) k).length_le;have h3:=h.len;have h4:=y2z ht;omega
     have HD:=jY (fun W S1 (g:SpSt W p en mn sd c L S1)=>y6l g f hf);have HK:=jY (fun W S1 (g:SpSt W p en mn sd c (Yl L f) S1) (hl:Loose W en mn c (Yl L f) t)=>y6m (S1:=fun j=>j=t.q\/t.S j) g hl (fun j hj=>hj) k (by omega) hlen)
     have hin:∀ W S1,SpSt W p en mn sd c L S1->∀ j,(j=t.q\/t.S j)->S1 j:=fun W S1 g j hj=>by
      obtain ⟨d,SD,rv,sh,_,_,_,hS⟩:=g;exact (hS j).2 (.inr (.inr (.inr ⟨t,ht,hj⟩)))
     have HIN:=jY hin;have HTT:=jY (And.intro ht htk);rw [e1];clear h hE hS0 hm e1 h64 hfk hlen hin ht htk
     go_enter Tryz.func21,Tryz.ntmps21
     go_wp2_with fail;refine wp_scope_straight ?_;go_wp2_with fail;refine HF.out.mono ?_;rintro e w1 ⟨rfl,S1,g1,g2,g3⟩;have HD1:=jY (HD.out w1 S1 g1);have HI1:=jY (HIN.out w1 S1 g1);have G:=jY (And.intro g2 g3);clear g1 g2 g3 HF HD HIN;simp only [Option.isSome_some,if_true,show Q5 0=.nilIface from rfl];go_wp2_with fail;refine (HN _).out.mono ?_;rintro e w2 ⟨rfl,rfl⟩;go_wp2_with fail;refine HD1.out.mono ?_;rintro e w3 ⟨rfl,⟨S3,y1,y2,y3⟩,yl⟩;have HK3:=jY (HK.out w3 S3 y1 (yl t HTT.out.1 HTT.out.2));have Y:=jY (And.intro y2 y3);clear y1 y2 y3 yl HD1 HK HTT;go_wp2_with fail;refine HK3.out.mono ?_;rintro e w4 ⟨rfl,S4,z1,z2,z3⟩
     have h4:SpNow w p en mn sd c S (Yl (Yl L f) k++[t.named k]) w4:=by
      have a1:∀ j,(S3 j\/(j=t.q\/t.S j))->S1 j\/w2.heap.size<=j:=fun j hj=>hj.elim (Y.out.1 j) fun h=>.inl (HI1.out j h);have a2:∀ j,(S3 j\/(j=t.q\/t.S j))->S j\/w.heap.size<=j:=fun j hj=>(a1 j hj).elim (G.out.1 j) fun h=>.inr (lAe G.out.2.size h);exact ⟨S4,z1,fun j hj=>(z2 j hj).elim (a2 j) fun h=>.inr (lAe G.out.2.size (lAe Y.out.2.size h)),(G.out.2.trans Y.out.2 fun j hj=>G.out.1 j hj).trans z3 a2⟩
     have HB:=jY (HNB.out 0 w4 (HEN.out _ _ h4));rw [show Q5 0=.nilIface from rfl] at HB;have H4:=jY h4;clear z1 z2 z3 h4 HK3 Y G HI1 HNB HEN;go_wp2_with fail;refine wp_label ?_;go_wp2_with fail;refine HB.out.mono ?_;rintro e w5 ⟨rfl,hb⟩;have HB2:=jY (H4.out.later hb);clear hb HB;go_wp2_with fail;simp only [Exit.noGoto];go_ret;exact ⟨_,rfl,HB2.out,HA.out⟩
end
section
variable {w w' w1 w2:World} {p c sd:Nat} {S:Nat->Prop} {en mn:Int} {L L':List Th} {t:Th}
def Fy(I:List It)(k:ByteArray):Int × Int:=match Xy I k with
 | none=>(0,0)
 | some x=>(x.uc,x.ua)
theorem y5f(hk:Y6 (itl L))(ht:t∈L):Xy (itl L) t.key=some t.toIt:=Bd hk (List.mem_map.2 ⟨t,ht,rfl⟩)
theorem y5g{k:ByteArray}(h:Y4 L k=none):Xy (itl L) k=none:=by
 have:=Qd L k
 rw [h] at this
 cases hg:Xy (itl L) k with
 | none=>rfl
 | some x=>rw [hg] at this;cases this
theorem v2s(h:SpSt w p en mn sd c L S)(k:ByteArray)(hk:k.size<=281474976710656) :
 Calls Tryz.prog 16 #[.pointer (some ⟨p,0,none⟩),.string k] w fun e w'=>e=.returned (.tuple #[.agg #[.int .i64 (Fy (itl L) k).1,.int .i64 (Fy (itl L) k).2],.bool (Y4 L k).isSome])/\SpNow w p en mn sd c S L w':=by
 have hb0:=Z0 w (.cells #[.int .i64 0,.int .i64 0] 48);have HF:=jY (Mz (h.later hb0) k hk);have hkeys:=h.keys;have k0:=Blk.new w 48 #[.int .i64 0,.int .i64 0];have hno:¬ S w.heap.size:=fun hs=>by have:=h.lt hs;omega
 have HFIN:=jY (fun w1 (g:SpNow (w.alloc (.cells #[.int .i64 0,.int .i64 0] 48)) p en mn sd c S L w1) (v1 v2:Value)=>show Blk w1 w.heap.size 48 #[.int .i64 0,.int .i64 0]/\SpNow w p en mn sd c S L ((w1.setCell ⟨w.heap.size,0,none⟩ v1).setCell ⟨w.heap.size,1,none⟩ v2) from by
  obtain ⟨S',g1,g2,g3⟩:=g;have hn:¬ S' w.heap.size:=fun h=>(g2 _ h).elim hno fun h=>by simp at h;omega
  have hf:Far (fun j=>j=w.heap.size) w1 ((w1.setCell ⟨w.heap.size,0,none⟩ v1).setCell ⟨w.heap.size,1,none⟩ v2):=((Far.refl (fun j=>j=w.heap.size) w1).set ⟨w.heap.size,0,none⟩ _ (.inl rfl)).set ⟨w.heap.size,1,none⟩ _ (.inl rfl)
  exact ⟨g3.blk k0 hno,S',g1.far hf fun j hj e=>by subst e;exact hn hj,fun j hj=>(g2 j hj).imp_right (lAe hb0.size),
   ((((Far.of_below (S:=S) hb0).trans g3 fun j hj=>.inl hj).set ⟨w.heap.size,0,none⟩ v1 (.inr (lAd _))).set ⟨w.heap.size,1,none⟩ v2 (.inr (lAd _)))⟩)
 clear h hb0 k0 hno
 cases hm:Y4 L k with
 | none =>
   rw [hm] at HF;have e1:Fy (itl L) k=(0,0):=by unfold Fy;rw [y5g hm]
   rw [e1];clear hm e1 hkeys
   go_enter Tryz.func16,Tryz.ntmps16
   go_wp2_with fail;refine HF.out.mono ?_;rintro e w1 ⟨rfl,g⟩;have hfin:=HFIN.out w1 g (.int .i64 0) (.int .i64 0);obtain ⟨b0,b1,b2,b3⟩:=Za hfin.1;have HE:=jY hfin.2;clear g hfin HF HFIN;go_wp2;exact bodyPost_ret (v:=.tuple #[.agg #[.int .i64 0,.int .i64 0],.bool false]) (by simp [results,Tryz.results16,go_sem,b0,b1]) rfl ⟨rfl,HE.out⟩
 | some a =>
   rw [hm] at HF;obtain ⟨t,ht,rfl,rfl⟩:=U2 hm;have e1:Fy (itl L) t.key=(t.uc,t.ua):=by unfold Fy;rw [y5f hkeys ht]
   rw [e1];clear hm e1 hkeys
   go_enter Tryz.func16,Tryz.ntmps16
   go_wp2_with fail;refine HF.out.mono ?_;rintro e w1 ⟨rfl,g⟩;have hfin:=HFIN.out w1 g (.int .i64 t.uc) (.int .i64 t.ua);have hq:=g.th ht;have c2:=hq.cell 2;have c3:=hq.cell 3;simp [thC] at c2 c3;obtain ⟨b0,b1,b2,b3⟩:=Za hfin.1;have HE:=jY hfin.2;clear g hfin hq HF HFIN ht;go_wp2;exact bodyPost_ret (v:=.tuple #[.agg #[.int .i64 t.uc,.int .i64 t.ua],.bool true]) (by simp [results,Tryz.results16,go_sem,b0,b1]) rfl ⟨rfl,HE.out⟩
def Yg(I:List It)(k:ByteArray):Bool:=match Xy I k with
 | none=>false
 | some x=>x.E.isEmpty
theorem x9u(h:SpSt w p en mn sd c L S)(k:ByteArray)(hk:k.size<=281474976710656) :
 Calls Tryz.prog 33 #[.pointer (some ⟨p,0,none⟩),.string k] w fun e w'=>e=.returned (.bool (Yg (itl L) k))/\SpNow w p en mn sd c S (if Yg (itl L) k then Yl L k else L) w':=by
 have HF:=jY (Mz h k hk);have HD:=jY (fun W S1 (g:SpSt W p en mn sd c L S1)=>z3d g k hk);have hkeys:=h.keys;clear h
 cases hm:Y4 L k with
 | none =>
   rw [hm] at HF;have e1:Yg (itl L) k=false:=by unfold Yg;rw [y5g hm]
   rw [e1];clear hm HD hkeys e1
   go_enter Tryz.func33,Tryz.ntmps33
   go_wp2_with fail;refine HF.out.mono ?_;rintro e w1 ⟨rfl,h1⟩;have H1:=jY h1;clear h1 HF;go_wp2;go_ret;exact ⟨rfl,H1.out⟩
 | some a =>
   rw [hm] at HF HD;obtain ⟨t,ht,rfl,rfl⟩:=U2 hm;have e1:Yg (itl L) t.key=t.E.isEmpty:=by unfold Yg;rw [y5f hkeys ht]
   rw [e1];clear hm hkeys e1
   cases hemp:t.E with
   | nil =>
     go_enter Tryz.func33,Tryz.ntmps33
     go_wp2_with fail;refine HF.out.mono ?_;rintro e w1 ⟨rfl,S1,g1,g2,g3⟩;have hq:=(g1.th ht).1.cell 0;simp [thC] at hq;have HL:=jY (z6b (g1.th ht).2);rw [hemp] at HL;have HD1:=jY (fun W (hb:Bl w1 W)=>HD.out W S1 (g1.later hb));have G:=jY (And.intro g2 g3);clear g1 g2 g3 HF HD hemp ht;go_wp2_with fail;refine HL.out.mono ?_;rintro e w2 ⟨rfl,hb⟩;have HD2:=jY (HD1.out w2 hb);have HB:=jY hb;clear hb HD1 HL;go_wp2_with fail;refine HD2.out.mono ?_;rintro e w3 ⟨rfl,S3,y1,y2,y3⟩;have HE:=jY (show SpNow w p en mn sd c S (Yl L t.key) w3 from ⟨S3,y1,fun j hj=>(y2 j hj).elim (fun h=>G.out.1 j h) fun h=>.inr (lAe G.out.2.size (lAe HB.out.size h)),(G.out.2.then_below HB.out).trans y3 fun j hj=>G.out.1 j hj⟩);clear y1 y2 y3 HD2 HB G;go_wp2;go_ret;exact ⟨rfl,HE.out⟩
   | cons x r =>
     go_enter Tryz.func33,Tryz.ntmps33
     go_wp2_with fail;refine HF.out.mono ?_;rintro e w1 ⟨rfl,S1,g1,g2,g3⟩;have hq:=(g1.th ht).1.cell 0;simp [thC] at hq;have HL:=jY (z6b (g1.th ht).2);rw [hemp] at HL;have G:=jY (show SpNow w p en mn sd c S L w1 from ⟨S1,g1,g2,g3⟩);have hne:(((x :: r).length:Int)==0)=false:=by simp;omega
     generalize (x :: r).length=n at *;clear g1 g2 g3 HF HD hemp ht;go_wp2_with fail;refine HL.out.mono ?_;rintro e w2 ⟨rfl,hb⟩;have HB:=jY (G.out.later hb);clear hb HL;go_wp2;go_ret;exact ⟨rfl,HB.out⟩
def z1k(en mn:Int)(L:List Th)(k:ByteArray)(l:List En)(now:Int)(L':List Th):Prop :=
 (Yu L k now≠0/\L'=L)\/(Yu L k now=0/\k.size<=64/\∃ L1 t t',t∈L1/\t.key=k/\((t∈L/\L1=L)\/(Y4 L k=none/\0<=now/\L.length<500/\L1=L++[t]/\t.toIt=⟨k,5,now,false,[]⟩))/\t'.q=t.q/\t'.toIt=t.toIt.with (Xa en mn l).1 (Xa en mn l).2/\L'=Xu L1 t')
theorem v2r(h:SpSt w p en mn sd c L S)(hE:EnvE w)(hS0:¬ S 0)(hc:c<=10000)(k:ByteArray)(hk:k.size<=281474976710656){n0:Nat}{v:Value}{l:List En}(hl:l.length<=300)(hlc:l.length<=c)(hs:∀ e∈l,Pk.Ya e.2)(hr:Row w n0 v l)(hrS:∀ W,Far S w W->Row W n0 v l)(now:Int)(hnow:Lf.I64 now) :
 Calls Tryz.prog 26 #[.pointer (some ⟨p,0,none⟩),.string k,v,.int .i64 now] w fun e w'=>∃ L',e=.returned (.int .i64 (Yu L k now))/\SpNow w p en mn sd c S L' w'/\z1k en mn L k l now L':=by
 have HF:=jY (y6n h hc k hk now hnow);have HEN:=jY (fun L' w' (g:SpNow w p en mn sd c S L' w')=>g.env hE hS0);have HNB:=jY (fun n W (hW:EnvE W)=>Gb n W hW);have HRS:=jY hrS;clear h hE hS0 hrS;obtain ⟨a,cap,rfl⟩:=hr.form;clear hr
 by_cases he:Yu L k now=0
 ·rw [he] at HF;rw [show Q5 0=.nilIface from rfl] at HF;have HM:=jY he;rw [he];clear he
  go_enter Tryz.func26,Tryz.ntmps26
  go_wp2_with fail;refine HF.out.mono ?_;rintro e w1 ⟨a1,L1,rfl,⟨S1,g1,g2,g3⟩,hm⟩;rcases hm with ⟨hm,_⟩|⟨_,hk64,t,ht,htk,rfl,hor⟩
  ·exact absurd HM.out hm
  have HSET:=jY (show Calls Tryz.prog 65 #[.pointer (some ⟨p,0,none⟩),.slice a l.length cap] w1 fun e w'=>∃ s S,e=.returned (.pointer (some ⟨s,0,none⟩))/\SetIs w' s S (Xa en mn l).1 (Z6 en 200) (Z6 mn 64) l.length (Xa en mn l).2/\(∀ k,S k->w1.heap.size<=k)/\Bl w1 w' from by
   obtain ⟨d,SD,rv,sh,g,_⟩:=g1
   exact Ia g.blk g.sd hl hs (HRS.out w1 g3))
  have HFIN:=jY (fun w2 s T (hs2:SetIs w2 s T (Xa en mn l).1 (Z6 en 200) (Z6 mn 64) l.length (Xa en mn l).2) (hT:∀ k,T k->w1.heap.size<=k) (hb:Bl w1 w2) =>
   show Blk w2 t.q Uy (thC t.s t.toIt)/\∃ L',SpNow w p en mn sd c S L' (w2.setCell ⟨t.q,0,none⟩ (.pointer (some ⟨s,0,none⟩)))/\z1k en mn L k l now L' from by
    have hq:=(g1.th ht).1.later hb;have hut:Lf.Kg (t.uc,t.ua):=by obtain ⟨d,SD,rv,sh,g,_⟩:=g1;exact g.use t ht
    have hf:Far (fun j=>j=t.q) w1 (w2.setCell ⟨t.q,0,none⟩ (.pointer (some ⟨s,0,none⟩))):=(Far.of_below (S:=fun j=>j=t.q) hb).set ⟨t.q,0,none⟩ _ (.inl rfl);have hf2:Far (fun j=>j=t.q) w2 (w2.setCell ⟨t.q,0,none⟩ (.pointer (some ⟨s,0,none⟩))):=(Far.refl (fun j=>j=t.q) w2).set ⟨t.q,0,none⟩ _ (.inl rfl)
    obtain ⟨S3,y1,y2,y3⟩:=g1.rep (t':=⟨t.toIt.with (Xa en mn l).1 (Xa en mn l).2,t.q,s,T⟩) ht rfl rfl hf (fun j hj=>.inl hj) (by
     have:=hq.set 0 (.pointer (some ⟨s,0,none⟩))
     simpa [thC,It.with] using this) ((hs2.far hf2 fun j hj e=>by subst e;exact P5 hs2 hq (by decide) hj).more hlc hc) (fun j hj=>.inr (hT j hj)) hut
    exact ⟨hq,_,⟨S3,y1,fun j hj=>(y2 j hj).elim (fun h=>g2 j h) fun h=>.inr (lAe g3.size h),g3.trans y3 fun j hj=>g2 j hj⟩,.inr ⟨HM.out,hk64,L1,t,⟨t.toIt.with (Xa en mn l).1 (Xa en mn l).2,t.q,s,T⟩,ht,htk,hor,rfl,rfl,rfl⟩⟩)
  clear g1 g2 g3 HF HRS ht htk hor hk64 HM;go_wp2_with fail;refine HSET.out.mono ?_;rintro e w2 ⟨s,T,rfl,hs2,hT,hb⟩;obtain ⟨hq,L',h3,h4⟩:=HFIN.out w2 s T hs2 hT hb;have c0:=hq.cell 0;have f0:=hq.free 0;simp [thC] at c0;have HB:=jY (HNB.out 0 _ (HEN.out _ _ h3));rw [show Q5 0=.nilIface from rfl] at HB;have H3:=jY h3;have H4:=jY h4;clear hq h3 h4 hs2 hT hb HSET HFIN HNB HEN;go_wp2_with fail;refine HB.out.mono ?_;rintro e w4 ⟨rfl,hb⟩;have HB2:=jY (H3.out.later hb);clear hb HB;go_wp2_with fail;go_ret;exact ⟨_,rfl,HB2.out,H4.out⟩
 ·rw [y5b he] at HF;have HM:=jY he;have HN1:=jY (fun W (hW:EnvE W)=>P9 (Yu L k now) W hW);clear he;unfold Kv at HF HN1;generalize hg:Yu L k now=n at HF HN1 ⊢;have HG:=jY hg;clear hg
  go_enter Tryz.func26,Tryz.ntmps26
  go_wp2_with fail;refine HF.out.mono ?_;rintro e w1 ⟨a1,L',rfl,h1,hm⟩;obtain ⟨rfl,rfl⟩:a1=none/\L'=L:=hm.elim (fun h=>h.2) fun h=>absurd h.1 HM.out;have hen:=HEN.out _ _ h1;have HB:=jY (HN1.out w1 hen);have H1:=jY h1;clear h1 HF hen HNB HEN HN1 hm;go_wp2_with fail;refine HB.out.mono ?_;rintro e w2 ⟨rfl,hb⟩;have HB2:=jY (H1.out.later hb);clear hb HB;go_wp2_with fail;go_ret;exact ⟨L',rfl,HB2.out,.inl ⟨HM.out,rfl⟩⟩
end
end Go.Proofs.YtcklcmafohlflaaGreatDoor
namespace Go.Proofs.YtcklcmafohlflaaGreatDoor
open Zc (Ent Ext KeepC Ym Z9 Zg Xg Zx Zb Zv Yo Y5 Ze Zz Z4 Zd)
open Go.RowKit Go.Shelf Go.Sort Sk
attribute [local go_sem] Oper.semAt_some
namespace Dc.Dt
theorem x1d{seed:Nat}{m:ByteArray->Option Addr}{D:Dc}(hL:Like tyP seed D (fun k=>(m k).map Q7))(hs:D.shape.small):(Uw D D.least).Nodup/\∀ k,k∈Uw D D.least↔(m (Kz k)).isSome=true:=by
 have h1:=Jd hL hs D.least (lAd _);have ho:=Vj hL.1.ok _ (.inl rfl) hs.1 hs.2;obtain ⟨u1,u2⟩:=K6 D.least ho.2.1 ho.2.2.2;rw [u1] at h1;exact ⟨h1.nodup,fun k=>⟨fun hk=>(h1.is k hk).1,fun hk=>h1.all k hk (Bi _ _)⟩⟩
end Dc.Dt
def Dl(x:It):List UInt8:=x.key.data.toList
theorem z7u{a b:List UInt8}(h1:decide (a<=b)=true)(h2:decide (b<=a)=true):a=b:=List.le_antisymm (of_decide_eq_true h1) (of_decide_eq_true h2)
theorem My(l:List (List UInt8)):(Dc.Dt.Xh l).Pairwise fun a b=>decide (a<=b)=true:=by
 unfold Dc.Dt.Xh;refine List.pairwise_mergeSort (fun a b c h1 h2=>?_) (fun a b=>?_) l
 ·exact decide_eq_true (List.le_trans (of_decide_eq_true h1) (of_decide_eq_true h2))
 ·rcases List.le_total a b with h|h
  ·simp [decide_eq_true h]
  ·simp [decide_eq_true h]
theorem z9p{a b:List (List UInt8)}(h:a.Perm b):Dc.Dt.Xh a=Dc.Dt.Xh b :=
 List.Perm.eq_of_pairwise (fun _ _ _ _ h1 h2=>z7u h1 h2) (My a) (My b) (((Dc.Dt.Uk a).trans h).trans (Dc.Dt.Uk b).symm)
theorem x5v{a:List (List UInt8)}(h:a.Pairwise fun x y=>x<y):Dc.Dt.Xh a=a :=
 List.Perm.eq_of_pairwise (fun _ _ _ _ h1 h2=>z7u h1 h2) (My a) (h.imp fun hxy=>decide_eq_true (List.le_of_lt hxy)) (Dc.Dt.Uk a)
section
variable {w w':World} {p sd c:Nat} {S:Nat->Prop} {en mn:Int} {L:List Th}
theorem x3r{L:List Th}{k:ByteArray}:(Y4 L k).isSome=true↔∃ x∈itl L,x.key=k:=by
 rw [<- Qd]
 constructor
 ·intro h;obtain ⟨x,hx⟩:=Option.isSome_iff_exists.1 h;obtain ⟨h1,h2⟩:=Qc hx;exact ⟨x,h1,h2⟩
 ·rintro ⟨x,hx,rfl⟩
  cases h:Xy (itl L) x.key with
  | some y=>rfl
  | none=>exact absurd rfl (Pd h x hx)
theorem y1w(hk:Y6 (itl L)):((itl L).map Dl).Nodup:=by
 have h4:(itl L).map Dl=((itl L).map It.key).map (fun k=>k.data.toList):=by rw [List.map_map];rfl
 rw [h4];exact List.Pairwise.map _ (fun a b hab e=>hab (ByteArray.ext (Array.toList_inj.1 e))) hk
theorem y7o{seed:Nat}{D:Dc.Dc}(hk:Y6 (itl L))(hL:Dc.Like Dc.Dt.tyP seed D (fun k=>(Y4 L k).map Dc.Dt.Q7))(hs:D.shape.small):(Dc.Dt.Uw D D.least).Perm ((itl L).map Dl):=by
 obtain ⟨h1,h2⟩:=Dc.Dt.x1d hL hs;refine (List.perm_ext_iff_of_nodup h1 (y1w hk)).2 fun k=>?_;rw [h2,x3r,List.mem_map]
 constructor
 ·rintro ⟨x,hx,e⟩;exact ⟨x,hx,by unfold Dl;rw [e,Dc.Dt.Dk]⟩
 ·rintro ⟨x,hx,e⟩;exact ⟨x,hx,by rw [<- e];unfold Dl;rw [Dc.Dt.Dj]⟩
theorem v2t(h:SpSt w p en mn sd c L S)(hE:Dc.Dt.Env w):∃ d,(∃ rv,Blk w p Gm (spC en mn sd d rv))/\Calls Tryz.prog 45 #[.pointer (some ⟨d,0,none⟩)] w fun e w'=>∃ u ks,e=.returned u/\Dc.Dt.Own9 w' w.heap.size u ks/\ks.Perm ((itl L).map Dl)/\Bl w w':=by
 obtain ⟨d,SD,rv,sh,h1,h2,h3,hS⟩:=h;refine ⟨d,⟨rv,h1.blk⟩,?_⟩;obtain ⟨D,g1,g2,g3⟩:=h1.dict;have hs:D.shape.small:=by rw [g3];exact h2.2
 have hn:D.n<=500:=by
  have:D.shape.n=D.n:=rfl
  rw [g3,h2.1] at this;omega
 refine (Dc.Dt.Ba g1 g2 hn hs hE).mono ?_;rintro e w' ⟨u,rfl,hu,hb⟩;exact ⟨u,_,rfl,hu,y7o h1.keys g2 hs,hb⟩
end
end Go.Proofs.YtcklcmafohlflaaGreatDoor
