/- Texts of one kind in one: ZName, SpShown, SpEntries, ZNil, SpPuts, SpPair, SpLike, SpPairs, SpLike2, SpSets, SpOff, SpDid, SpDidPut, SpDidAdd, SpDidMake, SpDidTidy, SpOpen, SpActs, SpDidAny, SpLook, SpPutsLaw, SpGoing, SpKeysG, SpScanM, SpNil, SpNil2, SpFull, SpLaid, SpLaid3. -/
import Derived.Test.YtmehfohpjigmmaaGreatDoorQStBase26
import Derived.Lib.SmallJoins
import Derived.Test.YtmehfohpjigmmaaGreatDoorTie
import Derived.LaidMore
import Derived.Stop.LaidTwo
import Derived.HandedShaped
import Derived.Deep.DeepLaidRun
set_option maxRecDepth 200000
set_option maxHeartbeats 8000000
namespace Go.Proofs.YtmehfohpjigmmaaGreatDoor
open Zc (Ent Ext KeepC Y5 Z7 Z9 Yw Y1 Za Zl Ya Zp Z6 Zo Z0 Zf)
open Go.RowKit Go.Shelf Sk
attribute [local go_sem] Oper.semAt_some
def ba(l:List UInt8):ByteArray:=⟨l.toArray⟩
def SpOwn(w0 w:World)(p:Nat)(en mn:Int)(sd c:Nat)(L:List Th):Prop:=∃ S,SpSt w p en mn sd c L S/\(∀ k,S k->w0.heap.size<=k)/\Bl w0 w
section
variable {w0 w w' w1 w2:World} {p c c' sd:Nat} {S:Nat->Prop} {en mn:Int} {L L':List Th} {t:Th}
theorem SpOwn.below(h:SpOwn w0 w p en mn sd c L):Bl w0 w:=by obtain ⟨S,_,_,h⟩:=h;exact h
theorem SpOwn.env(h:SpOwn w0 w p en mn sd c L)(hE:EnvE w0):EnvE w:=hE.later h.below
theorem SpOwn.of(h2:∀ k,S k->w0.heap.size<=k)(h3:Bl w0 w)(g:SpNow w p en mn sd c' S L' w'):SpOwn w0 w' p en mn sd c' L':=by
 obtain ⟨S',g1,g2,g3⟩:=g;refine ⟨S',g1,fun k hk=>?_,h3.trans (g3.below h2 h3.size)⟩;rcases g2 k hk with h|h
 ·exact h2 k h
 ·exact Nat.le_trans h3.size h
theorem SpOwn.later(h:SpOwn w0 w p en mn sd c L)(hb:Bl w w'):SpOwn w0 w' p en mn sd c L:=by
 obtain ⟨S,h1,h2,h3⟩:=h;exact .of h2 h3 (.same h1 hb)
theorem z2r(hE:EnvE w0)(h2:∀ k,S k->w0.heap.size<=k):¬ S 0:=fun h=>by have:=h2 0 h;have:=hE.lt;omega
theorem z2p(en mn mx:Int)(sd:Nat)(hsd:sd<4294967296)(c:Nat)(w:World) :
 Calls Tryz.prog 5 #[.agg #[.int .i64 en,.int .i64 mn,.int .u32 sd,.int .i64 mx]] w fun e w'=>∃ p,e=.returned (.pointer (some ⟨p,0,none⟩))/\SpOwn w w' p en mn sd c []:=by
 refine (y3w en mn mx sd hsd c w).mono ?_;rintro e w' ⟨p,S,rfl,h1,h2,h3⟩;exact ⟨p,rfl,S,h1,h2,h3⟩
theorem Jt(hE:EnvE w0)(h:SpOwn w0 w p en mn sd c L)(hc:c<=10000)(k:ByteArray)(hk:k.size<=281474976710656)(now:Int)(hnow:Lf.I64 now) :
 Calls Tryz.prog 6 #[.pointer (some ⟨p,0,none⟩),.string k,.int .i64 now] w fun e w'=>∃ a L',e=.returned (.tuple #[.pointer a,.int .i64 (Yr L k now)])/\SpOwn w0 w' p en mn sd c L'/\Bx L k now a L':=by
 have hw:=h.env hE;obtain ⟨S,h1,h2,h3⟩:=h;refine (y1z h1 hw (z2r hE h2) hc k hk now hnow).mono ?_;rintro e w' ⟨a,L',rfl,hn,hm⟩;exact ⟨a,L',rfl,.of h2 h3 hn,hm⟩
theorem z8c(h:SpOwn w0 w p en mn sd c L)(k:ByteArray)(hk:k.size<=281474976710656) :
 Calls Tryz.prog 8 #[.pointer (some ⟨p,0,none⟩),.string k] w fun e w'=>e=.returned (.tuple #[.pointer (z1o L k),.bool (Zw L k).isSome])/\SpOwn w0 w' p en mn sd c L:=by
 obtain ⟨S,h1,h2,h3⟩:=h;refine (y1y h1 k hk).mono ?_;rintro e w' ⟨rfl,hn⟩;exact ⟨rfl,.of h2 h3 hn⟩
theorem Ju(hE:EnvE w0)(h:SpOwn w0 w p en mn sd c L)(f k:ByteArray)(hf:f.size<=281474976710656)(hk:k.size<=281474976710656) :
 Calls Tryz.prog 7 #[.pointer (some ⟨p,0,none⟩),.string f,.string k] w fun e w'=>∃ L',e=.returned (.int .i64 (O8 L f k))/\SpOwn w0 w' p en mn sd c L'/\J8 L f k L':=by
 have hw:=h.env hE;obtain ⟨S,h1,h2,h3⟩:=h;refine (z5f h1 hw (z2r hE h2) f k hf hk).mono ?_;rintro e w' ⟨L',rfl,hn,hm⟩;exact ⟨L',rfl,.of h2 h3 hn,hm⟩
theorem Cu(h:SpOwn w0 w p en mn sd c L)(hc:c<=1000) :
 Calls Tryz.prog 18 #[.pointer (some ⟨p,0,none⟩)] w fun e w'=>e=.returned (.int .i64 (I3 (itl L):Nat))/\SpOwn w0 w' p en mn sd c L:=by
 have h0:=h;obtain ⟨S,h1,h2,h3⟩:=h;refine (y2a h1 hc).mono ?_;rintro e w' ⟨rfl,hb⟩;exact ⟨rfl,h0.later hb⟩
end
theorem Bj:Yr [] (ba [107]) 0=0/\I3 (itl [])=64/\I3 [⟨ba [107],5,0,false,[]⟩]=115:=by
 refine ⟨?_,?_,?_⟩ <;> decide +kernel
theorem z4z(w:World)(hE:EnvE w):Calls Tryz.prog 4 #[] w fun e w'=>e=.returned (.bool true)/\Bl w w':=by
 obtain ⟨f1,f2,f3⟩:=Bj;have HN:=jY (z2p 9 9 0 0 (by decide) 0 w);have HA:=fun W p (h:SpOwn w W p 9 9 0 0 [])=>jY (Cu h (by decide));have HB:=fun W p (h:SpOwn w W p 9 9 0 0 [])=>jY (Jt hE h (by decide) (ba [107]) (by decide) 0 (by unfold Lf.I64;omega));have HC:=fun W p t (h:SpOwn w W p 9 9 0 0 [t])=>jY (z8c h (ba [107]) (by decide));have HD:=fun W p t (h:SpOwn w W p 9 9 0 0 [t])=>jY (Ju hE h (ba [120]) (ba [121]) (by decide) (by decide));have HF:=fun W p t (h:SpOwn w W p 9 9 0 0 [t])=>jY (Cu h (by decide));rw [f1] at HB;rw [f2] at HA;unfold ba at *;clear hE
 go_enter Tryz.func4,Tryz.ntmps4
 go_wp2_with fail;refine HN.out.mono ?_;rintro e w1 ⟨p,rfl,h1⟩;have HA1:=HA w1 p h1;clear h1 HA HN;go_wp2_with fail;refine HA1.out.mono ?_;rintro e w2 ⟨rfl,h2⟩;have HB2:=HB w2 p h2;clear h2 HA1 HB;go_wp2_with fail;refine HB2.out.mono ?_;rintro e w3 ⟨a,L',rfl,h3,hm⟩
 obtain ⟨t,rfl,ht⟩:∃ t,L'=[t]/\t.toIt=⟨{ data:=#[107] },5,0,false,[]⟩:=by
  rcases hm with ⟨h,_⟩|⟨_,_,t,_,_,_,⟨h,_⟩|⟨_,_,_,h,ht⟩⟩
  ·exact absurd f1 h
  ·cases h
  ·exact ⟨t,h,ht⟩
 have g1:(Zw [t] { data:=#[107] }).isSome=true:=by
  have:t.key={ data:=#[107] }:=by rw [ht]
  unfold Zw;simp [this]
 have g2:O8 [t] { data:=#[120] } { data:=#[121] }=141:=by
  have:t.key={ data:=#[107] }:=by rw [ht]
  have hn:({ data:=#[107] }:ByteArray)≠{ data:=#[120] }:=by decide
  unfold O8 Zw;simp [this,hn]
 have g3:I3 (itl [t])=115:=by
  rw [show itl [t]=[t.toIt] from rfl,ht];exact f3
 have HC3:=HC w3 p t h3;have HD3:=fun W (h:SpOwn w W p 9 9 0 0 [t])=>HD W p t h;have HF3:=fun W (h:SpOwn w W p 9 9 0 0 [t])=>HF W p t h;rw [g1] at HC3;rw [g2] at HD3;rw [g3] at HF3
 have HM:=jY (show ∀ L',J8 [t] { data:=#[120] } { data:=#[121] } L'->L'=[t] from fun L' h=>by
  rcases h with ⟨_,h⟩|⟨h,_⟩|⟨h,_⟩
  ·exact h
  ·rw [g2] at h;cases h
  ·rw [g2] at h;cases h)
 generalize z1o [t] { data:=#[107] }=ad at HC3;clear h3 hm ht HC HD HF HB2 g1 g2 g3 f1 f2 f3;go_wp2_with fail;refine HC3.out.mono ?_;rintro e w4 ⟨rfl,h4⟩;have HD4:=HD3 w4 h4;clear h4 HD3 HC3;go_wp2_with fail;refine HD4.out.mono ?_;rintro e w5 ⟨L',rfl,h5,hm⟩;obtain rfl:=HM.out _ hm;have HF5:=HF3 w5 h5;clear h5 hm HD4 HF3 HM
 go_wp2_with (first
  | (go_at_call 18;refine HF5.out.mono ?_;rintro e w6 ⟨rfl,h6⟩;have H6:=jY h6;clear h6))
 go_ret;exact ⟨rfl,H6.out.below⟩
section
variable {w0 w w' w1 w2:World} {p c c' sd s:Nat} {S:Nat->Prop} {en mn:Int} {L L':List Th} {t:Th}
theorem y1l(h:SpOwn w0 w p en mn sd c L):Calls Tryz.prog 12 #[.pointer (some ⟨p,0,none⟩)] w fun e w'=>e=.returned (.int .i64 L.length)/\w'=w:=by
 obtain ⟨S,h1,h2,h3⟩:=h;exact z1p h1
variable {k:ByteArray} {F l:List En}
end
section
variable {w0 W W':World} {p rp sd c c':Nat} {en mn mx:Int} {L L':List Th} {R R':List Rt} {S T:Nat->Prop}
end
section
variable {en mn now:Int} {L L':List Th} {R R':List Rt} {k f:ByteArray} {a b:Option Addr}
end
section
variable {w0 W W':World} {p rp sd c c':Nat} {en mn mx:Int} {L L':List Th} {R R':List Rt} {S T:Nat->Prop}
end
section
variable {en mn now d:Int} {L L':List Th} {R R':List Rt} {k f:ByteArray} {a b:Option Addr}
end
section
variable {w0 W W':World} {p rp sd c c' i:Nat} {en mn mx:Int} {L L':List Th} {R R':List Rt} {S T:Nat->Prop} {x:Rt} {t:Th}
end
section
variable {en mn now d n:Int} {I J K:List It} {L L':List Th} {k t f o:ByteArray} {a:Option Addr} {l:List En}
end
section
variable {w0 W W':World} {p rp sd c:Nat} {en mn mx:Int} {L:List Th} {R:List Rt}
end
section
variable {w0 W W':World} {p rp sd c:Nat} {en mn mx:Int} {L:List Th} {R:List Rt}
end
section
variable {w0 W W':World} {p rp sd c:Nat} {en mn mx:Int} {L:List Th} {R:List Rt} {t:Th} {x:Rt}
end
section
variable {w0 W W':World} {p rp sd c:Nat} {en mn mx:Int} {L:List Th} {R:List Rt}
end
section
variable {w0 W W':World} {p rp sd c i:Nat} {en mn mx:Int} {L:List Th} {R:List Rt} {x:Rt}
end
end Go.Proofs.YtmehfohpjigmmaaGreatDoor
namespace Go.Proofs.YtmehfohpjigmmaaGreatDoor
open Zc (Ent Ext KeepC Y5 Z7 Z9 Yw Y1 Za Zl Ya Zp Z6 Zo Z0 Zf)
open Go.ChangeShapes Go.WideShapes Go.ChangeAt Go.RowKit Go.Deep
open Go.ChangeMaps (open_string shut_string)
theorem z7i:laidOutB Tryz.prog=true:=by kernel_rfl
def Ae : Field := { name := "Limits", type := 23, offset := 0, embedded := false, tag := "", pkgPath := "", byteOffset := 0 }
def Fg : Field := { name := "Seed", type := 24, offset := 2, embedded := false, tag := "", pkgPath := "", byteOffset := 16 }
def Ff : Field := { name := "Max", type := 3, offset := 3, embedded := false, tag := "", pkgPath := "", byteOffset := 24 }
def Fd : Field := { name := "Entries", type := 3, offset := 0, embedded := false, tag := "", pkgPath := "", byteOffset := 0 }
def Fe : Field := { name := "Member", type := 3, offset := 1, embedded := false, tag := "", pkgPath := "", byteOffset := 8 }
theorem z9o:Tryz.prog.underlying 26=some (.struct #[Ae,Fg,Ff]):=Tryz.underlying26
theorem y4a:Tryz.prog.underlying 23=some (.struct #[Fd,Fe]):=Tryz.underlying23
theorem y2t:Tryz.prog.cellsOf 26=4:=by kernel_rfl
theorem y2u:Tryz.prog.cellsOf 23=2:=by kernel_rfl
theorem y2v:Tryz.prog.cellsOf 24=1:=by kernel_rfl
theorem z6j:Tryz.prog.cellsOf 3=1:=by kernel_rfl
theorem A9{a:Int}(h:(Lit.int .u32 a).wf=true):0<=a/\a<=4294967295:=by
 have h1:IntKind.u32.min=0:=by decide
 have h2:IntKind.u32.max=4294967295:=by decide
 simp [Lit.wf] at h;omega
theorem y5h{α:Type}{l:List α}(h:l.length=4):∃ a b c d,l=[a,b,c,d]:=by
 rcases l with _|⟨a,_|⟨b,_|⟨c,_|⟨d,_|⟨e,l⟩⟩⟩⟩⟩ <;> simp at h
 exact ⟨a,b,c,d,rfl⟩
theorem Cr{H:Type}{enc:TypeId × Value->H}{W:World}{b0:Nat}{v:Value}{d:DataW H}{ps:List MemPlace}(hv:Value.okWide Tryz.prog W .any b0 26 v)(h:DataW.Trod enc Tryz.prog W 0 (fun _=>true) true 26 v d ps) :
 ∃ (en mn:Int) (sd:Nat) (mx:Int),v=.agg #[.int .i64 en,.int .i64 mn,.int .u32 sd,.int .i64 mx]/\sd<4294967296:=by
 obtain ⟨cs,rfl,hsz⟩:=okWide_struct z9o hv;obtain ⟨l⟩:=cs;obtain ⟨fuel,hf⟩:=h;obtain ⟨xs,n,_,_,_,hxl,hfs⟩:=DataW.trod_struct z9o hf;rw [y2t] at hsz;have hl:l.length=4:=hsz;have f0:=hfs 0 Ae rfl;have f1:=hfs 1 Fg rfl;have f2:=hfs 2 Ff rfl;obtain ⟨v0,v1,v2,v3,rfl⟩:=y5h hl
 replace hxl:xs.length=3:=hxl
 rw [show (Value.cells (.agg ⟨[v0,v1,v2,v3]⟩)).toList=[v0,v1,v2,v3] from rfl] at f0 f1 f2;simp only [Ae,Fg,Ff,y2u,y2v,z6j,List.drop_zero,List.take_succ_cons,List.take_zero,List.drop_succ_cons] at f0 f1 f2;rw [List.getElem?_eq_getElem (show 0<xs.length by omega)] at f0;rw [List.getElem?_eq_getElem (show 1<xs.length by omega)] at f1;rw [List.getElem?_eq_getElem (show 2<xs.length by omega)] at f2;obtain ⟨ys,n',_,_,_,hyl,hgs⟩:=DataW.trod_struct y4a f0;have g0:=hgs 0 Fd rfl;have g1:=hgs 1 Fe rfl
 replace hyl:ys.length=2:=hyl
 simp only [Fd,Fe,z6j,List.drop_zero,List.take_succ_cons,List.take_zero,List.drop_succ_cons] at g0 g1;rw [List.getElem?_eq_getElem (show 0<ys.length by omega)] at g0;rw [List.getElem?_eq_getElem (show 1<ys.length by omega)] at g1;obtain ⟨k0,hk0,_,_⟩:=DataW.trod_int Tryz.underlying3 g0;obtain ⟨k1,hk1,_,_⟩:=DataW.trod_int Tryz.underlying3 g1;obtain ⟨k2,hk2,_,w2⟩:=DataW.trod_int Tryz.underlying24 f1;obtain ⟨k3,hk3,_,_⟩:=DataW.trod_int Tryz.underlying3 f2;simp only [List.cons.injEq,and_true] at hk0 hk1 hk2 hk3;subst hk0 hk1 hk2 hk3;obtain ⟨h1,h2⟩:=A9 w2;refine ⟨k0,k1,k2.toNat,k3,?_,by omega⟩;rw [Int.toNat_of_nonneg h1]
structure ActX where
 d:Int
 k:ByteArray
 t:ByteArray
 m:ByteArray
 sc:Int
 n:Int
 dr:Int
instance:Inhabited ActX:=⟨⟨0,⟨#[]⟩,⟨#[]⟩,⟨#[]⟩,0,0,0⟩⟩
end Go.Proofs.YtmehfohpjigmmaaGreatDoor
namespace Go.Proofs.YtmehfohpjigmmaaGreatDoor
open Zc (Ent Ext KeepC Y5 Z7 Z9 Yw Y1 Za Zl Ya Zp Z6 Zo Z0 Zf)
open Go.RowKit Go.Shelf Sk
attribute [local go_sem] Oper.semAt_some
section
variable {w0 w W W':World} {p rp sd c:Nat} {en mn mx:Int} {L:List Th} {R:List Rt}
end
section
variable {w0 W W':World} {p rp sd c:Nat} {en mn mx:Int} {L:List Th} {R:List Rt} {o:ByteArray} {a:Option Addr} {E:List En}
end
section
variable {b sd:Nat} {en mn mx d sc n dr:Int} {k t m:ByteArray} {W W' w:World}
end
section
variable {w0 W W':World} {p rp sd i c:Nat} {en mn mx:Int} {L:List Th} {R:List Rt} {a:Option Addr} {E:List En} {o:ByteArray}
end
end Go.Proofs.YtmehfohpjigmmaaGreatDoor
namespace Go.Proofs.YtmehfohpjigmmaaGreatDoor
open Zc (Ent Ext KeepC Y5 Z7 Z9 Yw Y1 Za Zl Ya Zp Z6 Zo Z0 Zf)
open Go.RowKit Go.Shelf Go.Sort Sk
attribute [local go_sem] Oper.semAt_some
theorem Gf{W:World}{base:Nat}{v:Value}{ks:List (List UInt8)}(h:Dc.Dt.Own9 W base v ks):∃ A cap,v=.slice A ks.length cap/\ks.length<=cap/\cap<=maxLen/\∀ i k,ks[i]?=some k->∃ g,A=some ⟨g,0,none⟩/\W.cell? ⟨g,i,none⟩=some (.string (Dc.Dt.y5k k)):=by
 unfold Dc.Dt.Own9 at h;rcases h.2 with ⟨rfl,h0⟩|⟨g,cap,cur,rfl,_,hg,hl,hm,_⟩
 ·exact ⟨none,0,by rw [h0],by omega,by unfold maxLen;omega,fun i k hk=>by
   have:=(List.getElem?_eq_some_iff.1 hk).1
   omega⟩
 ·refine ⟨some ⟨g,0,none⟩,cap,rfl,hl,hm,fun i k hk=>⟨g,rfl,?_⟩⟩;have hi:=(List.getElem?_eq_some_iff.1 hk).1;rw [World.ownsRow.cellAt h i (by omega),List.getElem?_map,hk];rfl
section
variable {w0 W W':World} {p rp sd i c:Nat} {en mn mx:Int} {L:List Th} {R:List Rt} {a:Option Addr} {E:List En} {o:ByteArray}
end
section
variable {w w':World} {p sd c d cv n:Nat} {S:Nat->Prop} {en mn:Int} {rv:Value} {L:List Th} {Q:Value->World->Prop}
theorem z4q(w:World):Calls Tryz.prog 10 #[.pointer none,.int .u32 0] w fun e w'=>∃ u,e=.returned (.tuple #[u,.int .u32 0])/\Dc.Dt.Own9 w' w.heap.size u []/\Bl w w':=by
 have HT:=jY (Ub w);have HS:=jY (Dc.Dt.Bd 0 (by omega) w)
 go_enter Tryz.func10,Tryz.ntmps10
 go_wp2_with fail;refine HT.out.mono ?_;rintro e w1 ⟨rfl,rfl⟩;go_wp2_with fail;refine HS.out.mono ?_;rintro e w2 ⟨u,rfl,hq⟩;have HQ:=jY hq;clear hq HS HT;go_wp2;go_ret2;exact ⟨_,rfl,HQ.out⟩
end
theorem Dc.Dt.get_nil(k:ByteArray)(w:World):Calls Tryz.prog 48 #[.pointer none,.string k] w fun e w'=>e=.returned (.tuple #[.pointer none,.bool false])/\Bl w w':=by
 have HB:=jY (Z5 w (.cells #[.pointer none] 56));have hc:=(Blk.new w 56 #[.pointer none]).cell 0;simp at hc
 go_enter Tryz.func48,Tryz.ntmps48
 go_wp2;go_ret2;exact ⟨rfl,HB.out⟩
theorem Oj(k:ByteArray)(w:World):Calls Tryz.prog 26 #[.pointer none,.string k] w fun e w'=>e=.returned (.tuple #[.pointer none,.bool false])/\Bl w w':=by
 have HT:=fun W=>jY ((Ub W).mono fun e w' (h:e=.returned (.pointer none)/\w'=W)=>show e=.returned (.pointer none)/\Bl W w' from ⟨h.1,by rw [h.2];exact Below.refl _ _⟩);have HS:=fun W=>jY (Dc.Dt.Gc W);have HG:=fun W=>jY (Dc.Dt.get_nil k W);have HB0:=jY (Z5 w (.cells #[.string k] 9));have HK:=jY (Blk.new w 9 #[.string k])
 go_enter Tryz.func26,Tryz.ntmps26
 go_wp2_with fail;generalize w.alloc (.cells #[.string k] 9)=wb at *;refine wp_scope_straight ?_;go_wp2_with fail;refine (HT _).out.mono ?_;rintro e w1 ⟨rfl,hb1⟩;have HB1:=jY (HB0.out.trans (hb1.mono HB0.out.size));have HK1:=jY (HK.out.later hb1);clear hb1 HB0 HK;go_wp2_with fail;refine (HS _).out.mono ?_;rintro e w2 ⟨rfl,rfl⟩;have HB2:=HB1;have HK2:=HK1;clear HB1 HK1 HS;go_wp2_with fail;have q0:=fun y:Ext w2=>y.cell (HK2.out.cell 0);have hne:=Ext.one w2;refine Zf (w1:=w2) (by kernel_rfl) (by kernel_rfl) (Below.refl _ _) ?_
 repeat go_big_quiet_step (first|(go_at_call 28;exact Ext.call _ (HT _).out)|(go_at_call 48;exact Ext.call _ (HG _).out))
 refine wpQuiet_nil ?_;rintro _ ⟨y,rfl⟩;have HB:=jY (HB2.out.trans (y.ok.mono HB2.out.size));clear q0 hne HT HG;go_wp2_with fail;simp only [Exit.noGoto];go_returns;exact ⟨rfl,HB.out⟩
theorem z7r(k:ByteArray)(w:World):Calls Tryz.prog 8 #[.pointer none,.string k] w fun e w'=>e=.returned (.tuple #[.pointer none,.bool false])/\Bl w w':=by
 have HF:=fun W=>jY (Oj k W)
 go_enter Tryz.func8,Tryz.ntmps8
 go_wp2_with fail;refine (HF _).out.mono ?_;rintro e w1 ⟨rfl,hb⟩;have HB:=jY hb;clear hb;go_wp2;go_ret2;exact ⟨rfl,HB.out⟩
theorem y1h(k:ByteArray)(w:World):Calls Tryz.prog 9 #[.pointer none,.string k] w fun e w'=>e=.returned (.tuple #[.agg #[.int .i64 0,.int .i64 0],.bool false])/\Bl w w':=by
 have HF:=fun W=>jY (Oj k W);have hb0:=Z5 w (.cells #[.int .i64 0,.int .i64 0] 39);have k0:=Blk.new w 39 #[.int .i64 0,.int .i64 0]
 have HFIN:=jY (fun w1 (g:Below (w.alloc (.cells #[.int .i64 0,.int .i64 0] 39)).heap.size (w.alloc (.cells #[.int .i64 0,.int .i64 0] 39)) w1) (v1 v2:Value)=>show Blk w1 w.heap.size 39 #[.int .i64 0,.int .i64 0]/\Bl w ((w1.setCell ⟨w.heap.size,0,none⟩ v1).setCell ⟨w.heap.size,1,none⟩ v2) from by
  exact ⟨k0.later g,((Below.trans hb0 (g.mono hb0.size)).setCell (Nat.le_refl _) _).setCell (Nat.le_refl _) _⟩)
 clear hb0 k0
 go_enter Tryz.func9,Tryz.ntmps9
 go_wp2_with fail;refine (HF _).out.mono ?_;rintro e w1 ⟨rfl,g⟩;have hfin:=HFIN.out w1 g (.int .i64 0) (.int .i64 0);obtain ⟨b0,b1,b2,b3⟩:=Zd hfin.1;have HE:=jY hfin.2;clear g hfin HF HFIN;go_wp2;exact bodyPost_ret (v:=.tuple #[.agg #[.int .i64 0,.int .i64 0],.bool false]) (by simp [results,Tryz.results9,go_sem,b0,b1]) rfl ⟨rfl,HE.out⟩
theorem z0m(k:ByteArray)(w:World):Calls Tryz.prog 15 #[.pointer none,.string k] w fun e w'=>e=.returned (.bool false)/\Bl w w':=by
 have HF:=fun W=>jY (Oj k W)
 go_enter Tryz.func15,Tryz.ntmps15
 go_wp2_with fail;refine (HF _).out.mono ?_;rintro e w1 ⟨rfl,hb⟩;have HB:=jY hb;clear hb;go_wp2;go_ret;exact ⟨rfl,HB.out⟩
theorem z7v(k:ByteArray)(w:World):Calls Tryz.prog 16 #[.pointer none,.string k] w fun e w'=>e=.returned (.bool false)/\Bl w w':=by
 have HF:=fun W=>jY (Oj k W)
 go_enter Tryz.func16,Tryz.ntmps16
 go_wp2_with fail;refine (HF _).out.mono ?_;rintro e w1 ⟨rfl,hb⟩;have HB:=jY hb;clear hb;go_wp2;go_ret;exact ⟨rfl,HB.out⟩
theorem y1f(w:World):Calls Tryz.prog 12 #[.pointer none] w fun e w'=>e=.returned (.int .i64 0)/\w'=w:=by
 have HT:=fun W=>jY (Ub W)
 have HL:∀ W,Hid (Calls Tryz.prog 30 #[.pointer none] W fun e w'=>e=.returned (.int .i64 0)/\w'=W):=fun W=>jY (by
  go_enter Tryz.func30,Tryz.ntmps30
  go_wp2;go_ret
  exact ⟨rfl,rfl⟩)
 go_enter Tryz.func12,Tryz.ntmps12
 go_wp2_with fail;refine (HT _).out.mono ?_;rintro e w1 ⟨rfl,rfl⟩;go_wp2_with fail;refine (HL _).out.mono ?_;rintro e w1 ⟨rfl,rfl⟩;go_wp2;go_ret;exact ⟨rfl,rfl⟩
theorem z7t(w:World):Calls Tryz.prog 18 #[.pointer none] w fun e w'=>e=.returned (.int .i64 0)/\Bl w w':=by
 go_enter Tryz.func18,Tryz.ntmps18
 go_wp2;go_returns;exact ⟨rfl,Below.refl _ _⟩
theorem z7s(k:ByteArray)(now:Int)(w:World)(hE:EnvE w):Calls Tryz.prog 6 #[.pointer none,.string k,.int .i64 now] w fun e w'=>e=.returned (.tuple #[.pointer none,.int .i64 1])/\Bl w w':=by
 have HM:=jY (Cm k now w);have HN:=jY (X7 1 w hE);unfold Xp Ul at *;clear hE
 go_enter Tryz.func6,Tryz.ntmps6
 go_wp2_with fail;refine HM.out.mono ?_;rintro e w1 ⟨rfl,rfl⟩;simp only [show (1:Int)≠0 from by decide,if_false];go_wp2_with fail;refine HN.out.mono ?_;rintro e w1 ⟨rfl,hb⟩;have HB:=jY hb;clear hb;go_wp2;go_ret2;exact ⟨rfl,HB.out⟩
theorem y1g(k:ByteArray)(v:Value)(now:Int)(w:World)(hE:EnvE w):Calls Tryz.prog 13 #[.pointer none,.string k,v,.int .i64 now] w fun e w'=>e=.returned (.int .i64 1)/\Bl w w':=by
 have HM:=jY (Cm k now w);have HN:=jY (X7 1 w hE);unfold Xp Ul at *;clear hE
 go_enter Tryz.func13,Tryz.ntmps13
 go_wp2_with fail;refine HM.out.mono ?_;rintro e w1 ⟨rfl,rfl⟩;simp only [show (1:Int)≠0 from by decide,if_false];go_wp2_with fail;refine HN.out.mono ?_;rintro e w1 ⟨rfl,hb⟩;have HB:=jY hb;clear hb;go_wp2;go_ret;exact ⟨rfl,HB.out⟩
theorem z4c(k:ByteArray)(now d:Int)(w:World)(hE:EnvE w):Calls Tryz.prog 14 #[.pointer none,.string k,.int .i64 now,.int .u32 d] w fun e w'=>e=.returned (.int .i64 1)/\Bl w w':=by
 have HM:=jY (G7 k w);have HN:=jY (X7 1 w hE);unfold Xp Ul at *;clear hE
 go_enter Tryz.func14,Tryz.ntmps14
 go_wp2_with fail;refine HM.out.mono ?_;rintro e w1 ⟨rfl,rfl⟩;simp only [show (1:Int)≠0 from by decide,if_false];go_wp2_with fail;refine HN.out.mono ?_;rintro e w1 ⟨rfl,hb⟩;have HB:=jY hb;clear hb;go_wp2;go_ret;exact ⟨rfl,HB.out⟩
theorem z0n(f k:ByteArray)(w:World)(hE:EnvE w):Calls Tryz.prog 7 #[.pointer none,.string f,.string k] w fun e w'=>e=.returned (.int .i64 1)/\Bl w w':=by
 have HF:=jY (G7 f w);have HB:=jY (X7 1 w hE);unfold Ul at HB;clear hE
 go_enter Tryz.func7,Tryz.ntmps7
 go_wp2_with fail;refine wp_scope_jumps 0 (fun a' w'=>w'=w/\z2a (.iface 85 (.int .i64 1)) a') (fun _ _=>0) rfl ?_ ?_
 ·go_wp2_with fail;refine HF.out.mono ?_;rintro e w1 ⟨rfl,rfl⟩;clear HF HB;rw [show Xp 1=.iface 85 (.int .i64 1) from rfl];go_wp2_with fail
  go_step3
  exact ⟨rfl,rfl,_,_,_,_,_,_,_,_,_,_,_,_,_,_,_,_,_,_,_,_,_,_,_,_,_,_,_,_,_,_,_,_,_,_,rfl⟩
 ·rintro a' w' ⟨rfl,u0,u1,u2,u3,u4,u5,u6,u7,u9,u10,u11,u12,u13,u14,u15,u16,u17,u18,u19,u20,u21,u22,u23,u24,u25,u26,u27,u28,u29,u30,u31,u32,u33,u34,rfl⟩;clear HF;go_wp2_with fail;refine HB.out.mono ?_;rintro e w2 ⟨rfl,hb⟩;have HB2:=jY hb;clear hb HB;go_wp2_with fail;simp only [Exit.jump];go_ret;exact ⟨rfl,HB2.out⟩
end Go.Proofs.YtmehfohpjigmmaaGreatDoor
namespace Go.Proofs.YtmehfohpjigmmaaGreatDoor.Dc.Dt
open Zc
open Go.RowKit Go.Shelf
attribute [local go_sem] Oper.semAt_some
theorem z0k(w:World):Calls Tryz.prog 108 #[.pointer none] w fun e w'=>e=.returned (.bool false)/\w'=w:=by
 go_enter Tryz.func108,Tryz.ntmps108
 go_wp2;go_returns;exact ⟨rfl,rfl⟩
theorem Bt(L:List Nat)(w:World):By Tryz.prog 62 #[.pointer none] #[] If ([]:List Nat) L w:=by
 intro l J Jx W hW hJ hJx hY hJ0;have HM:=jY (z0k W);refine callsIn_of_wp Tryz.func62 rfl trivial ?_ rfl;simp only [Tryz.ntmps62,List.size_toArray,List.length_cons,List.length_nil,Nat.reduceAdd,Nat.reduceSub,Array.replicate_succ,Array.replicate_zero,List.push_toArray,List.append_toArray,List.nil_append,List.cons_append,List.append_nil];clear hY
 gi_wp2_with fail
 refine ⟨trivial,?_⟩;refine callsIn_wide.2 (Calls.mono HM.out ?_);rintro e w1 ⟨rfl,rfl⟩;gi_wp2;go_returns;exact ⟨⟨_,rfl⟩,.inl hJ0⟩
theorem z9d(n:Int)(w:World):Calls Tryz.prog 40 #[.pointer none,.int .i64 n] w fun e w'=>e=.returned (.int .i64 0)/\Bl w w':=by
 refine (callsIn_wide (n:=6)).1 (callsIn_of_wp_marks Tryz.func40 rfl trivial ?_ rfl);refine wpIn_wide.2 ?_;simp only [Tryz.ntmps40,List.size_toArray,List.length_cons,List.length_nil,Nat.reduceAdd,Nat.reduceSub,Array.replicate_succ,Array.replicate_zero,List.push_toArray,List.append_toArray,List.nil_append,List.cons_append];go_wp2;refine wp_scope_straight ?_;go_wp2;refine wp_label ?_;go_wp2;have k3:=Blk.new ((w.alloc (Obj.cells #[Value.pointer none] 52)).alloc (Obj.cells #[Value.int .i64 n] 3)) 3 #[Value.int .i64 0];simp only [World.size_alloc] at k3;have hB:=(((Below.refl w.heap.size w).alloc (Nat.le_refl _) (Obj.cells #[Value.pointer none] 52)).alloc (by simp) (Obj.cells #[Value.int .i64 n] 3)).alloc (by simp;omega) (Obj.cells #[Value.int .i64 0] 3);have hsz:(((w.alloc (Obj.cells #[Value.pointer none] 52)).alloc (Obj.cells #[Value.int .i64 n] 3)).alloc (Obj.cells #[Value.int .i64 0] 3)).heap.size=w.heap.size+3:=by simp
 generalize (((w.alloc (Obj.cells #[Value.pointer none] 52)).alloc (Obj.cells #[Value.int .i64 n] 3)).alloc (Obj.cells #[Value.int .i64 0] 3))=w1 at *
 refine (wpIn_wide (n:=6)).1 (Pb (gf:=62) (fb:=#[.pointer none]) (lb:=#[]) (encs:=If) (xs:=([]:List Nat)) (L:=[w.heap.size+2]) rfl (enters_of Tryz.func62 (by kernel_rfl) rfl) (Bt _ _) (fun _ _=>rfl)
  (fun i W=>i=0/\Bl w W/\Blk W (w.heap.size+2) 3 #[Value.int IntKind.i64 0])
  (fun _ _ _=>False)
  ?hI ?hIx ?h0 (fun _ _ _ _=>False)
  (fun _ _ _=>Z0 _ _) ?assign ?body ?done ?stop)
 case hI=>exact (Z0 _ _).and ((Z6 _ w (by omega)).and (Zb _ _ _ _))
 case hIx=>exact fun c=>Z0 _ _
 case h0=>exact ⟨rfl,hB,k3⟩
 case assign =>
  rintro l i x W K hx' hI hK;simp at hx'
 case body =>
  rintro l i x a' W hx' hI hA;exact hA.elim
 case done =>
  rintro Dd W hD ⟨hi,q0,q3⟩ hK;obtain ⟨c3,d3⟩:=Z4 q3;have HK:=jY hK;have Q0:=jY q0;clear hK q0 q3 k3;simp only [Exit.inBlock,Exit.then];go_wp2;refine Zp (v:=.int .i64 0) rfl HK.out (by simp [results,Tryz.results40,go_sem]) ⟨rfl,?_⟩;exact (Z6 (β:=Unit) _ w (Nat.le_refl _)).putObj (s:=()) _ Q0.out (by omega) HK.out rfl
 case stop =>
  rintro Dd c j W hD hI hK;exact hI.elim
end Go.Proofs.YtmehfohpjigmmaaGreatDoor.Dc.Dt
namespace Go.Proofs.YtmehfohpjigmmaaGreatDoor
open Zc (Ent Ext KeepC Y5 Z7 Z9 Yw Y1 Za Zl Ya Zp Z6 Zo Z0 Zf)
open Go.RowKit Go.Shelf Go.Sort Sk
attribute [local go_sem] Oper.semAt_some
theorem z7u(n:Int)(w:World):Calls Tryz.prog 19 #[.pointer none,.int .i64 n] w fun e w'=>e=.returned (.int .i64 0)/\Bl w w':=by
 have HT:=jY (Ub w);have HL:=jY (Dc.Dt.z9d n w)
 go_enter Tryz.func19,Tryz.ntmps19
 go_wp2_with fail;refine HT.out.mono ?_;rintro e w1 ⟨rfl,rfl⟩;go_wp2_with fail;refine HL.out.mono ?_;rintro e w1 ⟨rfl,hb⟩;have HB:=jY hb;clear hb HL;go_wp2;go_ret;exact ⟨rfl,HB.out⟩
end Go.Proofs.YtmehfohpjigmmaaGreatDoor
namespace Go.Proofs.YtmehfohpjigmmaaGreatDoor
open Zc (Ent Ext KeepC Y5 Z7 Z9 Yw Y1 Za Zl Ya Zp Z6 Zo Z0 Zf)
open Go.RowKit Go.Shelf Go.Sort Sk
attribute [local go_sem] Oper.semAt_some
def kbS(i:Nat):ByteArray:=⟨#[UInt8.ofNat (i % 256),UInt8.ofNat (i / 256 % 256)]⟩
theorem y0u{i j:Nat}(hi:i<65536)(hj:j<65536)(h:kbS i=kbS j):i=j:=by
 have h':[UInt8.ofNat (i % 256),UInt8.ofNat (i / 256 % 256)]=[UInt8.ofNat (j % 256),UInt8.ofNat (j / 256 % 256)]:=congrArg (fun s:ByteArray=>s.data.toList) h;rw [List.cons.injEq,List.cons.injEq] at h';obtain ⟨h1,h2,_⟩:=h';have e1:=congrArg UInt8.toNat h1;have e2:=congrArg UInt8.toNat h2;simp only [UInt8.toNat_ofNat'] at e1 e2;omega
theorem U6(i:Nat):(kbS i).size=2:=rfl
theorem Ce:(⟨#[0,0]⟩:ByteArray)=kbS 0:=rfl
theorem y5p(W:World)(b c:UInt8):(convert 34 9 (.slice (some ⟨W.heap.size,0,none⟩) 2 2)).run Tryz.prog (W.alloc (.cells #[.int .u8 b.toNat,.int .u8 c.toNat] 5))=.ok (.string ⟨#[b,c]⟩) (W.alloc (.cells #[.int .u8 b.toNat,.int .u8 c.toNat] 5)):=by
 have h:=run_convert_bytes_back (P:=Tryz.prog) (W.alloc (.cells #[.int .u8 b.toNat,.int .u8 c.toNat] 5)) 34 9 5 ⟨W.heap.size,0,none⟩ 2 [b,c] Tryz.underlying34 Tryz.underlying5 Tryz.underlying9
  (fun j hj=>by
    match j,hj with
    | 0,_=>exact (Blk.new W 5 #[.int .u8 b.toNat,.int .u8 c.toNat]).cell 0
    | 1,_=>simp [Addr.add]
    | j+2,hj=>simp at hj;omega)
 exact h
theorem y0v(i:Nat)(hi:i<=1000)(W:World):(convert 34 9 (.slice (some ⟨W.heap.size,0,none⟩) 2 2)).run Tryz.prog (W.alloc (.cells #[.int .u8 ((i:Int) % 256),.int .u8 ((i:Int) / 256)] 5))=.ok (.string (kbS i)) (W.alloc (.cells #[.int .u8 ((i:Int) % 256),.int .u8 ((i:Int) / 256)] 5)):=by
 have h:=y5p W (UInt8.ofNat (i % 256)) (UInt8.ofNat (i / 256 % 256));have e1:((UInt8.ofNat (i % 256)).toNat:Int)=(i:Int) % 256:=by simp
 have e2:((UInt8.ofNat (i / 256 % 256)).toNat:Int)=(i:Int) / 256:=by simp;omega
 rw [e1,e2] at h;exact h
structure FullS (i:Nat) (L:List Th):Prop where
 len:L.length=min i 500
 has:∀ k,(Zw L k).isSome=true↔∃ j,j<min i 500/\k=kbS j
theorem An:FullS 0 []:=⟨rfl,fun k=>⟨(fun h=>by cases h),(fun ⟨j,h,_⟩=>by omega)⟩⟩
section
variable {w0 W:World} {p sd i:Nat} {en mn:Int} {L:List Th}
theorem FullS.new(h:FullS i L)(j:Nat)(hij:min i 500<=j)(hj:j<=1000):Zw L (kbS j)=none:=by
 cases hh:Zw L (kbS j) with
 | none=>rfl
 | some a =>
   obtain ⟨q,hq,he⟩:=(h.has _).1 (by rw [hh];rfl)
   have:=y0u (by omega) (by omega) he
   omega
theorem z9k{t:Th}(k:ByteArray):(Zw (L++[t]) k).isSome=((Zw L k).isSome || decide (t.key=k)):=by
 unfold Zw;rw [List.find?_append,List.find?_singleton]
 cases hf:L.find? (fun t=>decide (t.key=k)) with
 | some x=>simp
 | none =>
   by_cases e:t.key=k <;> simp [e]
theorem FullS.put(h:FullS i L)(hi:i<500){t:Th}(ht:t.key=kbS i):FullS (i+1) (L++[t]):=by
 refine ⟨by rw [List.length_append,h.len,List.length_singleton];omega,fun k=>?_⟩;rw [z9k,Bool.or_eq_true,decide_eq_true_eq,h.has k]
 constructor
 ·rintro (⟨j,hj,e⟩|e)
  ·exact ⟨j,by omega,e⟩
  ·exact ⟨i,by omega,by rw [<- e,ht]⟩
 ·rintro ⟨j,hj,rfl⟩
  by_cases e:j=i
  ·subst e;exact .inr ht
  ·exact .inl ⟨j,by omega,rfl⟩
theorem FullS.same(h:FullS i L)(hi:500<=i):FullS (i+1) L:=⟨by rw [h.len];omega,fun m=>by
 rw [h.has m,show min (i+1) 500=min i 500 by omega]⟩
theorem Ap(hE:EnvE w0)(h:SpOwn w0 W p en mn sd 5 L)(hF:FullS i L)(hi:i<=600) :
 Calls Tryz.prog 6 #[.pointer (some ⟨p,0,none⟩),.string (kbS i),.int .i64 i] W fun e W'=>∃ a n,e=.returned (.tuple #[.pointer a,.int .i64 n])/\(n==0)=decide ((i:Int)<500)/\∃ L',SpOwn w0 W' p en mn sd 5 L'/\FullS (i+1) L':=by
 have hno:=hF.new i (by omega) (by omega);have hlen:=hF.len
 have hm:Yr L (kbS i) i=if i<500 then 0 else 51:=by
  unfold Yr;rw [U6,if_neg (by omega),hno,if_neg (by simp),if_neg (by omega)]
  by_cases h5:i<500
  ·rw [if_neg (by omega),if_pos h5]
  ·rw [if_pos (by omega),if_neg h5]
 refine (Jt hE h (by decide) (kbS i) (by rw [U6];omega) i (by unfold Lf.I64;omega)).mono ?_;rintro e W' ⟨a,L',rfl,h2,hMk⟩;refine ⟨a,_,rfl,?_,L',h2,?_⟩
 ·rw [hm]
  by_cases h5:i<500
  ·rw [if_pos h5];simp;omega
  ·rw [if_neg h5];simp;omega
 ·rcases hMk with ⟨hne,_,rfl⟩|⟨h0,_,t,ht,hk,_,hor⟩
  ·rw [hm] at hne
   have:¬ i<500:=fun h5=>hne (by rw [if_pos h5])
   exact hF.same (by omega)
  ·have h5:i<500:=by
    by_cases h5:i<500
    ·exact h5
    ·rw [hm,if_neg h5] at h0;omega
   rcases hor with ⟨htl,rfl⟩|⟨_,_,_,rfl,_⟩
   ·obtain ⟨S,g,_⟩:=h
    have:=Me g.keys htl
    rw [hk,hno] at this
    cases this
   ·exact hF.put h5 hk
theorem C9(hE:EnvE w0)(h:SpOwn w0 W p en mn sd 5 L)(hF:FullS i L)(hi:0<i) :
 Calls Tryz.prog 6 #[.pointer (some ⟨p,0,none⟩),.string (kbS 0),.int .i64 0] W fun e W'=>∃ a,e=.returned (.tuple #[.pointer a,.int .i64 0])/\SpOwn w0 W' p en mn sd 5 L:=by
 have hhas:(Zw L (kbS 0)).isSome=true:=(hF.has _).2 ⟨0,by omega,rfl⟩
 have hm:Yr L (kbS 0) 0=0:=by
  unfold Yr;rw [U6,if_neg (by omega),hhas,if_pos rfl]
 refine (Jt hE h (by decide) (kbS 0) (by rw [U6];omega) 0 (by unfold Lf.I64;omega)).mono ?_;rintro e W' ⟨a,L',rfl,h2,hMk⟩;rw [hm];refine ⟨a,rfl,?_⟩;rcases hMk with ⟨_,_,rfl⟩|⟨_,_,t,ht,hk,_,hor⟩
 ·exact h2
 ·rcases hor with ⟨_,rfl⟩|⟨hno,_⟩
  ·exact h2
  ·rw [hno] at hhas;cases hhas
theorem Fk(hE:EnvE w0)(h:SpOwn w0 W p en mn sd 5 L)(hF:FullS i L)(hi:0<i) :
 Calls Tryz.prog 7 #[.pointer (some ⟨p,0,none⟩),.string (kbS 0),.string ⟨#[110,101,119]⟩] W fun e W'=>e=.returned (.int .i64 0)/\∃ L',SpOwn w0 W' p en mn sd 5 L'/\L'.length=min i 500:=by
 have hhas:(Zw L (kbS 0)).isSome=true:=(hF.has _).2 ⟨0,by omega,rfl⟩
 have hnew:Zw L ⟨#[110,101,119]⟩=none:=by
  cases hh:Zw L ⟨#[110,101,119]⟩ with
  | none=>rfl
  | some a =>
    obtain ⟨q,hq,he⟩:=(hF.has _).1 (by rw [hh];rfl)
    have:=congrArg ByteArray.size he
    rw [U6] at this
    cases this
 have hm:O8 L (kbS 0) ⟨#[110,101,119]⟩=0:=by
  unfold O8;rw [hhas,if_pos rfl];rfl
 have hkeys:Vd (itl L):=by obtain ⟨S,g,_⟩:=h;exact g.keys
 refine (Ju hE h (kbS 0) ⟨#[110,101,119]⟩ (by rw [U6];omega) (by decide)).mono ?_;rintro e W' ⟨L',rfl,h2,hR⟩;rw [hm];refine ⟨rfl,L',h2,?_⟩;rcases hR with ⟨hne,_⟩|⟨_,heq,_⟩|⟨_,hne,_,t,ht,hk,rfl⟩
 ·exact absurd hm hne
 ·have:=congrArg ByteArray.size heq
  cases this
 ·have h3:Zw (Yt L (kbS 0)) ⟨#[110,101,119]⟩=none:=by
   rw [I7 hkeys];unfold Dc.Dt.Df;rw [if_neg (fun e=>hne e.symm)];exact hnew
  have hk2:Vd (itl (Yt L (kbS 0))):=by rw [Fp hkeys];exact Cf hkeys _
  rw [List.length_append,List.length_singleton,Qm hk2,h3,Qm hkeys,hhas,if_pos rfl,if_neg (by simp),hF.len];omega
theorem z3p(h:SpOwn w0 W p en mn sd 5 L)(hl:L.length=min i 500):Calls Tryz.prog 12 #[.pointer (some ⟨p,0,none⟩)] W fun e W'=>e=.returned (.int .i64 (min i 500:Nat))/\Bl W W':=by
 refine (y1l h).mono ?_;rw [hl];rintro e W' ⟨rfl,rfl⟩;exact ⟨rfl,Below.refl _ _⟩
end
theorem Aq(en mn:Int)(sd:Nat)(hsd:sd<4294967296)(mx n:Int)(_:(Lit.int .i64 n).wf=true)(w:World)(hE:EnvE w)(_:Dc.Dt.Env w) :
 Calls Tryz.prog 3 #[.agg #[.int .i64 en,.int .i64 mn,.int .u32 sd,.int .i64 mx],.int .i64 n] w fun e w'=>e=.returned (.bool true)/\Bl w w':=by
 have HA:=jY (Blk.new w 26 #[.int .i64 en,.int .i64 mn,.int .u32 sd,.int .i64 mx]);have HW:=jY (Z5 w (.cells #[.int .i64 en,.int .i64 mn,.int .u32 sd,.int .i64 mx] 26));have HS:=fun W (h:EnvE W)=>jY (z4z W h);have HE:=jY hE;have HN:=fun W=>jY (z2p en mn mx sd hsd 5 W);clear hE
 by_cases hout:n<490\/(490<=n/\510<n)
 ·rcases hout with h1|⟨h1,h2⟩
  all_goals (
   go_enter Tryz.func3,Tryz.ntmps3
   go_wp2_with fail;generalize w.alloc (.cells #[.int .i64 en,.int .i64 mn,.int .u32 sd,.int .i64 mx] 26)=w2 at HA HW ⊢;refine (HS w2 (HE.out.later HW.out)).out.mono ?_;rintro e w3 ⟨rfl,hb3⟩;have HB:=jY (HW.out.trans (hb3.mono HW.out.size));clear hb3;go_wp2;go_ret
   exact ⟨rfl,HB.out⟩)
 ·obtain ⟨N,rfl⟩:∃ N:Nat,n=(N:Int):=⟨n.toNat,by omega⟩;have n1:(490:Int)<=N:=by omega
  have n2:(N:Int)<=510:=by omega
  clear hout
  go_enter Tryz.func3,Tryz.ntmps3
  simp only [List.append_eq,List.cons_append,List.nil_append];go_wp2_with fail;generalize w.alloc (.cells #[.int .i64 en,.int .i64 mn,.int .u32 sd,.int .i64 mx] 26)=w2 at HA HW ⊢;refine (HS w2 (HE.out.later HW.out)).out.mono ?_;rintro e w3 ⟨rfl,hb3⟩;have HA3:=HA.out.later hb3;have c0:=HA3.cell 0;have c1:=HA3.cell 1;have c2:=HA3.cell 2;have c3:=HA3.cell 3;simp at c0 c1 c2 c3;have HW3:=jY (HW.out.trans (hb3.mono HW.out.size));have HE3:=jY (HE.out.later HW3.out);have HN3:=HN w3;clear hb3 HA HW HS HN HA3 HE;go_wp2_with fail;clear c0 c1 c2 c3;refine HN3.out.mono ?_;rintro e w4 ⟨p,rfl,h4⟩;have H4:=jY h4;clear h4 HN3;go_wp2_with fail
  go_loopw [7] (fun i wr=>∃ (j:Nat) (L:List Th),i=.int .i64 j/\j<=N/\SpOwn w3 wr p en mn sd 5 L/\FullS j L) (fun i _=>N-(intOf i).toNat)
  case atStart=>exact ⟨0,[],rfl,by omega,H4.out,An⟩
  case round =>
   clear H4;obtain ⟨j,L,rfl,hj,hH,hF⟩:=hrel
   by_cases hlt:j<N
   ·have hlt':(j:Int)<N:=by omega
    have hcv:=y0v j (by omega);have HSS:=jY (Ap HE3.out (hH.later (Z5 wr (.cells #[.int .u8 ((j:Int) % 256),.int .u8 ((j:Int) / 256)] 5))) hF (by omega));have q1:(j:Int)<=510:=by omega
    have q2:(0:Int)<=(j:Int) / 256:=by omega
    have q3:(j:Int) / 256<=255:=by omega
    clear hH hF;go_wp2_with fail
    (with_reducible refine HSS.out.mono ?_)
    rintro e w5 ⟨a,nA,rfl,hq,L',h5,hF5⟩;have H5:=jY (And.intro h5 hF5);clear h5 hF5 HSS hcv hj
    by_cases h5:(j:Int)<500
    ·rw [decide_eq_true h5] at hq;go_wp2;exact ⟨⟨j+1,L',by go_num,by omega,H5.out.1,H5.out.2⟩,by simp [intOf];omega⟩
    ·rw [decide_eq_false h5] at hq;go_wp2;exact ⟨⟨j+1,L',by go_num,by omega,H5.out.1,H5.out.2⟩,by simp [intOf];omega⟩
   ·obtain rfl:j=N:=by omega
    have hle:¬ (j:Int)<j:=by omega
    have HAG:=jY (C9 HE3.out hH hF (by omega));rw [<- Ce] at HAG;have HRN:=fun W (h:SpOwn w3 W p en mn sd 5 L)=>jY (Fk HE3.out h hF (by omega));rw [<- Ce] at HRN;have HNM:=fun W (hb:Bl w3 W)=>jY (z7s ⟨#[107]⟩ 0 W (HE3.out.later hb));have HNF:=fun W=>jY (z7r ⟨#[107]⟩ W);have HNU:=fun W=>jY (y1h ⟨#[107]⟩ W);have HNS:=fun W=>jY (z4q W);have HNH:=fun W=>jY (z3n W);have HNP:=fun W (hb:Bl w3 W)=>jY (y1g ⟨#[107]⟩ (.slice none 0 0) 0 W (HE3.out.later hb));have HNR:=fun W (hb:Bl w3 W)=>jY (z0n ⟨#[107]⟩ ⟨#[108]⟩ W (HE3.out.later hb));have HNT:=fun W (hb:Bl w3 W)=>jY (z4c ⟨#[107]⟩ 0 0 W (HE3.out.later hb));have HND:=fun W=>jY (z0m ⟨#[107]⟩ W);have HNY:=fun W=>jY (z7v ⟨#[107]⟩ W);have HNK:=fun W=>jY (z3v W);have HNL:=fun W=>jY (y1f W);have HNZ:=fun W=>jY (z7t W);have HNE:=fun W=>jY (z7u 1 W);have HBL:=jY hH.below;clear hH hF hlt;go_wp2_with fail;refine HAG.out.mono ?_;rintro e w5 ⟨a5,rfl,h5⟩;have HR5:=HRN w5 h5;clear HAG h5 HBL HRN;go_wp2_with fail;refine HR5.out.mono ?_;rintro e w6 ⟨rfl,L6,h6,hl6⟩;have HLN:=jY (fun W (hb:Bl w6 W)=>z3p (h6.later hb) hl6);have B6:=jY h6.below;have BX:=jY (Below.refl w6.heap.size w6);have HJ:=jY (fun W (hb:Bl w6 W)=>show Bl w3 W from B6.out.trans (hb.mono B6.out.size));clear HR5 h6 hl6 B6;go_wp2_with fail;refine (HNM _ (HJ.out _ BX.out)).out.mono ?_;rintro e w7 ⟨rfl,hb⟩;have BX:=jY (BX.out.trans (hb.mono BX.out.size));clear hb;go_wp2_with fail;refine (HNF _).out.mono ?_;rintro e w8 ⟨rfl,hb⟩;have BX:=jY (BX.out.trans (hb.mono BX.out.size));clear hb;go_wp2_with fail;refine (HNU _).out.mono ?_;rintro e w9 ⟨rfl,hb⟩;have hbu:=(BX.out.trans (hb.mono BX.out.size)).trans ((Z5 w9 (.cells #[.int .i64 0,.int .i64 0] 39)).mono (BX.out.trans (hb.mono BX.out.size)).size);have BX:=jY hbu;clear hb hbu
    go_upto_region 17 with fail
    generalize w9.alloc (.cells #[.int .i64 0,.int .i64 0] 39)=w10 at *;go_wp2_with fail;refine (HNS _).out.mono ?_;rintro e w11 ⟨u,rfl,hu,hb⟩;obtain ⟨uA,uc,rfl,_⟩:=Gf hu;have BX:=jY (BX.out.trans (hb.mono BX.out.size));clear hb hu;simp only [List.length_nil];go_wp2_with fail;refine (HNH _).out.mono ?_;rintro e w12 ⟨rfl,rfl⟩;have hmin:min (j:Int) 500=((min j 500:Nat):Int):=by omega
    go_wp2_with fail;refine (HLN.out _ BX.out).mono ?_;rintro e w13 ⟨rfl,hb⟩;have BX:=jY (BX.out.trans (hb.mono BX.out.size));clear hb HLN;go_wp2_with fail;refine (HNP _ (HJ.out _ BX.out)).out.mono ?_;rintro e w14 ⟨rfl,hb⟩;have BX:=jY (BX.out.trans (hb.mono BX.out.size));clear hb;go_wp2_with fail;refine (HNR _ (HJ.out _ BX.out)).out.mono ?_;rintro e w15 ⟨rfl,hb⟩;have BX:=jY (BX.out.trans (hb.mono BX.out.size));clear hb;go_wp2_with fail;refine (HNT _ (HJ.out _ BX.out)).out.mono ?_;rintro e w16 ⟨rfl,hb⟩;have BX:=jY (BX.out.trans (hb.mono BX.out.size));clear hb;go_wp2_with fail;refine (HND _).out.mono ?_;rintro e w17 ⟨rfl,hb⟩;have BX:=jY (BX.out.trans (hb.mono BX.out.size));clear hb;go_wp2_with fail;refine (HNY _).out.mono ?_;rintro e w18 ⟨rfl,hb⟩;have BX:=jY (BX.out.trans (hb.mono BX.out.size));clear hb;go_wp2_with fail;refine (HNK _).out.mono ?_;rintro e w19 ⟨u2,rfl,hu,hb⟩;obtain ⟨uA2,uc2,rfl,_⟩:=Gf hu;have BX:=jY (BX.out.trans (hb.mono BX.out.size));clear hb hu;simp only [List.length_nil];go_wp2_with fail;refine (HNL _).out.mono ?_;rintro e w20 ⟨rfl,rfl⟩;go_wp2_with fail;refine (HNZ _).out.mono ?_;rintro e w21 ⟨rfl,hb⟩;have BX:=jY (BX.out.trans (hb.mono BX.out.size));clear hb;go_wp2_with fail;refine (HNE _).out.mono ?_;rintro e w22 ⟨rfl,hb⟩;have BX:=jY (BX.out.trans (hb.mono BX.out.size));clear hb;have HBF:=jY (HW3.out.trans ((HJ.out _ BX.out).mono HW3.out.size));clear BX HJ;go_wp2;go_ret;exact ⟨rfl,HBF.out⟩
end Go.Proofs.YtmehfohpjigmmaaGreatDoor
namespace Go.Proofs.YtmehfohpjigmmaaGreatDoor
open Zc (Ent Ext KeepC Y5 Z7 Z9 Yw Y1 Za Zl Ya Zp Z6 Zo Z0 Zf)
open Go.ChangeShapes Go.WideShapes Go.ChangeAt Go.RowKit
theorem Tryz.own:ownKnob Tryz.prog.godebug=none:=by kernel_rfl
theorem y5i : Tryz.prog.globalNamed "errors.errorType" = some 0 := by kernel_rfl
theorem z8s : (Tryz.prog.cutTypes.find? (·.1 == "internal/reflectlite.rtype")).map (·.2) = some 169 := by kernel_rfl
theorem y3q:((List.range Tryz.prog.types.size).filter fun t=>Tryz.prog.rowNamed t [101,114,114,111,114])=[58]:=by kernel_rfl
theorem Px{H:Type}{enc:TypeId × Value->H}{a:Assume}{C:Checked}{os:Os}{f:FuncId}{fn:Func}{s:ChangeSpec}{conds:List PathCond}{apart fresh handsOn again:Bool}{X:World->Array Value->Prop}
 (hX:∀ (w w':World) (args:Array Value),w.heap=w'.heap->X w args->X w' args)
 (own:ownKnob C.prog.godebug=none) (started:os.Started) (noInit:C.prog.inits.idxOf? f=none) (hfn:C.prog.funcs[f]?=some fn)
 (witness:∃ (w:World) (tape:Tape) (i:Input),w.os=os/\(w.forCall tape i).Shaped C.prog/\i.vars=[]/\Input.okWide C.prog (w.forCall tape i) .any w.heap.size f i /\
   ((s.pre enc C.prog fn conds apart (w.forCall tape i).memory i.args/\X (w.forCall tape i).memory i.args)/\sizedMet enc C.prog fn (OpenSpec.ofChange s) apart (w.forCall tape i).memory i.args)/\a.holds C.prog (lone (Frame.enter C.prog f i.args .normal) [] (w.forCall tape i)))
 (contract:∀ (W:World) (base:Nat) (args:Array Value) (ds gs:List (DataW H)) (before:List MemPlace),
   (∀ (j:Nat) t v,fn.params[j]?=some t->args[j]?=some v->Value.okWide C.prog W .any base t v) ->
   DataW.Whole enc C.prog fn.params.toList s.vars apart W args.toList ds gs before->X W args->W.ShapedOpen C.prog ->
   Calls C.prog f args W fun e W'=>∃ v,e=.returned v/\s.post enc C.prog fn apart fresh handsOn again W args v W') :
 ReturnsInHanded a C os f .any (fun w args=>(s.pre enc C.prog fn conds apart w args/\X w args)/\sizedMet enc C.prog fn (OpenSpec.ofChange s) apart w args) (s.post enc C.prog fn apart fresh handsOn again):=by
 refine returnsInHanded_of_calls own started noInit witness ?_;intro w tape i _ hsh _ hok hpre _;obtain ⟨_,_,_,fn',hfn',_,_,_,_,hval⟩:=hok;obtain rfl:fn'=fn:=Option.some.inj (hfn'.symm.trans hfn);obtain ⟨⟨⟨ds,gs,before,hw,_⟩,hx⟩,_⟩:=hpre;have hw':=DataW.Whole.of_heap (w':=w.forCall tape i) (by rfl) hw;refine (contract (w.forCall tape i) w.heap.size i.args ds gs before hval hw' (hX _ _ _ (by rfl) hx) hsh).mono fun e W' ⟨v,he,hp⟩=>?_;subst he;exact ChangeSpec.post_blind hp
abbrev Kb : List (String × DataW Unit) := [("math/bits.deBruijn32tab", Rows.laid_math_bits_deBruijn32tab), ("math/bits.deBruijn64tab", Rows.laid_math_bits_deBruijn64tab), ("errors.errorType", Rows.laid_errors_errorType)]
theorem g64 : Tryz.prog.globalNamed "math/bits.deBruijn64tab" = some 2 := by kernel_rfl
theorem y5j:(Tryz.prog.globals[2]?).map (·.type)=some 270:=by kernel_rfl
theorem y5g:Tryz.prog.cellsOf 270=64:=by kernel_rfl
theorem y5f:Tryz.prog.cellsOf 5=1:=by kernel_rfl
theorem y2w:(Rows.laid_math_bits_deBruijn64tab:DataW Unit)=Lib.tabData .u8 (List.map Int.ofNat Dc.Dt.y5c):=rfl
theorem y1s:((begin Tryz.prog (fun _ _=>0) default).world.heap[2]?).bind Obj.row?=some (Array.replicate 64 (.int .u8 0),270):=by kernel_rfl
theorem z8e {W : World} (h : laidMetH Tryz.prog Kb W) : laidMet Tryz.prog [("math/bits.deBruijn32tab", Rows.laid_math_bits_deBruijn32tab), ("math/bits.deBruijn64tab", Rows.laid_math_bits_deBruijn64tab)] W ∧ handlesMet Tryz.prog [("errors.errorType", Rows.laid_errors_errorType)] W := h
theorem Kr{W:World}(h:laidMetH Tryz.prog Kb W):W.cell? ⟨0,0,none⟩=some (.iface 169 (.agg #[.pointer (some ⟨3,58,none⟩)])):=by
 obtain ⟨name,u,ty,e1,e2,e3,e4,e5⟩:=(z8e h).2 _ (List.mem_singleton.2 rfl);have en:name=[101,114,114,111,114]:=(Option.some.inj e1).symm;subst en;obtain rfl:=Option.some.inj (z8s.symm.trans e2);have hm:ty∈(List.range Tryz.prog.types.size).filter fun t=>Tryz.prog.rowNamed t [101,114,114,111,114]:=List.mem_filter.2 ⟨List.mem_range.2 e3,e4⟩;rw [y3q] at hm;obtain rfl:=List.mem_singleton.1 hm;have hh:typeHandle Tryz.prog 58=.pointer (some ⟨3,58,none⟩):=by kernel_rfl
 rw [hh] at e5
 simpa using World.var?_cell y5i e5 0
theorem Ii{W:World}(h:laidMetH Tryz.prog Kb W):EnvE W:=Kr h
theorem Fb{W:World}(h:laidMetH Tryz.prog Kb W)(hS:W.ShapedOpen Tryz.prog):EnvE W/\Dc.Dt.Env W:=by
 refine ⟨Ii h,?_⟩;have h2:=laidMet.tail (z8e h).1;rw [y2w] at h2;have h3:=Lib.tabIs_of_head g64 y5j Tryz.underlying270 Tryz.underlying5 y5f y5g h2;obtain ⟨cs,hh,_⟩:=hS.1 2 _ 270 (of_decide_eq_true (by kernel_rfl)) y1s
 have hc:∀ i:Nat,cs[i]?=Dc.Dt.y2e[i]?:=fun i=>by
  have h4:=World.var?_cell g64 h3 i;have h5:W.cell? ⟨2,i,none⟩=cs[i]?:=by simp [World.cell?,hh]
  rw [<- h5,h4];unfold Dc.Dt.y2e;simp only [List.getElem?_toArray,List.getElem?_map,Option.map_map];rfl
 have:cs=Dc.Dt.y2e:=Array.ext_getElem? hc
 subst this;exact hh
theorem z3j(os:Os)(args:Array Value):laidMetH Tryz.prog Kb ((World.doorLaid Tryz.prog 2000 os).forCall (fun _ _=>0) ⟨#[],args,[]⟩).memory :=
 laidMetH_of_parts (show laidMet Tryz.prog [("math/bits.deBruijn32tab", Rows.laid_math_bits_deBruijn32tab), ("math/bits.deBruijn64tab", Rows.laid_math_bits_deBruijn64tab)] _ from laidMet_of_run3 8 (by kernel_rfl) (by kernel_rfl) (by kernel_rfl)) (by kernel_rfl)
end Go.Proofs.YtmehfohpjigmmaaGreatDoor
