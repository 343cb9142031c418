/- Texts of one kind in one: ZIs. -/
import Derived.Test.YtmehfohpjigmmaaGreatDoorQZLPut19
set_option maxRecDepth 200000
set_option maxHeartbeats 8000000
namespace Go.Proofs.YtmehfohpjigmmaaGreatDoor
open Zc (Ent Ext KeepC Y5 Z7 Z9 Yw Y1 Za Zl Ya Zp Z6 Zo Z0 Zf)
open Go.RowKit Go.Shelf Sk
attribute [local go_sem] Oper.semAt_some
theorem Good.more{le lm:Int}{c c':Nat}{E:List En}(h:Good le lm c E)(h1:c<=c')(h2:c'<=10000):Good le lm c' E:=⟨h.le,h.lm,h.srt,h.dist,h.each,Nat.le_trans h.len h1,h2⟩
def SetIs(W:World)(s:Nat)(S:Nat->Prop)(isL:Bool)(le lm:Int)(c:Nat)(E:List En):Prop :=
 ∃ sd,(isL=false/\∃ b,PSet W s b le lm sd c E/\∀ k,S k↔(k=s\/k=b)) \/
  (isL=true/\∃ l p q D L m n,LSet W s l p q D L m n le lm sd c E/\∀ k,S k↔(k=s\/Ug l p L D k))
def SetNow(w:World)(s:Nat)(S:Nat->Prop)(isL:Bool)(le lm:Int)(c:Nat)(E:List En)(w':World):Prop :=
 ∃ S',SetIs w' s S' isL le lm c E/\(∀ k,S' k->S k\/w.heap.size<=k)/\Far S w w'
variable {w w' w1 w2:World} {s c:Nat} {S S1:Nat->Prop} {isL:Bool} {le lm:Int} {E:List En}
theorem SetIs.good(h:SetIs w s S isL le lm c E):Good le lm c E:=by
 obtain ⟨sd,⟨_,b,h,_⟩|⟨_,l,p,q,D,L,m,n,h,_⟩⟩:=h
 ·exact h.good
 ·exact h.good
theorem SetIs.lt(h:SetIs w s S isL le lm c E){k:Nat}(hk:S k):k<w.heap.size:=by
 obtain ⟨sd,⟨_,b,h,hS⟩|⟨_,l,p,q,D,L,m,n,h,hS⟩⟩:=h
 ·rcases (hS k).1 hk with rfl|rfl
  ·exact h.blk.lt
  ·exact h.pk.blk.lt
 ·rcases (hS k).1 hk with rfl|hk
  ·exact h.blk.lt
  ·exact h.li.own_lt hk
theorem SetIs.far(h:SetIs w s S isL le lm c E)(hf:Far S1 w w')(hd:∀ k,S k->¬ S1 k):SetIs w' s S isL le lm c E:=by
 obtain ⟨sd,⟨h0,b,h,hS⟩|⟨h0,l,p,q,D,L,m,n,h,hS⟩⟩:=h
 ·exact ⟨sd,.inl ⟨h0,b,⟨hf.blk h.blk (hd s ((hS s).2 (.inl rfl))),h.pk.far hf (hd b ((hS b).2 (.inr rfl))),h.few,h.good,h.sd⟩,hS⟩⟩
 ·exact ⟨sd,.inr ⟨h0,l,p,q,D,L,m,n,⟨hf.blk h.blk (hd s ((hS s).2 (.inl rfl))),h.li.far hf (fun k hk=>hd k ((hS k).2 (.inr hk))),h.en,h.map,h.n,h.good⟩,hS⟩⟩
theorem SetIs.later(h:SetIs w s S isL le lm c E)(hb:Bl w w'):SetIs w' s S isL le lm c E:=h.far (S1:=fun _=>False) (Far.of_below hb) fun _ _ h=>h
theorem SetIs.more(h:SetIs w s S isL le lm c E){c':Nat}(h1:c<=c')(h2:c'<=10000):SetIs w s S isL le lm c' E:=by
 obtain ⟨sd,⟨h0,b,h,hS⟩|⟨h0,l,p,q,D,L,m,n,h,hS⟩⟩:=h
 ·exact ⟨sd,.inl ⟨h0,b,⟨h.blk,h.pk,h.few,h.good.more h1 h2,h.sd⟩,hS⟩⟩
 ·exact ⟨sd,.inr ⟨h0,l,p,q,D,L,m,n,⟨h.blk,h.li,h.en,h.map,Nat.le_trans h.n h1,h.good.more h1 h2⟩,hS⟩⟩
theorem SetNow.same(h:SetIs w s S isL le lm c E)(hb:Bl w w'):SetNow w s S isL le lm c E w':=⟨S,h.later hb,fun _ h=>.inl h,Far.of_below hb⟩
theorem SetNow.more(h:SetNow w s S isL le lm c E w'){c':Nat}(h1:c<=c')(h2:c'<=10000):SetNow w s S isL le lm c' E w':=by
 obtain ⟨S',h3,h4⟩:=h;exact ⟨S',h3.more h1 h2,h4⟩
theorem SetNow.pack{b sd:Nat}(hS:∀ k,S k↔(k=s\/k=b))(h:PSet w' s b le lm sd c E)(hf:Far (fun k=>k=b) w w'):SetNow w s S false le lm c E w' :=
 ⟨S,⟨sd,.inl ⟨rfl,b,h,hS⟩⟩,fun _ h=>.inl h,hf.mono fun k hk=>(hS k).2 (.inr hk)⟩
theorem SetNow.list{l p q sd:Nat}{D D1:Nat->Prop}{L L1:List Nd}{m1:ByteArray->Option Int}{n1:Dc.Sh}(hS:∀ k,S k↔(k=s\/Ug l p L D k))(h:LSet w' s l p q D1 L1 m1 n1 le lm sd c E)(hs:LStep w w' l p L D L1 D1):SetNow w s S true le lm c E w' :=
 ⟨fun k=>k=s\/Ug l p L1 D1 k,⟨sd,.inr ⟨rfl,l,p,q,D1,L1,m1,n1,h,fun _=>Iff.rfl⟩⟩,fun k hk=>by
   rcases hk with rfl|hk
   ·exact .inl ((hS k).2 (.inl rfl))
   ·rcases hs.new k hk with h|h
    ·exact .inl ((hS k).2 (.inr h))
    ·exact .inr h,hs.far.mono fun k hk=>(hS k).2 (.inr hk)⟩
def z3d(k:ByteArray)(lv:Int):Bool:=decide (64<k.size\/lv<1\/32<lv)
def y4f(E:List En)(k:ByteArray)(lv:Int):Bool:=!z3d k lv&&!Ks E k
def y4g(k:ByteArray)(lv:Int):Int:=if z3d k lv then 2 else 0
def A3(E:List En)(k:ByteArray)(sc lv:Int):List En:=if z3d k lv then E else Xv E k sc
def A2(le lm:Int)(isL:Bool)(E:List En)(k:ByteArray)(lv:Int):Bool:=isL || (!z3d k lv&&(!Ks E k&&(decide (le<=(E.length:Int)) || decide (lm<(k.size:Int)))))
theorem y1q(h:SetIs w s S isL le lm c E)(h4:E.length<400)(hc:c+1<=10000)(k:ByteArray)(sc lv:Int)(hs:Pk.Yl sc) :
 Calls Tryz.prog 53 #[.pointer (some ⟨s,0,none⟩),.string k,.int .i64 sc,.int .i64 lv] w fun e w'=>e=.returned (.tuple #[.bool (y4f E k lv),.int .i64 (y4g k lv)])/\SetNow w s S (A2 le lm isL E k lv) le lm (c+1) (A3 E k sc lv) w':=by
 unfold y4f y4g A3 A2
 by_cases hb:64<k.size\/lv<1\/32<lv
 ·have hb2:z3d k lv=true:=decide_eq_true hb;rw [hb2];simp only [if_true,Bool.not_true,Bool.false_and,Bool.or_false];refine (z9w k sc lv hb w).mono ?_;rintro e w' ⟨rfl,rfl⟩;exact ⟨rfl,SetNow.more (SetNow.same h (Below.refl _ _)) (by omega) hc⟩
 ·have hb2:z3d k lv=false:=decide_eq_false hb;rw [hb2];simp only [Bool.false_eq_true,if_false,Bool.not_false,Bool.true_and];have hk:k.size<=64:=by omega
  have hlv:1<=lv/\lv<=32:=by omega
  obtain ⟨sd,⟨rfl,b,h,hS⟩|⟨rfl,l,p,q,D,L,m,n,h,hS⟩⟩:=h
  ·cases hq:whE E k with
   | some i =>
     rw [Mg hq];exact (D7 h hc k sc lv hk hs hlv hq).mono fun _ _ ⟨he,h1,hf⟩=>⟨he,SetNow.pack hS h1 hf⟩
   | none =>
     rw [z1v hq]
     by_cases h1:le<=(E.length:Int)\/lm<(k.size:Int)
     ·have h2:(decide (le<=(E.length:Int)) || decide (lm<(k.size:Int)))=true:=by simpa using h1
      rw [h2];refine (B5 h hc k sc lv hk hs hlv hq h1).mono ?_;rintro e w' ⟨rfl,l,p,q,D,L,m,n,h3,hown,hf⟩;refine ⟨rfl,fun k=>k=s\/Ug l p L D k,⟨sd,.inr ⟨rfl,l,p,q,D,L,m,n,h3,fun _=>Iff.rfl⟩⟩,fun j hj=>?_,hf.mono fun j hj=>(hS j).2 (.inl hj)⟩;rcases hj with rfl|hj
      ·exact .inl ((hS j).2 (.inl rfl))
      ·exact .inr (hown j hj)
     ·have h2:(decide (le<=(E.length:Int)) || decide (lm<(k.size:Int)))=false:=by simpa using h1
      rw [h2];exact (z0x h hc k sc lv hk hs hlv hq (by omega) (by omega)).mono fun _ _ ⟨he,h1,hf⟩=>⟨he,SetNow.pack hS h1 hf⟩
  ·cases hq:whE E k with
   | some i =>
     rw [Mg hq];exact (Fu h h4 hc k sc lv hk hs hlv hq).mono fun _ _ ⟨he,D1,L1,m1,n1,h1,hf⟩=>⟨he,SetNow.list hS h1 hf⟩
   | none =>
     rw [z1v hq];exact (z0e h h4 hc k sc lv hk hs hlv hq).mono fun _ _ ⟨he,D1,L1,m1,n1,h1,hf⟩=>⟨he,SetNow.list hS h1 hf⟩
def Zj(n hi:Int):Int:=min (max n 0) hi
theorem Ab:Ve []:=⟨by simp,fun e he=>by cases he⟩
theorem z8w(en mn le lm:Int)(hle:min (max en 0) 200=le)(hlm:min (max mn 0) 64=lm)(sd:Nat)(hsd:sd<4294967296)(w:World):Calls Tryz.prog 52 #[.agg #[.int .i64 en,.int .i64 mn],.int .u32 sd] w fun e w'=>∃ s S,e=.returned (.pointer (some ⟨s,0,none⟩))/\SetIs w' s S false le lm 0 []/\(∀ k,S k->w.heap.size<=k)/\Bl w w':=by
 have k0:=Blk.new w 23 #[.int .i64 en,.int .i64 mn];have HN:=fun W=>jY (Pk.V4 W);obtain ⟨e0,e1,g0,g1⟩:=Zd k0;have hl1:0<=le/\le<=200:=by omega
 have hl2:0<=lm/\lm<=64:=by omega
 go_enter Tryz.func52,Tryz.ntmps52
 go_wp2_with fail;obtain ⟨W1,hW1⟩:∃ W1,W1=w.alloc (.cells #[.int .i64 le,.int .i64 lm] 23):=⟨_,rfl⟩;have HB:=jY (show Bl w W1 from hW1 ▸ Z5 w (.cells #[.int .i64 le,.int .i64 lm] 23));have K1:=jY (show Blk W1 w.heap.size 23 #[.int .i64 le,.int .i64 lm] from hW1 ▸ Blk.new w 23 #[.int .i64 le,.int .i64 lm]);rw [<- hW1];clear hW1 k0 e0 e1 g0 g1 hle hlm;have S0:W1.drew.cell? ⟨w.heap.size,0,none⟩=some (.int .i64 le)/\W1.drew.cell? ⟨w.heap.size,1,none⟩=some (.int .i64 lm):=⟨(Zd K1.out).1,(Zd K1.out).2.1⟩
 go_region_held (fun W=>W.cell? ⟨w.heap.size,0,none⟩=some (.int .i64 le)/\W.cell? ⟨w.heap.size,1,none⟩=some (.int .i64 lm)) (first|exact S0|(exact ⟨(Zd (K1.out.drew.alloc _)).1,(Zd (K1.out.drew.alloc _)).2.1⟩)|(exact ⟨(Zd ((K1.out.drew.alloc _).alloc _)).1,(Zd ((K1.out.drew.alloc _).alloc _)).2.1⟩))
  (first
    | (go_at_call 83;refine (HN _).out.mono ?_;rintro e w2 ⟨rfl,rfl⟩))
 all_goals (
  clear S0;go_wp2_with fail;go_ret;have hz:=HB.out.size;have hbA:=Z5 W1 (.cells #[.string (Pk.Zv [])] 160);have hbB:=Z5 (W1.alloc (.cells #[.string (Pk.Zv [])] 160)) (.cells (Id (.iface 157 (.pointer (some ⟨W1.heap.size,0,none⟩))) le lm sd) 127);have hzA:=hbA.size;have kN:=Blk.new (W1.alloc (.cells #[.string (Pk.Zv [])] 160)) 127 (Id (.iface 157 (.pointer (some ⟨W1.heap.size,0,none⟩))) le lm sd);rw [World.size_alloc] at kN;refine ⟨_,fun k=>k=W1.heap.size+1\/k=W1.heap.size,rfl,⟨sd,.inl ⟨rfl,W1.heap.size,⟨kN,⟨(Blk.new W1 160 #[.string (Pk.Zv [])]).alloc _,Ab⟩,by simpa using hl1.1,⟨hl1,hl2,List.Pairwise.nil,List.Pairwise.nil,fun e he=>(by cases he),Nat.le_refl _,by omega⟩,hsd⟩,fun k=>Iff.rfl⟩⟩,fun k hk=>by omega,?_⟩
  exact (HB.out.trans ((hbA.trans (hbB.mono hzA)).mono hz)).drew)
theorem y1r(en mn:Int)(sd:Nat)(hsd:sd<4294967296)(w:World):Calls Tryz.prog 52 #[.agg #[.int .i64 en,.int .i64 mn],.int .u32 sd] w fun e w'=>∃ s S,e=.returned (.pointer (some ⟨s,0,none⟩))/\SetIs w' s S false (Zj en 200) (Zj mn 64) 0 []/\(∀ k,S k->w.heap.size<=k)/\Bl w w' :=
 z8w en mn _ _ rfl rfl sd hsd w
end Go.Proofs.YtmehfohpjigmmaaGreatDoor
