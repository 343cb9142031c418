/- Texts of one kind in one: SpSet, SpSt, SpMade, SpApi, SpNew, SpRep, SpTouch. -/
import Derived.Test.YtcklcmafohlflaaGreatDoorQSched26
set_option maxRecDepth 200000
set_option maxHeartbeats 8000000
namespace Go.Proofs.YtcklcmafohlflaaGreatDoor
open Zc (Ent Ext KeepC Ym Z9 Zg Xg Zx Zb Zv Yo Y5 Ze Zz Z4 Zd)
open Go.RowKit Go.Shelf Sk
attribute [local go_sem] Oper.semAt_some
def Ub(le lm:Int):List En->Bool × List En->Bool × List En
 | [],x=>x
 | e :: r,x=>Ub le lm r (Ma le lm x.1 x.2 e.1 1,Mb x.2 e.1 e.2 1)
theorem Mj(le lm:Int):∀ (l:List En) (e:En) (x:Bool × List En),Ub le lm (l++[e]) x=(Ma le lm (Ub le lm l x).1 (Ub le lm l x).2 e.1 1,Mb (Ub le lm l x).2 e.1 e.2 1)
 | [],e,x=>rfl
 | a :: l,e,x=>by rw [List.cons_append,Ub,Mj le lm l e];rfl
def Xa(en mn:Int)(l:List En):Bool × List En:=Ub (Z6 en 200) (Z6 mn 64) l (false,[])
theorem Ia{w:World}{p d sd n0:Nat}{rv v:Value}{en mn:Int}{l:List En}(h:Blk w p Gm (spC en mn sd d rv))(hsd:sd<4294967296)(hl:l.length<=300)(hs:∀ e∈l,Pk.Ya e.2)(hr:Row w n0 v l) :
 Calls Tryz.prog 65 #[.pointer (some ⟨p,0,none⟩),v] w fun e w'=>∃ s S,e=.returned (.pointer (some ⟨s,0,none⟩))/\SetIs w' s S (Xa en mn l).1 (Z6 en 200) (Z6 mn 64) l.length (Xa en mn l).2/\(∀ k,S k->w.heap.size<=k)/\Bl w w':=by
 obtain ⟨a,cap,rfl⟩:=hr.form;have HN:=fun W=>jY (x9n en mn sd hsd W);have HR:=jY (fun W (hb:Bl w W)=>hr.later hb);have HS:=jY hs;have HK:=jY h;have S0:w.drew.cell? ⟨p,0,none⟩=some (.int .i64 en)/\w.drew.cell? ⟨p,1,none⟩=some (.int .i64 mn)/\w.drew.cell? ⟨p,2,none⟩=some (.int .u32 sd):=⟨h.drew.cell 0,h.drew.cell 1,h.drew.cell 2⟩;clear hr hs h
 go_enter Tryz.func65,Tryz.ntmps65
 go_wp2_with fail
 go_region_held (fun W=>W.cell? ⟨p,0,none⟩=some (.int .i64 en)/\W.cell? ⟨p,1,none⟩=some (.int .i64 mn)/\W.cell? ⟨p,2,none⟩=some (.int .u32 sd)) (first|exact S0|exact S1|assumption)
  (first
    | (go_at_call 95;refine (HN _).out.mono ?_;rintro e w4 ⟨s,S,rfl,hs4,hS4,hb4⟩
       have k4:=(HK.out.drew).later hb4;have S1:w4.cell? ⟨p,0,none⟩=some (.int .i64 en)/\w4.cell? ⟨p,1,none⟩=some (.int .i64 mn)/\w4.cell? ⟨p,2,none⟩=some (.int .u32 sd):=⟨k4.cell 0,k4.cell 1,k4.cell 2⟩;have H4:=jY (show SetIs w4 s S false (Z6 en 200) (Z6 mn 64) 0 []/\(∀ k,S k->w.heap.size<=k)/\Bl w w4 from ⟨hs4,hS4,(Below.refl w.heap.size w).drew.trans hb4⟩)
       clear hs4 hS4 hb4 k4))
 all_goals (
  clear S0 S1;go_wp2
  go_loopw [19] (fun i wr=>∃ (n:Nat) (S:Nat->Prop),i=.int .i64 n/\n<=l.length/\Hid (SetIs wr s S (Ub (Z6 en 200) (Z6 mn 64) (l.take n) (false,[])).1 (Z6 en 200) (Z6 mn 64) n (Ub (Z6 en 200) (Z6 mn 64) (l.take n) (false,[])).2)/\Hid (∀ k,S k->w.heap.size<=k)/\Hid (Bl w wr)) (fun i _=>l.length-(intOf i).toNat)
  case atStart=>exact ⟨0,_,rfl,by omega,jY H4.out.1,jY H4.out.2.1,jY H4.out.2.2⟩
  case round =>
   obtain ⟨n,S1,rfl,hn,HI,HO,HB⟩:=hrel
   by_cases hlt:n<l.length
   ·have hx:l[n]?=some l[n]:=lAa hlt;obtain ⟨b,off,c',e1,g0,g1⟩:=Xo (HR.out wr HB.out) hx
    injection e1 with e1 _ e2
    subst e1;subst e2;have hg:=HI.out.good;have hle:=hg.len;have hadd:=fun W (hb:Bl wr W)=>jY (y6c (HI.out.later hb) (by omega) (by omega) l[n].1 l[n].2 1 (HS.out _ (List.getElem_mem hlt)))
    have hft:Ub (Z6 en 200) (Z6 mn 64) (l.take (n+1)) (false,[])=(Ma (Z6 en 200) (Z6 mn 64) (Ub (Z6 en 200) (Z6 mn 64) (l.take n) (false,[])).1 (Ub (Z6 en 200) (Z6 mn 64) (l.take n) (false,[])).2 l[n].1 1,Mb (Ub (Z6 en 200) (Z6 mn 64) (l.take n) (false,[])).2 l[n].1 l[n].2 1):=by
     rw [lAf hlt,Mj]
    have HFT:=jY hft;have hk2:(n:Int)<l.length:=by omega
    generalize Ub (Z6 en 200) (Z6 mn 64) (l.take n) (false,[])=X at *;generalize l[n]=x at *;have HA:=hadd (wr.alloc (.cells #[.string x.1,.int .i64 x.2] 94)) (Z0 _ _);have k0:=Blk.new wr 94 #[.string x.1,.int .i64 x.2];have z0:=k0.cell 0;have z1:=k0.cell 1;simp at z0 z1
    have FIN:=jY (fun w6 (hn:SetNow (wr.alloc (.cells #[.string x.1,.int .i64 x.2] 94)) s S1 (Ma (Z6 en 200) (Z6 mn 64) X.1 X.2 x.1 1) (Z6 en 200) (Z6 mn 64) (n+1) (Mb X.2 x.1 x.2 1) w6) =>
     show ∃ S2,SetIs w6 s S2 (Ma (Z6 en 200) (Z6 mn 64) X.1 X.2 x.1 1) (Z6 en 200) (Z6 mn 64) (n+1) (Mb X.2 x.1 x.2 1)/\(∀ k,S2 k->w.heap.size<=k)/\Bl w w6 from by
      obtain ⟨S2,g1,g2,g3⟩:=hn;have hb1:=HB.out.trans ((Z0 wr (.cells #[.string x.1,.int .i64 x.2] 94)).mono HB.out.size)
      exact ⟨S2,g1,fun k hk=>(g2 k hk).elim (HO.out k) fun h=>lAe hb1.size h,hb1.trans (g3.below HO.out hb1.size)⟩)
    clear hx hg hle hadd hft k0;go_wp2_with fail;refine HA.out.mono ?_;rintro e w6 ⟨rfl,hn6⟩;obtain ⟨S2,h1,h2,h3⟩:=FIN.out w6 hn6;have Z1:=jY h1;have Z2:=jY h2;have Z3:=jY h3;clear hn6 h1 h2 h3 FIN HA z0 z1;go_wp2_with fail;exact ⟨⟨n+1,S2,by go_num,hlt,jY (by rw [HFT.out];exact Z1.out),jY Z2.out,jY Z3.out⟩,by simp [intOf];omega⟩
   ·obtain rfl:n=l.length:=by omega
    have Z:=jY (show SetIs wr s S1 (Xa en mn l).1 (Z6 en 200) (Z6 mn 64) l.length (Xa en mn l).2 from by
     have:=HI.out
     rw [List.take_length] at this
     exact this)
    go_wp2;go_returns
    exact ⟨s,S1,rfl,Z.out,HO.out,HB.out⟩)
def SpSt(W:World)(p:Nat)(en mn:Int)(sd c:Nat)(L:List Th)(S:Nat->Prop):Prop :=
 ∃ d SD rv sh,SpIn W p d SD rv en mn sd (Y4 L) sh c L/\(sh.n=L.length/\sh.low)/\L.length<=500/\∀ k,S k↔spS p SD rv L k
def SpNow(w:World)(p:Nat)(en mn:Int)(sd c:Nat)(S:Nat->Prop)(L':List Th)(w':World):Prop :=
 ∃ S',SpSt w' p en mn sd c L' S'/\(∀ k,S' k->S k\/w.heap.size<=k)/\Far S w w'
section
variable {W W' w w' w1 w2:World} {p d sd c:Nat} {S:Nat->Prop} {SD:Nat->Prop} {rv rv':Value} {en mn:Int} {m:ByteArray->Option Addr} {sh:Dc.Sh} {L L' L1:List Th} {t:Th}
theorem SpSt.lt(h:SpSt w p en mn sd c L S){k:Nat}(hk:S k):k<w.heap.size:=by
 obtain ⟨d,SD,rv,sh,h1,_,_,hS⟩:=h;exact h1.lt ((hS k).1 hk)
theorem SpSt.far{S1:Nat->Prop}(h:SpSt w p en mn sd c L S)(hf:Far S1 w w')(hd:∀ k,S k->¬ S1 k):SpSt w' p en mn sd c L S:=by
 obtain ⟨d,SD,rv,sh,h1,h2,h3,hS⟩:=h;exact ⟨d,SD,rv,sh,h1.far hf fun k hk=>hd k ((hS k).2 hk),h2,h3,hS⟩
theorem SpSt.later(h:SpSt w p en mn sd c L S)(hb:Bl w w'):SpSt w' p en mn sd c L S:=h.far (S1:=fun _=>False) (Far.of_below hb) fun _ _ h=>h
theorem SpSt.no(h:SpSt w p en mn sd c L S){j t:Nat}{cc:Array Value}(hj:Blk w j t cc)(ht:t ∉ spT):¬ S j:=fun hs=>by
 obtain ⟨d,SD,rv,sh,h1,_,_,hS⟩:=h;exact h1.no hj ht ((hS j).1 hs)
theorem SpSt.keys(h:SpSt w p en mn sd c L S):Y6 (itl L):=by obtain ⟨d,SD,rv,sh,h1,_⟩:=h;exact h1.keys
theorem SpSt.len(h:SpSt w p en mn sd c L S):L.length<=500:=by obtain ⟨d,SD,rv,sh,h1,_,h3,_⟩:=h;exact h3
theorem SpSt.more(h:SpSt w p en mn sd c L S){c':Nat}(h1:c<=c')(h2:c'<=10000):SpSt w p en mn sd c' L S:=by
 obtain ⟨d,SD,rv,sh,g1,g2,g3,hS⟩:=h;exact ⟨d,SD,rv,sh,g1.more h1 h2,g2,g3,hS⟩
theorem SpNow.start(h:SpSt w p en mn sd c L S):SpNow w p en mn sd c S L w:=⟨S,h,fun _ h=>.inl h,Far.refl _ _⟩
theorem SpNow.same(h:SpSt w p en mn sd c L S)(hb:Bl w w'):SpNow w p en mn sd c S L w':=⟨S,h.later hb,fun _ h=>.inl h,Far.of_below hb⟩
theorem SpNow.later(h:SpNow w p en mn sd c S L w1)(hb:Bl w1 w2):SpNow w p en mn sd c S L w2:=by
 obtain ⟨S',h1,h2,h3⟩:=h;exact ⟨S',h1.later hb,h2,h3.then_below hb⟩
theorem SpIn.asked(hS:∀ k,S k↔spS p SD rv L k)(h2:sh.n=L.length/\sh.low)(h3:L.length<=500)(h:y4v w p d SD rv en mn sd sh c L w'):SpNow w p en mn sd c S L w':=by
 obtain ⟨SD',g1,g2,g3⟩:=h;refine ⟨_,⟨d,SD',rv,sh,g1,h2,h3,fun _=>Iff.rfl⟩,fun k hk=>?_,g3.mono fun k hk=>(hS k).2 (.inr (.inr (.inl hk)))⟩;rcases hk with hk|hk|hk|hk
 ·exact .inl ((hS k).2 (.inl hk))
 ·exact .inl ((hS k).2 (.inr (.inl hk)))
 ·exact (g2 k hk).imp_left fun h=>(hS k).2 (.inr (.inr (.inl h)))
 ·exact .inl ((hS k).2 (.inr (.inr (.inr hk))))
theorem Mz(h:SpSt w p en mn sd c L S)(k:ByteArray)(hk:k.size<=281474976710656) :
 Calls Tryz.prog 48 #[.pointer (some ⟨p,0,none⟩),.string k] w fun e w'=>e=.returned (.tuple #[.pointer (Y4 L k),.bool (Y4 L k).isSome])/\SpNow w p en mn sd c S L w':=by
 obtain ⟨d,SD,rv,sh,h1,h2,h3,hS⟩:=h;exact (Yq h1 (by omega) (by omega) k hk).mono fun _ _ ⟨he,ha⟩=>⟨he,SpIn.asked hS h2 h3 ha⟩
theorem y6l(h:SpSt w p en mn sd c L S)(k:ByteArray)(hk:k.size<=281474976710656) :
 Calls Tryz.prog 54 #[.pointer (some ⟨p,0,none⟩),.string k] w fun e w'=>e=.returned (.tuple #[])/\SpNow w p en mn sd c S (Yl L k) w'/\∀ t∈L,t.key=k->Loose w' en mn c (Yl L k) t:=by
 obtain ⟨d,SD,rv,sh,h1,h2,h3,hS⟩:=h;refine (x1z h1 (by omega) (by omega) k hk).mono fun _ w' ⟨he,rv',SD',sh',g1,g2,g3,g4⟩=>⟨he,⟨_,⟨d,SD',rv',sh',?_,?_,?_,fun _=>Iff.rfl⟩,fun j hj=>?_,g4.mono fun j hj=>(hS j).2 ?_⟩,fun t ht e=>?_⟩
 ·rw [y0c h1.keys k];exact g1
 ·exact ⟨by rw [g2.1,z0c h1.keys k,h2.1],g2.2 h2.2 (by omega)⟩
 ·exact lAe (Qx L k).length_le h3
 ·have hown:J5 p SD' rv' j->S j\/w.heap.size<=j:=fun ho=>(g3 j ho).imp_left fun h=>(hS j).2 (h.elim (fun e=>.inr (.inl e)) fun e=>e.elim .inl fun e=>.inr (.inr (.inl e)));rcases hj with hj|hj|hj|⟨u,hu,hj⟩
  ·exact hown (.inr (.inl hj))
  ·exact hown (.inl hj)
  ·exact hown (.inr (.inr hj))
  ·exact .inl ((hS j).2 (.inr (.inr (.inr ⟨u,(Qx L k).subset hu,hj⟩))))
 ·exact hj.elim (fun e=>.inr (.inl e)) fun e=>e.elim .inl fun e=>.inr (.inr (.inl e))
 ·have h5:=h1.taken ht;rw [e] at h5;exact h1.loose h5 g4
theorem y6m(h:SpSt w p en mn sd c L S)(ht:Loose w en mn c L t){S1:Nat->Prop}(hS1:∀ k,(k=t.q\/t.S k)->S1 k)(k:ByteArray)(hk:k.size<=64)(hroom:(Yl L k).length<500) :
 Calls Tryz.prog 55 #[.pointer (some ⟨p,0,none⟩),.string k,.pointer (some ⟨t.q,0,none⟩)] w fun e w'=>e=.returned (.tuple #[])/\SpNow w p en mn sd c (fun k=>S k\/S1 k) (Yl L k++[t.named k]) w':=by
 obtain ⟨d,SD,rv,sh,h1,h2,h3,hS⟩:=h;refine (x2v h1 ht (by omega) (by omega) k hk).mono fun _ w' ⟨he,rv',SD',sh',g1,g2,g3,g4⟩=>⟨he,⟨_,⟨d,SD',rv',sh',?_,?_,?_,fun _=>Iff.rfl⟩,fun j hj=>?_,g4.mono fun j hj=>?_⟩⟩
 ·have h5:Dc.Dt.z8t (Y4 L) k ⟨t.q,0,none⟩=Y4 (Yl L k++[t.named k]):=by
   rw [x0g (t:=t.named k) (fun u hu=>((Qv h1.keys k).1 hu).2),y0c h1.keys k]
   funext k'
   unfold Dc.Dt.z8t Dc.Dt.z9d;show _=if k'=k then _ else _
   by_cases e:k'=k
   ·rw [if_pos e,if_pos e];rfl
   ·rw [if_neg e,if_neg e,if_neg e]
  rw [<- h5];exact g1
 ·refine ⟨?_,g2.2 h2.2 (by omega)⟩;rw [g2.1,lAh,z0c h1.keys k,h2.1,List.length_singleton]
  have:(Y4 L k).isSome=true->0<L.length:=fun e=>by
   obtain ⟨a,ha⟩:=Option.isSome_iff_exists.1 e;obtain ⟨u,hu,_⟩:=U2 ha;exact List.length_pos_of_mem hu
  split
  ·rename_i e;have:=this e;omega
  ·rfl
 ·rw [lAh,List.length_singleton];omega
 ·have hown:J5 p SD' rv' j->(S j\/S1 j)\/w.heap.size<=j:=fun ho=>(g3 j ho).imp_left fun h=>.inl ((hS j).2 (h.elim (fun e=>.inr (.inl e)) fun e=>e.elim .inl fun e=>.inr (.inr (.inl e))));rcases hj with hj|hj|hj|⟨u,hu,hj⟩
  ·exact hown (.inr (.inl hj))
  ·exact hown (.inl hj)
  ·exact hown (.inr (.inr hj))
  ·rcases List.mem_append.1 hu with hu|hu
   ·exact .inl (.inl ((hS j).2 (.inr (.inr (.inr ⟨u,(Qx L k).subset hu,hj⟩)))))
   ·obtain rfl:u=t.named k:=by simpa using hu
    exact .inl (.inr (hS1 j hj))
 ·rcases hj with hj|hj
  ·exact .inl ((hS j).2 (hj.elim (fun e=>.inr (.inl e)) fun e=>e.elim .inl fun e=>.inr (.inr (.inl e))))
  ·exact .inr (hS1 j (.inl hj))
end
section
variable {w w' w1 w2:World} {p c sd:Nat} {S:Nat->Prop} {en mn:Int} {L L':List Th} {t:Th}
theorem z9r(h:SpSt w p en mn sd c L S)(k:ByteArray)(hk:k.size<=281474976710656) :
 Calls Tryz.prog 52 #[.pointer (some ⟨p,0,none⟩),.string k] w fun e w'=>e=.returned (.tuple #[.pointer (Y4 L k),Q5 (if (Y4 L k).isSome then 0 else 141)])/\SpNow w p en mn sd c S L w':=by
 have HF:=jY (Mz h k hk);clear h
 cases hm:Y4 L k with
 | none =>
   rw [hm] at HF;clear hm
   go_enter Tryz.func52,Tryz.ntmps52
   go_wp2_with fail;refine HF.out.mono ?_;rintro e w1 ⟨rfl,h1⟩;have H1:=jY h1;clear h1 HF;go_wp2_with fail;go_ret2;exact ⟨rfl,H1.out⟩
 | some a =>
   rw [hm] at HF;clear hm
   go_enter Tryz.func52,Tryz.ntmps52
   go_wp2_with fail;refine HF.out.mono ?_;rintro e w1 ⟨rfl,h1⟩;have H1:=jY h1;clear h1 HF;go_wp2_with fail;go_ret2;exact ⟨rfl,H1.out⟩
theorem y4d(h:SpSt w p en mn sd c L S):Calls Tryz.prog 7 #[.pointer (some ⟨p,0,none⟩)] w fun e w'=>e=.returned (.int .i64 L.length)/\w'=w:=by
 obtain ⟨d,SD,rv,sh,h1,h2,h3,hS⟩:=h;have HT:=jY (M5 p d sd en mn rv w h1.blk);have HL:=jY (Dc.Dt.v1u h1.dict);rw [h2.1] at HL;clear h1 hS
 go_enter Tryz.func7,Tryz.ntmps7
 go_wp2_with fail;refine HT.out.mono ?_;rintro e w1 ⟨rfl,rfl⟩;go_wp2_with fail;refine HL.out.mono ?_;rintro e w1 ⟨rfl,rfl⟩;go_wp2;go_ret;exact ⟨rfl,rfl⟩
theorem SpNow.born{S1:Nat->Prop}(hb:Bl w w1)(hS:∀ k,S1 k->w.heap.size<=k)(h:SpNow w1 p en mn sd c (fun k=>S k\/S1 k) L w2):SpNow w p en mn sd c S L w2:=by
 obtain ⟨S',h1,h2,h3⟩:=h;refine ⟨S',h1,fun k hk=>?_,⟨h3.os.trans hb.os,h3.tape.trans hb.tape,h3.output.trans hb.output,lAe hb.size h3.size,fun k hk hn=>(h3.block k (Nat.lt_of_lt_of_le hk hb.size) fun e=>e.elim hn fun e=>by have:=hS k e;omega).trans (hb.block k hk)⟩⟩;rcases h2 k hk with (h|h)|h
 ·exact .inl h
 ·exact .inr (hS k h)
 ·exact .inr (lAe hb.size h)
def Yu(L:List Th)(k:ByteArray)(now:Int):Int:=if 64<k.size then 140 else if (Y4 L k).isSome then 0 else if now<0 then 130 else if 500<=L.length then 51 else 0
def Iu(L:List Th)(k:ByteArray)(now:Int)(a:Option Addr)(L':List Th):Prop :=
 (Yu L k now≠0/\a=none/\L'=L)\/(Yu L k now=0/\k.size<=64/\∃ t∈L',t.key=k/\a=some ⟨t.q,0,none⟩/\((t∈L/\L'=L)\/(Y4 L k=none/\0<=now/\L.length<500/\L'=L++[t]/\t.toIt=⟨k,5,now,false,[]⟩)))
theorem C5{L:List Th}{k:ByteArray}(h:Y4 L k=none):Yl L k=L:=by
 unfold Yl
 cases hi:G5 L k with
 | none=>rfl
 | some i =>
   obtain ⟨hi0,hke⟩:=I0 hi;unfold Y4 at h;rw [Option.map_eq_none_iff,List.find?_eq_none] at h;exact absurd (by simpa using hke) (h _ (List.getElem_mem hi0))
theorem Aj(now:Int)(h:Lf.I64 now)(hn:0<=now)(w:World):Calls Tryz.prog 81 #[.int .i64 now] w fun e w'=>e=.returned (.tuple #[.agg #[.int .i64 5,.int .i64 now],.int .i64 0])/\Bl w w':=by
 have:=Lf.Uv now h w
 simp only [if_pos hn] at this;exact this
theorem y2b(now:Int)(h:Lf.I64 now)(hn:now<0)(w:World):Calls Tryz.prog 81 #[.int .i64 now] w fun e w'=>e=.returned (.tuple #[.agg #[.int .i64 0,.int .i64 0],.int .i64 130])/\Bl w w':=by
 have:=Lf.Uv now h w
 simp only [if_neg (show ¬ 0<=now by omega)] at this;exact this
theorem x3l(h:SpSt w p en mn sd c L S)(k:ByteArray)(hk:k.size<=281474976710656)(now:Int)(hnow:Lf.I64 now)(he:Yu L k now≠0\/(Y4 L k).isSome=true) :
 Calls Tryz.prog 50 #[.pointer (some ⟨p,0,none⟩),.string k,.int .i64 now] w fun e w'=>∃ a L',e=.returned (.tuple #[.pointer a,Q5 (Yu L k now)])/\SpNow w p en mn sd c S L' w'/\Iu L k now a L':=by
 have HN:=fun W=>jY (Vw k hk W);have HF:=jY (Mz h k hk);have hlen:=h.len;have HL:=jY (fun W S1 (g:SpSt W p en mn sd c L S1)=>y4d g)
 by_cases h64:64<k.size
 ·have e1:Yu L k now=140:=by unfold Yu;rw [if_pos h64]
  simp only [if_pos h64] at HN;have HA:=jY (show Iu L k now none L from .inl ⟨by rw [e1];decide,rfl,rfl⟩);have H:=jY h;rw [e1];clear h he e1;rw [show Q5 140=.iface 152 (.int .i64 140) from rfl] at HN
  go_enter Tryz.func50,Tryz.ntmps50
  go_wp2_with fail;refine (HN _).out.mono ?_;rintro e w1 ⟨rfl,rfl⟩;go_wp2_with fail;go_ret2;exact ⟨none,L,rfl,SpNow.start H.out,HA.out⟩
 ·simp only [if_neg h64] at HN;rw [show Q5 0=.nilIface from rfl] at HN;have e1:Yu L k now=(if (Y4 L k).isSome then 0 else if now<0 then 130 else if 500<=L.length then 51 else 0):=by unfold Yu;rw [if_neg h64]
  cases hm:Y4 L k with
  | some a =>
    rw [hm] at HF e1;simp only [Option.isSome_some,if_true] at e1 HF;obtain ⟨t,ht,htk,rfl⟩:=U2 hm;have HA:=jY (show Iu L k now (some ⟨t.q,0,none⟩) L from .inr ⟨e1,by omega,t,ht,htk,rfl,.inl ⟨ht,rfl⟩⟩);rw [e1];clear h he e1 hm ht htk HL
    go_enter Tryz.func50,Tryz.ntmps50
    go_wp2_with fail;refine (HN _).out.mono ?_;rintro e w1 ⟨rfl,rfl⟩;go_wp2_with fail;refine HF.out.mono ?_;rintro e w2 ⟨rfl,h2⟩;have H2:=jY h2;clear h2 HF HN;go_wp2_with fail;go_ret2;exact ⟨_,L,rfl,H2.out,HA.out⟩
  | none =>
    rw [hm] at HF e1 he;simp only [Option.isSome_none,Bool.false_eq_true,if_false,or_false] at e1 HF he;have HA:=jY (show Iu L k now none L from .inl ⟨he,rfl,rfl⟩)
    by_cases hn:now<0
    ·rw [if_pos hn] at e1;have HW:=fun W=>jY (y2b now hnow hn W);rw [e1];clear h he e1 hm HL
     go_enter Tryz.func50,Tryz.ntmps50
     go_wp2_with fail;refine (HN _).out.mono ?_;rintro e w1 ⟨rfl,rfl⟩;go_wp2_with fail;refine HF.out.mono ?_;rintro e w2 ⟨rfl,h2⟩;have H2:=jY h2;clear h2 HF HN;go_wp2_with fail;refine (HW _).out.mono ?_;rintro e w3 ⟨rfl,hb3⟩;have HB3:=jY hb3;clear hb3 HW;go_wp2_with fail;go_ret2;refine ⟨none,L,rfl,?_,HA.out⟩;exact H2.out.later (HB3.out.trans ((Z0 w3 _).mono HB3.out.size))
    ·rw [if_neg hn] at e1
     have h500:500<=L.length:=by
      by_cases h5:500<=L.length
      ·exact h5
      ·rw [if_neg h5] at e1;exact absurd e1 he
     rw [if_pos h500] at e1;have hl5:L.length=500:=by omega
     have HW:=fun W=>jY (Aj now hnow (by omega) W);rw [e1];clear h he e1 hm hlen h500
     go_enter Tryz.func50,Tryz.ntmps50
     go_wp2_with fail;refine (HN _).out.mono ?_;rintro e w1 ⟨rfl,rfl⟩;go_wp2_with fail;refine HF.out.mono ?_;rintro e w2 ⟨rfl,h2⟩;have H2:=jY h2;clear h2 HF HN;go_wp2_with fail;refine (HW _).out.mono ?_;rintro e w3 ⟨rfl,hb3⟩;have k5:=Blk.new w3 48 #[.int .i64 5,.int .i64 now];have h3:=H2.out.later (hb3.trans ((Z0 w3 (.cells #[.int .i64 5,.int .i64 now] 48)).mono hb3.size))
     have HLN:=jY (show Calls Tryz.prog 7 #[.pointer (some ⟨p,0,none⟩)] (w3.alloc (.cells #[.int .i64 5,.int .i64 now] 48)) fun e w'=>e=.returned (.int .i64 500)/\w'=w3.alloc (.cells #[.int .i64 5,.int .i64 now] 48) from by
      obtain ⟨S',g,_⟩:=h3
      have:=HL.out _ S' g
      rw [hl5] at this
      exact this)
     have H3:=jY h3;clear hb3 HW H2 h3 k5 HL hl5;go_wp2_with fail;refine HLN.out.mono ?_;rintro e w4 ⟨rfl,rfl⟩;go_wp2_with fail;go_ret2;exact ⟨none,L,rfl,H3.out,HA.out⟩
theorem x3m(h:SpSt w p en mn sd c L S)(hc:c<=10000)(k:ByteArray)(hk:k.size<=64)(now:Int)(hnow:Lf.I64 now)(h0:0<=now)(h5:L.length<500)(hm:Y4 L k=none) :
 Calls Tryz.prog 50 #[.pointer (some ⟨p,0,none⟩),.string k,.int .i64 now] w fun e w'=>∃ a L',e=.returned (.tuple #[.pointer a,Q5 (Yu L k now)])/\SpNow w p en mn sd c S L' w'/\Iu L k now a L':=by
 have HN:=fun W=>jY (Vw k (by omega) W);simp only [if_neg (show ¬ 64<k.size by omega)] at HN;rw [show Q5 0=.nilIface from rfl] at HN;have HF:=jY (Mz h k (by omega));rw [hm] at HF;have e1:Yu L k now=0:=by unfold Yu;rw [if_neg (by omega),hm];simp;omega
 have HL:=jY (fun W S1 (g:SpSt W p en mn sd c L S1)=>y4d g);have HW:=fun W=>jY (Aj now hnow h0 W);have HSET:=jY (fun W d SD rv (sh:Dc.Sh) (g:SpIn W p d SD rv en mn sd (Y4 L) sh c L)=>Ia (n0:=0) (l:=[]) g.blk g.sd (by simp) (fun e he=>by cases he) (Row.nil W 0));have HKEEP:=jY (fun W S1 (g:SpSt W p en mn sd c L S1) (t:Th) (S2:Nat->Prop) (ht:Loose W en mn c L t) (hs:∀ k,(k=t.q\/t.S k)->S2 k)=>y6m g ht hs k hk (by rw [C5 hm];exact h5));rw [C5 hm] at HKEEP
 have HMADE:=jY (fun (t:Th) (ht:t.toIt=⟨⟨#[]⟩,5,now,false,[]⟩)=>show Iu L k now (some ⟨t.q,0,none⟩) (L++[t.named k]) from
  .inr ⟨e1,hk,t.named k,by simp,rfl,rfl,.inr ⟨hm,h0,h5,rfl,by unfold Th.named It.named;rw [ht]⟩⟩)
 have hlt5:¬ (L.length:Int) >= 500:=by omega
 rw [e1];clear h e1 hm
 go_enter Tryz.func50,Tryz.ntmps50
 go_wp2_with fail;refine (HN _).out.mono ?_;rintro e w1 ⟨rfl,rfl⟩;go_wp2_with fail;refine HF.out.mono ?_;rintro e w2 ⟨rfl,h2⟩;have H2:=jY h2;clear h2 HF HN;go_wp2_with fail;refine (HW _).out.mono ?_;rintro e w3 ⟨rfl,hb3⟩;have k5:=Blk.new w3 48 #[.int .i64 5,.int .i64 now];have h3:=H2.out.later (hb3.trans ((Z0 w3 (.cells #[.int .i64 5,.int .i64 now] 48)).mono hb3.size))
 go_upto_region 12 with fail
 generalize w3.alloc (.cells #[.int .i64 5,.int .i64 now] 48)=W3 at *;obtain ⟨S3,g3,hs3,hf3⟩:=h3;have HLN:=jY (HL.out _ S3 g3);have G3:=jY g3;have F3:=jY (And.intro hs3 hf3);have K5:=jY k5;clear hb3 HW H2 k5 HL g3 hs3 hf3;go_wp2_with fail;refine HLN.out.mono ?_;rintro e w4 ⟨rfl,rfl⟩;go_wp2_with fail;have hdr:Bl w4 w4.drew:=(Below.refl _ _).drew
 have HS4:=jY (show Calls Tryz.prog 65 #[.pointer (some ⟨p,0,none⟩),.slice none 0 0] w4.drew fun e w'=>∃ s S,e=.returned (.pointer (some ⟨s,0,none⟩))/\SetIs w' s S false (Z6 en 200) (Z6 mn 64) 0 []/\(∀ k,S k->w4.drew.heap.size<=k)/\Below w4.drew.heap.size w4.drew w' from by
  obtain ⟨d,SD,rv,sh,g,_⟩:=G3.out.later hdr
  exact HSET.out _ d SD rv sh g)
 have S0:w4.drew.cell? ⟨w3.heap.size,0,none⟩=some (.int .i64 5)/\w4.drew.cell? ⟨w3.heap.size,1,none⟩=some (.int .i64 now):=⟨K5.out.drew.cell 0,K5.out.drew.cell 1⟩;clear HSET HLN hdr
 go_region_held (fun W=>W.cell? ⟨w3.heap.size,0,none⟩=some (.int .i64 5)/\W.cell? ⟨w3.heap.size,1,none⟩=some (.int .i64 now)) (first|exact S0|exact S1|exact S2|assumption)
  (first
    | (go_at_call 65;refine HS4.out.mono ?_;rintro e w5 ⟨s,T,rfl,hs5,hT5,hb5⟩
       have k5:=(K5.out.drew).later hb5;have S1:w5.cell? ⟨w3.heap.size,0,none⟩=some (.int .i64 5)/\w5.cell? ⟨w3.heap.size,1,none⟩=some (.int .i64 now):=⟨k5.cell 0,k5.cell 1⟩;have S2:=And.intro ((k5.alloc (.cells (thC s ⟨⟨#[]⟩,5,now,false,[]⟩) Uy)).cell 0) ((k5.alloc (.cells (thC s ⟨⟨#[]⟩,5,now,false,[]⟩) Uy)).cell 1);have Q1:=jY hs5;have Q2:=jY (show (∀ k,T k->w4.heap.size<=k)/\Bl w4 w5 from ⟨hT5,(Below.refl w4.heap.size w4).drew.trans hb5⟩)
       clear hs5 hT5 hb5 k5 HS4))
 all_goals (
  clear S0 S1 S2;have hb45:=Q2.out.2;have hb6:=hb45.trans ((Z0 w5 (.cells (thC s ⟨⟨#[]⟩,5,now,false,[]⟩) Uy)).mono hb45.size);have g6:=G3.out.later hb6
  have hl6:Loose (w5.alloc (.cells (thC s ⟨⟨#[]⟩,5,now,false,[]⟩) Uy)) en mn c L ⟨⟨⟨#[]⟩,5,now,false,[]⟩,w5.heap.size,s,T⟩ :=
   ⟨Blk.new _ _ _,((Q1.out.later (Z0 w5 _)).more (Nat.zero_le c) hc),fun u hu e=>by
     obtain ⟨d,SD,rv,sh,g,_⟩:=G3.out;have h1:=(g.th u hu).lt;have h2:=hb45.size;have e:u.q=w5.heap.size:=e
     omega,fun u hu j hj hj2=>by
     obtain ⟨d,SD,rv,sh,g,_⟩:=G3.out;have h1:=(g.set u hu).lt hj;have h2:=Q2.out.1 j hj2
     omega,⟨Lf.v0h,hnow⟩⟩
  have HK6:=jY (HKEEP.out _ S3 g6 ⟨⟨⟨#[]⟩,5,now,false,[]⟩,w5.heap.size,s,T⟩ (fun j=>w4.heap.size<=j) hl6 (fun j hj=>by
   rcases hj with hj|hj
   ·have hj:j=w5.heap.size:=hj
    have:=hb45.size;omega
   ·exact Q2.out.1 j hj))
  have HM6:=jY (HMADE.out ⟨⟨⟨#[]⟩,5,now,false,[]⟩,w5.heap.size,s,T⟩ rfl)
  have HF6:=jY (fun w7 (hn:SpNow (w5.alloc (.cells (thC s ⟨⟨#[]⟩,5,now,false,[]⟩) Uy)) p en mn sd c (fun j=>S3 j\/w4.heap.size<=j) (L++[Th.named ⟨⟨⟨#[]⟩,5,now,false,[]⟩,w5.heap.size,s,T⟩ k]) w7) =>
   show SpNow w1 p en mn sd c S (L++[Th.named ⟨⟨⟨#[]⟩,5,now,false,[]⟩,w5.heap.size,s,T⟩ k]) w7 from by
    obtain ⟨S7,y1,y2,y3⟩:=SpNow.born hb6 (fun k hk=>hk) hn
    exact ⟨S7,y1,fun k hk=>(y2 k hk).elim (fun h=>F3.out.1 k h) fun h=>.inr (lAe F3.out.2.size h),F3.out.2.trans y3 fun k hk=>F3.out.1 k hk⟩)
  clear hb45 hb6 g6 hl6 HKEEP HMADE G3 F3 K5 Q1 Q2;simp only [thC] at HK6 HF6;go_wp2_with fail;refine HK6.out.mono ?_;rintro e w7 ⟨rfl,hn7⟩;have H7:=jY (HF6.out w7 hn7);clear hn7 HK6 HF6;go_wp2_with fail;go_ret2
  exact ⟨_,_,rfl,H7.out,HM6.out⟩)
theorem y6n(h:SpSt w p en mn sd c L S)(hc:c<=10000)(k:ByteArray)(hk:k.size<=281474976710656)(now:Int)(hnow:Lf.I64 now) :
 Calls Tryz.prog 50 #[.pointer (some ⟨p,0,none⟩),.string k,.int .i64 now] w fun e w'=>∃ a L',e=.returned (.tuple #[.pointer a,Q5 (Yu L k now)])/\SpNow w p en mn sd c S L' w'/\Iu L k now a L':=by
 by_cases he:Yu L k now≠0\/(Y4 L k).isSome=true
 ·exact x3l h k hk now hnow he
 ·have h1:Yu L k now=0:=by
   by_cases e:Yu L k now=0
   ·exact e
   ·exact absurd (.inl e) he
  have h2:Y4 L k=none:=by
   cases hm:Y4 L k with
   | none=>rfl
   | some a=>exact absurd (.inr (by rw [hm];rfl)) he
  unfold Yu at h1;rw [h2] at h1
  by_cases h64:64<k.size
  ·rw [if_pos h64] at h1;exact absurd h1 (by decide)
  ·rw [if_neg h64] at h1
   by_cases hn:now<0
   ·simp [hn] at h1
   ·by_cases h5:500<=L.length
    ·simp [hn,h5] at h1
    ·exact x3m h hc k (by omega) now hnow (by omega) (by omega) h2
end
section
variable {w w' w1 w2:World} {p c sd:Nat} {S:Nat->Prop} {en mn:Int} {L L':List Th} {t:Th}
theorem SpNow.env(h:SpNow w p en mn sd c S L w')(hE:EnvE w)(h0:¬ S 0):EnvE w':=by
 obtain ⟨S',_,_,h3⟩:=h;exact (World.cell?_of_block (a:=⟨0,0,none⟩) (h3.block 0 hE.lt h0)).trans hE
theorem y5b{n:Int}(h:n≠0):Q5 n=Kv n:=by unfold Q5;rw [if_neg h]
def Fr(L:List Th)(k:ByteArray):Option Addr:=(L.find? fun t=>decide (t.key=k)).map fun t=>⟨t.s,0,none⟩
theorem y6g(hk:Y6 (itl L))(ht:t∈L):Fr L t.key=some ⟨t.s,0,none⟩:=by
 have h1:=Ql hk ht;unfold Y4 at h1;unfold Fr;obtain ⟨u,hu,hq⟩:=Option.map_eq_some_iff.1 h1;rw [hu];have hum:=List.mem_of_find?_eq_some hu;have huk:u.key=t.key:=by simpa using List.find?_some hu
 have hnd:(L.map fun t=>t.key).Nodup:=by
  have:=hk
  unfold Y6 itl at this
  rwa [List.map_map] at this
 obtain ⟨i,hi,rfl⟩:=List.mem_iff_getElem.1 hum;obtain ⟨j,hj,rfl⟩:=List.mem_iff_getElem.1 ht
 have:=(List.getElem_inj (i:=i) (j:=j) (h₀:=by simpa using hi) (h₁:=by simpa using hj) hnd).1 (by simpa using huk)
 subst this;rfl
theorem x0a{k:ByteArray}(h:Y4 L k=none):Fr L k=none:=by
 unfold Y4 at h;unfold Fr;rw [Option.map_eq_none_iff] at h;rw [h];rfl
theorem SpSt.th(h:SpSt w p en mn sd c L S)(ht:t∈L):Blk w t.q Uy (thC t.s t.toIt)/\SetIs w t.s t.S t.isL (Z6 en 200) (Z6 mn 64) c t.E:=by
 obtain ⟨d,SD,rv,sh,g,_⟩:=h;exact ⟨g.th t ht,g.set t ht⟩
theorem SpNow.th(h:SpNow w p en mn sd c S L w')(ht:t∈L):Blk w' t.q Uy (thC t.s t.toIt):=by
 obtain ⟨S',g,_⟩:=h;exact (g.th ht).1
theorem y6i(h:SpSt w p en mn sd c L S)(k:ByteArray)(hk:k.size<=281474976710656) :
 Calls Tryz.prog 15 #[.pointer (some ⟨p,0,none⟩),.string k] w fun e w'=>e=.returned (.tuple #[.pointer (Fr L k),.bool (Y4 L k).isSome])/\SpNow w p en mn sd c S L w':=by
 have HF:=jY (Mz h k hk);have hkeys:=h.keys;clear h
 cases hm:Y4 L k with
 | none =>
   rw [hm] at HF;rw [x0a hm];clear hm hkeys
   go_enter Tryz.func15,Tryz.ntmps15
   go_wp2_with fail;refine HF.out.mono ?_;rintro e w1 ⟨rfl,h1⟩;have H1:=jY h1;clear h1 HF;go_wp2_with fail;go_ret2;exact ⟨rfl,H1.out⟩
 | some a =>
   rw [hm] at HF;obtain ⟨t,ht,rfl,rfl⟩:=U2 hm;rw [y6g hkeys ht];clear hm hkeys
   go_enter Tryz.func15,Tryz.ntmps15
   go_wp2_with fail;refine HF.out.mono ?_;rintro e w1 ⟨rfl,h1⟩;have c0:=(h1.th ht).cell 0;simp [thC] at c0;have H1:=jY h1;clear h1 HF ht;go_wp2_with fail;go_ret2;exact ⟨rfl,H1.out⟩
def Og(L:List Th)(k:ByteArray)(now:Int)(a:Option Addr)(L':List Th):Prop :=
 (Yu L k now≠0/\a=none/\L'=L)\/(Yu L k now=0/\k.size<=64/\∃ t∈L',t.key=k/\a=some ⟨t.s,0,none⟩/\((t∈L/\L'=L)\/(Y4 L k=none/\0<=now/\L.length<500/\L'=L++[t]/\t.toIt=⟨k,5,now,false,[]⟩)))
theorem y6j(h:SpSt w p en mn sd c L S)(hE:EnvE w)(hS0:¬ S 0)(hc:c<=10000)(k:ByteArray)(hk:k.size<=281474976710656)(now:Int)(hnow:Lf.I64 now) :
 Calls Tryz.prog 20 #[.pointer (some ⟨p,0,none⟩),.string k,.int .i64 now] w fun e w'=>∃ a L',e=.returned (.tuple #[.pointer a,.int .i64 (Yu L k now)])/\SpNow w p en mn sd c S L' w'/\Og L k now a L':=by
 have HF:=jY (y6n h hc k hk now hnow);have HEN:=jY (fun L' w' (g:SpNow w p en mn sd c S L' w')=>g.env hE hS0);clear h hE hS0
 by_cases he:Yu L k now=0
 ·rw [he] at HF;rw [show Q5 0=.nilIface from rfl] at HF;have HM:=jY he;rw [he];clear he
  go_enter Tryz.func20,Tryz.ntmps20
  go_wp2_with fail;refine HF.out.mono ?_;rintro e w1 ⟨a,L',rfl,h1,hm⟩;rcases hm with ⟨hm,_⟩|⟨_,hk64,t,ht,htk,rfl,hor⟩
  ·exact absurd HM.out hm
  have c0:=(h1.th ht).cell 0;simp [thC] at c0;have H1:=jY h1;have H2:=jY (show Og L k now (some ⟨t.s,0,none⟩) L' from .inr ⟨HM.out,hk64,t,ht,htk,rfl,hor⟩);clear h1 HF ht htk hor hk64;go_wp2_with fail;go_ret2;exact ⟨_,_,rfl,H1.out,H2.out⟩
 ·rw [y5b he] at HF;have HM:=jY he;clear he;have HNB:=fun W (hW:EnvE W)=>jY (P9 (Yu L k now) W hW);unfold Kv at HF HNB;generalize hg:Yu L k now=n at HF HNB ⊢;have HG:=jY hg;clear hg
  go_enter Tryz.func20,Tryz.ntmps20
  go_wp2_with fail;refine HF.out.mono ?_;rintro e w1 ⟨a,L',rfl,h1,hm⟩;obtain ⟨rfl,rfl⟩:a=none/\L'=L:=hm.elim (fun h=>h.2) fun h=>absurd h.1 HM.out;have hen:=HEN.out _ _ h1;have HB:=HNB w1 hen;have H1:=jY h1;clear h1 HF hen HNB HEN;go_wp2_with fail;refine HB.out.mono ?_;rintro e w2 ⟨rfl,hb⟩;have HB2:=jY hb;clear hb HB;go_wp2_with fail;go_ret2;exact ⟨none,L',rfl,H1.out.later HB2.out,.inl ⟨HM.out,rfl,rfl⟩⟩
theorem z3d(h:SpSt w p en mn sd c L S)(k:ByteArray)(hk:k.size<=281474976710656) :
 Calls Tryz.prog 29 #[.pointer (some ⟨p,0,none⟩),.string k] w fun e w'=>e=.returned (.bool (Y4 L k).isSome)/\SpNow w p en mn sd c S (Yl L k) w':=by
 have HF:=jY (Mz h k hk);have HD:=jY (fun W S1 (g:SpSt W p en mn sd c L S1)=>y6l g k hk);clear h
 cases hm:Y4 L k with
 | none =>
   rw [hm] at HF;rw [C5 hm];clear hm HD
   go_enter Tryz.func29,Tryz.ntmps29
   go_wp2_with fail;refine HF.out.mono ?_;rintro e w1 ⟨rfl,h1⟩;have H1:=jY h1;clear h1 HF;go_wp2_with fail;go_ret;exact ⟨rfl,H1.out⟩
 | some a =>
   rw [hm] at HF;clear hm
   go_enter Tryz.func29,Tryz.ntmps29
   go_wp2_with fail;refine HF.out.mono ?_;rintro e w1 ⟨rfl,S1,g1,g2,g3⟩;have HD1:=jY (HD.out _ S1 g1);have G:=jY (And.intro g2 g3);clear g1 g2 g3 HD HF;go_wp2_with fail;refine HD1.out.mono ?_;rintro e w2 ⟨rfl,⟨S2,y1,y2,y3⟩,_⟩;have H2:=jY (show SpNow w p en mn sd c S (Yl L k) w2 from ⟨S2,y1,fun j hj=>(y2 j hj).elim (fun h=>G.out.1 j h) fun h=>.inr (lAe G.out.2.size h),G.out.2.trans y3 fun j hj=>G.out.1 j hj⟩);clear y1 y2 y3 HD1 G;go_wp2_with fail;go_ret;exact ⟨rfl,H2.out⟩
end
section
variable {w w' w1 w2:World} {p c sd:Nat} {S:Nat->Prop} {en mn:Int} {L L':List Th} {t:Th}
theorem x6c{d:Nat}{SD:Nat->Prop}(hb:Blk w p Gm (spC en mn sd d (.slice none 0 0)))(hd:Dc.Dt.Is w d SD sd (fun _=>none) ⟨4,0,0,0⟩)(hsd:sd<4294967296):SpSt w p en mn sd c [] (fun k=>k=p\/SD k) :=
 ⟨d,SD,_,_,⟨hb,World.ownsRow_nil _ _ _ _,hd,fun t ht=>(by cases ht),fun t ht=>(by cases ht),List.nodup_nil,List.nodup_nil,List.Pairwise.nil,fun t ht=>(by cases ht),fun t ht=>(by cases ht),hsd⟩,⟨rfl,by decide,by decide⟩,by simp,fun k=>by
   unfold spS
   simp [Value.ownBlock]⟩
theorem z1s{dv rv:Value}(h:Blk w p Gm #[.int .i64 en,.int .i64 mn,.int .u32 sd,dv,rv])(hsd:sd<4294967296)(c:Nat) :
 Calls Tryz.prog 22 #[.pointer (some ⟨p,0,none⟩)] w fun e w'=>e=.returned (.tuple #[])/\∃ S',SpSt w' p en mn sd c [] S'/\(∀ k,S' k->k=p\/w.heap.size<=k)/\Far (fun k=>k=p) w w':=by
 have a2:=h.cell 2;simp at a2;have HN:=jY (Dc.Dt.y2m sd w);have H:=jY h;clear h
 go_enter Tryz.func22,Tryz.ntmps22
 go_wp2_with fail;refine HN.out.mono ?_;rintro e w1 ⟨q,rfl,hq,hb⟩;have h1:=H.out.later hb;have b3:=h1.cell 3;have b4:=h1.cell 4;have f3:=h1.free 3;have f4:=h1.free 4;simp at b3 b4;have hk:=((h1.set 3 (.pointer (some ⟨q,0,none⟩))).set 4 (.slice none 0 0));have hf:Far (fun k=>k=p) w ((w1.setCell ⟨p,3,none⟩ (.pointer (some ⟨q,0,none⟩))).setCell ⟨p,4,none⟩ (.slice none 0 0)):=((Far.of_below (S:=fun k=>k=p) hb).set ⟨p,3,none⟩ _ (.inl rfl)).set ⟨p,4,none⟩ _ (.inl rfl);have hf1:Far (fun k=>k=p) w1 ((w1.setCell ⟨p,3,none⟩ (.pointer (some ⟨q,0,none⟩))).setCell ⟨p,4,none⟩ (.slice none 0 0)):=((Far.refl (fun k=>k=p) w1).set ⟨p,3,none⟩ _ (.inl rfl)).set ⟨p,4,none⟩ _ (.inl rfl)
 have HE:=jY (show ∃ S',SpSt ((w1.setCell ⟨p,3,none⟩ (.pointer (some ⟨q,0,none⟩))).setCell ⟨p,4,none⟩ (.slice none 0 0)) p en mn sd c [] S'/\(∀ k,S' k->k=p\/w.heap.size<=k)/\Far (fun k=>k=p) w ((w1.setCell ⟨p,3,none⟩ (.pointer (some ⟨q,0,none⟩))).setCell ⟨p,4,none⟩ (.slice none 0 0)) from
  ⟨_,x6c (by simpa [spC] using hk) (hq.far (y4m hf1) fun j hj e=>by subst e;exact Pm hq h1 (by decide) hj) hsd,fun k hk=>hk.imp_right fun h=>(show Dc.fresh Dc.Dt.tyP w w1 k from h).1.elim (fun h=>h.elim) id,hf⟩)
 clear hk hf hf1 hq hb h1 HN;go_wp2;go_returns;exact ⟨rfl,HE.out⟩
theorem SpNow.of_own{S1:Nat->Prop}(h:∃ S',SpSt w' p en mn sd c L S'/\(∀ k,S' k->k=p\/w.heap.size<=k)/\Far (fun k=>k=p) w w')(hp:S1 p):SpNow w p en mn sd c S1 L w':=by
 obtain ⟨S',h1,h2,h3⟩:=h;exact ⟨S',h1,fun k hk=>(h2 k hk).imp_left fun e=>by rw [e];exact hp,h3.mono fun k e=>by rw [e];exact hp⟩
theorem x6a(h:SpSt w p en mn sd c L S)(c':Nat):Calls Tryz.prog 22 #[.pointer (some ⟨p,0,none⟩)] w fun e w'=>e=.returned (.tuple #[])/\SpNow w p en mn sd c' S [] w':=by
 obtain ⟨d,SD,rv,sh,g,_,_,hS⟩:=h;exact (z1s (by have:=g.blk;unfold spC at this;exact this) g.sd c').mono fun _ _ ⟨he,hn⟩=>⟨he,SpNow.of_own hn ((hS p).2 (.inl rfl))⟩
theorem v2q(en mn mx:Int)(sd:Nat)(hsd:sd<4294967296)(c:Nat)(w:World) :
 Calls Tryz.prog 5 #[.agg #[.int .i64 en,.int .i64 mn,.int .u32 sd,.int .i64 mx]] w fun e w'=>∃ p S,e=.returned (.pointer (some ⟨p,0,none⟩))/\SpSt w' p en mn sd c [] S/\(∀ k,S k->w.heap.size<=k)/\Bl w w':=by
 have HF:=fun W p h=>jY (z1s (w:=W) (p:=p) (en:=en) (mn:=mn) (sd:=sd) (dv:=.pointer none) (rv:=.slice none 0 0) h hsd c)
 go_enter Tryz.func5,Tryz.ntmps5
 go_wp2_with fail;have kN:=Blk.new (w.alloc (.cells #[.int .i64 en,.int .i64 mn,.int .u32 sd,.int .i64 mx] 26)) Gm #[.int .i64 en,.int .i64 mn,.int .u32 sd,.pointer none,.slice none 0 0];rw [World.size_alloc] at kN;have hb1:=Z0 w (.cells #[.int .i64 en,.int .i64 mn,.int .u32 sd,.int .i64 mx] 26);have hb2:=hb1.trans ((Z0 (w.alloc (.cells #[.int .i64 en,.int .i64 mn,.int .u32 sd,.int .i64 mx] 26)) (.cells #[.int .i64 en,.int .i64 mn,.int .u32 sd,.pointer none,.slice none 0 0] Gm)).mono hb1.size);have HF1:=HF _ _ kN;have HB:=jY hb2;clear kN hb1 hb2 HF;refine HF1.out.mono ?_;rintro e w2 ⟨rfl,S',h1,h2,h3⟩;have HE:=jY (show SpSt w2 (w.heap.size+1) en mn sd c [] S'/\(∀ k,S' k->w.heap.size<=k)/\Bl w w2 from ⟨h1,fun k hk=>(h2 k hk).elim (fun e=>by omega) fun h=>lAe HB.out.size h,HB.out.trans (h3.below (fun k e=>by omega) HB.out.size)⟩);clear h1 h2 h3 HF1 HB;go_wp2;go_ret;exact ⟨_,_,rfl,HE.out⟩
theorem x9t(h:SpSt w p en mn sd c L S)(q:Int):Calls Tryz.prog 38 #[.pointer (some ⟨p,0,none⟩),.int .i64 q] w fun e w'=>∃ r:Int,e=.returned (.int .i64 r)/\SpNow w p en mn sd c S L w':=by
 obtain ⟨d,SD,rv,sh,h1,h2,h3,hS⟩:=h;have HT:=jY (M5 p d sd en mn rv w h1.blk);have HL:=jY (Dc.Dt.x9v h1.dict (by omega) q)
 have HF:=jY (fun w' (hd:Dc.Dt.IsNow SD w d sd (Y4 L) (Dc.Sh.steps q.toNat sh) w')=>show SpNow w p en mn sd c S L w' from by
  obtain ⟨g1,g2⟩:=h1.dicted hd;refine ⟨_,⟨d,_,rv,_,g1,⟨by rw [Dc.y6o,h2.1],Dc.z2g h2.2 _⟩,h3,fun _=>Iff.rfl⟩,fun k hk=>?_,g2.mono fun k hk=>(hS k).2 (.inr (.inr (.inl hk)))⟩;rcases hk with hk|hk|hk|hk
  ·exact .inl ((hS k).2 (.inl hk))
  ·exact .inl ((hS k).2 (.inr (.inl hk)))
  ·exact hk.1.imp_left fun h=>(hS k).2 (.inr (.inr (.inl h)))
  ·exact .inl ((hS k).2 (.inr (.inr (.inr hk)))))
 clear h1 hS
 go_enter Tryz.func38,Tryz.ntmps38
 go_wp2_with fail;refine HT.out.mono ?_;rintro e w1 ⟨rfl,rfl⟩;go_wp2_with fail;refine HL.out.mono ?_;rintro e w2 ⟨rfl,hd⟩;have HE:=jY (HF.out w2 hd);clear hd HF HL;go_wp2;go_ret;exact ⟨_,rfl,HE.out⟩
end
def Xu(L:List Th)(t':Th):List Th:=L.map fun u=>if u.q=t'.q then t' else u
section
variable {w w' w1 w2:World} {p d c sd:Nat} {S SD:Nat->Prop} {rv:Value} {en mn:Int} {m:ByteArray->Option Addr} {sh:Dc.Sh} {L L':List Th} {t t':Th}
theorem z5p(h:(L.map Th.q).Nodup){u v:Th}(hu:u∈L)(hv:v∈L)(e:u.q=v.q):u=v:=by
 obtain ⟨i,hi,rfl⟩:=List.mem_iff_getElem.1 hu;obtain ⟨j,hj,rfl⟩:=List.mem_iff_getElem.1 hv
 have:=(List.getElem_inj (i:=i) (j:=j) (h₀:=by simpa using hi) (h₁:=by simpa using hj) h).1 (by simpa using e)
 subst this;rfl
theorem J3(ht:t∈L)(hq:t'.q=t.q){u:Th}:u∈Xu L t'↔u=t'\/(u∈L/\u.q≠t'.q):=by
 unfold Xu;rw [List.mem_map]
 constructor
 ·rintro ⟨v,hv,rfl⟩
  by_cases e:v.q=t'.q
  ·rw [if_pos e];exact .inl rfl
  ·rw [if_neg e];exact .inr ⟨hv,e⟩
 ·rintro (rfl|⟨hu,hn⟩)
  ·exact ⟨t,ht,by rw [if_pos hq.symm]⟩
  ·exact ⟨u,hu,by rw [if_neg hn]⟩
theorem x9l(L:List Th)(t':Th):(Xu L t').map Yv=L.map Yv:=by
 unfold Xu;rw [List.map_map]
 apply List.map_congr_left
 intro u _;simp only [Function.comp]
 split
 ·rename_i e;unfold Yv;rw [e]
 ·rfl
theorem x5h(L:List Th)(t':Th):(Xu L t').map Th.q=L.map Th.q:=by
 unfold Xu;rw [List.map_map]
 apply List.map_congr_left
 intro u _;simp only [Function.comp]
 split
 ·rename_i e;exact e.symm
 ·rfl
theorem z5x(L:List Th)(t':Th):(Xu L t').length=L.length:=by unfold Xu;simp
theorem z4q(hk:Y6 (itl L))(hqs:(L.map Th.q).Nodup)(ht:t∈L)(hq:t'.q=t.q):itl (Xu L t')=Fp (itl L) t.key fun _=>t'.toIt:=by
 unfold itl Xu Fp;rw [List.map_map,List.map_map]
 apply List.map_congr_left
 intro u hu;simp only [Function.comp]
 by_cases e:u.q=t'.q
 ·rw [if_pos e];obtain rfl:=z5p hqs hu ht (e.trans hq);rw [if_pos rfl]
 ·rw [if_neg e,if_neg];intro e2;have h1:=Ql hk hu;have h2:=Ql hk ht;rw [e2,h2] at h1;simp only [Option.some.injEq,Addr.mk.injEq,and_true] at h1;exact e (by rw [<- h1,hq])
theorem x6l(hqs:(L.map Th.q).Nodup)(ht:t∈L)(hq:t'.q=t.q)(hkey:t'.key=t.key):Y4 (Xu L t')=Y4 L:=by
 funext k
 unfold Y4 Xu;rw [List.find?_map,Option.map_map]
 have e1:((fun t:Th=>decide (t.key=k)) ∘ fun u=>if u.q=t'.q then t' else u)=fun u=>if u.q=t'.q then decide (t'.key=k) else decide (u.key=k):=by
  funext u
  simp only [Function.comp]
  split <;> rfl
 have e2:L.find? ((fun t:Th=>decide (t.key=k)) ∘ fun u=>if u.q=t'.q then t' else u)=L.find? fun t=>decide (t.key=k):=by
  rw [e1];clear e1
  have:∀ u∈L,(if u.q=t'.q then decide (t'.key=k) else decide (u.key=k))=decide (u.key=k):=fun u hu=>by
   split
   ·rename_i e;obtain rfl:=z5p hqs hu ht (e.trans hq);rw [hkey]
   ·rfl
  clear ht hqs
  induction L with
  | nil=>rfl
  | cons a r ih =>
    rw [List.find?_cons,List.find?_cons,this a (by simp),ih fun u hu=>this u (by simp [hu])]
 rw [e2]
 cases L.find? fun t=>decide (t.key=k) with
 | none=>rfl
 | some u =>
   simp only [Option.map_some,Function.comp]
   congr 2
   split
   ·rename_i e;exact e.symm
   ·rfl
theorem SpIn.rep(h:SpIn w p d SD rv en mn sd m sh c L)(ht:t∈L)(hq:t'.q=t.q)(hkey:t'.key=t.key){S1:Nat->Prop}(hf:Far S1 w w')(hS1:∀ k,S1 k->k=t.q\/t.S k)
 (hth:Blk w' t'.q Uy (thC t'.s t'.toIt)) (hset:SetIs w' t'.s t'.S t'.isL (Z6 en 200) (Z6 mn 64) c t'.E) (hS:∀ k,t'.S k->t.S k\/w.heap.size<=k) (huse:Lf.Kg (t'.uc,t'.ua)) :
 SpIn w' p d SD rv en mn sd m sh c (Xu L t'):=by
 have hown:∀ {j:Nat},J5 p SD rv j->¬ S1 j:=fun {j} hj hs=>by
  rcases hS1 j hs with rfl|h2
  ·exact h.own_no (h.th t ht) (by decide) hj
  ·exact h.own_set (h.set t ht) h2 hj
 have hother:∀ u∈L,u.q≠t'.q->∀ k,(k=u.q\/u.S k)->¬ S1 k:=fun u hu hne k hk hs=>by
  have hut:u.key≠t.key:=fun e=>hne (by
   have h1:=Ql h.keys hu;have h2:=Ql h.keys ht;rw [e,h2] at h1;simp only [Option.some.injEq,Addr.mk.injEq,and_true] at h1
   rw [hq,h1])
  have hl:=h.taken ht;have hur:u∈Yl L t.key:=(Qv h.keys t.key).2 ⟨hu,hut⟩;rcases hk with rfl|hk
  ·rcases hS1 _ hs with e|h2
   ·exact hne (e.trans hq.symm)
   ·exact P5 (h.set t ht) (h.th u hu) (by decide) h2
  ·rcases hS1 _ hs with rfl|h2
   ·exact P5 (h.set u hu) (h.th t ht) (by decide) hk
   ·exact hl.apart u hur k hk h2
 refine ⟨hf.blk h.blk (hown (.inr (.inl rfl))),?_,h.dict.far (y4m hf) fun k hk=>hown (.inr (.inr hk)),fun u hu=>?_,fun u hu=>?_,?_,by rw [x5h];exact h.qs,?_,fun u hu=>?_,fun u hu=>?_,h.sd⟩
 ·rw [x9l,z5x];exact Pw h.row fun k hk=>by obtain ⟨cc,hb⟩:=X5 h.row hk;exact hf.block k hb.lt (hown (.inl hk))
 ·rcases (J3 ht hq).1 hu with rfl|⟨hu,hne⟩
  ·exact hth
  ·exact hf.blk (h.th u hu) (hother u hu hne _ (.inl rfl))
 ·rcases (J3 ht hq).1 hu with rfl|⟨hu,hne⟩
  ·exact hset
  ·exact (h.set u hu).far hf fun k hk=>hother u hu hne _ (.inr hk)
 ·rw [z4q h.keys h.qs ht hq]
  have h1:=x2y (I:=itl L) h.keys t.key (f:=fun x=>if x.key=t.key then t'.toIt else x) (fun x=>by
   split
   ·rename_i e;rw [e];exact hkey
   ·rfl)
  have h2:Fp (itl L) t.key (fun x=>if x.key=t.key then t'.toIt else x)=Fp (itl L) t.key fun _=>t'.toIt:=by
   unfold Fp
   apply List.map_congr_left
   intro x _
   split
   ·rename_i e;show (if x.key=t.key then t'.toIt else x)=t'.toIt;rw [if_pos e]
   ·rfl
  rw [<- h2];exact h1
 ·unfold Xu;rw [List.pairwise_map];have hq2:L.Pairwise fun u v=>u.q≠v.q:=by have:=h.qs;unfold List.Nodup at this;rwa [List.pairwise_map] at this
  refine (h.apart.and hq2).imp_of_mem fun {u v} hu hv ⟨h1,h2⟩ k hk=>?_
  by_cases eu:u.q=t'.q
  ·obtain rfl:=z5p h.qs hu ht (eu.trans hq);rw [if_pos eu] at hk;rw [if_neg (fun ev=>h2 (eu.trans ev.symm))];rcases hS k hk with h3|h3
   ·exact h1 k h3
   ·exact fun h4=>by have:=(h.set v hv).lt h4;omega
  ·rw [if_neg eu] at hk
   by_cases ev:v.q=t'.q
   ·obtain rfl:=z5p h.qs hv ht (ev.trans hq);rw [if_pos ev];intro h3;rcases hS k h3 with h4|h4
    ·exact h1 k hk h4
    ·have:=(h.set u hu).lt hk;omega
   ·rw [if_neg ev];exact h1 k hk
 ·rcases (J3 ht hq).1 hu with rfl|⟨hu,hne⟩
  ·rw [hkey];exact h.ksz t ht
  ·exact h.ksz u hu
 ·rcases (J3 ht hq).1 hu with rfl|⟨hu,hne⟩
  ·exact huse
  ·exact h.use u hu
theorem SpSt.rep(h:SpSt w p en mn sd c L S)(ht:t∈L)(hq:t'.q=t.q)(hkey:t'.key=t.key){S1:Nat->Prop}(hf:Far S1 w w')(hS1:∀ k,S1 k->k=t.q\/t.S k)
 (hth:Blk w' t'.q Uy (thC t'.s t'.toIt)) (hset:SetIs w' t'.s t'.S t'.isL (Z6 en 200) (Z6 mn 64) c t'.E) (hS:∀ k,t'.S k->t.S k\/w.heap.size<=k) (huse:Lf.Kg (t'.uc,t'.ua)) :
 SpNow w p en mn sd c S (Xu L t') w':=by
 obtain ⟨d,SD,rv,sh,g,g2,g3,hSS⟩:=h;have hr:=g.rep ht hq hkey hf hS1 hth hset hS huse;refine ⟨_,⟨d,SD,rv,sh,by rw [x6l g.qs ht hq hkey];exact hr,by rw [z5x];exact g2,by rw [z5x];exact g3,fun _=>Iff.rfl⟩,fun k hk=>?_,hf.mono fun k hk=>(hSS k).2 (.inr (.inr (.inr ⟨t,ht,hS1 k hk⟩)))⟩;rcases hk with hk|hk|hk|⟨u,hu,hk⟩
 ·exact .inl ((hSS k).2 (.inl hk))
 ·exact .inl ((hSS k).2 (.inr (.inl hk)))
 ·exact .inl ((hSS k).2 (.inr (.inr (.inl hk))))
 ·rcases (J3 ht hq).1 hu with rfl|⟨hu,hne⟩
  ·rcases hk with hk|hk
   ·exact .inl ((hSS k).2 (.inr (.inr (.inr ⟨t,ht,.inl (hk.trans hq)⟩))))
   ·exact (hS k hk).imp_left fun h=>(hSS k).2 (.inr (.inr (.inr ⟨t,ht,.inr h⟩)))
  ·exact .inl ((hSS k).2 (.inr (.inr (.inr ⟨u,hu,hk⟩))))
theorem SpSt.setNow(h:SpSt w p en mn sd c L S)(ht:t∈L){b:Bool}{c':Nat}{E':List En}(hc:c<=c')(hc2:c'<=10000)(hn:SetNow w t.s t.S b (Z6 en 200) (Z6 mn 64) c' E' w') :
 ∃ S1,SpNow w p en mn sd c' S (Xu L { t with isL:=b,E:=E',S:=S1 }) w':=by
 obtain ⟨S1,g1,g2,g3⟩:=hn;have hth:=(h.th ht).1;have hset:=(h.th ht).2;obtain ⟨d,SD,rv,sh,g,_⟩:=id h;refine ⟨S1,(h.more hc hc2).rep (t':={ t with isL:=b,E:=E',S:=S1 }) ht rfl rfl g3 (fun k hk=>.inr hk) ?_ g1 g2 (g.use t ht)⟩;exact g3.blk hth (P5 hset hth (by decide))
end
section
variable {w w' w1 w2:World} {p c sd:Nat} {S:Nat->Prop} {en mn:Int} {L L':List Th} {t:Th}
def Y8(now d:Int)(x:It):It:=if Lf.okB (x.uc,x.ua) now then x.use (Lf.O4 (x.uc,x.ua) now d) (Lf.O3 (x.uc,x.ua) now) else x
theorem y0d{now d:Int}{x:It}(hn:Lf.I64 now)(h:Lf.Kg (x.uc,x.ua)):Lf.Kg ((Y8 now d x).uc,(Y8 now d x).ua):=by
 unfold Y8
 cases hok:Lf.okB (x.uc,x.ua) now with
 | false=>simpa using h
 | true =>
   simp only [if_true];have hc:=Lf.y0u (Lf.F6 hok hn);have hs:=Lf.z9u (Lf.Mi (x.uc,x.ua) now) d;unfold It.use Lf.O4 Lf.O3;simp only [hok,if_true];exact ⟨⟨by omega,by omega⟩,hn⟩
theorem x9y{s q:Nat}{x:It}(hq:Blk w q Uy (thC s x))(hu:Lf.Kg (x.uc,x.ua))(now d:Int)(hn:Lf.I64 now)(hd1:0<=d)(hd2:d<=4294967295) :
 Calls Tryz.prog 68 #[.pointer (some ⟨q,0,none⟩),.int .i64 now,.int .u32 d] w fun e w'=>e=.returned (Q5 (Lf.Ou (x.uc,x.ua) now))/\Blk w' q Uy (thC s (Y8 now d x))/\Far (fun k=>k=q) w w':=by
 have HT:=jY (Lf.x0i (x.uc,x.ua) hu now d hn hd1 hd2 w);have c2:=hq.cell 2;have c3:=hq.cell 3;simp [thC] at c2 c3;unfold Lf.Q6 Lf.Gl at HT;simp only at HT;have HQ:=jY hq;unfold Y8
 cases hok:Lf.okB (x.uc,x.ua) now with
 | true =>
   have e1:Lf.Ou (x.uc,x.ua) now=0:=by unfold Lf.Ou;rw [hok];rfl
   rw [e1] at HT ⊢;simp only [if_true];generalize Lf.O4 (x.uc,x.ua) now d=C at *;generalize Lf.O3 (x.uc,x.ua) now=A at *;clear hq hok e1 hu
   go_enter Tryz.func68,Tryz.ntmps68
   go_wp2_with fail;refine HT.out.mono ?_;rintro e w1 ⟨rfl,hb⟩;have hb1:=hb.trans ((Z0 w1 (.cells #[.int .i64 C,.int .i64 A] 48)).mono hb.size);have k1:=HQ.out.later hb1;have d2:=k1.cell 2;have d3:=k1.cell 3;have f2:=k1.free 2;have f3:=k1.free 3;simp [thC] at d2 d3;have ku:=Blk.new w1 48 #[.int .i64 C,.int .i64 A];obtain ⟨g0,g1,_,_⟩:=Za ku
   have HE:=jY (show Blk (((w1.alloc (.cells #[.int .i64 C,.int .i64 A] 48)).setCell ⟨q,2,none⟩ (.int .i64 C)).setCell ⟨q,3,none⟩ (.int .i64 A)) q Uy (thC s (x.use C A))/\Far (fun k=>k=q) w (((w1.alloc (.cells #[.int .i64 C,.int .i64 A] 48)).setCell ⟨q,2,none⟩ (.int .i64 C)).setCell ⟨q,3,none⟩ (.int .i64 A)) from
    ⟨by have:=(k1.set 2 (.int .i64 C)).set 3 (.int .i64 A);simpa [thC,It.use] using this,((Far.of_below (S:=fun k=>k=q) hb1).set ⟨q,2,none⟩ _ (.inl rfl)).set ⟨q,3,none⟩ _ (.inl rfl)⟩)
   clear hb hb1 k1 ku HT HQ;go_wp2;go_returns;exact ⟨rfl,HE.out⟩
 | false =>
   have e1:Lf.Ou (x.uc,x.ua) now=130:=by unfold Lf.Ou;rw [hok];rfl
   rw [e1] at HT ⊢;simp only [Bool.false_eq_true,if_false];generalize Lf.O4 (x.uc,x.ua) now d=C at *;generalize Lf.O3 (x.uc,x.ua) now=A at *;clear hq hok e1 hu
   go_enter Tryz.func68,Tryz.ntmps68
   go_wp2_with fail;refine HT.out.mono ?_;rintro e w1 ⟨rfl,hb⟩;have hb1:=hb.trans ((Z0 w1 (.cells #[.int .i64 C,.int .i64 A] 48)).mono hb.size);have HE:=jY (And.intro (HQ.out.later hb1) (Far.of_below (S:=fun k=>k=q) hb1));clear hb hb1 HT HQ;go_wp2;go_returns;exact ⟨rfl,HE.out⟩
def M9(L:List Th)(k:ByteArray)(now d n:Int)(L':List Th):Prop:=(Y4 L k=none/\n=141/\L'=L)\/∃ t∈L,t.key=k/\n=Lf.Ou (t.uc,t.ua) now/\L'=Xu L { t with toIt:=Y8 now d t.toIt }
theorem x6b(h:SpSt w p en mn sd c L S)(hE:EnvE w)(hS0:¬ S 0)(k:ByteArray)(hk:k.size<=281474976710656)(now d:Int)(hn:Lf.I64 now)(hd1:0<=d)(hd2:d<=4294967295) :
 Calls Tryz.prog 36 #[.pointer (some ⟨p,0,none⟩),.string k,.int .i64 now,.int .u32 d] w fun e w'=>∃ n L',e=.returned (.int .i64 n)/\SpNow w p en mn sd c S L' w'/\M9 L k now d n L':=by
 have HF:=jY (z9r h k hk);have HEN:=jY (fun L' w' (g:SpNow w p en mn sd c S L' w')=>g.env hE hS0)
 cases hm:Y4 L k with
 | none =>
   rw [hm] at HF;have HA:=jY (show M9 L k now d 141 L from .inl ⟨hm,rfl,rfl⟩);clear h hE hS0 hm;have HNB:=fun W (hW:EnvE W)=>jY (P9 141 W hW);unfold Kv at HNB
   go_enter Tryz.func36,Tryz.ntmps36
   go_wp2_with fail;refine HF.out.mono ?_;rintro e w1 ⟨rfl,h1⟩;have hen:=HEN.out _ _ h1;have HB:=HNB w1 hen;have H1:=jY h1;clear h1 HF hen HNB HEN;simp only [Option.isSome_none,Bool.false_eq_true,if_false,Q5,Kv,show (141:Int)≠0 from by decide];go_wp2_with fail;refine HB.out.mono ?_;rintro e w2 ⟨rfl,hb⟩;have HB2:=jY (H1.out.later hb);clear hb HB;go_wp2_with fail;go_ret;exact ⟨_,L,rfl,HB2.out,HA.out⟩
 | some a =>
   rw [hm] at HF;obtain ⟨t,ht,htk,rfl⟩:=U2 hm;have hut:Lf.Kg (t.uc,t.ua):=by obtain ⟨d,SD,rv,sh,g,_⟩:=h;exact g.use t ht
   have HA:=jY (show M9 L k now d (Lf.Ou (t.uc,t.ua) now) (Xu L { t with toIt:=Y8 now d t.toIt }) from .inr ⟨t,ht,htk,rfl,rfl⟩);have HTQ:=jY (fun W (hq:Blk W t.q Uy (thC t.s t.toIt))=>x9y hq hut now d hn hd1 hd2)
   have HREP:=jY (fun W S1 (g:SpSt W p en mn sd c L S1) W2 (hq:Blk W2 t.q Uy (thC t.s (Y8 now d t.toIt))) (hf:Far (fun j=>j=t.q) W W2) =>
    g.rep (t':={ t with toIt:=Y8 now d t.toIt }) ht rfl (by show (Y8 now d t.toIt).key=t.key;unfold Y8;split <;> rfl) hf (fun j hj=>.inl hj) hq (by
     have h1:=((g.th ht).2).far hf fun j hj e=>by subst e;exact P5 (g.th ht).2 (g.th ht).1 (by decide) hj
     show SetIs W2 t.s t.S (Y8 now d t.toIt).isL _ _ c (Y8 now d t.toIt).E;have e1:(Y8 now d t.toIt).isL=t.isL:=by unfold Y8;split <;> rfl
     have e2:(Y8 now d t.toIt).E=t.E:=by unfold Y8;split <;> rfl
     rw [e1,e2];exact h1) (fun j hj=>.inl hj) (y0d hn hut))
   have HNB:=jY (fun W (hW:EnvE W)=>Gb (Lf.Ou (t.uc,t.ua) now) W hW);generalize Lf.Ou (t.uc,t.ua) now=n at *;clear h hE hS0 hm hut htk
   go_enter Tryz.func36,Tryz.ntmps36
   go_wp2_with fail;refine HF.out.mono ?_;rintro e w1 ⟨rfl,S1,g1,g2,g3⟩;simp only [Option.isSome_some,if_true,show Q5 0=.nilIface from rfl];have HT1:=jY (HTQ.out w1 (g1.th ht).1);have HR1:=jY (HREP.out w1 S1 g1);have G:=jY (And.intro g2 g3);clear g1 g2 g3 HF HTQ HREP ht;go_wp2_with fail;refine HT1.out.mono ?_;rintro e w2 ⟨rfl,hq,hf⟩;have h2:=HR1.out w2 hq hf
   have h3:SpNow w p en mn sd c S (Xu L { t with toIt:=Y8 now d t.toIt }) w2:=by
    obtain ⟨S2,y1,y2,y3⟩:=h2;exact ⟨S2,y1,fun j hj=>(y2 j hj).elim (fun h=>G.out.1 j h) fun h=>.inr (lAe G.out.2.size h),G.out.2.trans y3 fun j hj=>G.out.1 j hj⟩
   have HB:=jY (HNB.out w2 (HEN.out _ _ h3));have H3:=jY h3;clear hq hf h2 h3 HT1 HR1 G HNB HEN;go_wp2_with fail;refine HB.out.mono ?_;rintro e w3 ⟨rfl,hb⟩;have HB2:=jY (H3.out.later hb);clear hb HB;go_wp2_with fail;go_ret;exact ⟨_,_,rfl,HB2.out,HA.out⟩
end
end Go.Proofs.YtcklcmafohlflaaGreatDoor
