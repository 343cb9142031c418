/- Texts of one kind in one: SpSet, SpSt, SpMade, SpApi, SpNew, SpRep, SpTouch, SpRename, SpLast, SpKeys. -/
import Derived.Test.YtmehfohpjigmmaaGreatDoorQSched24
set_option maxRecDepth 200000
set_option maxHeartbeats 8000000
namespace Go.Proofs.YtmehfohpjigmmaaGreatDoor
open Zc (Ent Ext KeepC Y5 Z7 Z9 Yw Y1 Za Zl Ya Zp Z6 Zo Z0 Zf)
open Go.RowKit Go.Shelf Sk
attribute [local go_sem] Oper.semAt_some
def Vw(le lm:Int):List En->Bool × List En->Bool × List En
 | [],x=>x
 | e :: r,x=>Vw le lm r (A2 le lm x.1 x.2 e.1 1,A3 x.2 e.1 e.2 1)
theorem Jd(le lm:Int):∀ (l:List En) (e:En) (x:Bool × List En),Vw le lm (l++[e]) x=(A2 le lm (Vw le lm l x).1 (Vw le lm l x).2 e.1 1,A3 (Vw le lm l x).2 e.1 e.2 1)
 | [],e,x=>rfl
 | a :: l,e,x=>by rw [List.cons_append,Vw,Jd le lm l e];rfl
def Fh(en mn:Int)(l:List En):Bool × List En:=Vw (Zj en 200) (Zj mn 64) l (false,[])
theorem M8{w:World}{p d sd n0:Nat}{rv v:Value}{en mn:Int}{l:List En}(h:Blk w p K7 (spC en mn sd d rv))(hsd:sd<4294967296)(hl:l.length<=300)(hs:∀ e∈l,Pk.Yl e.2)(hr:Row w n0 v l) :
 Calls Tryz.prog 31 #[.pointer (some ⟨p,0,none⟩),v] w fun e w'=>∃ s S,e=.returned (.pointer (some ⟨s,0,none⟩))/\SetIs w' s S (Fh en mn l).1 (Zj en 200) (Zj mn 64) l.length (Fh en mn l).2/\(∀ k,S k->w.heap.size<=k)/\Bl w w':=by
 obtain ⟨a,cap,rfl⟩:=hr.form;have HN:=fun W=>jY (y1r en mn sd hsd W);have HR:=jY (fun W (hb:Bl w W)=>hr.later hb);have HS:=jY hs;have HK:=jY h;have S0:w.drew.cell? ⟨p,0,none⟩=some (.int .i64 en)/\w.drew.cell? ⟨p,1,none⟩=some (.int .i64 mn)/\w.drew.cell? ⟨p,2,none⟩=some (.int .u32 sd):=⟨h.drew.cell 0,h.drew.cell 1,h.drew.cell 2⟩;clear hr hs h
 go_enter Tryz.func31,Tryz.ntmps31
 go_wp2_with fail
 go_region_held (fun W=>W.cell? ⟨p,0,none⟩=some (.int .i64 en)/\W.cell? ⟨p,1,none⟩=some (.int .i64 mn)/\W.cell? ⟨p,2,none⟩=some (.int .u32 sd)) (first|exact S0|exact S1|assumption)
  (first
    | (go_at_call 52;refine (HN _).out.mono ?_;rintro e w4 ⟨s,S,rfl,hs4,hS4,hb4⟩
       have k4:=(HK.out.drew).later hb4;have S1:w4.cell? ⟨p,0,none⟩=some (.int .i64 en)/\w4.cell? ⟨p,1,none⟩=some (.int .i64 mn)/\w4.cell? ⟨p,2,none⟩=some (.int .u32 sd):=⟨k4.cell 0,k4.cell 1,k4.cell 2⟩;have H4:=jY (show SetIs w4 s S false (Zj en 200) (Zj mn 64) 0 []/\(∀ k,S k->w.heap.size<=k)/\Bl w w4 from ⟨hs4,hS4,(Below.refl w.heap.size w).drew.trans hb4⟩)
       clear hs4 hS4 hb4 k4))
 all_goals (
  clear S0 S1;go_wp2
  go_loopw [19] (fun i wr=>∃ (n:Nat) (S:Nat->Prop),i=.int .i64 n/\n<=l.length/\Hid (SetIs wr s S (Vw (Zj en 200) (Zj mn 64) (l.take n) (false,[])).1 (Zj en 200) (Zj mn 64) n (Vw (Zj en 200) (Zj mn 64) (l.take n) (false,[])).2)/\Hid (∀ k,S k->w.heap.size<=k)/\Hid (Bl w wr)) (fun i _=>l.length-(intOf i).toNat)
  case atStart=>exact ⟨0,_,rfl,by omega,jY H4.out.1,jY H4.out.2.1,jY H4.out.2.2⟩
  case round =>
   obtain ⟨n,S1,rfl,hn,HI,HO,HB⟩:=hrel
   by_cases hlt:n<l.length
   ·have hx:l[n]?=some l[n]:=List.getElem?_eq_getElem hlt;obtain ⟨b,off,c',e1,g0,g1⟩:=Gn (HR.out wr HB.out) hx
    injection e1 with e1 _ e2
    subst e1;subst e2;have hg:=HI.out.good;have hle:=hg.len;have hadd:=fun W (hb:Bl wr W)=>jY (y1q (HI.out.later hb) (by omega) (by omega) l[n].1 l[n].2 1 (HS.out _ (List.getElem_mem hlt)))
    have hft:Vw (Zj en 200) (Zj mn 64) (l.take (n+1)) (false,[])=(A2 (Zj en 200) (Zj mn 64) (Vw (Zj en 200) (Zj mn 64) (l.take n) (false,[])).1 (Vw (Zj en 200) (Zj mn 64) (l.take n) (false,[])).2 l[n].1 1,A3 (Vw (Zj en 200) (Zj mn 64) (l.take n) (false,[])).2 l[n].1 l[n].2 1):=by
     rw [List.take_succ_eq_append_getElem hlt,Jd]
    have HFT:=jY hft;have hk2:(n:Int)<l.length:=by omega
    generalize Vw (Zj en 200) (Zj mn 64) (l.take n) (false,[])=X at *;generalize l[n]=x at *;have HA:=hadd (wr.alloc (.cells #[.string x.1,.int .i64 x.2] 107)) (Z5 _ _);have k0:=Blk.new wr 107 #[.string x.1,.int .i64 x.2];have z0:=k0.cell 0;have z1:=k0.cell 1;simp at z0 z1
    have FIN:=jY (fun w6 (hn:SetNow (wr.alloc (.cells #[.string x.1,.int .i64 x.2] 107)) s S1 (A2 (Zj en 200) (Zj mn 64) X.1 X.2 x.1 1) (Zj en 200) (Zj mn 64) (n+1) (A3 X.2 x.1 x.2 1) w6) =>
     show ∃ S2,SetIs w6 s S2 (A2 (Zj en 200) (Zj mn 64) X.1 X.2 x.1 1) (Zj en 200) (Zj mn 64) (n+1) (A3 X.2 x.1 x.2 1)/\(∀ k,S2 k->w.heap.size<=k)/\Bl w w6 from by
      obtain ⟨S2,g1,g2,g3⟩:=hn;have hb1:=HB.out.trans ((Z5 wr (.cells #[.string x.1,.int .i64 x.2] 107)).mono HB.out.size)
      exact ⟨S2,g1,fun k hk=>(g2 k hk).elim (HO.out k) fun h=>Nat.le_trans hb1.size h,hb1.trans (g3.below HO.out hb1.size)⟩)
    clear hx hg hle hadd hft k0;go_wp2_with fail;refine HA.out.mono ?_;rintro e w6 ⟨rfl,hn6⟩;obtain ⟨S2,h1,h2,h3⟩:=FIN.out w6 hn6;have Z1:=jY h1;have Z2:=jY h2;have Z3:=jY h3;clear hn6 h1 h2 h3 FIN HA z0 z1;go_wp2_with fail;exact ⟨⟨n+1,S2,by go_num,hlt,jY (by rw [HFT.out];exact Z1.out),jY Z2.out,jY Z3.out⟩,by simp [intOf];omega⟩
   ·obtain rfl:n=l.length:=by omega
    have Z:=jY (show SetIs wr s S1 (Fh en mn l).1 (Zj en 200) (Zj mn 64) l.length (Fh en mn l).2 from by
     have:=HI.out
     rw [List.take_length] at this
     exact this)
    go_wp2;go_returns
    exact ⟨s,S1,rfl,Z.out,HO.out,HB.out⟩)
def SpSt(W:World)(p:Nat)(en mn:Int)(sd c:Nat)(L:List Th)(S:Nat->Prop):Prop :=
 ∃ d SD rv sh,SpIn W p d SD rv en mn sd (Zw L) sh c L/\(sh.n=L.length/\sh.low)/\L.length<=500/\∀ k,S k↔spS p SD rv L k
def SpNow(w:World)(p:Nat)(en mn:Int)(sd c:Nat)(S:Nat->Prop)(L':List Th)(w':World):Prop :=
 ∃ S',SpSt w' p en mn sd c L' S'/\(∀ k,S' k->S k\/w.heap.size<=k)/\Far S w w'
section
variable {W W' w w' w1 w2:World} {p d sd c:Nat} {S:Nat->Prop} {SD:Nat->Prop} {rv rv':Value} {en mn:Int} {m:ByteArray->Option Addr} {sh:Dc.Sh} {L L' L1:List Th} {t:Th}
theorem SpSt.far{S1:Nat->Prop}(h:SpSt w p en mn sd c L S)(hf:Far S1 w w')(hd:∀ k,S k->¬ S1 k):SpSt w' p en mn sd c L S:=by
 obtain ⟨d,SD,rv,sh,h1,h2,h3,hS⟩:=h;exact ⟨d,SD,rv,sh,h1.far hf fun k hk=>hd k ((hS k).2 hk),h2,h3,hS⟩
theorem SpSt.later(h:SpSt w p en mn sd c L S)(hb:Bl w w'):SpSt w' p en mn sd c L S:=h.far (S1:=fun _=>False) (Far.of_below hb) fun _ _ h=>h
theorem SpSt.keys(h:SpSt w p en mn sd c L S):Vd (itl L):=by obtain ⟨d,SD,rv,sh,h1,_⟩:=h;exact h1.keys
theorem SpSt.len(h:SpSt w p en mn sd c L S):L.length<=500:=by obtain ⟨d,SD,rv,sh,h1,_,h3,_⟩:=h;exact h3
theorem SpNow.start(h:SpSt w p en mn sd c L S):SpNow w p en mn sd c S L w:=⟨S,h,fun _ h=>.inl h,Far.refl _ _⟩
theorem SpNow.same(h:SpSt w p en mn sd c L S)(hb:Bl w w'):SpNow w p en mn sd c S L w':=⟨S,h.later hb,fun _ h=>.inl h,Far.of_below hb⟩
theorem SpNow.later(h:SpNow w p en mn sd c S L w1)(hb:Bl w1 w2):SpNow w p en mn sd c S L w2:=by
 obtain ⟨S',h1,h2,h3⟩:=h;exact ⟨S',h1.later hb,h2,h3.then_below hb⟩
theorem SpIn.asked(hS:∀ k,S k↔spS p SD rv L k)(h2:sh.n=L.length/\sh.low)(h3:L.length<=500)(h:z2b w p d SD rv en mn sd sh c L w'):SpNow w p en mn sd c S L w':=by
 obtain ⟨SD',g1,g2,g3⟩:=h;refine ⟨_,⟨d,SD',rv,sh,g1,h2,h3,fun _=>Iff.rfl⟩,fun k hk=>?_,g3.mono fun k hk=>(hS k).2 (.inr (.inr (.inl hk)))⟩;rcases hk with hk|hk|hk|hk
 ·exact .inl ((hS k).2 (.inl hk))
 ·exact .inl ((hS k).2 (.inr (.inl hk)))
 ·exact (g2 k hk).imp_left fun h=>(hS k).2 (.inr (.inr (.inl h)))
 ·exact .inl ((hS k).2 (.inr (.inr (.inr hk))))
theorem J4(h:SpSt w p en mn sd c L S)(k:ByteArray)(hk:k.size<=281474976710656) :
 Calls Tryz.prog 26 #[.pointer (some ⟨p,0,none⟩),.string k] w fun e w'=>e=.returned (.tuple #[.pointer (Zw L k),.bool (Zw L k).isSome])/\SpNow w p en mn sd c S L w':=by
 obtain ⟨d,SD,rv,sh,h1,h2,h3,hS⟩:=h;exact (Yd h1 (by omega) (by omega) k hk).mono fun _ _ ⟨he,ha⟩=>⟨he,SpIn.asked hS h2 h3 ha⟩
theorem y2b(h:SpSt w p en mn sd c L S)(k:ByteArray)(hk:k.size<=281474976710656) :
 Calls Tryz.prog 24 #[.pointer (some ⟨p,0,none⟩),.string k] w fun e w'=>e=.returned (.tuple #[])/\SpNow w p en mn sd c S (Yt L k) w'/\∀ t∈L,t.key=k->Loose w' en mn c (Yt L k) t:=by
 obtain ⟨d,SD,rv,sh,h1,h2,h3,hS⟩:=h;refine (z6o h1 (by omega) (by omega) k hk).mono fun _ w' ⟨he,rv',SD',sh',g1,g2,g3,g4⟩=>⟨he,⟨_,⟨d,SD',rv',sh',?_,?_,?_,fun _=>Iff.rfl⟩,fun j hj=>?_,g4.mono fun j hj=>(hS j).2 ?_⟩,fun t ht e=>?_⟩
 ·rw [I7 h1.keys k];exact g1
 ·exact ⟨by rw [g2.1,Qm h1.keys k,h2.1],g2.2 h2.2 (by omega)⟩
 ·exact Nat.le_trans (Va L k).length_le h3
 ·have hown:Pj p SD' rv' j->S j\/w.heap.size<=j:=fun ho=>(g3 j ho).imp_left fun h=>(hS j).2 (h.elim (fun e=>.inr (.inl e)) fun e=>e.elim .inl fun e=>.inr (.inr (.inl e)));rcases hj with hj|hj|hj|⟨u,hu,hj⟩
  ·exact hown (.inr (.inl hj))
  ·exact hown (.inl hj)
  ·exact hown (.inr (.inr hj))
  ·exact .inl ((hS j).2 (.inr (.inr (.inr ⟨u,(Va L k).subset hu,hj⟩))))
 ·exact hj.elim (fun e=>.inr (.inl e)) fun e=>e.elim .inl fun e=>.inr (.inr (.inl e))
 ·have h5:=h1.taken ht;rw [e] at h5;exact h1.loose h5 g4
theorem z3a(h:SpSt w p en mn sd c L S)(ht:Loose w en mn c L t){S1:Nat->Prop}(hS1:∀ k,(k=t.q\/t.S k)->S1 k)(k:ByteArray)(hk:k.size<=64)(hroom:(Yt L k).length<500) :
 Calls Tryz.prog 25 #[.pointer (some ⟨p,0,none⟩),.string k,.pointer (some ⟨t.q,0,none⟩)] w fun e w'=>e=.returned (.tuple #[])/\SpNow w p en mn sd c (fun k=>S k\/S1 k) (Yt L k++[t.named k]) w':=by
 obtain ⟨d,SD,rv,sh,h1,h2,h3,hS⟩:=h;refine (z7d h1 ht (by omega) (by omega) k hk).mono fun _ w' ⟨he,rv',SD',sh',g1,g2,g3,g4⟩=>⟨he,⟨_,⟨d,SD',rv',sh',?_,?_,?_,fun _=>Iff.rfl⟩,fun j hj=>?_,g4.mono fun j hj=>?_⟩⟩
 ·have h5:Dc.Dt.B7 (Zw L) k ⟨t.q,0,none⟩=Zw (Yt L k++[t.named k]):=by
   rw [z5i (t:=t.named k) (fun u hu=>((Vq h1.keys k).1 hu).2),I7 h1.keys k]
   funext k'
   unfold Dc.Dt.B7 Dc.Dt.Df;show _=if k'=k then _ else _
   by_cases e:k'=k
   ·rw [if_pos e,if_pos e];rfl
   ·rw [if_neg e,if_neg e,if_neg e]
  rw [<- h5];exact g1
 ·refine ⟨?_,g2.2 h2.2 (by omega)⟩;rw [g2.1,List.length_append,Qm h1.keys k,h2.1,List.length_singleton]
  have:(Zw L k).isSome=true->0<L.length:=fun e=>by
   obtain ⟨a,ha⟩:=Option.isSome_iff_exists.1 e;obtain ⟨u,hu,_⟩:=Uc ha;exact List.length_pos_of_mem hu
  split
  ·rename_i e;have:=this e;omega
  ·rfl
 ·rw [List.length_append,List.length_singleton];omega
 ·have hown:Pj p SD' rv' j->(S j\/S1 j)\/w.heap.size<=j:=fun ho=>(g3 j ho).imp_left fun h=>.inl ((hS j).2 (h.elim (fun e=>.inr (.inl e)) fun e=>e.elim .inl fun e=>.inr (.inr (.inl e))));rcases hj with hj|hj|hj|⟨u,hu,hj⟩
  ·exact hown (.inr (.inl hj))
  ·exact hown (.inl hj)
  ·exact hown (.inr (.inr hj))
  ·rcases List.mem_append.1 hu with hu|hu
   ·exact .inl (.inl ((hS j).2 (.inr (.inr (.inr ⟨u,(Va L k).subset hu,hj⟩)))))
   ·obtain rfl:u=t.named k:=by simpa using hu
    exact .inl (.inr (hS1 j hj))
 ·rcases hj with hj|hj
  ·exact .inl ((hS j).2 (hj.elim (fun e=>.inr (.inl e)) fun e=>e.elim .inl fun e=>.inr (.inr (.inl e))))
  ·exact .inr (hS1 j (.inl hj))
end
section
variable {w w' w1 w2:World} {p c sd:Nat} {S:Nat->Prop} {en mn:Int} {L L':List Th} {t:Th}
theorem z9c(h:SpSt w p en mn sd c L S)(k:ByteArray)(hk:k.size<=281474976710656) :
 Calls Tryz.prog 22 #[.pointer (some ⟨p,0,none⟩),.string k] w fun e w'=>e=.returned (.tuple #[.pointer (Zw L k),Xp (if (Zw L k).isSome then 0 else 141)])/\SpNow w p en mn sd c S L w':=by
 have HF:=jY (J4 h k hk);clear h
 cases hm:Zw L k with
 | none =>
   rw [hm] at HF;clear hm
   go_enter Tryz.func22,Tryz.ntmps22
   go_wp2_with fail;refine HF.out.mono ?_;rintro e w1 ⟨rfl,h1⟩;have H1:=jY h1;clear h1 HF;go_wp2_with fail;go_ret2;exact ⟨rfl,H1.out⟩
 | some a =>
   rw [hm] at HF;clear hm
   go_enter Tryz.func22,Tryz.ntmps22
   go_wp2_with fail;refine HF.out.mono ?_;rintro e w1 ⟨rfl,h1⟩;have H1:=jY h1;clear h1 HF;go_wp2_with fail;go_ret2;exact ⟨rfl,H1.out⟩
theorem G7(k:ByteArray)(w:World):Calls Tryz.prog 22 #[.pointer none,.string k] w fun e w'=>e=.returned (.tuple #[.pointer none,Xp 1])/\w'=w:=by
 go_enter Tryz.func22,Tryz.ntmps22
 go_wp2;go_ret2;exact ⟨rfl,rfl⟩
theorem z1p(h:SpSt w p en mn sd c L S):Calls Tryz.prog 12 #[.pointer (some ⟨p,0,none⟩)] w fun e w'=>e=.returned (.int .i64 L.length)/\w'=w:=by
 obtain ⟨d,SD,rv,sh,h1,h2,h3,hS⟩:=h;have HT:=jY (Mz p d sd en mn rv w h1.blk);have HL:=jY (Dc.Dt.y3i h1.dict);rw [h2.1] at HL;clear h1 hS
 go_enter Tryz.func12,Tryz.ntmps12
 go_wp2_with fail;refine HT.out.mono ?_;rintro e w1 ⟨rfl,rfl⟩;go_wp2_with fail;refine HL.out.mono ?_;rintro e w1 ⟨rfl,rfl⟩;go_wp2;go_ret;exact ⟨rfl,rfl⟩
theorem SpNow.born{S1:Nat->Prop}(hb:Bl w w1)(hS:∀ k,S1 k->w.heap.size<=k)(h:SpNow w1 p en mn sd c (fun k=>S k\/S1 k) L w2):SpNow w p en mn sd c S L w2:=by
 obtain ⟨S',h1,h2,h3⟩:=h;refine ⟨S',h1,fun k hk=>?_,⟨h3.os.trans hb.os,h3.tape.trans hb.tape,h3.output.trans hb.output,Nat.le_trans hb.size h3.size,fun k hk hn=>(h3.block k (Nat.lt_of_lt_of_le hk hb.size) fun e=>e.elim hn fun e=>by have:=hS k e;omega).trans (hb.block k hk)⟩⟩;rcases h2 k hk with (h|h)|h
 ·exact .inl h
 ·exact .inr (hS k h)
 ·exact .inr (Nat.le_trans hb.size h)
def Yr(L:List Th)(k:ByteArray)(now:Int):Int:=if 64<k.size then 140 else if (Zw L k).isSome then 0 else if now<0 then 130 else if 500<=L.length then 51 else 0
def Pr(L:List Th)(k:ByteArray)(now:Int)(a:Option Addr)(L':List Th):Prop :=
 (Yr L k now≠0/\a=none/\L'=L)\/(Yr L k now=0/\k.size<=64/\∃ t∈L',t.key=k/\a=some ⟨t.q,0,none⟩/\((t∈L/\L'=L)\/(Zw L k=none/\0<=now/\L.length<500/\L'=L++[t]/\t.toIt=⟨k,5,now,false,[]⟩)))
theorem Gm{L:List Th}{k:ByteArray}(h:Zw L k=none):Yt L k=L:=by
 unfold Yt
 cases hi:Py L k with
 | none=>rfl
 | some i =>
   obtain ⟨hi0,hke⟩:=P7 hi;unfold Zw at h;rw [Option.map_eq_none_iff,List.find?_eq_none] at h;exact absurd (by simpa using hke) (h _ (List.getElem_mem hi0))
theorem Jl(now:Int)(h:Lf.I64 now)(hn:0<=now)(w:World):Calls Tryz.prog 41 #[.int .i64 now] w fun e w'=>e=.returned (.tuple #[.agg #[.int .i64 5,.int .i64 now],.int .i64 0])/\Bl w w':=by
 have:=Lf.V4 now h w
 simp only [if_pos hn] at this;exact this
theorem z0b(now:Int)(h:Lf.I64 now)(hn:now<0)(w:World):Calls Tryz.prog 41 #[.int .i64 now] w fun e w'=>e=.returned (.tuple #[.agg #[.int .i64 0,.int .i64 0],.int .i64 130])/\Bl w w':=by
 have:=Lf.V4 now h w
 simp only [if_neg (show ¬ 0<=now by omega)] at this;exact this
theorem z7o(h:SpSt w p en mn sd c L S)(k:ByteArray)(hk:k.size<=281474976710656)(now:Int)(hnow:Lf.I64 now)(he:Yr L k now≠0\/(Zw L k).isSome=true) :
 Calls Tryz.prog 20 #[.pointer (some ⟨p,0,none⟩),.string k,.int .i64 now] w fun e w'=>∃ a L',e=.returned (.tuple #[.pointer a,Xp (Yr L k now)])/\SpNow w p en mn sd c S L' w'/\Pr L k now a L':=by
 have HN:=fun W=>jY (X6 k hk W);have HF:=jY (J4 h k hk);have hlen:=h.len;have HL:=jY (fun W S1 (g:SpSt W p en mn sd c L S1)=>z1p g)
 by_cases h64:64<k.size
 ·have e1:Yr L k now=140:=by unfold Yr;rw [if_pos h64]
  simp only [if_pos h64] at HN;have HA:=jY (show Pr L k now none L from .inl ⟨by rw [e1];decide,rfl,rfl⟩);have H:=jY h;rw [e1];clear h he e1;rw [show Xp 140=.iface 85 (.int .i64 140) from rfl] at HN
  go_enter Tryz.func20,Tryz.ntmps20
  go_wp2_with fail;refine (HN _).out.mono ?_;rintro e w1 ⟨rfl,rfl⟩;go_wp2_with fail;go_ret2;exact ⟨none,L,rfl,SpNow.start H.out,HA.out⟩
 ·simp only [if_neg h64] at HN;rw [show Xp 0=.nilIface from rfl] at HN;have e1:Yr L k now=(if (Zw L k).isSome then 0 else if now<0 then 130 else if 500<=L.length then 51 else 0):=by unfold Yr;rw [if_neg h64]
  cases hm:Zw L k with
  | some a =>
    rw [hm] at HF e1;simp only [Option.isSome_some,if_true] at e1 HF;obtain ⟨t,ht,htk,rfl⟩:=Uc hm;have HA:=jY (show Pr L k now (some ⟨t.q,0,none⟩) L from .inr ⟨e1,by omega,t,ht,htk,rfl,.inl ⟨ht,rfl⟩⟩);rw [e1];clear h he e1 hm ht htk HL
    go_enter Tryz.func20,Tryz.ntmps20
    go_wp2_with fail;refine (HN _).out.mono ?_;rintro e w1 ⟨rfl,rfl⟩;go_wp2_with fail;refine HF.out.mono ?_;rintro e w2 ⟨rfl,h2⟩;have H2:=jY h2;clear h2 HF HN;go_wp2_with fail;go_ret2;exact ⟨_,L,rfl,H2.out,HA.out⟩
  | none =>
    rw [hm] at HF e1 he;simp only [Option.isSome_none,Bool.false_eq_true,if_false,or_false] at e1 HF he;have HA:=jY (show Pr L k now none L from .inl ⟨he,rfl,rfl⟩)
    by_cases hn:now<0
    ·rw [if_pos hn] at e1;have HW:=fun W=>jY (z0b now hnow hn W);rw [e1];clear h he e1 hm HL
     go_enter Tryz.func20,Tryz.ntmps20
     go_wp2_with fail;refine (HN _).out.mono ?_;rintro e w1 ⟨rfl,rfl⟩;go_wp2_with fail;refine HF.out.mono ?_;rintro e w2 ⟨rfl,h2⟩;have H2:=jY h2;clear h2 HF HN;go_wp2_with fail;refine (HW _).out.mono ?_;rintro e w3 ⟨rfl,hb3⟩;have HB3:=jY hb3;clear hb3 HW;go_wp2_with fail;go_ret2;refine ⟨none,L,rfl,?_,HA.out⟩;exact H2.out.later (HB3.out.trans ((Z5 w3 _).mono HB3.out.size))
    ·rw [if_neg hn] at e1
     have h500:500<=L.length:=by
      by_cases h5:500<=L.length
      ·exact h5
      ·rw [if_neg h5] at e1;exact absurd e1 he
     rw [if_pos h500] at e1;have hl5:L.length=500:=by omega
     have HW:=fun W=>jY (Jl now hnow (by omega) W);rw [e1];clear h he e1 hm hlen h500
     go_enter Tryz.func20,Tryz.ntmps20
     go_wp2_with fail;refine (HN _).out.mono ?_;rintro e w1 ⟨rfl,rfl⟩;go_wp2_with fail;refine HF.out.mono ?_;rintro e w2 ⟨rfl,h2⟩;have H2:=jY h2;clear h2 HF HN;go_wp2_with fail;refine (HW _).out.mono ?_;rintro e w3 ⟨rfl,hb3⟩;have k5:=Blk.new w3 39 #[.int .i64 5,.int .i64 now];have h3:=H2.out.later (hb3.trans ((Z5 w3 (.cells #[.int .i64 5,.int .i64 now] 39)).mono hb3.size))
     have HLN:=jY (show Calls Tryz.prog 12 #[.pointer (some ⟨p,0,none⟩)] (w3.alloc (.cells #[.int .i64 5,.int .i64 now] 39)) fun e w'=>e=.returned (.int .i64 500)/\w'=w3.alloc (.cells #[.int .i64 5,.int .i64 now] 39) from by
      obtain ⟨S',g,_⟩:=h3
      have:=HL.out _ S' g
      rw [hl5] at this
      exact this)
     have H3:=jY h3;clear hb3 HW H2 h3 k5 HL hl5;go_wp2_with fail;refine HLN.out.mono ?_;rintro e w4 ⟨rfl,rfl⟩;go_wp2_with fail;go_ret2;exact ⟨none,L,rfl,H3.out,HA.out⟩
theorem z7p(h:SpSt w p en mn sd c L S)(hc:c<=10000)(k:ByteArray)(hk:k.size<=64)(now:Int)(hnow:Lf.I64 now)(h0:0<=now)(h5:L.length<500)(hm:Zw L k=none) :
 Calls Tryz.prog 20 #[.pointer (some ⟨p,0,none⟩),.string k,.int .i64 now] w fun e w'=>∃ a L',e=.returned (.tuple #[.pointer a,Xp (Yr L k now)])/\SpNow w p en mn sd c S L' w'/\Pr L k now a L':=by
 have HN:=fun W=>jY (X6 k (by omega) W);simp only [if_neg (show ¬ 64<k.size by omega)] at HN;rw [show Xp 0=.nilIface from rfl] at HN;have HF:=jY (J4 h k (by omega));rw [hm] at HF;have e1:Yr L k now=0:=by unfold Yr;rw [if_neg (by omega),hm];simp;omega
 have HL:=jY (fun W S1 (g:SpSt W p en mn sd c L S1)=>z1p g);have HW:=fun W=>jY (Jl now hnow h0 W);have HSET:=jY (fun W d SD rv (sh:Dc.Sh) (g:SpIn W p d SD rv en mn sd (Zw L) sh c L)=>M8 (n0:=0) (l:=[]) g.blk g.sd (by simp) (fun e he=>by cases he) (Row.nil W 0));have HKEEP:=jY (fun W S1 (g:SpSt W p en mn sd c L S1) (t:Th) (S2:Nat->Prop) (ht:Loose W en mn c L t) (hs:∀ k,(k=t.q\/t.S k)->S2 k)=>z3a g ht hs k hk (by rw [Gm hm];exact h5));rw [Gm hm] at HKEEP
 have HMADE:=jY (fun (t:Th) (ht:t.toIt=⟨⟨#[]⟩,5,now,false,[]⟩)=>show Pr L k now (some ⟨t.q,0,none⟩) (L++[t.named k]) from
  .inr ⟨e1,hk,t.named k,by simp,rfl,rfl,.inr ⟨hm,h0,h5,rfl,by unfold Th.named It.named;rw [ht]⟩⟩)
 have hlt5:¬ (L.length:Int) >= 500:=by omega
 rw [e1];clear h e1 hm
 go_enter Tryz.func20,Tryz.ntmps20
 go_wp2_with fail;refine (HN _).out.mono ?_;rintro e w1 ⟨rfl,rfl⟩;go_wp2_with fail;refine HF.out.mono ?_;rintro e w2 ⟨rfl,h2⟩;have H2:=jY h2;clear h2 HF HN;go_wp2_with fail;refine (HW _).out.mono ?_;rintro e w3 ⟨rfl,hb3⟩;have k5:=Blk.new w3 39 #[.int .i64 5,.int .i64 now];have h3:=H2.out.later (hb3.trans ((Z5 w3 (.cells #[.int .i64 5,.int .i64 now] 39)).mono hb3.size))
 go_upto_region 12 with fail
 generalize w3.alloc (.cells #[.int .i64 5,.int .i64 now] 39)=W3 at *;obtain ⟨S3,g3,hs3,hf3⟩:=h3;have HLN:=jY (HL.out _ S3 g3);have G3:=jY g3;have F3:=jY (And.intro hs3 hf3);have K5:=jY k5;clear hb3 HW H2 k5 HL g3 hs3 hf3;go_wp2_with fail;refine HLN.out.mono ?_;rintro e w4 ⟨rfl,rfl⟩;go_wp2_with fail;have hdr:Bl w4 w4.drew:=(Below.refl _ _).drew
 have HS4:=jY (show Calls Tryz.prog 31 #[.pointer (some ⟨p,0,none⟩),.slice none 0 0] w4.drew fun e w'=>∃ s S,e=.returned (.pointer (some ⟨s,0,none⟩))/\SetIs w' s S false (Zj en 200) (Zj mn 64) 0 []/\(∀ k,S k->w4.drew.heap.size<=k)/\Below w4.drew.heap.size w4.drew w' from by
  obtain ⟨d,SD,rv,sh,g,_⟩:=G3.out.later hdr
  exact HSET.out _ d SD rv sh g)
 have S0:w4.drew.cell? ⟨w3.heap.size,0,none⟩=some (.int .i64 5)/\w4.drew.cell? ⟨w3.heap.size,1,none⟩=some (.int .i64 now):=⟨K5.out.drew.cell 0,K5.out.drew.cell 1⟩;clear HSET HLN hdr
 go_region_held (fun W=>W.cell? ⟨w3.heap.size,0,none⟩=some (.int .i64 5)/\W.cell? ⟨w3.heap.size,1,none⟩=some (.int .i64 now)) (first|exact S0|exact S1|exact S2|assumption)
  (first
    | (go_at_call 31;refine HS4.out.mono ?_;rintro e w5 ⟨s,T,rfl,hs5,hT5,hb5⟩
       have k5:=(K5.out.drew).later hb5;have S1:w5.cell? ⟨w3.heap.size,0,none⟩=some (.int .i64 5)/\w5.cell? ⟨w3.heap.size,1,none⟩=some (.int .i64 now):=⟨k5.cell 0,k5.cell 1⟩;have S2:=And.intro ((k5.alloc (.cells (thC s ⟨⟨#[]⟩,5,now,false,[]⟩) Ud)).cell 0) ((k5.alloc (.cells (thC s ⟨⟨#[]⟩,5,now,false,[]⟩) Ud)).cell 1);have Q1:=jY hs5;have Q2:=jY (show (∀ k,T k->w4.heap.size<=k)/\Bl w4 w5 from ⟨hT5,(Below.refl w4.heap.size w4).drew.trans hb5⟩)
       clear hs5 hT5 hb5 k5 HS4))
 all_goals (
  clear S0 S1 S2;have hb45:=Q2.out.2;have hb6:=hb45.trans ((Z5 w5 (.cells (thC s ⟨⟨#[]⟩,5,now,false,[]⟩) Ud)).mono hb45.size);have g6:=G3.out.later hb6
  have hl6:Loose (w5.alloc (.cells (thC s ⟨⟨#[]⟩,5,now,false,[]⟩) Ud)) en mn c L ⟨⟨⟨#[]⟩,5,now,false,[]⟩,w5.heap.size,s,T⟩ :=
   ⟨Blk.new _ _ _,((Q1.out.later (Z5 w5 _)).more (Nat.zero_le c) hc),fun u hu e=>by
     obtain ⟨d,SD,rv,sh,g,_⟩:=G3.out;have h1:=(g.th u hu).lt;have h2:=hb45.size;have e:u.q=w5.heap.size:=e
     omega,fun u hu j hj hj2=>by
     obtain ⟨d,SD,rv,sh,g,_⟩:=G3.out;have h1:=(g.set u hu).lt hj;have h2:=Q2.out.1 j hj2
     omega,⟨Lf.y2j,hnow⟩⟩
  have HK6:=jY (HKEEP.out _ S3 g6 ⟨⟨⟨#[]⟩,5,now,false,[]⟩,w5.heap.size,s,T⟩ (fun j=>w4.heap.size<=j) hl6 (fun j hj=>by
   rcases hj with hj|hj
   ·have hj:j=w5.heap.size:=hj
    have:=hb45.size;omega
   ·exact Q2.out.1 j hj))
  have HM6:=jY (HMADE.out ⟨⟨⟨#[]⟩,5,now,false,[]⟩,w5.heap.size,s,T⟩ rfl)
  have HF6:=jY (fun w7 (hn:SpNow (w5.alloc (.cells (thC s ⟨⟨#[]⟩,5,now,false,[]⟩) Ud)) p en mn sd c (fun j=>S3 j\/w4.heap.size<=j) (L++[Th.named ⟨⟨⟨#[]⟩,5,now,false,[]⟩,w5.heap.size,s,T⟩ k]) w7) =>
   show SpNow w1 p en mn sd c S (L++[Th.named ⟨⟨⟨#[]⟩,5,now,false,[]⟩,w5.heap.size,s,T⟩ k]) w7 from by
    obtain ⟨S7,y1,y2,y3⟩:=SpNow.born hb6 (fun k hk=>hk) hn
    exact ⟨S7,y1,fun k hk=>(y2 k hk).elim (fun h=>F3.out.1 k h) fun h=>.inr (Nat.le_trans F3.out.2.size h),F3.out.2.trans y3 fun k hk=>F3.out.1 k hk⟩)
  clear hb45 hb6 g6 hl6 HKEEP HMADE G3 F3 K5 Q1 Q2;simp only [thC] at HK6 HF6;go_wp2_with fail;refine HK6.out.mono ?_;rintro e w7 ⟨rfl,hn7⟩;have H7:=jY (HF6.out w7 hn7);clear hn7 HK6 HF6;go_wp2_with fail;go_ret2
  exact ⟨_,_,rfl,H7.out,HM6.out⟩)
theorem y2c(h:SpSt w p en mn sd c L S)(hc:c<=10000)(k:ByteArray)(hk:k.size<=281474976710656)(now:Int)(hnow:Lf.I64 now) :
 Calls Tryz.prog 20 #[.pointer (some ⟨p,0,none⟩),.string k,.int .i64 now] w fun e w'=>∃ a L',e=.returned (.tuple #[.pointer a,Xp (Yr L k now)])/\SpNow w p en mn sd c S L' w'/\Pr L k now a L':=by
 by_cases he:Yr L k now≠0\/(Zw L k).isSome=true
 ·exact z7o h k hk now hnow he
 ·have h1:Yr L k now=0:=by
   by_cases e:Yr L k now=0
   ·exact e
   ·exact absurd (.inl e) he
  have h2:Zw L k=none:=by
   cases hm:Zw L k with
   | none=>rfl
   | some a=>exact absurd (.inr (by rw [hm];rfl)) he
  unfold Yr at h1;rw [h2] at h1
  by_cases h64:64<k.size
  ·rw [if_pos h64] at h1;exact absurd h1 (by decide)
  ·rw [if_neg h64] at h1
   by_cases hn:now<0
   ·simp [hn] at h1
   ·by_cases h5:500<=L.length
    ·simp [hn,h5] at h1
    ·exact z7p h hc k (by omega) now hnow (by omega) (by omega) h2
theorem Cm(k:ByteArray)(now:Int)(w:World):Calls Tryz.prog 20 #[.pointer none,.string k,.int .i64 now] w fun e w'=>e=.returned (.tuple #[.pointer none,Xp 1])/\w'=w:=by
 go_enter Tryz.func20,Tryz.ntmps20
 go_wp2;go_ret2;exact ⟨rfl,rfl⟩
end
section
variable {w w' w1 w2:World} {p c sd:Nat} {S:Nat->Prop} {en mn:Int} {L L':List Th} {t:Th}
theorem SpNow.env(h:SpNow w p en mn sd c S L w')(hE:EnvE w)(h0:¬ S 0):EnvE w':=by
 obtain ⟨S',_,_,h3⟩:=h;exact (World.cell?_of_block (a:=⟨0,0,none⟩) (h3.block 0 hE.lt h0)).trans hE
theorem y0k{n:Int}(h:n≠0):Xp n=Ul n:=by unfold Xp;rw [if_neg h]
def z1o(L:List Th)(k:ByteArray):Option Addr:=(L.find? fun t=>decide (t.key=k)).map fun t=>⟨t.s,0,none⟩
theorem y1v(hk:Vd (itl L))(ht:t∈L):z1o L t.key=some ⟨t.s,0,none⟩:=by
 have h1:=Me hk ht;unfold Zw at h1;unfold z1o;obtain ⟨u,hu,hq⟩:=Option.map_eq_some_iff.1 h1;rw [hu];have hum:=List.mem_of_find?_eq_some hu;have huk:u.key=t.key:=by simpa using List.find?_some hu
 have hnd:(L.map fun t=>t.key).Nodup:=by
  have:=hk
  unfold Vd itl at this
  rwa [List.map_map] at this
 obtain ⟨i,hi,rfl⟩:=List.mem_iff_getElem.1 hum;obtain ⟨j,hj,rfl⟩:=List.mem_iff_getElem.1 ht
 have:=(List.getElem_inj (i:=i) (j:=j) (h₀:=by simpa using hi) (h₁:=by simpa using hj) hnd).1 (by simpa using huk)
 subst this;rfl
theorem z5e{k:ByteArray}(h:Zw L k=none):z1o L k=none:=by
 unfold Zw at h;unfold z1o;rw [Option.map_eq_none_iff] at h;rw [h];rfl
theorem SpSt.th(h:SpSt w p en mn sd c L S)(ht:t∈L):Blk w t.q Ud (thC t.s t.toIt)/\SetIs w t.s t.S t.isL (Zj en 200) (Zj mn 64) c t.E:=by
 obtain ⟨d,SD,rv,sh,g,_⟩:=h;exact ⟨g.th t ht,g.set t ht⟩
theorem SpNow.th(h:SpNow w p en mn sd c S L w')(ht:t∈L):Blk w' t.q Ud (thC t.s t.toIt):=by
 obtain ⟨S',g,_⟩:=h;exact (g.th ht).1
theorem y1y(h:SpSt w p en mn sd c L S)(k:ByteArray)(hk:k.size<=281474976710656) :
 Calls Tryz.prog 8 #[.pointer (some ⟨p,0,none⟩),.string k] w fun e w'=>e=.returned (.tuple #[.pointer (z1o L k),.bool (Zw L k).isSome])/\SpNow w p en mn sd c S L w':=by
 have HF:=jY (J4 h k hk);have hkeys:=h.keys;clear h
 cases hm:Zw L k with
 | none =>
   rw [hm] at HF;rw [z5e hm];clear hm hkeys
   go_enter Tryz.func8,Tryz.ntmps8
   go_wp2_with fail;refine HF.out.mono ?_;rintro e w1 ⟨rfl,h1⟩;have H1:=jY h1;clear h1 HF;go_wp2_with fail;go_ret2;exact ⟨rfl,H1.out⟩
 | some a =>
   rw [hm] at HF;obtain ⟨t,ht,rfl,rfl⟩:=Uc hm;rw [y1v hkeys ht];clear hm hkeys
   go_enter Tryz.func8,Tryz.ntmps8
   go_wp2_with fail;refine HF.out.mono ?_;rintro e w1 ⟨rfl,h1⟩;have c0:=(h1.th ht).cell 0;simp [thC] at c0;have H1:=jY h1;clear h1 HF ht;go_wp2_with fail;go_ret2;exact ⟨rfl,H1.out⟩
def Bx(L:List Th)(k:ByteArray)(now:Int)(a:Option Addr)(L':List Th):Prop :=
 (Yr L k now≠0/\a=none/\L'=L)\/(Yr L k now=0/\k.size<=64/\∃ t∈L',t.key=k/\a=some ⟨t.s,0,none⟩/\((t∈L/\L'=L)\/(Zw L k=none/\0<=now/\L.length<500/\L'=L++[t]/\t.toIt=⟨k,5,now,false,[]⟩)))
theorem y1z(h:SpSt w p en mn sd c L S)(hE:EnvE w)(hS0:¬ S 0)(hc:c<=10000)(k:ByteArray)(hk:k.size<=281474976710656)(now:Int)(hnow:Lf.I64 now) :
 Calls Tryz.prog 6 #[.pointer (some ⟨p,0,none⟩),.string k,.int .i64 now] w fun e w'=>∃ a L',e=.returned (.tuple #[.pointer a,.int .i64 (Yr L k now)])/\SpNow w p en mn sd c S L' w'/\Bx L k now a L':=by
 have HF:=jY (y2c h hc k hk now hnow);have HEN:=jY (fun L' w' (g:SpNow w p en mn sd c S L' w')=>g.env hE hS0);clear h hE hS0
 by_cases he:Yr L k now=0
 ·rw [he] at HF;rw [show Xp 0=.nilIface from rfl] at HF;have HM:=jY he;rw [he];clear he
  go_enter Tryz.func6,Tryz.ntmps6
  go_wp2_with fail;refine HF.out.mono ?_;rintro e w1 ⟨a,L',rfl,h1,hm⟩;rcases hm with ⟨hm,_⟩|⟨_,hk64,t,ht,htk,rfl,hor⟩
  ·exact absurd HM.out hm
  have c0:=(h1.th ht).cell 0;simp [thC] at c0;have H1:=jY h1;have H2:=jY (show Bx L k now (some ⟨t.s,0,none⟩) L' from .inr ⟨HM.out,hk64,t,ht,htk,rfl,hor⟩);clear h1 HF ht htk hor hk64;go_wp2_with fail;go_ret2;exact ⟨_,_,rfl,H1.out,H2.out⟩
 ·rw [y0k he] at HF;have HM:=jY he;clear he;have HNB:=fun W (hW:EnvE W)=>jY (X7 (Yr L k now) W hW);unfold Ul at HF HNB;generalize hg:Yr L k now=n at HF HNB ⊢;have HG:=jY hg;clear hg
  go_enter Tryz.func6,Tryz.ntmps6
  go_wp2_with fail;refine HF.out.mono ?_;rintro e w1 ⟨a,L',rfl,h1,hm⟩;obtain ⟨rfl,rfl⟩:a=none/\L'=L:=hm.elim (fun h=>h.2) fun h=>absurd h.1 HM.out;have hen:=HEN.out _ _ h1;have HB:=HNB w1 hen;have H1:=jY h1;clear h1 HF hen HNB HEN;go_wp2_with fail;refine HB.out.mono ?_;rintro e w2 ⟨rfl,hb⟩;have HB2:=jY hb;clear hb HB;go_wp2_with fail;go_ret2;exact ⟨none,L',rfl,H1.out.later HB2.out,.inl ⟨HM.out,rfl,rfl⟩⟩
end
section
variable {w w' w1 w2:World} {p c sd:Nat} {S:Nat->Prop} {en mn:Int} {L L':List Th} {t:Th}
theorem z9b{d:Nat}{SD:Nat->Prop}(hb:Blk w p K7 (spC en mn sd d (.slice none 0 0)))(hd:Dc.Dt.Is w d SD sd (fun _=>none) ⟨4,0,0,0⟩)(hsd:sd<4294967296):SpSt w p en mn sd c [] (fun k=>k=p\/SD k) :=
 ⟨d,SD,_,_,⟨hb,World.ownsRow_nil _ _ _ _,hd,fun t ht=>(by cases ht),fun t ht=>(by cases ht),List.nodup_nil,List.nodup_nil,List.Pairwise.nil,fun t ht=>(by cases ht),fun t ht=>(by cases ht),hsd⟩,⟨rfl,by decide,by decide⟩,by simp,fun k=>by
   unfold spS
   simp [Value.ownBlock]⟩
theorem z3m{dv rv:Value}(h:Blk w p K7 #[.int .i64 en,.int .i64 mn,.int .u32 sd,dv,rv])(hsd:sd<4294967296)(c:Nat) :
 Calls Tryz.prog 11 #[.pointer (some ⟨p,0,none⟩)] w fun e w'=>e=.returned (.tuple #[])/\∃ S',SpSt w' p en mn sd c [] S'/\(∀ k,S' k->k=p\/w.heap.size<=k)/\Far (fun k=>k=p) w w':=by
 have a2:=h.cell 2;simp at a2;have HN:=jY (Dc.Dt.z0l sd w);have H:=jY h;clear h
 go_enter Tryz.func11,Tryz.ntmps11
 go_wp2_with fail;refine HN.out.mono ?_;rintro e w1 ⟨q,rfl,hq,hb⟩;have h1:=H.out.later hb;have b3:=h1.cell 3;have b4:=h1.cell 4;have f3:=h1.free 3;have f4:=h1.free 4;simp at b3 b4;have hk:=((h1.set 3 (.pointer (some ⟨q,0,none⟩))).set 4 (.slice none 0 0));have hf:Far (fun k=>k=p) w ((w1.setCell ⟨p,3,none⟩ (.pointer (some ⟨q,0,none⟩))).setCell ⟨p,4,none⟩ (.slice none 0 0)):=((Far.of_below (S:=fun k=>k=p) hb).set ⟨p,3,none⟩ _ (.inl rfl)).set ⟨p,4,none⟩ _ (.inl rfl);have hf1:Far (fun k=>k=p) w1 ((w1.setCell ⟨p,3,none⟩ (.pointer (some ⟨q,0,none⟩))).setCell ⟨p,4,none⟩ (.slice none 0 0)):=((Far.refl (fun k=>k=p) w1).set ⟨p,3,none⟩ _ (.inl rfl)).set ⟨p,4,none⟩ _ (.inl rfl)
 have HE:=jY (show ∃ S',SpSt ((w1.setCell ⟨p,3,none⟩ (.pointer (some ⟨q,0,none⟩))).setCell ⟨p,4,none⟩ (.slice none 0 0)) p en mn sd c [] S'/\(∀ k,S' k->k=p\/w.heap.size<=k)/\Far (fun k=>k=p) w ((w1.setCell ⟨p,3,none⟩ (.pointer (some ⟨q,0,none⟩))).setCell ⟨p,4,none⟩ (.slice none 0 0)) from
  ⟨_,z9b (by simpa [spC] using hk) (hq.far (z5j hf1) fun j hj e=>by subst e;exact U2 hq h1 (by decide) hj) hsd,fun k hk=>hk.imp_right fun h=>(show Dc.fresh Dc.Dt.tyP w w1 k from h).1.elim (fun h=>h.elim) id,hf⟩)
 clear hk hf hf1 hq hb h1 HN;go_wp2;go_returns;exact ⟨rfl,HE.out⟩
theorem z3n(w:World):Calls Tryz.prog 11 #[.pointer none] w fun e w'=>e=.returned (.tuple #[])/\w'=w:=by
 go_enter Tryz.func11,Tryz.ntmps11
 go_wp2;go_returns;exact ⟨rfl,rfl⟩
theorem y3w(en mn mx:Int)(sd:Nat)(hsd:sd<4294967296)(c:Nat)(w:World) :
 Calls Tryz.prog 5 #[.agg #[.int .i64 en,.int .i64 mn,.int .u32 sd,.int .i64 mx]] w fun e w'=>∃ p S,e=.returned (.pointer (some ⟨p,0,none⟩))/\SpSt w' p en mn sd c [] S/\(∀ k,S k->w.heap.size<=k)/\Bl w w':=by
 have HF:=fun W p h=>jY (z3m (w:=W) (p:=p) (en:=en) (mn:=mn) (sd:=sd) (dv:=.pointer none) (rv:=.slice none 0 0) h hsd c)
 go_enter Tryz.func5,Tryz.ntmps5
 go_wp2_with fail;have kN:=Blk.new (w.alloc (.cells #[.int .i64 en,.int .i64 mn,.int .u32 sd,.int .i64 mx] 26)) K7 #[.int .i64 en,.int .i64 mn,.int .u32 sd,.pointer none,.slice none 0 0];rw [World.size_alloc] at kN;have hb1:=Z5 w (.cells #[.int .i64 en,.int .i64 mn,.int .u32 sd,.int .i64 mx] 26);have hb2:=hb1.trans ((Z5 (w.alloc (.cells #[.int .i64 en,.int .i64 mn,.int .u32 sd,.int .i64 mx] 26)) (.cells #[.int .i64 en,.int .i64 mn,.int .u32 sd,.pointer none,.slice none 0 0] K7)).mono hb1.size);have HF1:=HF _ _ kN;have HB:=jY hb2;clear kN hb1 hb2 HF;refine HF1.out.mono ?_;rintro e w2 ⟨rfl,S',h1,h2,h3⟩;have HE:=jY (show SpSt w2 (w.heap.size+1) en mn sd c [] S'/\(∀ k,S' k->w.heap.size<=k)/\Bl w w2 from ⟨h1,fun k hk=>(h2 k hk).elim (fun e=>by omega) fun h=>Nat.le_trans HB.out.size h,HB.out.trans (h3.below (fun k e=>by omega) HB.out.size)⟩);clear h1 h2 h3 HF1 HB;go_wp2;go_ret;exact ⟨_,_,rfl,HE.out⟩
end
section
variable {w w' w1 w2:World} {p d c sd:Nat} {S SD:Nat->Prop} {rv:Value} {en mn:Int} {m:ByteArray->Option Addr} {sh:Dc.Sh} {L L':List Th} {t t':Th}
end
section
variable {w w' w1 w2:World} {p c sd:Nat} {S:Nat->Prop} {en mn:Int} {L L':List Th} {t:Th}
end
section
variable {w w' w1 w2:World} {p c sd:Nat} {S:Nat->Prop} {en mn:Int} {L L':List Th} {t:Th}
def z2a(v:Value)(a:Act):Prop:=∃ u0 u1 u2 u3 u4 u5 u6 u7 u9 u10 u11 u12 u13 u14 u15 u16 u17 u18 u19 u20 u21 u22 u23 u24 u25 u26 u27 u28 u29 u30 u31 u32 u33 u34,a={ tmps:=#[u0,u1,u2,u3,u4,u5,u6,u7,v,u9,u10,u11,u12,u13,u14,u15,u16,u17,u18,u19,u20,u21,u22,u23,u24,u25,u26,u27,u28,u29,u30,u31,u32,u33,u34],defers:=[] }
def O8(L:List Th)(f k:ByteArray):Int:=if (Zw L f).isSome then (if 64<k.size then 140 else 0) else 141
def J8(L:List Th)(f k:ByteArray)(L':List Th):Prop:=(O8 L f k≠0/\L'=L)\/(O8 L f k=0/\f=k/\L'=L)\/(O8 L f k=0/\f≠k/\k.size<=64/\∃ t∈L,t.key=f/\L'=Yt (Yt L f) k++[t.named k])
theorem z0w(ht:t∈L):0<L.length:=List.length_pos_of_mem ht
theorem z5f(h:SpSt w p en mn sd c L S)(hE:EnvE w)(hS0:¬ S 0)(f k:ByteArray)(hf:f.size<=281474976710656)(hk:k.size<=281474976710656) :
 Calls Tryz.prog 7 #[.pointer (some ⟨p,0,none⟩),.string f,.string k] w fun e w'=>∃ L',e=.returned (.int .i64 (O8 L f k))/\SpNow w p en mn sd c S L' w'/\J8 L f k L':=by
 have HF:=jY (z9c h f hf);have HEN:=jY (fun L' w' (g:SpNow w p en mn sd c S L' w')=>g.env hE hS0);have HN:=fun W=>jY (X6 k hk W);have HNB:=jY (fun n W (hW:EnvE W)=>z0r n W hW)
 cases hm:Zw L f with
 | none =>
   rw [hm] at HF;have e1:O8 L f k=141:=by unfold O8;rw [hm];rfl
   have HA:=jY (show J8 L f k L from .inl ⟨by rw [e1];decide,rfl⟩);rw [e1];clear h hE hS0 hm e1
   go_enter Tryz.func7,Tryz.ntmps7
   go_wp2_with fail;refine wp_scope_jumps 0 (fun a' w'=>Hid (SpNow w p en mn sd c S L w')/\z2a (.iface 85 (.int .i64 141)) a') (fun _ _=>0) rfl ?_ ?_
   ·go_wp2_with fail;refine HF.out.mono ?_;rintro e w1 ⟨rfl,h1⟩;have H1:=jY h1;clear h1 HF HNB HEN HN;simp only [Option.isSome_none,Bool.false_eq_true,if_false];rw [show Xp 141=.iface 85 (.int .i64 141) from rfl];go_wp2_with fail
    go_step3
    exact ⟨rfl,H1,_,_,_,_,_,_,_,_,_,_,_,_,_,_,_,_,_,_,_,_,_,_,_,_,_,_,_,_,_,_,_,_,_,_,rfl⟩
   ·rintro a' w' ⟨H1,u0,u1,u2,u3,u4,u5,u6,u7,u9,u10,u11,u12,u13,u14,u15,u16,u17,u18,u19,u20,u21,u22,u23,u24,u25,u26,u27,u28,u29,u30,u31,u32,u33,u34,rfl⟩;have HB:=jY (HNB.out 141 w' (HEN.out _ _ H1.out));rw [show Xp 141=.iface 85 (.int .i64 141) from rfl] at HB;clear HF HNB HEN HN;go_wp2_with fail;refine HB.out.mono ?_;rintro e w2 ⟨rfl,hb⟩;have HB2:=jY (H1.out.later hb);clear hb HB;go_wp2_with fail;simp only [Exit.jump];go_ret;exact ⟨L,rfl,HB2.out,HA.out⟩
 | some a =>
   rw [hm] at HF;obtain ⟨t,ht,htk,rfl⟩:=Uc hm
   by_cases h64:64<k.size
   ·have e1:O8 L f k=140:=by unfold O8;rw [hm,if_pos h64];rfl
    have HA:=jY (show J8 L f k L from .inl ⟨by rw [e1];decide,rfl⟩);rw [e1];simp only [if_pos h64] at HN;clear h hE hS0 hm e1 h64;rw [show Xp 140=.iface 85 (.int .i64 140) from rfl] at HN
    go_enter Tryz.func7,Tryz.ntmps7
    go_wp2_with fail;refine wp_scope_jumps 0 (fun a' w'=>Hid (SpNow w p en mn sd c S L w')/\z2a (.iface 85 (.int .i64 140)) a') (fun _ _=>0) rfl ?_ ?_
    ·go_wp2_with fail;refine HF.out.mono ?_;rintro e w1 ⟨rfl,h1⟩;have H1:=jY h1;clear h1 HF HNB HEN;simp only [Option.isSome_some,if_true,show Xp 0=.nilIface from rfl];go_wp2_with fail;refine (HN _).out.mono ?_;rintro e w2 ⟨rfl,rfl⟩;go_wp2_with fail
     go_step3
     exact ⟨rfl,H1,_,_,_,_,_,_,_,_,_,_,_,_,_,_,_,_,_,_,_,_,_,_,_,_,_,_,_,_,_,_,_,_,_,_,rfl⟩
    ·rintro a' w' ⟨H1,u0,u1,u2,u3,u4,u5,u6,u7,u9,u10,u11,u12,u13,u14,u15,u16,u17,u18,u19,u20,u21,u22,u23,u24,u25,u26,u27,u28,u29,u30,u31,u32,u33,u34,rfl⟩;have HB:=jY (HNB.out 140 w' (HEN.out _ _ H1.out));rw [show Xp 140=.iface 85 (.int .i64 140) from rfl] at HB;clear HF HNB HEN HN;go_wp2_with fail;refine HB.out.mono ?_;rintro e w2 ⟨rfl,hb⟩;have HB2:=jY (H1.out.later hb);clear hb HB;go_wp2_with fail;simp only [Exit.jump];go_ret;exact ⟨L,rfl,HB2.out,HA.out⟩
   ·have e1:O8 L f k=0:=by unfold O8;rw [hm,if_neg h64];rfl
    simp only [if_neg h64] at HN;rw [show Xp 0=.nilIface from rfl] at HN
    by_cases hfk:f=k
    ·have HA:=jY (show J8 L f k L from .inr (.inl ⟨e1,hfk,rfl⟩));have hbeq:(f.toList==k.toList)=true:=by rw [hfk];simp
     rw [e1];clear h hE hS0 hm e1 h64 hfk
     go_enter Tryz.func7,Tryz.ntmps7
     go_wp2_with fail;refine wp_scope_jumps 0 (fun a' w'=>Hid (SpNow w p en mn sd c S L w')/\z2a (.nilIface) a') (fun _ _=>0) rfl ?_ ?_
     ·go_wp2_with fail;refine HF.out.mono ?_;rintro e w1 ⟨rfl,h1⟩;have H1:=jY h1;clear h1 HF HNB HEN;simp only [Option.isSome_some,if_true,show Xp 0=.nilIface from rfl];go_wp2_with fail;refine (HN _).out.mono ?_;rintro e w2 ⟨rfl,rfl⟩;go_wp2_with fail
      go_step3
      exact ⟨rfl,H1,_,_,_,_,_,_,_,_,_,_,_,_,_,_,_,_,_,_,_,_,_,_,_,_,_,_,_,_,_,_,_,_,_,_,rfl⟩
     ·rintro a' w' ⟨H1,u0,u1,u2,u3,u4,u5,u6,u7,u9,u10,u11,u12,u13,u14,u15,u16,u17,u18,u19,u20,u21,u22,u23,u24,u25,u26,u27,u28,u29,u30,u31,u32,u33,u34,rfl⟩;have HB:=jY (HNB.out 0 w' (HEN.out _ _ H1.out));rw [show Xp 0=.nilIface from rfl] at HB;clear HF HNB HEN HN;go_wp2_with fail;refine HB.out.mono ?_;rintro e w2 ⟨rfl,hb⟩;have HB2:=jY (H1.out.later hb);clear hb HB;go_wp2_with fail;simp only [Exit.jump];go_ret;exact ⟨L,rfl,HB2.out,HA.out⟩
    ·have HA:=jY (show J8 L f k (Yt (Yt L f) k++[t.named k]) from .inr (.inr ⟨e1,hfk,by omega,t,ht,htk,rfl⟩))
     have hbeq:(f.toList==k.toList)=false:=by
      rw [Bool.eq_false_iff];intro h;exact hfk (Xw (by simpa using h))
     have hkeys:=h.keys
     have hlen:(Yt (Yt L f) k).length<500:=by
      have h1:=Qm hkeys f;rw [hm] at h1;simp only [Option.isSome_some,if_true] at h1;have h2:=(Va (Yt L f) k).length_le;have h3:=h.len;have h4:=z0w ht;omega
     have HD:=jY (fun W S1 (g:SpSt W p en mn sd c L S1)=>y2b g f hf);have HK:=jY (fun W S1 (g:SpSt W p en mn sd c (Yt L f) S1) (hl:Loose W en mn c (Yt L f) t)=>z3a (S1:=fun j=>j=t.q\/t.S j) g hl (fun j hj=>hj) k (by omega) hlen)
     have hin:∀ W S1,SpSt W p en mn sd c L S1->∀ j,(j=t.q\/t.S j)->S1 j:=fun W S1 g j hj=>by
      obtain ⟨d,SD,rv,sh,_,_,_,hS⟩:=g;exact (hS j).2 (.inr (.inr (.inr ⟨t,ht,hj⟩)))
     have HIN:=jY hin;have HTT:=jY (And.intro ht htk);rw [e1];clear h hE hS0 hm e1 h64 hfk hlen hin ht htk
     go_enter Tryz.func7,Tryz.ntmps7
     go_wp2_with fail;refine wp_scope_straight ?_;go_wp2_with fail;refine HF.out.mono ?_;rintro e w1 ⟨rfl,S1,g1,g2,g3⟩;have HD1:=jY (HD.out w1 S1 g1);have HI1:=jY (HIN.out w1 S1 g1);have G:=jY (And.intro g2 g3);clear g1 g2 g3 HF HD HIN;simp only [Option.isSome_some,if_true,show Xp 0=.nilIface from rfl];go_wp2_with fail;refine (HN _).out.mono ?_;rintro e w2 ⟨rfl,rfl⟩;go_wp2_with fail;refine HD1.out.mono ?_;rintro e w3 ⟨rfl,⟨S3,y1,y2,y3⟩,yl⟩;have HK3:=jY (HK.out w3 S3 y1 (yl t HTT.out.1 HTT.out.2));have Y:=jY (And.intro y2 y3);clear y1 y2 y3 yl HD1 HK HTT;go_wp2_with fail;refine HK3.out.mono ?_;rintro e w4 ⟨rfl,S4,z1,z2,z3⟩
     have h4:SpNow w p en mn sd c S (Yt (Yt L f) k++[t.named k]) w4:=by
      have a1:∀ j,(S3 j\/(j=t.q\/t.S j))->S1 j\/w2.heap.size<=j:=fun j hj=>hj.elim (Y.out.1 j) fun h=>.inl (HI1.out j h);have a2:∀ j,(S3 j\/(j=t.q\/t.S j))->S j\/w.heap.size<=j:=fun j hj=>(a1 j hj).elim (G.out.1 j) fun h=>.inr (Nat.le_trans G.out.2.size h);exact ⟨S4,z1,fun j hj=>(z2 j hj).elim (a2 j) fun h=>.inr (Nat.le_trans G.out.2.size (Nat.le_trans Y.out.2.size h)),(G.out.2.trans Y.out.2 fun j hj=>G.out.1 j hj).trans z3 a2⟩
     have HB:=jY (HNB.out 0 w4 (HEN.out _ _ h4));rw [show Xp 0=.nilIface from rfl] at HB;have H4:=jY h4;clear z1 z2 z3 h4 HK3 Y G HI1 HNB HEN;go_wp2_with fail;refine wp_label ?_;go_wp2_with fail;refine HB.out.mono ?_;rintro e w5 ⟨rfl,hb⟩;have HB2:=jY (H4.out.later hb);clear hb HB;go_wp2_with fail;simp only [Exit.noGoto];go_ret;exact ⟨_,rfl,HB2.out,HA.out⟩
end
section
variable {w w' w1 w2:World} {p c sd:Nat} {S:Nat->Prop} {en mn:Int} {L L':List Th} {t:Th}
end
end Go.Proofs.YtmehfohpjigmmaaGreatDoor
namespace Go.Proofs.YtmehfohpjigmmaaGreatDoor
open Zc (Ent Ext KeepC Y5 Z7 Z9 Yw Y1 Za Zl Ya Zp Z6 Zo Z0 Zf)
open Go.RowKit Go.Shelf Go.Sort Sk
attribute [local go_sem] Oper.semAt_some
namespace Dc.Dt
end Dc.Dt
section
variable {w w':World} {p sd c:Nat} {S:Nat->Prop} {en mn:Int} {L:List Th}
end
end Go.Proofs.YtmehfohpjigmmaaGreatDoor
