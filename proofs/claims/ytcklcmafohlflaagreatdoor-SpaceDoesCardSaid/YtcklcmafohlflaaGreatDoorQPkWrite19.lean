/- Texts of one kind in one: PkWrite, PkReplace, PkBytes, PkBack. -/
import Derived.Test.YtcklcmafohlflaaGreatDoorQPkRight18
import Derived.Lib.BufferRead
set_option maxRecDepth 200000
set_option maxHeartbeats 8000000
namespace Go.Proofs.YtcklcmafohlflaaGreatDoor.Pk
open Zc
open Go.RowKit Go.Shelf
attribute [local go_sem] Oper.semAt_some
def Ents(W:World)(a:Option Addr)(l:List Ent):Prop:=∀ (i:Nat) (h:i<l.length),∃ b off,a=some ⟨b,off,none⟩/\W.cell? ⟨b,off+i*2,none⟩=some (.string l[i].1)/\W.cell? ⟨b,off+i*2+1,none⟩=some (.int .i64 l[i].2)
theorem Ents.below{w W:World}{a:Option Addr}{l:List Ent}(h:Ents w a l)(hb:Bl w W):Ents W a l:=fun i hi=>by
 obtain ⟨b,off,ha,h0,h1⟩:=h i hi;have hlt:b<w.heap.size:=World.block_lt_of_cell? w ⟨b,off+i*2,none⟩ h0;exact ⟨b,off,ha,(hb.cell (p:=⟨b,_,none⟩) hlt).trans h0,(hb.cell (p:=⟨b,_,none⟩) hlt).trans h1⟩
def z4j(l:List Ent):Bool:=l.all fun e=>decide (e.1.size<=64)
theorem x7y(a:Option Addr)(cap:Nat)(l:List Ent)(hl:l.length<=9223372036854775807)(hz:∀ e∈l,e.1.size<=9223372036854775807)(w:World)(hE:Ents w a l) :
 Calls Tryz.prog 285 #[.slice a l.length cap] w fun e w'=>e=.returned (.bool (z4j l))/\Bl w w':=by
 go_enter Tryz.func285,Tryz.ntmps285
 go_wp2
 go_loopw [7] (fun i wr=>∃ (k:Nat),i=.int .i64 k/\k<=l.length/\Bl w wr/\z4j (l.take k)=true)
  (fun i _=>l.length-(intOf i).toNat)
 case atStart=>exact ⟨0,rfl,by omega,Below.refl _ _,rfl⟩
 case round =>
  obtain ⟨k,rfl,hk,hb,hf⟩:=hrel
  by_cases hlt:k<l.length
  ·obtain ⟨b,off,rfl,c0,c1⟩:=(hE.below hb) k hlt;have hm:=hz _ (List.getElem_mem hlt)
   have hfs:z4j (l.take (k+1))=(z4j (l.take k)&&decide (l[k].1.size<=64)):=by
    unfold z4j;rw [lAf hlt,List.all_append];simp
   have HF:=jY hfs;have HFk:=jY hf;have HE:=jY hE
   have hrest:(¬ l[k].1.size<=64)->z4j l=false:=fun h=>by
    unfold z4j;rw [List.all_eq_false];exact ⟨l[k],List.getElem_mem hlt,by simpa using h⟩
   have HR:=jY hrest;generalize l[k].1=m at *;generalize l[k].2=s at *;clear hfs hf hE hrest;go_wp2
   ·go_ret;rw [HR.out (by omega)];exact ⟨rfl,hb.alloc hb.size _⟩
   ·refine ⟨⟨k+1,by go_num,hlt,hb.alloc hb.size _,?_⟩,by simp [intOf];omega⟩;rw [HF.out,HFk.out];simp;omega
  ·obtain rfl:k=l.length:=by omega
   rw [List.take_length] at hf;go_wp2;go_ret;rw [hf];exact ⟨rfl,hb⟩
def Xv(s:Int)(k:Nat):UInt8:=UInt8.ofNat ((s / 2 ^ (8*k)) % 256).toNat
def Xk(s:Int):List UInt8:=(List.range 8).map fun i=>Xv s (7-i)
def Ut(e:Ent):List UInt8:=UInt8.ofNat e.1.size :: (e.1.data.toList++Xk e.2++[UInt8.ofNat (e.1.size+9)])
theorem Vn(e:Ent):(Ut e).length=e.1.size+10:=by
 simp [Ut,Xk,Array.length_toList]
theorem Gi(s:Int)(k:Nat):((Xv s k).toNat:Int)=s / 2 ^ (8*k) % 256:=by
 unfold Xv;have h1:=Int.emod_nonneg (s / 2 ^ (8*k)) (show (256:Int)≠0 by decide);have h2:=Int.emod_lt_of_pos (s / 2 ^ (8*k)) (show (0:Int)<256 by decide);rw [UInt8.toNat_ofNat'];omega
theorem Ue(s:Int):(Xk s).length=8:=by simp [Xk]
theorem z9g(s:Int)(j:Nat)(h:j<8):(Xk s).take (j+1)=(Xk s).take j++[Xv s (7-j)]:=by
 rw [lAf (by rw [Ue];exact h)];simp [Xk]
def Iv(W:World)(n0:Nat)(v:Value)(bs:List UInt8):Prop:=W.ownsRow n0 5 1 v bs.length (Lib.byteCells bs)
theorem x2n:(Tryz.prog.info? 5).map (fun i=>(i.zero,i.size,i.bytes))=some (some (.int .u8 0),1,1):=by kernel_rfl
theorem z2n{W:World}{n0:Nat}{v:Value}{bs:List UInt8}(h:Iv W n0 v bs):∃ a cap,v=.slice a bs.length cap:=by
 rcases h.2 with ⟨rfl,h0⟩|⟨g,cap,cur,rfl,_⟩
 ·exact ⟨none,0,by rw [h0]⟩
 ·exact ⟨_,_,rfl⟩
theorem Blk.row5{W W7:World}{b n0:Nat}{t:TypeId}{c:Array Value}{r:Value}{l:List UInt8}(h:Blk W b t c)(hg:W.grownBy W7 r.ownBlock)(ho:Iv W n0 r l)(ht:t≠5:=by decide):Blk W7 b t c :=
 (hg.block b h.lt (fun e=>by
   rcases ho.2 with ⟨rfl,_⟩|⟨g,cap,cur,rfl,_,hgb,_⟩
   ·simp [Value.ownBlock] at e
   ·simp [Value.ownBlock] at e;subst e
    have:=(show W.heap[b]?=_ from h).symm.trans hgb
    simp at this
    exact ht this.2)).trans h
theorem Below.row5{w W W7:World}{n0:Nat}{r:Value}{l:List UInt8}(h:Bl w W)(hg:W.grownBy W7 r.ownBlock)(ho:Iv W n0 r l)(hn:w.heap.size<=n0):Bl w W7 :=
 h.grown hg h.size (fun k e=>lAe hn (World.ownsRow.lt ho k e).1)
theorem Dy{W:World}{n0:Nat}{v:Value}{bs:List UInt8}{n:Int}(b:UInt8)(hb:(b.toNat:Int)=n)(h:W.ownsRow n0 5 1 v (bs.length+1) (Lib.byteCells bs++[Value.int .u8 n])):Iv W n0 v (bs++[b]):=by
 unfold Iv;rw [Lib.byteCells_append,lAh];subst hb;exact h
theorem x4f{W:World}{n0:Nat}{v:Value}{bs:List UInt8}{s:ByteArray}(h:W.ownsRow n0 5 1 v (bs.length+s.size) (Lib.byteCells bs++Lib.strCells s)):Iv W n0 v (bs++s.data.toList):=by
 unfold Iv;rw [Lib.byteCells_append,lAh,Array.length_toList];exact h
theorem y0f(a:Option Addr)(cap:Nat)(l:List Ent)(hl:l.length<=1000000)(hz:∀ e∈l,e.1.size<=64)(w:World)(hE:Ents w a l) :
 Calls Tryz.prog 287 #[.slice a l.length cap] w fun e w'=>∃ v,e=.returned v/\Iv w' w.heap.size v (l.flatMap Ut)/\Bl w w':=by
 obtain ⟨i0,hi0,hz0,hz1,hz2⟩:=info_parts x2n
 have hlen:∀ k,k<=l.length->((l.take k).flatMap Ut).length<=74*k:=fun k hk=>by
  induction k with
  | zero=>simp
  | succ k ih =>
    have:=ih (by omega)
    rw [lAf (by omega),List.flatMap_append,lAh];have h1:=hz _ (List.getElem_mem (show k<l.length by omega));have h2:=Vn (l[k]'(by omega));simp only [List.flatMap_cons,List.flatMap_nil,List.append_nil];omega
 go_enter Tryz.func287,Tryz.ntmps287
 go_wp2
 go_loopw [3,10] (fun v i wr=>∃ (k:Nat) (ac:Option Addr) (cp:Nat),i=.int .i64 k/\k<=l.length/\Bl w wr/\v=.slice ac ((l.take k).flatMap Ut).length cp/\Iv wr w.heap.size (.slice ac ((l.take k).flatMap Ut).length cp) ((l.take k).flatMap Ut))
  (fun _ i _=>l.length-(intOf i).toNat)
 case atStart=>exact ⟨0,none,0,rfl,by omega,Below.refl _ _,rfl,World.ownsRow_nil _ _ _ _⟩
 case round =>
  obtain ⟨k,ac,cp,rfl,hk,hb,rfl,hown⟩:=hrel
  by_cases hlt:k<l.length
  ·obtain ⟨b,off,rfl,c0,c1⟩:=(hE.below hb) k hlt;have hm:=hz _ (List.getElem_mem hlt);have hbl:=hlen k hk
   have hnx:(l.take (k+1)).flatMap Ut=(l.take k).flatMap Ut++Ut l[k]:=by
    rw [lAf hlt,List.flatMap_append];simp
   have HN:=jY hnx;have HE:=jY hE;have HL:=jY hlen;generalize hent:l[k]=e at *;obtain ⟨m,s⟩:=e;simp only at c0 c1 hm;generalize (l.take k).flatMap Ut=bs at *;clear hnx hE hlen hent;have hmb:((UInt8.ofNat m.size).toNat:Int)=m.size:=by simp;omega
   have hbk:=hb.size;have hm9:(m.size:Int)<=64:=by omega
   have hm8:(0:Int)<=m.size:=by omega
   go_wp2_with (first
    | (at_builtin;refine wpList_append_own _ rfl _ _ 253 rfl w.heap.size 5 i0 _ 1 1 Tryz.underlying253 hi0 hz0 hz1 hz2 rfl (by decide) _ _ _ rfl ((World.ownsRow.alloc hown _).alloc _) ⟨wr.heap.size+1,0,none⟩ 1 1 [.int .u8 m.size] rfl rfl (by have:=cell_one_new (wr.alloc (Obj.cells #[Value.string m,Value.int IntKind.i64 s] 94)) (.int .u8 (m.size:Int)) 5;rw [World.size_alloc] at this;exact this) (by simp [Value.oneCell']) (by unfold maxLen;omega) (by omega) (by simp;omega) ?_;intro v1 w2 hown2 hgrow2 _;have hg2:((wr.alloc (Obj.cells #[Value.string m,Value.int IntKind.i64 s] 94)).alloc (Obj.cells #[Value.int IntKind.u8 m.size] 5)).grownBy w2 (Value.slice ac bs.length cp).ownBlock:=hgrow2;clear hgrow2;have ho1:Iv ((wr.alloc (Obj.cells #[Value.string m,Value.int IntKind.i64 s] 94)).alloc (Obj.cells #[Value.int IntKind.u8 m.size] 5)) w.heap.size (Value.slice ac bs.length cp) bs:=(World.ownsRow.alloc hown _).alloc _;have k2:=((Blk.new wr 94 #[Value.string m,Value.int IntKind.i64 s]).alloc (Obj.cells #[Value.int IntKind.u8 m.size] 5)).row5 hg2 ho1;have hb2:Bl w w2:=Below.row5 ((hb.alloc hb.size _).alloc (by simp;omega) _) hg2 ho1 (lAd _);have o2:=Dy _ hmb hown2;have hb2s:=hb2.size;obtain ⟨e20,e21,_⟩:=Za k2;clear hown ho1 hown2)
    | (at_builtin;refine Lib.wpList_append_own_string _ rfl _ _ 253 9 rfl w.heap.size 5 i0 Tryz.underlying253 Tryz.underlying9 hi0 hz0 hz1 hz2 _ _ _ rfl o2 m rfl (by unfold maxLen;simp;omega) (by simp;omega) (by omega) ?_;intro v2 w3 hown3 hgrow3 _;have hg3:w2.grownBy w3 v1.ownBlock:=hgrow3;clear hgrow3;have k3:=k2.row5 hg3 o2;have hb3:Bl w w3:=Below.row5 hb2 hg3 o2 (lAd _);have o3:=x4f hown3;obtain ⟨e30,e31,_⟩:=Za k3;clear hown3))
   have hb1l:(bs++[UInt8.ofNat m.size]++m.data.toList).length=bs.length+1+m.size:=by simp [Array.length_toList];show _+(m.data.size+1)=_;rw [show m.data.size=m.size from rfl];omega
   have hfin:bs++Ut (m,s)=(bs++[UInt8.ofNat m.size]++m.data.toList)++Xk s++[UInt8.ofNat (m.size+9)]:=by simp [Ut]
   rw [hfin] at HN;clear hfin;generalize bs++[UInt8.ofNat m.size]++m.data.toList=bs1 at *;have HB3:=jY hb3;clear hg2 hg3 k2 e20 e21 e30 e31 o2 hb2 hb hb3;generalize wr.heap.size=P at *
   go_loopw [3,27] (fun v i wr2=>∃ (j:Nat),i=.int .i64 j/\j<=8/\Bl w wr2/\Blk wr2 P 94 #[.string m,.int .i64 s]/\Iv wr2 w.heap.size v (bs1++(Xk s).take j))
    (fun _ i _=>8-(intOf i).toNat)
   case atStart=>exact ⟨0,rfl,by omega,HB3.out,k3,by simpa using o3⟩
   case round =>
    clear k3 o3;obtain ⟨j,rfl,hj,hb4,k4,o4⟩:=hrel;obtain ⟨e40,e41,_⟩:=Za k4
    by_cases hj8:j<8
    ·have hj9:(j:Int)<8:=by omega
     have hj0:(0:Int)<=j:=by omega
     have hsx:=Gi s (7-j);have HX:=jY hsx;have HT:=jY (z9g s j hj8)
     have hlj:(bs1++(Xk s).take j).length<=100000000:=by
      have:=List.length_take_le j (Xk s)
      rw [lAh];omega
     generalize hbs2:bs1++(Xk s).take j=bs2 at *;have HBS:=jY hbs2;clear hbs2;have HB4:=jY hb4;have hb4s:=hb4.size;clear hsx hb4
     go_wp2_with (at_builtin;refine wpList_append_own _ rfl _ _ 253 rfl w.heap.size 5 i0 _ 1 1 Tryz.underlying253 hi0 hz0 hz1 hz2 rfl (by decide) _ _ _ rfl (World.ownsRow.alloc o4 _) ⟨wr.heap.size,0,none⟩ 1 1 [.int .u8 (s / 2 ^ (8*(7-j)) % 256)] rfl rfl (cell_one_new _ _ _) (by simp [Value.oneCell']) (by unfold maxLen;omega) (by omega) (by simp;omega) ?_;intro v1 w2 hown2 hgrow2 _)
     have ho4:=World.ownsRow.alloc o4 (Obj.cells #[Value.int IntKind.u8 (s / 2 ^ (8*(7-j)) % 256)] 5);refine ⟨⟨j+1,by go_num,by omega,Below.row5 (HB4.out.alloc HB4.out.size _) hgrow2 ho4 (lAd _),Blk.row5 (k4.alloc _) hgrow2 ho4,?_⟩,by simp [intOf];omega⟩;rw [HT.out,<- List.append_assoc,HBS.out];exact Dy _ HX.out hown2
    ·obtain rfl:j=8:=by omega
     rw [List.take_of_length_le (by rw [Ue];exact lAd _)] at o4;have hl2:(bs1++Xk s).length=bs.length+m.size+9:=by rw [lAh,Ue];omega
     rw [show bs1++Xk s++[UInt8.ofNat (m.size+9)]=(bs1++Xk s)++[UInt8.ofNat (m.size+9)] from rfl] at HN;generalize bs1++Xk s=bs2 at *;obtain ⟨ac4,cp4,rfl⟩:=z2n o4;have hsub:(bs.length:Int)+m.size+9-bs.length=(m.size:Int)+9:=by omega
     have hbs9:bs2.length<=1000000000:=by omega
     have HB4:=jY hb4;have hb4s:=hb4.size;have hnine:((UInt8.ofNat (m.size+9)).toNat:Int)=(m.size:Int)+9:=by simp;omega
     clear hb4
     go_wp2_with (at_builtin;refine wpList_append_own _ rfl _ _ 253 rfl w.heap.size 5 i0 _ 1 1 Tryz.underlying253 hi0 hz0 hz1 hz2 rfl (by decide) _ _ _ rfl (World.ownsRow.alloc o4 _) ⟨wr.heap.size,0,none⟩ 1 1 [.int .u8 ((m.size:Int)+9)] rfl rfl (cell_one_new _ _ _) (by simp [Value.oneCell']) (by unfold maxLen;omega) (by omega) (by simp;omega) ?_;intro v1 w2 hown2 hgrow2 _)
     have ho4:=World.ownsRow.alloc o4 (Obj.cells #[Value.int IntKind.u8 ((m.size:Int)+9)] 5);have o5:=Dy _ hnine hown2;rw [<- HN.out] at o5;obtain ⟨a5,c5,rfl⟩:=z2n o5;exact ⟨⟨k+1,a5,c5,by go_num,hlt,Below.row5 (HB4.out.alloc HB4.out.size _) hgrow2 ho4 (lAd _),rfl,o5⟩,by simp [intOf];omega⟩
  ·obtain rfl:k=l.length:=by omega
   rw [List.take_length] at hown;go_wp2;go_ret;rw [List.take_length];exact ⟨_,rfl,hown,hb⟩
def BytesAt(W:World)(g off:Nat)(l:List UInt8):Prop:=∀ (j:Nat) (u:UInt8),l[j]?=some u->W.cell? ⟨g,off+j,none⟩=some (.int .u8 (u.toNat:Int))
theorem BytesAt.below{w W:World}{g off:Nat}{l:List UInt8}(h:BytesAt w g off l)(hb:Bl w W):BytesAt W g off l:=fun j u hj =>
 (hb.cell (p:=⟨g,off+j,none⟩) (World.block_lt_of_cell? w ⟨g,off+j,none⟩ (h j u hj))).trans (h j u hj)
theorem BytesAt.cells{W:World}{g off:Nat}{l:List UInt8}(h:BytesAt W g off l):∀ j u,(Lib.byteCells l)[j]?=some u->W.cell? ((⟨g,off,none⟩:Addr).add j)=some u:=fun j u hj=>by
 unfold Lib.byteCells at hj;rw [List.getElem?_map] at hj;obtain ⟨x,hx,rfl⟩:=Option.map_eq_some_iff.1 hj;rw [Addr.add_lit];exact h j x hx
theorem z1b(l:List UInt8):∀ u∈Lib.byteCells l,u.oneCell'=true:=fun u hu=>by
 unfold Lib.byteCells at hu;obtain ⟨b,_,rfl⟩:=List.mem_map.1 hu;rfl
inductive BytesV (W:World):Value->List UInt8->Prop where
 | none (cap:Nat):BytesV W (.slice none 0 cap) []
 | some (g off cap:Nat) (l:List UInt8) (h:BytesAt W g off l):BytesV W (.slice (some ⟨g,off,none⟩) l.length cap) l
theorem BytesV.below{w W:World}{v:Value}{l:List UInt8}(h:BytesV w v l)(hb:Bl w W):BytesV W v l:=by
 cases h with
 | none cap=>exact .none cap
 | some g off cap l h=>exact .some g off cap l (h.below hb)
theorem Ay{W:World}{n0:Nat}{v:Value}{l:List UInt8}(h:Iv W n0 v l):BytesV W v l:=by
 have hc:=fun g (hg:v.ownBlock=some g)=>World.ownsRow.cells h hg;rcases h.2 with ⟨rfl,h0⟩|⟨g,cap,cur,rfl,_⟩
 ·rw [List.length_eq_zero_iff.1 h0];exact .none 0
 ·refine .some g 0 cap l fun j u hj=>?_
  have:=hc g rfl j (.int .u8 (u.toNat:Int)) (by unfold Lib.byteCells;rw [List.getElem?_map,hj];rfl)
  rwa [Addr.add_lit] at this
theorem Ii{W:World}{v:Value}{l:List UInt8}(h:BytesV W v l)(h0:l=[]):(Builtin.firstCells 1 0 v).run Tryz.prog W=.ok #[] W:=by
 cases h with
 | none cap=>exact run_firstCells_none (P:=Tryz.prog) W 1 0 0 cap
 | some g off cap l h =>
   subst h0;exact run_firstCells_some (P:=Tryz.prog) W 1 0 ⟨g,off,none⟩ 0 cap [] (by simp) (fun j v hj=>by simp at hj)
theorem z6n{i0:TypeInfo}(hi0:Tryz.prog.info? 5=some i0)(hz1:i0.size=1){W:World}{y:Value}(hy:BytesV W y [])(g n c:Nat)(hnc:n<=c) :
 (Builtin.append_ #[253,253] 253 #[.slice (some ⟨g,0,none⟩) n c,y]).run Tryz.prog W=.ok (.slice (some ⟨g,0,none⟩) n c) W:=by
 have hf:=Ii hy rfl
 cases hy with
 | none cap=>simp [Builtin.append_,run_underlying Tryz.underlying253,sizeOf,typeInfo,hi0,hz1,Builtin.lenOf,hnc,hf,Addr.add_lit,storeCells]
 | some g' off cap l h =>
   simp only [List.length_nil] at hf ⊢;simp [Builtin.append_,run_underlying Tryz.underlying253,sizeOf,typeInfo,hi0,hz1,Builtin.lenOf,hnc,hf,Addr.add_lit,storeCells]
inductive Dest (W:World) (n0:Nat):Value->List UInt8->Prop where
 | full (g:Nat) (l:List UInt8) (h:BytesAt W g 0 l):Dest W n0 (.slice (some ⟨g,0,none⟩) l.length l.length) l
 | own (v:Value) (l:List UInt8) (h:Iv W n0 v l):Dest W n0 v l
theorem z6l{i0:TypeInfo}(hi0:Tryz.prog.info? 5=some i0)(hz0:i0.zero=some (.int .u8 0))(hz1:i0.size=1)(hz2:i0.bytes=1){W:World}{n0:Nat}{v y:Value}{l m:List UInt8}(hd:Dest W n0 v l)(hy:BytesV W y m)(hl:l.length<=100000000)(hm:m.length<=100000000)(hn:n0<=W.heap.size)(hl0:l≠[]) :
 ∃ v' W',(Builtin.append_ #[253,253] 253 #[v,y]).run Tryz.prog W=.ok v' W'/\Dest W' n0 v' (l++m)/\Below n0 W W':=by
 have room (g c:Nat) (hlc:l.length<=c) (hy:BytesV W y m) (hm0:m=[]):=z6n hi0 hz1 (show BytesV W y [] by rw [<- hm0];exact hy) g l.length c hlc
 by_cases hm0:m=[]
 ·subst hm0;rw [List.append_nil]
  cases hd with
  | full g l h=>exact ⟨_,_,room g _ (lAd _) hy rfl,.full g l h,Below.refl _ _⟩
  | own v l h =>
    rcases h.2 with ⟨rfl,h0⟩|⟨g,cap,cur,rfl,_,_,hc,_⟩
    ·exact absurd (List.length_eq_zero_iff.1 h0) hl0
    ·exact ⟨_,_,room g _ hc hy rfl,.own _ l h,Below.refl _ _⟩
 ·cases hy with
  | none cap=>exact absurd rfl hm0
  | some ga off cap m ha =>
    have hml:0<m.length:=List.length_pos_iff.2 hm0
    cases hd with
    | full g l h =>
      obtain ⟨v',W',hrun,r1,r2⟩:=run_append_arg_grows (P:=Tryz.prog) W 253 253 5 i0 _ 1 1 Tryz.underlying253 hi0 hz0 hz1 hz2 rfl (by decide) ⟨g,0,none⟩ l.length l.length (Lib.byteCells l) (by rw [Lib.byteCells_length];omega) (fun j u hj=>by have:=h.cells j u hj;exact this) ⟨ga,off,none⟩ m.length cap (Lib.byteCells m) (by rw [Lib.byteCells_length];omega) (fun j u hj=>ha.cells j u hj) (by omega) (by unfold maxLen;omega) (by omega);have hb:Bl W W':=⟨r2.os,r2.tape,r2.output,r2.size,fun k hk=>r2.block k hk (by simp)⟩;refine ⟨v',W',hrun,.own _ _ ?_,hb.mono hn⟩;unfold Iv;rw [Lib.byteCells_append,lAh];exact Mq r1 hn
    | own v l h =>
      obtain ⟨v',W',hrun,r1,r2,_⟩:=run_append_own (P:=Tryz.prog) W n0 253 253 5 i0 _ 1 1 Tryz.underlying253 hi0 hz0 hz1 hz2 rfl (by decide) v _ _ h ⟨ga,off,none⟩ m.length cap (Lib.byteCells m) (by rw [Lib.byteCells_length];omega) (fun j u hj=>ha.cells j u hj) (z1b m) (by unfold maxLen;omega) (by omega) hn;refine ⟨v',W',hrun,.own _ _ ?_,⟨r2.os,r2.tape,r2.output,r2.size,fun k hk=>r2.block k (by omega) (fun e=>?_)⟩⟩
      ·unfold Iv;rw [Lib.byteCells_append,lAh];exact r1
      ·have:=(World.ownsRow.lt h k e.symm).1;omega
theorem x1f{i0:TypeInfo}(hi0:Tryz.prog.info? 5=some i0)(hz0:i0.zero=some (.int .u8 0))(hz1:i0.size=1)(hz2:i0.bytes=1){W:World}{g:Nat}{y:Value}{l m:List UInt8}(hd:BytesAt W g 0 l)(hy:BytesV W y m)(hl:l.length<=100000000)(hm:m.length<=100000000)(hl0:l≠[]) :
 ∃ v' W',(Builtin.append_ #[253,253] 253 #[.slice (some ⟨g,0,none⟩) l.length l.length,y]).run Tryz.prog W=.ok v' W'/\Dest W' W.heap.size v' (l++m)/\Bl W W' :=
 z6l hi0 hz0 hz1 hz2 (.full g l hd) hy hl hm (lAd _) hl0
theorem Dest.bytes{W:World}{n0:Nat}{v:Value}{l:List UInt8}(h:Dest W n0 v l):BytesV W v l:=by
 cases h with
 | full g l h=>exact .some g 0 _ l h
 | own v l h=>exact Ay h
theorem x5o(W:World)(v:Value)(l:List UInt8)(h:BytesV W v l):(convert 253 9 v).run Tryz.prog W=.ok (.string ⟨l.toArray⟩) W:=by
 cases h with
 | none cap=>exact Lib.run_convert_nil_bytes (P:=Tryz.prog) W 253 9 5 cap Tryz.underlying253 Tryz.underlying5 Tryz.underlying9
 | some g off cap l h =>
   refine run_convert_bytes_back (P:=Tryz.prog) W 253 9 5 ⟨g,off,none⟩ cap l Tryz.underlying253 Tryz.underlying5 Tryz.underlying9 fun j hj=>?_;rw [Addr.add_lit];exact h j _ (lAa hj)
theorem y9e(w:World)(p:ByteArray)(C:Nat)(hC:p.size<=C) :
 BytesAt (w.drew.alloc (.cells (bytesRow p C) 5 ((bytesRow p C).size,(bytesRow p C).size+1))) w.heap.size 0 p.data.toList /\
 ∀ j,j<p.size->(w.drew.alloc (.cells (bytesRow p C) 5 ((bytesRow p C).size,(bytesRow p C).size+1))).frozen? ⟨w.heap.size,j,none⟩=false:=by
 refine ⟨fun j u hj=>?_,fun j hj=>?_⟩
 ·obtain ⟨hl,rfl⟩:=lAb.1 hj
  have:=World.cell?_alloc_mark w.drew (bytesRow p C) 5 ((bytesRow p C).size,(bytesRow p C).size+1) j
  rw [show w.drew.heap.size=w.heap.size from rfl] at this;rw [Nat.zero_add,this,bytesRow_at p C j (by simpa using hl)];simp
 ·have:=World.frozen?_alloc_mark w.drew (bytesRow p C) 5 (bytesRow p C).size ((bytesRow p C).size+1) j
  rw [show w.drew.heap.size=w.heap.size from rfl] at this;rw [this]
  have hs:(bytesRow p C).size=C:=by
   unfold bytesRow
   have:p.data.size=p.size:=rfl
   simp;omega
  rw [hs];simp;omega
theorem x4x(w1:World)(g:Nat)(q:List UInt8)(hq:2<=q.length)(hR:BytesAt w1 g 0 q)(hf:∀ j,j<q.length->w1.frozen? ⟨g,j,none⟩=false)(x y:UInt8)(vx vy:Int)(hx:(x.toNat:Int)=vx)(hy:(y.toNat:Int)=vy)(C:Nat) :
 ∃ W2,(Builtin.copy_ #[253,253] 3 #[.slice (some ⟨g,0,none⟩) q.length C,.slice (some ⟨w1.heap.size,0,none⟩) 2 2]).run Tryz.prog (w1.alloc (.cells #[.int .u8 vx,.int .u8 vy] 5))=.ok (goInt 2) W2 /\
  BytesAt W2 g 0 (x :: y :: q.drop 2)/\∀ n,n<=g->n<=w1.heap.size->Below n w1 W2:=by
 obtain ⟨i0,hi0,hz0,hz1,hz2⟩:=info_parts x2n;have hB:=Blk.new w1 5 #[.int .u8 vx,.int .u8 vy];have hb:=(Below.refl w1.heap.size w1).alloc (lAd _) (Obj.cells #[.int .u8 vx,.int .u8 vy] 5);have hg:g<w1.heap.size:=World.block_lt_of_cell? w1 ⟨g,0+0,none⟩ (hR 0 q[0] (lAa _))
 have hrun:=run_copy_cells (P:=Tryz.prog) (w1.alloc (.cells #[.int .u8 vx,.int .u8 vy] 5)) 253 253 3 5 g 0 q.length C ⟨w1.heap.size,0,none⟩ 2 2 [.int .u8 vx,.int .u8 vy] Tryz.underlying253 (by rw [hi0];simp [hz1]) (by simp [Nat.min_def];omega)
  (fun j v hj=>by
    match j,hj with
    | 0,hj=>simp at hj;subst hj;exact hB.cell 0
    | 1,hj=>simp at hj;subst hj;rw [Addr.add_lit];exact hB.cell 1
    | j+2,hj=>simp at hj)
  (fun j hj=>by
    have hj2:j<q.length:=by simp at hj;omega
    rw [(hR.below hb) j q[j] (lAa hj2)];rfl)
  (fun j hj=>by
    have hj2:j<q.length:=by simp at hj;omega
    rw [Nat.zero_add]
    exact (hb.frozen (p:=⟨g,j,none⟩) hg).trans (hf j hj2))
  (by simp [Value.oneCell'])
 refine ⟨_,hrun,fun j u hj=>?_,fun n hn hn1=>?_⟩
 ·match j,hj with
  | 0,hj =>
    simp at hj;subst hj
    have:=World.cell?_setCells_in g [.int .u8 vx,.int .u8 vy] 0 (w1.alloc (.cells #[.int .u8 vx,.int .u8 vy] 5)) (fun i hi=>by
     have hj2:i<q.length:=by simp at hi;omega
     rw [(hR.below hb) i q[i] (lAa hj2)];rfl) 0 (by simp)
    rw [this,hx];rfl
  | 1,hj =>
    simp at hj;subst hj
    have:=World.cell?_setCells_in g [.int .u8 vx,.int .u8 vy] 0 (w1.alloc (.cells #[.int .u8 vx,.int .u8 vy] 5)) (fun i hi=>by
     have hj2:i<q.length:=by simp at hi;omega
     rw [(hR.below hb) i q[i] (lAa hj2)];rfl) 1 (by simp)
    rw [this,hy];rfl
  | j+2,hj =>
    rw [World.cell?_setCells_out g _ 0 _ ⟨g,0+(j+2),none⟩ (fun _ _=>.inr (by simp))];refine (hR.below hb) (j+2) u ?_;simp only [List.getElem?_cons_succ,List.getElem?_drop] at hj
    rwa [Nat.add_comm] at hj
 ·have h1:=((Below.refl n w1).alloc hn1 (Obj.cells #[.int .u8 vx,.int .u8 vy] 5));exact (h1.setCell (p:=⟨g,0,none⟩) hn _).setCell (p:=⟨g,0+1,none⟩) hn _
def x4w(p:ByteArray)(N fr to:Nat)(bs:List UInt8):List UInt8:=(UInt8.ofNat (N / 256) :: UInt8.ofNat N :: p.data.toList.drop 2).take fr++bs++p.data.toList.drop to
theorem Zw{P:Program}{w:World}{ops:Array Oper}{rest:List Oper}{o:Oper}{a:Act}{Q:Exit->Act->World->Prop}{v xv v':Value}{w':World}(hgd:o.guard=none)(s x:Operand)(t u:TypeId)
 (ho:o.op=Op.call { callee:=Callee.builtin Builtin.append,args:=#[s,x],argTypes:=#[t,u] }) (hs:a.eval s=v) (hx:a.eval x=xv) (hrun:(Builtin.append_ #[t,u] o.type #[v,xv]).run P w=.ok v' w')
 (h:wpList P ops Q rest (a.put o.dst v') w'):wpList P ops Q (o :: rest) a w:=by
 refine wpList_plain hgd fun K hK=>?_;unfold Oper.wp;simp [execOp,ho,resolve,invoke,builtin,hs,hx,hrun,Result.andThen];exact hK _ _ h
theorem Fl(p:ByteArray)(h2:2<=p.size)(hp:p.size<=1000000)(more:Int)(N:Nat)(hN:Ye p+more=N)(hN2:N<=60000)(fr to:Nat)(hf:2<=fr)(hft:fr<=to)(hto:to<=p.size)(y:Value)(bs:List UInt8)(hbs:bs.length<=1000000)(w:World)(hy:BytesV w y bs) :
 Calls Tryz.prog 282 #[.string p,.int .i64 more,.int .i64 fr,.int .i64 to,y] w fun e w'=>e=.returned (.string ⟨(x4w p N fr to bs).toArray⟩)/\Bl w w':=by
 obtain ⟨i0,hi0,hz0,hz1,hz2⟩:=info_parts x2n;have hcv:=run_bytes_of_string (P:=Tryz.prog) w 9 253 5 p Tryz.underlying9 Tryz.underlying253 Tryz.underlying5;have hge:=grownCap_ge w p.size 0 5;have hgm:=grownCap_le_maxLen w p.size 0 5 (by unfold maxLen;omega);obtain ⟨r1,r2⟩:=y9e w p (grownCap w p.size 0 5) hge;generalize grownCap w p.size 0 5=C at *;have HC:=fun w=>jY (Ju p (by omega) w);have hb0:Bl w (w.drew.alloc (.cells (bytesRow p C) 5 ((bytesRow p C).size,(bytesRow p C).size+1))):=(Below.refl w.heap.size w).drew.alloc (lAd _) _;have hsz0:(w.drew.alloc (.cells (bytesRow p C) 5 ((bytesRow p C).size,(bytesRow p C).size+1))).heap.size=w.heap.size+1:=by simp
 generalize w.drew.alloc (.cells (bytesRow p C) 5 ((bytesRow p C).size,(bytesRow p C).size+1))=w0 at *;have hfrz:∀ (W:World),Bl w0 W->∀ j,j<p.size->W.frozen? ⟨w.heap.size,j,none⟩=false:=fun W hW j hj=>(hW.frozen (p:=⟨w.heap.size,j,none⟩) (by simp;omega)).trans (r2 j hj);have HF:=jY hfrz;have HY:=jY hy;have HR:=jY r1;have HP:=jY (show x4w p N fr to bs=_ from rfl);generalize hps:x4w p N fr to bs=out at *;have hlen:p.data.toList.length=p.size:=Vi p;clear r1 r2 hfrz hy;unfold maxLen at hgm
 go_enter Tryz.func282,Tryz.ntmps282
 go_wp2_with fail;refine (HC _).out.mono ?_;rintro e w1 ⟨rfl,hb1⟩;have hx:((UInt8.ofNat (N / 256)).toNat:Int)=(N:Int) / 256:=by simp;omega
 have hyy:((UInt8.ofNat N).toNat:Int)=(N:Int) % 256:=by simp
 obtain ⟨W2,hcopy,hW2,hbW2⟩:=x4x w1 w.heap.size p.data.toList (by omega) (HR.out.below hb1) (fun j hj=>HF.out w1 hb1 j (by omega)) _ _ _ _ hx hyy C;rw [hlen] at hcopy;have hb1s:=hb1.size;have hbW:Bl w W2:=(hb0.trans (hb1.mono (by omega))).trans (hbW2 _ (lAd _) (by omega));have hyW:BytesV W2 y bs:=HY.out.below hbW;have HBW:=jY hbW;have HYW:=jY hyW;have HW2:=jY hW2;have hN9:(N:Int)<=60000:=by omega
 have hN8:(0:Int)<=N:=by omega
 clear hb1 hbW2 hbW hyW hW2 hx hyy;have f1:(fr:Int)<=C:=by omega
 have f2:(to:Int)<=p.size:=by omega
 have f3:(p.size:Int)<=C:=by omega
 have f4:(0:Int)<=fr:=by omega
 have f5:(0:Int)<=to:=by omega
 have f6:(to:Int)<=C:=by omega
 go_wp2
 go_quiet (fail)
 have hhead:∀ j,to<=j->(UInt8.ofNat (N / 256) :: UInt8.ofNat N :: List.drop 2 p.data.toList)[j]?=p.data.toList[j]?:=fun j hj=>by
  obtain ⟨i,rfl⟩:∃ i,j=i+2:=⟨j-2,by omega⟩;simp only [List.getElem?_cons_succ,List.getElem?_drop];rw [Nat.add_comm]
 have hheadl:(UInt8.ofNat (N / 256) :: UInt8.ofNat N :: List.drop 2 p.data.toList).length=p.size:=by
  simp only [List.length_cons,List.length_drop,hlen];omega
 have hW3:BytesAt (W2.drewN nq) w.heap.size 0 (UInt8.ofNat (N / 256) :: UInt8.ofNat N :: List.drop 2 p.data.toList):=HW2.out;have hY3:BytesV (W2.drewN nq) y bs:=HYW.out.below ⟨rfl,rfl,rfl,lAd _,fun _ _=>rfl⟩;have hB3:Bl w (W2.drewN nq):=HBW.out.trans ⟨rfl,rfl,rfl,lAd _,fun _ _=>rfl⟩;generalize W2.drewN nq=W3 at *
 have hbeh:BytesV W3 (.slice (if C=to then some { block:=w.heap.size,off:=0 } else some { block:=w.heap.size,off:=to }) (p.size-to) (C-to)) (p.data.toList.drop to):=by
  have hl:(p.data.toList.drop to).length=p.size-to:=by rw [List.length_drop,hlen]
  rw [<- hl]
  split
  ·refine .some _ 0 _ _ fun j u hj=>?_
   have:=(lAb.1 hj).1
   omega
  ·refine .some _ to _ _ fun j u hj=>?_;rw [List.getElem?_drop] at hj
   have:=hW3 (to+j) u (by rw [hhead _ (by omega)];exact hj)
   rwa [Nat.zero_add] at this
 generalize (if C=to then some ({ block:=w.heap.size,off:=0 }:Addr) else some { block:=w.heap.size,off:=to })=ba at *;have hfl:((UInt8.ofNat (N / 256) :: UInt8.ofNat N :: List.drop 2 p.data.toList).take fr).length=fr:=by rw [List.length_take,hheadl];omega
 have hfull:BytesAt W3 w.heap.size 0 ((UInt8.ofNat (N / 256) :: UInt8.ofNat N :: List.drop 2 p.data.toList).take fr):=fun j u hj=>by
  have hjl:=(lAb.1 hj).1;rw [List.getElem?_take,if_pos (by omega)] at hj;exact hW3 j u hj
 have houtd:out=(UInt8.ofNat (N / 256) :: UInt8.ofNat N :: List.drop 2 p.data.toList).take fr++bs++p.data.toList.drop to:=by rw [<- hps];rfl
 generalize (UInt8.ofNat (N / 256) :: UInt8.ofNat N :: List.drop 2 p.data.toList).take fr=hd at *;obtain ⟨v4,W4,hrun4,hd4,hb4⟩:=x1f hi0 hz0 hz1 hz2 hfull hY3 (by omega) (by omega) (fun e=>by rw [e] at hfl;simp at hfl;omega)
 obtain ⟨v5,W5,hrun5,hd5,hb5⟩:=z6l hi0 hz0 hz1 hz2 hd4 (hbeh.below hb4) (by rw [lAh];omega) (by rw [List.length_drop,hlen];omega) hb4.size (fun e=>by
  have:=congrArg List.length e
  rw [lAh] at this;simp at this;have h1:=this.1;rw [h1] at hfl;simp at hfl
  omega)
 rw [hfl] at hrun4;have hback:=x5o W5 v5 _ hd5.bytes;rw [<- houtd] at hback;have HO:=jY (hB3.trans ((hb4.mono hB3.size).trans (hb5.mono hB3.size)));clear hfull hbeh hW3 hY3 hB3 hhead hd4 hd5 hb4 hb5 hps houtd hfl hheadl
 go_wp2_with (first|(at_builtin;refine Zw rfl _ _ 253 253 rfl rfl rfl hrun4 ?_;clear hrun4)|(at_builtin;refine Zw rfl _ _ 253 253 rfl rfl rfl hrun5 ?_))
 go_ret;exact ⟨rfl,HO.out⟩
end Go.Proofs.YtcklcmafohlflaaGreatDoor.Pk
namespace Go.Proofs.YtcklcmafohlflaaGreatDoor.Pk
open Zc
open Go.RowKit Go.Shelf
theorem z0t(n t:Int):wrap64 (n+18446744073709551616*t)=wrap64 n:=by
 unfold wrap64;rw [show n+18446744073709551616*t+9223372036854775808=(n+9223372036854775808)+18446744073709551616*t by omega,Int.add_mul_emod_self_left]
theorem z3k(n:Int):∃ t,wrap64 n=n+18446744073709551616*t:=by
 refine ⟨-((n+9223372036854775808) / 18446744073709551616),?_⟩;unfold wrap64
 have:=Int.emod_add_mul_ediv (n+9223372036854775808) 18446744073709551616
 omega
theorem x0u(a b:Int):wrap64 (wrap64 a*256+b)=wrap64 (a*256+b):=by
 obtain ⟨t,ht⟩:=z3k a;rw [ht,show (a+18446744073709551616*t)*256+b=(a*256+b)+18446744073709551616*(t*256) by omega,z0t]
theorem v0c{n:Int}(h:-9223372036854775808<=n/\n<=9223372036854775807):wrap64 n=n:=IntWalk.wrap64_in n h
def z9v(m:Int)(b:UInt8):Int:=wrap64 (m*256+b.toNat)
theorem y4f(b:UInt8):z9v 0 b=wrap64 (b.toNat:Int):=by unfold z9v;rw [Int.zero_mul,Int.zero_add]
theorem y4e(a:Int)(b:UInt8):z9v (wrap64 a) b=wrap64 (a*256+b.toNat):=x0u a (b.toNat:Int)
theorem Cp(l:List UInt8):U9 l=l.foldl z9v 0:=rfl
theorem z1w:∀ (l:List UInt8) (a:Int),l.foldl z9v (wrap64 a)=wrap64 (l.foldl (fun m b=>m*256+(b.toNat:Int)) a)
 | [],_=>rfl
 | b :: l,a=>by rw [List.foldl_cons,y4e,z1w l,List.foldl_cons]
theorem Fo(a b c d e f g h:UInt8):U9 [a,b,c,d,e,f,g,h]=wrap64 (((((((((a.toNat:Int)*256+b.toNat)*256+c.toNat)*256+d.toNat)*256+e.toNat)*256+f.toNat)*256+g.toNat)*256+h.toNat)):=by
 rw [Cp,List.foldl_cons,y4f,z1w]
 congr 1
theorem Xp(s:Int)(k:Nat):s / 2 ^ (8*(k+1))=s / 2 ^ (8*k) / 256:=by
 rw [Int.ediv_ediv_of_nonneg (Int.le_of_lt (Int.pow_pos (by decide))),show 8*(k+1)=8*k+8 by omega,Int.pow_add];rfl
theorem z1h(s:Int)(h:-9223372036854775808<=s/\s<=9223372036854775807):U9 (Xk s)=s:=by
 have hs:Xk s=[Xv s 7,Xv s 6,Xv s 5,Xv s 4,Xv s 3,Xv s 2,Xv s 1,Xv s 0]:=rfl;rw [hs,Fo];simp only [Gi];have h0:s / 2 ^ (8*0)=s:=by simp
 have h1:=Xp s 0;have h2:=Xp s 1;have h3:=Xp s 2;have h4:=Xp s 3;have h5:=Xp s 4;have h6:=Xp s 5;have h7:=Xp s 6;simp only [Nat.reduceAdd] at h1 h2 h3 h4 h5 h6 h7;rw [h0] at h1 ⊢;generalize s / 2 ^ (8 * 1)=d1 at *;generalize s / 2 ^ (8 * 2)=d2 at *;generalize s / 2 ^ (8 * 3)=d3 at *;generalize s / 2 ^ (8 * 4)=d4 at *;generalize s / 2 ^ (8 * 5)=d5 at *;generalize s / 2 ^ (8 * 6)=d6 at *;generalize s / 2 ^ (8 * 7)=d7 at *;have e0:=Int.emod_add_mul_ediv s 256;have e1:=Int.emod_add_mul_ediv d1 256;have e2:=Int.emod_add_mul_ediv d2 256;have e3:=Int.emod_add_mul_ediv d3 256;have e4:=Int.emod_add_mul_ediv d4 256;have e5:=Int.emod_add_mul_ediv d5 256;have e6:=Int.emod_add_mul_ediv d6 256;have e7:=Int.emod_add_mul_ediv d7 256;rw [<- h1] at e0;rw [<- h2] at e1;rw [<- h3] at e2;rw [<- h4] at e3;rw [<- h5] at e4;rw [<- h6] at e5;rw [<- h7] at e6;generalize d7 / 256=t at *;generalize s % 256=r0 at *;generalize d1 % 256=r1 at *;generalize d2 % 256=r2 at *;generalize d3 % 256=r3 at *;generalize d4 % 256=r4 at *;generalize d5 % 256=r5 at *;generalize d6 % 256=r6 at *;generalize d7 % 256=r7 at *;clear h1 h2 h3 h4 h5 h6 h7 hs h0;rw [show (((((((r7*256+r6)*256+r5)*256+r4)*256+r3)*256+r2)*256+r1)*256+r0)=s+18446744073709551616*(-t) by omega,z0t,v0c h]
theorem Vm(b:UInt8):0<=(b.toNat:Int)/\(b.toNat:Int)<256:=by have:=UInt8.toNat_lt b;omega
theorem Ur{s:Int}{k:Nat}{b:UInt8}(h:s / 2 ^ (8*k) % 256=b.toNat):Xv s k=b:=by
 apply UInt8.toNat_inj.1
 have:=Gi s k
 omega
theorem z1g(l:List UInt8)(h:l.length=8):Xk (U9 l)=l:=by
 match l,h with
 | [a,b,c,d,e,f,g,i],_ =>
   rw [Fo];have ha:=Vm a;have hb:=Vm b;have hc:=Vm c;have hd:=Vm d;have he:=Vm e;have hf:=Vm f;have hg:=Vm g;have hi:=Vm i;generalize hV:(((((((a.toNat:Int)*256+b.toNat)*256+c.toNat)*256+d.toNat)*256+e.toNat)*256+f.toNat)*256+g.toNat)*256+i.toNat=V;obtain ⟨t,ht⟩:=z3k V;rw [ht];generalize hS:V+18446744073709551616*t=S;have h0:S / 2 ^ (8*0)=S:=by simp
   have h1:=Xp S 0;have h2:=Xp S 1;have h3:=Xp S 2;have h4:=Xp S 3;have h5:=Xp S 4;have h6:=Xp S 5;have h7:=Xp S 6;simp only [Nat.reduceAdd] at h1 h2 h3 h4 h5 h6 h7;rw [h0] at h1;have q1:S / 2 ^ (8*1)=((((((a.toNat:Int)*256+b.toNat)*256+c.toNat)*256+d.toNat)*256+e.toNat)*256+f.toNat)*256+g.toNat+72057594037927936*t:=by rw [h1];omega
   have q2:S / 2 ^ (8*2)=(((((a.toNat:Int)*256+b.toNat)*256+c.toNat)*256+d.toNat)*256+e.toNat)*256+f.toNat+281474976710656*t:=by rw [h2,q1];omega
   have q3:S / 2 ^ (8*3)=((((a.toNat:Int)*256+b.toNat)*256+c.toNat)*256+d.toNat)*256+e.toNat+1099511627776*t:=by rw [h3,q2];omega
   have q4:S / 2 ^ (8*4)=(((a.toNat:Int)*256+b.toNat)*256+c.toNat)*256+d.toNat+4294967296*t:=by rw [h4,q3];omega
   have q5:S / 2 ^ (8*5)=((a.toNat:Int)*256+b.toNat)*256+c.toNat+16777216*t:=by rw [h5,q4];omega
   have q6:S / 2 ^ (8*6)=(a.toNat:Int)*256+b.toNat+65536*t:=by rw [h6,q5];omega
   have q7:S / 2 ^ (8*7)=(a.toNat:Int)+256*t:=by rw [h7,q6];omega
   show [Xv S 7,Xv S 6,Xv S 5,Xv S 4,Xv S 3,Xv S 2,Xv S 1,Xv S 0]=_
   rw [Ur (b:=a) (k:=7) (by rw [q7];omega),Ur (b:=b) (k:=6) (by rw [q6];omega),Ur (b:=c) (k:=5) (by rw [q5];omega),Ur (b:=d) (k:=4) (by rw [q4];omega),
    Ur (b:=e) (k:=3) (by rw [q3];omega),Ur (b:=f) (k:=2) (by rw [q2];omega),Ur (b:=g) (k:=1) (by rw [q1];omega),Ur (b:=i) (k:=0) (by rw [h0];omega)]
def Cj(l:List Ent):List UInt8:=UInt8.ofNat (l.length / 256) :: UInt8.ofNat l.length :: l.flatMap Ut
def Y9(l:List Ent):ByteArray:=⟨(Cj l).toArray⟩
theorem Mr(l:List Ent):(Y9 l).data.toList=Cj l:=rfl
theorem Gp(p:ByteArray)(k:Nat)(h:k<p.data.toList.length):p.data.toList[k]=UInt8.ofNat (X9 p k):=by
 unfold X9;rw [List.getD_eq_getElem?_getD,lAa h];simp
theorem z9q(l:List UInt8)(a n:Nat):l.drop a=(l.drop a).take n++l.drop (a+n):=by
 rw [<- List.drop_drop,List.take_append_drop]
theorem z6q{p:ByteArray}{k:Nat}{c:Cut}(h:Yd p k=some c)(hb:X9 p (c.to-1)=c.m.size+9):p.data.toList.drop k=Ut c.ent++p.data.toList.drop c.to:=by
 obtain ⟨h2,hf,ht,hs,h64,hm,hms,hsc⟩:=Xd h;generalize hn:X9 p k=n at *;have hl:=Vi p
 have d1:p.data.toList.drop k=UInt8.ofNat n :: p.data.toList.drop (k+1):=by
  rw [List.drop_eq_getElem_cons (show k<p.data.toList.length by omega),Gp,hn]
 have d2:p.data.toList.drop (k+1)=c.m.data.toList++p.data.toList.drop (k+1+n):=by
  rw [hm,A7];exact z9q _ _ _
 have d3:p.data.toList.drop (k+1+n)=Xk c.s++p.data.toList.drop (k+1+n+8):=by
  rw [hsc,z1g _ (by rw [List.length_take,List.length_drop];omega)];exact z9q _ _ _
 have d4:p.data.toList.drop (k+1+n+8)=UInt8.ofNat (c.m.size+9) :: p.data.toList.drop c.to:=by
  have hk:k+1+n+8=c.to-1:=by omega
  rw [hk,List.drop_eq_getElem_cons (show c.to-1<p.data.toList.length by omega),show c.to-1+1=c.to by omega,Gp,hb]
 rw [d1,d2,d3,d4];unfold Ut Cut.ent;simp [hms]
theorem Jv{p:ByteArray}{cs:List Cut}(h:IsPack p cs):∀ (m i:Nat),i+m=cs.length->p.data.toList.drop (Yh cs i)=((cs.drop i).map Cut.ent).flatMap Ut
 | 0,i,hi=>by
   rw [show i=cs.length by omega,h.ends,List.drop_length,List.drop_of_length_le (by rw [Vi];exact lAd _)];rfl
 | m+1,i,hi=>by
   have hx:cs[i]?=some (cs[i]'(by omega)):=lAa (by omega);have hb:=(Oo h.chain i (by omega)).trans hx;have he:=(Jw hb).1 (h.each _ (List.getElem_mem _)).2.2.2.2;rw [z6q hb he,List.drop_eq_getElem_cons (show i<cs.length by omega),List.map_cons,List.flatMap_cons,<- Jv h m (i+1) (by omega),show Yh cs (i+1)=(cs[i]'(by omega)).to by simp [Yh,hx]]
theorem x0k{p:ByteArray}{n:Nat}(h:Ye p=n):p.data.toList.take 2=[UInt8.ofNat (n / 256),UInt8.ofNat n]:=by
 unfold Ye at h
 split at h
 ·omega
 ·next h2 =>
  split at h
  ·omega
  ·have hl:=Vi p;have l0:=P8 p 0;have l1:=P8 p 1;have hn:n=X9 p 0*256+X9 p 1:=by omega
   obtain ⟨l,hl2⟩:∃ l,l=p.data.toList:=⟨_,rfl⟩;have b0:X9 p 0=(l.getD 0 0).toNat:=by rw [hl2];rfl
   have b1:X9 p 1=(l.getD 1 0).toNat:=by rw [hl2];rfl
   rw [<- hl2] at hl ⊢
   match l,hl with
   | a :: b :: r,_ =>
     simp at b0 b1;have ha:=UInt8.toNat_lt a;have hb:=UInt8.toNat_lt b;simp only [List.take_succ_cons,List.take_zero];rw [show UInt8.ofNat (n / 256)=a by apply UInt8.toNat_inj.1;simp;omega,show UInt8.ofNat n=b by apply UInt8.toNat_inj.1;simp;omega]
   | [a],hl=>simp at hl;omega
   | [],hl=>simp at hl;omega
theorem z2q{p:ByteArray}{cs:List Cut}(h:IsPack p cs):p=Y9 (cs.map Cut.ent):=by
 apply x1l
 rw [Mr,<- List.take_append_drop 2 p.data.toList,x0k h.count]
 have:=Jv h cs.length 0 (by omega)
 rw [show Yh cs 0=2 from rfl] at this;rw [this];simp [Cj]
theorem x0e{p:ByteArray}{cs:List Cut}(h:IsPack p cs)(i:Nat)(hi:i<=cs.length):(p.data.toList.take (Yh cs i))=UInt8.ofNat (cs.length / 256) :: UInt8.ofNat cs.length :: ((cs.take i).map Cut.ent).flatMap Ut:=by
 have h1:=Jv h (cs.length-i) i (by omega);have h2:=List.take_append_drop (Yh cs i) p.data.toList;have h3:p.data.toList=Cj (cs.map Cut.ent):=by rw [<- Mr,<- z2q h]
 rw [h1] at h2;refine List.append_cancel_right (bs:=((cs.drop i).map Cut.ent).flatMap Ut) ?_;rw [h2,h3];simp only [Cj,List.length_map,List.cons_append];rw [<- List.flatMap_append,<- List.map_append,List.take_append_drop]
theorem z8u{p:ByteArray}{cs:List Cut}(h:IsPack p cs)(i j:Nat)(hij:i<=j)(hj:j<=cs.length)(N:Nat)(l:List Ent)(hN:N=(cs.take i).length+l.length+(cs.drop j).length) :
 x4w p N (Yh cs i) (Yh cs j) (l.flatMap Ut)=Cj ((cs.take i).map Cut.ent++l++(cs.drop j).map Cut.ent):=by
 have h2:2<=Yh cs i:=by
  cases i with
  | zero=>exact lAd _
  | succ i =>
    have hx:cs[i]?=some (cs[i]'(by omega)):=lAa (by omega);rw [show Yh cs (i+1)=(cs[i]'(by omega)).to by simp [Yh,hx]];exact (h.each _ (List.getElem_mem _)).2.1
 have ht:=x0e h i (by omega);have hd:=Jv h (cs.length-j) j (by omega);unfold x4w;rw [hd];obtain ⟨e,he⟩:∃ e,Yh cs i=e+2:=⟨Yh cs i-2,by omega⟩;rw [he] at ht ⊢;have hl:=Vi p;have h2p:=h.two
 have ht2:(p.data.toList.drop 2).take e=((cs.take i).map Cut.ent).flatMap Ut:=by
  have:=congrArg (List.drop 2) ht
  rw [List.drop_take] at this
  simpa using this
 simp only [List.take_succ_cons,ht2];unfold Cj;have hlen:((cs.take i).map Cut.ent++l++(cs.drop j).map Cut.ent).length=N:=by simp only [lAh,List.length_map];omega
 rw [hlen];simp [List.flatMap_append]
def Ya(s:Int):Prop:=-9223372036854775808<=s/\s<=9223372036854775807
theorem Bc{l a b:List UInt8}{k:Nat}(h:l.drop k=a++b)(n:Nat)(hn:a.length=n):l.drop (k+n)=b:=by
 rw [<- List.drop_drop,h,<- hn,List.drop_left]
theorem x1o{p:ByteArray}{k:Nat}{e:Ent}{rest:List UInt8}(hk:2<=k)(hd:p.data.toList.drop k=Ut e++rest)(h64:e.1.size<=64)(hs:Ya e.2) :
 Yd p k=some ⟨e.1,e.2,k,k+e.1.size+10⟩/\X9 p (k+e.1.size+9)=e.1.size+9/\p.data.toList.drop (k+e.1.size+10)=rest:=by
 obtain ⟨m,s⟩:=e;simp only at h64 hs ⊢;have hl:=Vi p;have hml:=Vi m;have hlen:=congrArg List.length hd;rw [List.length_drop,lAh,Vn] at hlen;have hrest:p.data.toList.drop (k+(m.size+10))=rest:=Bc hd _ (Vn _);have hkl:k<p.data.toList.length:=by simp only at hlen;omega
 have hb:X9 p k=m.size:=by
  have h1:=hd;rw [List.drop_eq_getElem_cons hkl,Gp] at h1;unfold Ut at h1;simp only [List.cons_append,List.cons.injEq] at h1;have h2:=congrArg UInt8.toNat h1.1
  have:=P8 p k
  simp at h2;omega
 have d1:p.data.toList.drop (k+1)=m.data.toList++(Xk s++(UInt8.ofNat (m.size+9) :: rest)):=by
  refine Bc (a:=[UInt8.ofNat m.size]) ?_ 1 rfl;rw [hd];simp [Ut]
 have d2:p.data.toList.drop (k+1+m.size)=Xk s++(UInt8.ofNat (m.size+9) :: rest):=Bc d1 _ hml;have d3:p.data.toList.drop (k+1+m.size+8)=UInt8.ofNat (m.size+9) :: rest:=Bc d2 _ (Ue s);refine ⟨?_,?_,by rw [<- hrest];congr 1⟩
 ·unfold Yd;rw [if_neg (by omega),hb,if_neg (by simp only at hlen;omega)]
  have e1:p.extract (k+1) (k+1+m.size)=m:=by
   apply x1l
   rw [A7,d1,<- hml,List.take_left]
  have e2:U9 ((p.data.toList.drop (k+1+m.size)).take 8)=s:=by
   rw [d2,<- Ue s,List.take_left,z1h s hs]
  rw [e1,e2]
 ·have hk9:k+m.size+9<p.data.toList.length:=by simp only at hlen;omega
  rw [show k+1+m.size+8=k+m.size+9 by omega,List.drop_eq_getElem_cons hk9,Gp] at d3;simp only [List.cons.injEq] at d3;have h2:=congrArg UInt8.toNat d3.1
  have:=P8 p (k+m.size+9)
  simp at h2;omega
theorem z7o(p:ByteArray):∀ (l:List Ent) (k:Nat),2<=k->k<=p.size->p.data.toList.drop k=l.flatMap Ut->(∀ e∈l,e.1.size<=64/\Ya e.2)->∃ cs,goS p l.length k=some cs/\cs.map Cut.ent=l
 | [],k,_,hk2,hd,_=>by
   have hl:=Vi p
   have:=congrArg List.length hd
   simp only [List.length_drop,List.flatMap_nil,List.length_nil] at this;refine ⟨[],?_,rfl⟩;unfold goS;simp only [List.length_nil];rw [if_pos (by omega)]
 | e :: l,k,hk,hk2,hd,hv=>by
   rw [List.flatMap_cons] at hd;obtain ⟨h64,hs⟩:=hv e (List.mem_cons_self ..);obtain ⟨h1,h2,h3⟩:=x1o hk hd h64 hs;have hl:=Vi p;have hlen:=congrArg List.length hd;rw [List.length_drop,lAh,Vn] at hlen;obtain ⟨cs,hcs,hm⟩:=z7o p l (k+e.1.size+10) (by omega) (by omega) h3 (fun e he=>hv e (List.mem_cons_of_mem _ he));refine ⟨⟨e.1,e.2,k,k+e.1.size+10⟩ :: cs,?_,by rw [List.map_cons,hm];rfl⟩;rw [List.length_cons,goS.eq_def];simp only [h1];rw [show k+e.1.size+10-1=k+e.1.size+9 by omega,if_pos h2,hcs];rfl
structure Valid (l:List Ent):Prop where
 many:l.length<=200
 each:∀ e∈l,e.1.size<=64/\Ya e.2
theorem Pt(l:List Ent):(Y9 l).size=2+(l.flatMap Ut).length:=by
 rw [<- Vi,Mr,Cj];simp;omega
theorem z6u{l:List Ent}(h:l.length<=200):Ye (Y9 l)=l.length:=by
 have h0:X9 (Y9 l) 0=(UInt8.ofNat (l.length / 256)).toNat:=rfl;have h1:X9 (Y9 l) 1=(UInt8.ofNat l.length).toNat:=rfl;unfold Ye;rw [if_neg (by rw [Pt];omega),h0,h1];have e0:(UInt8.ofNat (l.length / 256)).toNat=0:=by simp;omega
 have e1:(UInt8.ofNat l.length).toNat=l.length:=by simp;omega
 rw [e0,e1,if_neg (by omega)];simp
theorem Kr{l:List Ent}(h:Valid l):∃ cs,Qr (Y9 l)=some cs/\cs.map Cut.ent=l:=by
 obtain ⟨cs,hcs,hm⟩:=z7o (Y9 l) l 2 (lAd _) (by rw [Pt];omega) (by rw [Mr];rfl) h.each;refine ⟨cs,?_,hm⟩;unfold Qr;rw [z6u h.many,if_pos (by omega)];exact hcs
theorem Oc{l:List Ent}(h:Valid l):Zt (Y9 l)=true:=by
 obtain ⟨cs,hcs,_⟩:=Kr h;unfold Zt;rw [hcs];rfl
theorem Uj{l:List Ent}(h:Valid l):Yf (Y9 l)=l:=by
 obtain ⟨cs,hcs,hm⟩:=Kr h;unfold Yf Zi;rw [hcs];exact hm
theorem y9j(l:List UInt8):Ya (U9 l):=by
 unfold Ya
 have:∀ n,-9223372036854775808<=wrap64 n/\wrap64 n<=9223372036854775807:=fun n=>by unfold wrap64;omega
 rcases List.eq_nil_or_concat l with rfl|⟨l,b,rfl⟩
 ·exact ⟨by decide,by decide⟩
 ·rw [List.concat_eq_append,Cp,List.foldl_append,List.foldl_cons,List.foldl_nil];exact this _
theorem y0e{p:ByteArray}(h:Zt p=true):Valid (Yf p):=by
 have hk:=Uo h;refine ⟨by unfold Yf;rw [List.length_map];exact hk.many,fun e he=>?_⟩;obtain ⟨c,hc,rfl⟩:=List.mem_map.1 he;refine ⟨hk.short c hc,?_⟩;rw [show c.ent.2=c.s from rfl,(Xd (Md hk.chain hc)).2.2.2.2.2.2.2];exact y9j _
theorem Ik{p:ByteArray}(h:Zt p=true):p=Y9 (Yf p):=z2q (Uo h)
end Go.Proofs.YtcklcmafohlflaaGreatDoor.Pk
