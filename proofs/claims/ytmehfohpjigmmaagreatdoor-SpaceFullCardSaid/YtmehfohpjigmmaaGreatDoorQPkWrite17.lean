/- Texts of one kind in one: PkWrite, PkReplace, PkBytes, PkBack. -/
import Derived.Test.YtmehfohpjigmmaaGreatDoorQPkRight16
import Derived.Lib.BufferRead
set_option maxRecDepth 200000
set_option maxHeartbeats 8000000
namespace Go.Proofs.YtmehfohpjigmmaaGreatDoor.Pk
open Zc
open Go.RowKit Go.Shelf
attribute [local go_sem] Oper.semAt_some
def Ents(W:World)(a:Option Addr)(l:List Ent):Prop:=∀ (i:Nat) (h:i<l.length),∃ b off,a=some ⟨b,off,none⟩/\W.cell? ⟨b,off+i*2,none⟩=some (.string l[i].1)/\W.cell? ⟨b,off+i*2+1,none⟩=some (.int .i64 l[i].2)
theorem Ents.below{w W:World}{a:Option Addr}{l:List Ent}(h:Ents w a l)(hb:Bl w W):Ents W a l:=fun i hi=>by
 obtain ⟨b,off,ha,h0,h1⟩:=h i hi;have hlt:b<w.heap.size:=World.block_lt_of_cell? w ⟨b,off+i*2,none⟩ h0;exact ⟨b,off,ha,(hb.cell (p:=⟨b,_,none⟩) hlt).trans h0,(hb.cell (p:=⟨b,_,none⟩) hlt).trans h1⟩
def Fi(l:List Ent):Bool:=l.all fun e=>decide (e.1.size<=64)
theorem y0l(a:Option Addr)(cap:Nat)(l:List Ent)(hl:l.length<=9223372036854775807)(hz:∀ e∈l,e.1.size<=9223372036854775807)(w:World)(hE:Ents w a l) :
 Calls Tryz.prog 254 #[.slice a l.length cap] w fun e w'=>e=.returned (.bool (Fi l))/\Bl w w':=by
 go_enter Tryz.func254,Tryz.ntmps254
 go_wp2
 go_loopw [7] (fun i wr=>∃ (k:Nat),i=.int .i64 k/\k<=l.length/\Bl w wr/\Fi (l.take k)=true)
  (fun i _=>l.length-(intOf i).toNat)
 case atStart=>exact ⟨0,rfl,by omega,Below.refl _ _,rfl⟩
 case round =>
  obtain ⟨k,rfl,hk,hb,hf⟩:=hrel
  by_cases hlt:k<l.length
  ·obtain ⟨b,off,rfl,c0,c1⟩:=(hE.below hb) k hlt;have hm:=hz _ (List.getElem_mem hlt)
   have hfs:Fi (l.take (k+1))=(Fi (l.take k)&&decide (l[k].1.size<=64)):=by
    unfold Fi;rw [List.take_succ_eq_append_getElem hlt,List.all_append];simp
   have HF:=jY hfs;have HFk:=jY hf;have HE:=jY hE
   have hrest:(¬ l[k].1.size<=64)->Fi l=false:=fun h=>by
    unfold Fi;rw [List.all_eq_false];exact ⟨l[k],List.getElem_mem hlt,by simpa using h⟩
   have HR:=jY hrest;generalize l[k].1=m at *;generalize l[k].2=s at *;clear hfs hf hE hrest;go_wp2
   ·go_ret;rw [HR.out (by omega)];exact ⟨rfl,hb.alloc hb.size _⟩
   ·refine ⟨⟨k+1,by go_num,hlt,hb.alloc hb.size _,?_⟩,by simp [intOf];omega⟩;rw [HF.out,HFk.out];simp;omega
  ·obtain rfl:k=l.length:=by omega
   rw [List.take_length] at hf;go_wp2;go_ret;rw [hf];exact ⟨rfl,hb⟩
def Yq(s:Int)(k:Nat):UInt8:=UInt8.ofNat ((s / 2 ^ (8*k)) % 256).toNat
def Ym(s:Int):List UInt8:=(List.range 8).map fun i=>Yq s (7-i)
def Xo(e:Ent):List UInt8:=UInt8.ofNat e.1.size :: (e.1.data.toList++Ym e.2++[UInt8.ofNat (e.1.size+9)])
theorem Xk(e:Ent):(Xo e).length=e.1.size+10:=by
 simp [Xo,Ym,Array.length_toList]
theorem Oa(s:Int)(k:Nat):((Yq s k).toNat:Int)=s / 2 ^ (8*k) % 256:=by
 unfold Yq;have h1:=Int.emod_nonneg (s / 2 ^ (8*k)) (show (256:Int)≠0 by decide);have h2:=Int.emod_lt_of_pos (s / 2 ^ (8*k)) (show (0:Int)<256 by decide);rw [UInt8.toNat_ofNat'];omega
theorem Xh(s:Int):(Ym s).length=8:=by simp [Ym]
theorem Be(s:Int)(j:Nat)(h:j<8):(Ym s).take (j+1)=(Ym s).take j++[Yq s (7-j)]:=by
 rw [List.take_succ_eq_append_getElem (by rw [Xh];exact h)];simp [Ym]
def Ps(W:World)(n0:Nat)(v:Value)(bs:List UInt8):Prop:=W.ownsRow n0 5 1 v bs.length (Lib.byteCells bs)
theorem z6z:(Tryz.prog.info? 5).map (fun i=>(i.zero,i.size,i.bytes))=some (some (.int .u8 0),1,1):=by kernel_rfl
theorem Ge{W:World}{n0:Nat}{v:Value}{bs:List UInt8}(h:Ps W n0 v bs):∃ a cap,v=.slice a bs.length cap:=by
 rcases h.2 with ⟨rfl,h0⟩|⟨g,cap,cur,rfl,_⟩
 ·exact ⟨none,0,by rw [h0]⟩
 ·exact ⟨_,_,rfl⟩
theorem Blk.row5{W W7:World}{b n0:Nat}{t:TypeId}{c:Array Value}{r:Value}{l:List UInt8}(h:Blk W b t c)(hg:W.grownBy W7 r.ownBlock)(ho:Ps W n0 r l)(ht:t≠5:=by decide):Blk W7 b t c :=
 (hg.block b h.lt (fun e=>by
   rcases ho.2 with ⟨rfl,_⟩|⟨g,cap,cur,rfl,_,hgb,_⟩
   ·simp [Value.ownBlock] at e
   ·simp [Value.ownBlock] at e;subst e
    have:=(show W.heap[b]?=_ from h).symm.trans hgb
    simp at this
    exact ht this.2)).trans h
theorem Below.row5{w W W7:World}{n0:Nat}{r:Value}{l:List UInt8}(h:Bl w W)(hg:W.grownBy W7 r.ownBlock)(ho:Ps W n0 r l)(hn:w.heap.size<=n0):Bl w W7 :=
 h.grown hg h.size (fun k e=>Nat.le_trans hn (World.ownsRow.lt ho k e).1)
theorem Mt{W:World}{n0:Nat}{v:Value}{bs:List UInt8}{n:Int}(b:UInt8)(hb:(b.toNat:Int)=n)(h:W.ownsRow n0 5 1 v (bs.length+1) (Lib.byteCells bs++[Value.int .u8 n])):Ps W n0 v (bs++[b]):=by
 unfold Ps;rw [Lib.byteCells_append,List.length_append];subst hb;exact h
theorem z8b{W:World}{n0:Nat}{v:Value}{bs:List UInt8}{s:ByteArray}(h:W.ownsRow n0 5 1 v (bs.length+s.size) (Lib.byteCells bs++Lib.strCells s)):Ps W n0 v (bs++s.data.toList):=by
 unfold Ps;rw [Lib.byteCells_append,List.length_append,Array.length_toList];exact h
theorem Bw(a:Option Addr)(cap:Nat)(l:List Ent)(hl:l.length<=1000000)(hz:∀ e∈l,e.1.size<=64)(w:World)(hE:Ents w a l) :
 Calls Tryz.prog 256 #[.slice a l.length cap] w fun e w'=>∃ v,e=.returned v/\Ps w' w.heap.size v (l.flatMap Xo)/\Bl w w':=by
 obtain ⟨i0,hi0,hz0,hz1,hz2⟩:=info_parts z6z
 have hlen:∀ k,k<=l.length->((l.take k).flatMap Xo).length<=74*k:=fun k hk=>by
  induction k with
  | zero=>simp
  | succ k ih =>
    have:=ih (by omega)
    rw [List.take_succ_eq_append_getElem (by omega),List.flatMap_append,List.length_append];have h1:=hz _ (List.getElem_mem (show k<l.length by omega));have h2:=Xk (l[k]'(by omega));simp only [List.flatMap_cons,List.flatMap_nil,List.append_nil];omega
 go_enter Tryz.func256,Tryz.ntmps256
 go_wp2
 go_loopw [3,10] (fun v i wr=>∃ (k:Nat) (ac:Option Addr) (cp:Nat),i=.int .i64 k/\k<=l.length/\Bl w wr/\v=.slice ac ((l.take k).flatMap Xo).length cp/\Ps wr w.heap.size (.slice ac ((l.take k).flatMap Xo).length cp) ((l.take k).flatMap Xo))
  (fun _ i _=>l.length-(intOf i).toNat)
 case atStart=>exact ⟨0,none,0,rfl,by omega,Below.refl _ _,rfl,World.ownsRow_nil _ _ _ _⟩
 case round =>
  obtain ⟨k,ac,cp,rfl,hk,hb,rfl,hown⟩:=hrel
  by_cases hlt:k<l.length
  ·obtain ⟨b,off,rfl,c0,c1⟩:=(hE.below hb) k hlt;have hm:=hz _ (List.getElem_mem hlt);have hbl:=hlen k hk
   have hnx:(l.take (k+1)).flatMap Xo=(l.take k).flatMap Xo++Xo l[k]:=by
    rw [List.take_succ_eq_append_getElem hlt,List.flatMap_append];simp
   have HN:=jY hnx;have HE:=jY hE;have HL:=jY hlen;generalize hent:l[k]=e at *;obtain ⟨m,s⟩:=e;simp only at c0 c1 hm;generalize (l.take k).flatMap Xo=bs at *;clear hnx hE hlen hent;have hmb:((UInt8.ofNat m.size).toNat:Int)=m.size:=by simp;omega
   have hbk:=hb.size;have hm9:(m.size:Int)<=64:=by omega
   have hm8:(0:Int)<=m.size:=by omega
   go_wp2_with (first
    | (at_builtin;refine wpList_append_own _ rfl _ _ 34 rfl w.heap.size 5 i0 _ 1 1 Tryz.underlying34 hi0 hz0 hz1 hz2 rfl (by decide) _ _ _ rfl ((World.ownsRow.alloc hown _).alloc _) ⟨wr.heap.size+1,0,none⟩ 1 1 [.int .u8 m.size] rfl rfl (by have:=cell_one_new (wr.alloc (Obj.cells #[Value.string m,Value.int IntKind.i64 s] 107)) (.int .u8 (m.size:Int)) 5;rw [World.size_alloc] at this;exact this) (by simp [Value.oneCell']) (by unfold maxLen;omega) (by omega) (by simp;omega) ?_;intro v1 w2 hown2 hgrow2 _;have hg2:((wr.alloc (Obj.cells #[Value.string m,Value.int IntKind.i64 s] 107)).alloc (Obj.cells #[Value.int IntKind.u8 m.size] 5)).grownBy w2 (Value.slice ac bs.length cp).ownBlock:=hgrow2;clear hgrow2;have ho1:Ps ((wr.alloc (Obj.cells #[Value.string m,Value.int IntKind.i64 s] 107)).alloc (Obj.cells #[Value.int IntKind.u8 m.size] 5)) w.heap.size (Value.slice ac bs.length cp) bs:=(World.ownsRow.alloc hown _).alloc _;have k2:=((Blk.new wr 107 #[Value.string m,Value.int IntKind.i64 s]).alloc (Obj.cells #[Value.int IntKind.u8 m.size] 5)).row5 hg2 ho1;have hb2:Bl w w2:=Below.row5 ((hb.alloc hb.size _).alloc (by simp;omega) _) hg2 ho1 (Nat.le_refl _);have o2:=Mt _ hmb hown2;have hb2s:=hb2.size;obtain ⟨e20,e21,_⟩:=Zd k2;clear hown ho1 hown2)
    | (at_builtin;refine Lib.wpList_append_own_string _ rfl _ _ 34 9 rfl w.heap.size 5 i0 Tryz.underlying34 Tryz.underlying9 hi0 hz0 hz1 hz2 _ _ _ rfl o2 m rfl (by unfold maxLen;simp;omega) (by simp;omega) (by omega) ?_;intro v2 w3 hown3 hgrow3 _;have hg3:w2.grownBy w3 v1.ownBlock:=hgrow3;clear hgrow3;have k3:=k2.row5 hg3 o2;have hb3:Bl w w3:=Below.row5 hb2 hg3 o2 (Nat.le_refl _);have o3:=z8b hown3;obtain ⟨e30,e31,_⟩:=Zd k3;clear hown3))
   have hb1l:(bs++[UInt8.ofNat m.size]++m.data.toList).length=bs.length+1+m.size:=by simp [Array.length_toList];show _+(m.data.size+1)=_;rw [show m.data.size=m.size from rfl];omega
   have hfin:bs++Xo (m,s)=(bs++[UInt8.ofNat m.size]++m.data.toList)++Ym s++[UInt8.ofNat (m.size+9)]:=by simp [Xo]
   rw [hfin] at HN;clear hfin;generalize bs++[UInt8.ofNat m.size]++m.data.toList=bs1 at *;have HB3:=jY hb3;clear hg2 hg3 k2 e20 e21 e30 e31 o2 hb2 hb hb3;generalize wr.heap.size=P at *
   go_loopw [3,27] (fun v i wr2=>∃ (j:Nat),i=.int .i64 j/\j<=8/\Bl w wr2/\Blk wr2 P 107 #[.string m,.int .i64 s]/\Ps wr2 w.heap.size v (bs1++(Ym s).take j))
    (fun _ i _=>8-(intOf i).toNat)
   case atStart=>exact ⟨0,rfl,by omega,HB3.out,k3,by simpa using o3⟩
   case round =>
    clear k3 o3;obtain ⟨j,rfl,hj,hb4,k4,o4⟩:=hrel;obtain ⟨e40,e41,_⟩:=Zd k4
    by_cases hj8:j<8
    ·have hj9:(j:Int)<8:=by omega
     have hj0:(0:Int)<=j:=by omega
     have hsx:=Oa s (7-j);have HX:=jY hsx;have HT:=jY (Be s j hj8)
     have hlj:(bs1++(Ym s).take j).length<=100000000:=by
      have:=List.length_take_le j (Ym s)
      rw [List.length_append];omega
     generalize hbs2:bs1++(Ym s).take j=bs2 at *;have HBS:=jY hbs2;clear hbs2;have HB4:=jY hb4;have hb4s:=hb4.size;clear hsx hb4
     go_wp2_with (at_builtin;refine wpList_append_own _ rfl _ _ 34 rfl w.heap.size 5 i0 _ 1 1 Tryz.underlying34 hi0 hz0 hz1 hz2 rfl (by decide) _ _ _ rfl (World.ownsRow.alloc o4 _) ⟨wr.heap.size,0,none⟩ 1 1 [.int .u8 (s / 2 ^ (8*(7-j)) % 256)] rfl rfl (cell_one_new _ _ _) (by simp [Value.oneCell']) (by unfold maxLen;omega) (by omega) (by simp;omega) ?_;intro v1 w2 hown2 hgrow2 _)
     have ho4:=World.ownsRow.alloc o4 (Obj.cells #[Value.int IntKind.u8 (s / 2 ^ (8*(7-j)) % 256)] 5);refine ⟨⟨j+1,by go_num,by omega,Below.row5 (HB4.out.alloc HB4.out.size _) hgrow2 ho4 (Nat.le_refl _),Blk.row5 (k4.alloc _) hgrow2 ho4,?_⟩,by simp [intOf];omega⟩;rw [HT.out,<- List.append_assoc,HBS.out];exact Mt _ HX.out hown2
    ·obtain rfl:j=8:=by omega
     rw [List.take_of_length_le (by rw [Xh];exact Nat.le_refl _)] at o4;have hl2:(bs1++Ym s).length=bs.length+m.size+9:=by rw [List.length_append,Xh];omega
     rw [show bs1++Ym s++[UInt8.ofNat (m.size+9)]=(bs1++Ym s)++[UInt8.ofNat (m.size+9)] from rfl] at HN;generalize bs1++Ym s=bs2 at *;obtain ⟨ac4,cp4,rfl⟩:=Ge o4;have hsub:(bs.length:Int)+m.size+9-bs.length=(m.size:Int)+9:=by omega
     have hbs9:bs2.length<=1000000000:=by omega
     have HB4:=jY hb4;have hb4s:=hb4.size;have hnine:((UInt8.ofNat (m.size+9)).toNat:Int)=(m.size:Int)+9:=by simp;omega
     clear hb4
     go_wp2_with (at_builtin;refine wpList_append_own _ rfl _ _ 34 rfl w.heap.size 5 i0 _ 1 1 Tryz.underlying34 hi0 hz0 hz1 hz2 rfl (by decide) _ _ _ rfl (World.ownsRow.alloc o4 _) ⟨wr.heap.size,0,none⟩ 1 1 [.int .u8 ((m.size:Int)+9)] rfl rfl (cell_one_new _ _ _) (by simp [Value.oneCell']) (by unfold maxLen;omega) (by omega) (by simp;omega) ?_;intro v1 w2 hown2 hgrow2 _)
     have ho4:=World.ownsRow.alloc o4 (Obj.cells #[Value.int IntKind.u8 ((m.size:Int)+9)] 5);have o5:=Mt _ hnine hown2;rw [<- HN.out] at o5;obtain ⟨a5,c5,rfl⟩:=Ge o5;exact ⟨⟨k+1,a5,c5,by go_num,hlt,Below.row5 (HB4.out.alloc HB4.out.size _) hgrow2 ho4 (Nat.le_refl _),rfl,o5⟩,by simp [intOf];omega⟩
  ·obtain rfl:k=l.length:=by omega
   rw [List.take_length] at hown;go_wp2;go_ret;rw [List.take_length];exact ⟨_,rfl,hown,hb⟩
def BytesAt(W:World)(g off:Nat)(l:List UInt8):Prop:=∀ (j:Nat) (u:UInt8),l[j]?=some u->W.cell? ⟨g,off+j,none⟩=some (.int .u8 (u.toNat:Int))
theorem BytesAt.below{w W:World}{g off:Nat}{l:List UInt8}(h:BytesAt w g off l)(hb:Bl w W):BytesAt W g off l:=fun j u hj =>
 (hb.cell (p:=⟨g,off+j,none⟩) (World.block_lt_of_cell? w ⟨g,off+j,none⟩ (h j u hj))).trans (h j u hj)
theorem BytesAt.cells{W:World}{g off:Nat}{l:List UInt8}(h:BytesAt W g off l):∀ j u,(Lib.byteCells l)[j]?=some u->W.cell? ((⟨g,off,none⟩:Addr).add j)=some u:=fun j u hj=>by
 unfold Lib.byteCells at hj;rw [List.getElem?_map] at hj;obtain ⟨x,hx,rfl⟩:=Option.map_eq_some_iff.1 hj;rw [Addr.add_lit];exact h j x hx
theorem Ij(l:List UInt8):∀ u∈Lib.byteCells l,u.oneCell'=true:=fun u hu=>by
 unfold Lib.byteCells at hu;obtain ⟨b,_,rfl⟩:=List.mem_map.1 hu;rfl
inductive BytesV (W:World):Value->List UInt8->Prop where
 | none (cap:Nat):BytesV W (.slice none 0 cap) []
 | some (g off cap:Nat) (l:List UInt8) (h:BytesAt W g off l):BytesV W (.slice (some ⟨g,off,none⟩) l.length cap) l
theorem BytesV.below{w W:World}{v:Value}{l:List UInt8}(h:BytesV w v l)(hb:Bl w W):BytesV W v l:=by
 cases h with
 | none cap=>exact .none cap
 | some g off cap l h=>exact .some g off cap l (h.below hb)
theorem Js{W:World}{n0:Nat}{v:Value}{l:List UInt8}(h:Ps W n0 v l):BytesV W v l:=by
 have hc:=fun g (hg:v.ownBlock=some g)=>World.ownsRow.cells h hg;rcases h.2 with ⟨rfl,h0⟩|⟨g,cap,cur,rfl,_⟩
 ·rw [List.length_eq_zero_iff.1 h0];exact .none 0
 ·refine .some g 0 cap l fun j u hj=>?_
  have:=hc g rfl j (.int .u8 (u.toNat:Int)) (by unfold Lib.byteCells;rw [List.getElem?_map,hj];rfl)
  rwa [Addr.add_lit] at this
theorem Pl{W:World}{v:Value}{l:List UInt8}(h:BytesV W v l)(h0:l=[]):(Builtin.firstCells 1 0 v).run Tryz.prog W=.ok #[] W:=by
 cases h with
 | none cap=>exact run_firstCells_none (P:=Tryz.prog) W 1 0 0 cap
 | some g off cap l h =>
   subst h0;exact run_firstCells_some (P:=Tryz.prog) W 1 0 ⟨g,off,none⟩ 0 cap [] (by simp) (fun j v hj=>by simp at hj)
theorem Dp{i0:TypeInfo}(hi0:Tryz.prog.info? 5=some i0)(hz1:i0.size=1){W:World}{y:Value}(hy:BytesV W y [])(g n c:Nat)(hnc:n<=c) :
 (Builtin.append_ #[34,34] 34 #[.slice (some ⟨g,0,none⟩) n c,y]).run Tryz.prog W=.ok (.slice (some ⟨g,0,none⟩) n c) W:=by
 have hf:=Pl hy rfl
 cases hy with
 | none cap=>simp [Builtin.append_,run_underlying Tryz.underlying34,sizeOf,typeInfo,hi0,hz1,Builtin.lenOf,hnc,hf,Addr.add_lit,storeCells]
 | some g' off cap l h =>
   simp only [List.length_nil] at hf ⊢;simp [Builtin.append_,run_underlying Tryz.underlying34,sizeOf,typeInfo,hi0,hz1,Builtin.lenOf,hnc,hf,Addr.add_lit,storeCells]
inductive Dest (W:World) (n0:Nat):Value->List UInt8->Prop where
 | full (g:Nat) (l:List UInt8) (h:BytesAt W g 0 l):Dest W n0 (.slice (some ⟨g,0,none⟩) l.length l.length) l
 | own (v:Value) (l:List UInt8) (h:Ps W n0 v l):Dest W n0 v l
theorem Do{i0:TypeInfo}(hi0:Tryz.prog.info? 5=some i0)(hz0:i0.zero=some (.int .u8 0))(hz1:i0.size=1)(hz2:i0.bytes=1){W:World}{n0:Nat}{v y:Value}{l m:List UInt8}(hd:Dest W n0 v l)(hy:BytesV W y m)(hl:l.length<=100000000)(hm:m.length<=100000000)(hn:n0<=W.heap.size)(hl0:l≠[]) :
 ∃ v' W',(Builtin.append_ #[34,34] 34 #[v,y]).run Tryz.prog W=.ok v' W'/\Dest W' n0 v' (l++m)/\Below n0 W W':=by
 have room (g c:Nat) (hlc:l.length<=c) (hy:BytesV W y m) (hm0:m=[]):=Dp hi0 hz1 (show BytesV W y [] by rw [<- hm0];exact hy) g l.length c hlc
 by_cases hm0:m=[]
 ·subst hm0;rw [List.append_nil]
  cases hd with
  | full g l h=>exact ⟨_,_,room g _ (Nat.le_refl _) hy rfl,.full g l h,Below.refl _ _⟩
  | own v l h =>
    rcases h.2 with ⟨rfl,h0⟩|⟨g,cap,cur,rfl,_,_,hc,_⟩
    ·exact absurd (List.length_eq_zero_iff.1 h0) hl0
    ·exact ⟨_,_,room g _ hc hy rfl,.own _ l h,Below.refl _ _⟩
 ·cases hy with
  | none cap=>exact absurd rfl hm0
  | some ga off cap m ha =>
    have hml:0<m.length:=List.length_pos_iff.2 hm0
    cases hd with
    | full g l h =>
      obtain ⟨v',W',hrun,r1,r2⟩:=run_append_arg_grows (P:=Tryz.prog) W 34 34 5 i0 _ 1 1 Tryz.underlying34 hi0 hz0 hz1 hz2 rfl (by decide) ⟨g,0,none⟩ l.length l.length (Lib.byteCells l) (by rw [Lib.byteCells_length];omega) (fun j u hj=>by have:=h.cells j u hj;exact this) ⟨ga,off,none⟩ m.length cap (Lib.byteCells m) (by rw [Lib.byteCells_length];omega) (fun j u hj=>ha.cells j u hj) (by omega) (by unfold maxLen;omega) (by omega);have hb:Bl W W':=⟨r2.os,r2.tape,r2.output,r2.size,fun k hk=>r2.block k hk (by simp)⟩;refine ⟨v',W',hrun,.own _ _ ?_,hb.mono hn⟩;unfold Ps;rw [Lib.byteCells_append,List.length_append];exact Uq r1 hn
    | own v l h =>
      obtain ⟨v',W',hrun,r1,r2,_⟩:=run_append_own (P:=Tryz.prog) W n0 34 34 5 i0 _ 1 1 Tryz.underlying34 hi0 hz0 hz1 hz2 rfl (by decide) v _ _ h ⟨ga,off,none⟩ m.length cap (Lib.byteCells m) (by rw [Lib.byteCells_length];omega) (fun j u hj=>ha.cells j u hj) (Ij m) (by unfold maxLen;omega) (by omega) hn;refine ⟨v',W',hrun,.own _ _ ?_,⟨r2.os,r2.tape,r2.output,r2.size,fun k hk=>r2.block k (by omega) (fun e=>?_)⟩⟩
      ·unfold Ps;rw [Lib.byteCells_append,List.length_append];exact r1
      ·have:=(World.ownsRow.lt h k e.symm).1;omega
theorem z6a{i0:TypeInfo}(hi0:Tryz.prog.info? 5=some i0)(hz0:i0.zero=some (.int .u8 0))(hz1:i0.size=1)(hz2:i0.bytes=1){W:World}{g:Nat}{y:Value}{l m:List UInt8}(hd:BytesAt W g 0 l)(hy:BytesV W y m)(hl:l.length<=100000000)(hm:m.length<=100000000)(hl0:l≠[]) :
 ∃ v' W',(Builtin.append_ #[34,34] 34 #[.slice (some ⟨g,0,none⟩) l.length l.length,y]).run Tryz.prog W=.ok v' W'/\Dest W' W.heap.size v' (l++m)/\Bl W W' :=
 Do hi0 hz0 hz1 hz2 (.full g l hd) hy hl hm (Nat.le_refl _) hl0
theorem Dest.bytes{W:World}{n0:Nat}{v:Value}{l:List UInt8}(h:Dest W n0 v l):BytesV W v l:=by
 cases h with
 | full g l h=>exact .some g 0 _ l h
 | own v l h=>exact Js h
theorem z8t(W:World)(v:Value)(l:List UInt8)(h:BytesV W v l):(convert 34 9 v).run Tryz.prog W=.ok (.string ⟨l.toArray⟩) W:=by
 cases h with
 | none cap=>exact Lib.run_convert_nil_bytes (P:=Tryz.prog) W 34 9 5 cap Tryz.underlying34 Tryz.underlying5 Tryz.underlying9
 | some g off cap l h =>
   refine run_convert_bytes_back (P:=Tryz.prog) W 34 9 5 ⟨g,off,none⟩ cap l Tryz.underlying34 Tryz.underlying5 Tryz.underlying9 fun j hj=>?_;rw [Addr.add_lit];exact h j _ (List.getElem?_eq_getElem hj)
theorem z4o(w:World)(p:ByteArray)(C:Nat)(hC:p.size<=C) :
 BytesAt (w.drew.alloc (.cells (bytesRow p C) 5 ((bytesRow p C).size,(bytesRow p C).size+1))) w.heap.size 0 p.data.toList /\
 ∀ j,j<p.size->(w.drew.alloc (.cells (bytesRow p C) 5 ((bytesRow p C).size,(bytesRow p C).size+1))).frozen? ⟨w.heap.size,j,none⟩=false:=by
 refine ⟨fun j u hj=>?_,fun j hj=>?_⟩
 ·obtain ⟨hl,rfl⟩:=List.getElem?_eq_some_iff.1 hj
  have:=World.cell?_alloc_mark w.drew (bytesRow p C) 5 ((bytesRow p C).size,(bytesRow p C).size+1) j
  rw [show w.drew.heap.size=w.heap.size from rfl] at this;rw [Nat.zero_add,this,bytesRow_at p C j (by simpa using hl)];simp
 ·have:=World.frozen?_alloc_mark w.drew (bytesRow p C) 5 (bytesRow p C).size ((bytesRow p C).size+1) j
  rw [show w.drew.heap.size=w.heap.size from rfl] at this;rw [this]
  have hs:(bytesRow p C).size=C:=by
   unfold bytesRow
   have:p.data.size=p.size:=rfl
   simp;omega
  rw [hs];simp;omega
theorem z8k(w1:World)(g:Nat)(q:List UInt8)(hq:2<=q.length)(hR:BytesAt w1 g 0 q)(hf:∀ j,j<q.length->w1.frozen? ⟨g,j,none⟩=false)(x y:UInt8)(vx vy:Int)(hx:(x.toNat:Int)=vx)(hy:(y.toNat:Int)=vy)(C:Nat) :
 ∃ W2,(Builtin.copy_ #[34,34] 3 #[.slice (some ⟨g,0,none⟩) q.length C,.slice (some ⟨w1.heap.size,0,none⟩) 2 2]).run Tryz.prog (w1.alloc (.cells #[.int .u8 vx,.int .u8 vy] 5))=.ok (goInt 2) W2 /\
  BytesAt W2 g 0 (x :: y :: q.drop 2)/\∀ n,n<=g->n<=w1.heap.size->Below n w1 W2:=by
 obtain ⟨i0,hi0,hz0,hz1,hz2⟩:=info_parts z6z;have hB:=Blk.new w1 5 #[.int .u8 vx,.int .u8 vy];have hb:=(Below.refl w1.heap.size w1).alloc (Nat.le_refl _) (Obj.cells #[.int .u8 vx,.int .u8 vy] 5);have hg:g<w1.heap.size:=World.block_lt_of_cell? w1 ⟨g,0+0,none⟩ (hR 0 q[0] (List.getElem?_eq_getElem _))
 have hrun:=run_copy_cells (P:=Tryz.prog) (w1.alloc (.cells #[.int .u8 vx,.int .u8 vy] 5)) 34 34 3 5 g 0 q.length C ⟨w1.heap.size,0,none⟩ 2 2 [.int .u8 vx,.int .u8 vy] Tryz.underlying34 (by rw [hi0];simp [hz1]) (by simp [Nat.min_def];omega)
  (fun j v hj=>by
    match j,hj with
    | 0,hj=>simp at hj;subst hj;exact hB.cell 0
    | 1,hj=>simp at hj;subst hj;rw [Addr.add_lit];exact hB.cell 1
    | j+2,hj=>simp at hj)
  (fun j hj=>by
    have hj2:j<q.length:=by simp at hj;omega
    rw [(hR.below hb) j q[j] (List.getElem?_eq_getElem hj2)];rfl)
  (fun j hj=>by
    have hj2:j<q.length:=by simp at hj;omega
    rw [Nat.zero_add]
    exact (hb.frozen (p:=⟨g,j,none⟩) hg).trans (hf j hj2))
  (by simp [Value.oneCell'])
 refine ⟨_,hrun,fun j u hj=>?_,fun n hn hn1=>?_⟩
 ·match j,hj with
  | 0,hj =>
    simp at hj;subst hj
    have:=World.cell?_setCells_in g [.int .u8 vx,.int .u8 vy] 0 (w1.alloc (.cells #[.int .u8 vx,.int .u8 vy] 5)) (fun i hi=>by
     have hj2:i<q.length:=by simp at hi;omega
     rw [(hR.below hb) i q[i] (List.getElem?_eq_getElem hj2)];rfl) 0 (by simp)
    rw [this,hx];rfl
  | 1,hj =>
    simp at hj;subst hj
    have:=World.cell?_setCells_in g [.int .u8 vx,.int .u8 vy] 0 (w1.alloc (.cells #[.int .u8 vx,.int .u8 vy] 5)) (fun i hi=>by
     have hj2:i<q.length:=by simp at hi;omega
     rw [(hR.below hb) i q[i] (List.getElem?_eq_getElem hj2)];rfl) 1 (by simp)
    rw [this,hy];rfl
  | j+2,hj =>
    rw [World.cell?_setCells_out g _ 0 _ ⟨g,0+(j+2),none⟩ (fun _ _=>.inr (by simp))];refine (hR.below hb) (j+2) u ?_;simp only [List.getElem?_cons_succ,List.getElem?_drop] at hj
    rwa [Nat.add_comm] at hj
 ·have h1:=((Below.refl n w1).alloc hn1 (Obj.cells #[.int .u8 vx,.int .u8 vy] 5));exact (h1.setCell (p:=⟨g,0,none⟩) hn _).setCell (p:=⟨g,0+1,none⟩) hn _
def z8j(p:ByteArray)(N fr to:Nat)(bs:List UInt8):List UInt8:=(UInt8.ofNat (N / 256) :: UInt8.ofNat N :: p.data.toList.drop 2).take fr++bs++p.data.toList.drop to
theorem Xr{P:Program}{w:World}{ops:Array Oper}{rest:List Oper}{o:Oper}{a:Act}{Q:Exit->Act->World->Prop}{v xv v':Value}{w':World}(hgd:o.guard=none)(s x:Operand)(t u:TypeId)
 (ho:o.op=Op.call { callee:=Callee.builtin Builtin.append,args:=#[s,x],argTypes:=#[t,u] }) (hs:a.eval s=v) (hx:a.eval x=xv) (hrun:(Builtin.append_ #[t,u] o.type #[v,xv]).run P w=.ok v' w')
 (h:wpList P ops Q rest (a.put o.dst v') w'):wpList P ops Q (o :: rest) a w:=by
 refine wpList_plain hgd fun K hK=>?_;unfold Oper.wp;simp [execOp,ho,resolve,invoke,builtin,hs,hx,hrun,Result.andThen];exact hK _ _ h
theorem M5(p:ByteArray)(h2:2<=p.size)(hp:p.size<=1000000)(more:Int)(N:Nat)(hN:Zt p+more=N)(hN2:N<=60000)(fr to:Nat)(hf:2<=fr)(hft:fr<=to)(hto:to<=p.size)(y:Value)(bs:List UInt8)(hbs:bs.length<=1000000)(w:World)(hy:BytesV w y bs) :
 Calls Tryz.prog 251 #[.string p,.int .i64 more,.int .i64 fr,.int .i64 to,y] w fun e w'=>e=.returned (.string ⟨(z8j p N fr to bs).toArray⟩)/\Bl w w':=by
 obtain ⟨i0,hi0,hz0,hz1,hz2⟩:=info_parts z6z;have hcv:=run_bytes_of_string (P:=Tryz.prog) w 9 34 5 p Tryz.underlying9 Tryz.underlying34 Tryz.underlying5;have hge:=grownCap_ge w p.size 0 5;have hgm:=grownCap_le_maxLen w p.size 0 5 (by unfold maxLen;omega);obtain ⟨r1,r2⟩:=z4o w p (grownCap w p.size 0 5) hge;generalize grownCap w p.size 0 5=C at *;have HC:=fun w=>jY (Qz p (by omega) w);have hb0:Bl w (w.drew.alloc (.cells (bytesRow p C) 5 ((bytesRow p C).size,(bytesRow p C).size+1))):=(Below.refl w.heap.size w).drew.alloc (Nat.le_refl _) _;have hsz0:(w.drew.alloc (.cells (bytesRow p C) 5 ((bytesRow p C).size,(bytesRow p C).size+1))).heap.size=w.heap.size+1:=by simp
 generalize w.drew.alloc (.cells (bytesRow p C) 5 ((bytesRow p C).size,(bytesRow p C).size+1))=w0 at *;have hfrz:∀ (W:World),Bl w0 W->∀ j,j<p.size->W.frozen? ⟨w.heap.size,j,none⟩=false:=fun W hW j hj=>(hW.frozen (p:=⟨w.heap.size,j,none⟩) (by simp;omega)).trans (r2 j hj);have HF:=jY hfrz;have HY:=jY hy;have HR:=jY r1;have HP:=jY (show z8j p N fr to bs=_ from rfl);generalize hps:z8j p N fr to bs=out at *;have hlen:p.data.toList.length=p.size:=Yy p;clear r1 r2 hfrz hy;unfold maxLen at hgm
 go_enter Tryz.func251,Tryz.ntmps251
 go_wp2_with fail;refine (HC _).out.mono ?_;rintro e w1 ⟨rfl,hb1⟩;have hx:((UInt8.ofNat (N / 256)).toNat:Int)=(N:Int) / 256:=by simp;omega
 have hyy:((UInt8.ofNat N).toNat:Int)=(N:Int) % 256:=by simp
 obtain ⟨W2,hcopy,hW2,hbW2⟩:=z8k w1 w.heap.size p.data.toList (by omega) (HR.out.below hb1) (fun j hj=>HF.out w1 hb1 j (by omega)) _ _ _ _ hx hyy C;rw [hlen] at hcopy;have hb1s:=hb1.size;have hbW:Bl w W2:=(hb0.trans (hb1.mono (by omega))).trans (hbW2 _ (Nat.le_refl _) (by omega));have hyW:BytesV W2 y bs:=HY.out.below hbW;have HBW:=jY hbW;have HYW:=jY hyW;have HW2:=jY hW2;have hN9:(N:Int)<=60000:=by omega
 have hN8:(0:Int)<=N:=by omega
 clear hb1 hbW2 hbW hyW hW2 hx hyy;have f1:(fr:Int)<=C:=by omega
 have f2:(to:Int)<=p.size:=by omega
 have f3:(p.size:Int)<=C:=by omega
 have f4:(0:Int)<=fr:=by omega
 have f5:(0:Int)<=to:=by omega
 have f6:(to:Int)<=C:=by omega
 go_wp2
 go_quiet (fail)
 have hhead:∀ j,to<=j->(UInt8.ofNat (N / 256) :: UInt8.ofNat N :: List.drop 2 p.data.toList)[j]?=p.data.toList[j]?:=fun j hj=>by
  obtain ⟨i,rfl⟩:∃ i,j=i+2:=⟨j-2,by omega⟩;simp only [List.getElem?_cons_succ,List.getElem?_drop];rw [Nat.add_comm]
 have hheadl:(UInt8.ofNat (N / 256) :: UInt8.ofNat N :: List.drop 2 p.data.toList).length=p.size:=by
  simp only [List.length_cons,List.length_drop,hlen];omega
 have hW3:BytesAt (W2.drewN nq) w.heap.size 0 (UInt8.ofNat (N / 256) :: UInt8.ofNat N :: List.drop 2 p.data.toList):=HW2.out;have hY3:BytesV (W2.drewN nq) y bs:=HYW.out.below ⟨rfl,rfl,rfl,Nat.le_refl _,fun _ _=>rfl⟩;have hB3:Bl w (W2.drewN nq):=HBW.out.trans ⟨rfl,rfl,rfl,Nat.le_refl _,fun _ _=>rfl⟩;generalize W2.drewN nq=W3 at *
 have hbeh:BytesV W3 (.slice (if C=to then some { block:=w.heap.size,off:=0 } else some { block:=w.heap.size,off:=to }) (p.size-to) (C-to)) (p.data.toList.drop to):=by
  have hl:(p.data.toList.drop to).length=p.size-to:=by rw [List.length_drop,hlen]
  rw [<- hl]
  split
  ·refine .some _ 0 _ _ fun j u hj=>?_
   have:=(List.getElem?_eq_some_iff.1 hj).1
   omega
  ·refine .some _ to _ _ fun j u hj=>?_;rw [List.getElem?_drop] at hj
   have:=hW3 (to+j) u (by rw [hhead _ (by omega)];exact hj)
   rwa [Nat.zero_add] at this
 generalize (if C=to then some ({ block:=w.heap.size,off:=0 }:Addr) else some { block:=w.heap.size,off:=to })=ba at *;have hfl:((UInt8.ofNat (N / 256) :: UInt8.ofNat N :: List.drop 2 p.data.toList).take fr).length=fr:=by rw [List.length_take,hheadl];omega
 have hfull:BytesAt W3 w.heap.size 0 ((UInt8.ofNat (N / 256) :: UInt8.ofNat N :: List.drop 2 p.data.toList).take fr):=fun j u hj=>by
  have hjl:=(List.getElem?_eq_some_iff.1 hj).1;rw [List.getElem?_take,if_pos (by omega)] at hj;exact hW3 j u hj
 have houtd:out=(UInt8.ofNat (N / 256) :: UInt8.ofNat N :: List.drop 2 p.data.toList).take fr++bs++p.data.toList.drop to:=by rw [<- hps];rfl
 generalize (UInt8.ofNat (N / 256) :: UInt8.ofNat N :: List.drop 2 p.data.toList).take fr=hd at *;obtain ⟨v4,W4,hrun4,hd4,hb4⟩:=z6a hi0 hz0 hz1 hz2 hfull hY3 (by omega) (by omega) (fun e=>by rw [e] at hfl;simp at hfl;omega)
 obtain ⟨v5,W5,hrun5,hd5,hb5⟩:=Do hi0 hz0 hz1 hz2 hd4 (hbeh.below hb4) (by rw [List.length_append];omega) (by rw [List.length_drop,hlen];omega) hb4.size (fun e=>by
  have:=congrArg List.length e
  rw [List.length_append] at this;simp at this;have h1:=this.1;rw [h1] at hfl;simp at hfl
  omega)
 rw [hfl] at hrun4;have hback:=z8t W5 v5 _ hd5.bytes;rw [<- houtd] at hback;have HO:=jY (hB3.trans ((hb4.mono hB3.size).trans (hb5.mono hB3.size)));clear hfull hbeh hW3 hY3 hB3 hhead hd4 hd5 hb4 hb5 hps houtd hfl hheadl
 go_wp2_with (first|(at_builtin;refine Xr rfl _ _ 34 34 rfl rfl rfl hrun4 ?_;clear hrun4)|(at_builtin;refine Xr rfl _ _ 34 34 rfl rfl rfl hrun5 ?_))
 go_ret;exact ⟨rfl,HO.out⟩
end Go.Proofs.YtmehfohpjigmmaaGreatDoor.Pk
namespace Go.Proofs.YtmehfohpjigmmaaGreatDoor.Pk
open Zc
open Go.RowKit Go.Shelf
theorem Ic(n t:Int):wrap64 (n+18446744073709551616*t)=wrap64 n:=by
 unfold wrap64;rw [show n+18446744073709551616*t+9223372036854775808=(n+9223372036854775808)+18446744073709551616*t by omega,Int.add_mul_emod_self_left]
theorem Gx(n:Int):∃ t,wrap64 n=n+18446744073709551616*t:=by
 refine ⟨-((n+9223372036854775808) / 18446744073709551616),?_⟩;unfold wrap64
 have:=Int.emod_add_mul_ediv (n+9223372036854775808) 18446744073709551616
 omega
theorem z5u(a b:Int):wrap64 (wrap64 a*256+b)=wrap64 (a*256+b):=by
 obtain ⟨t,ht⟩:=Gx a;rw [ht,show (a+18446744073709551616*t)*256+b=(a*256+b)+18446744073709551616*(t*256) by omega,Ic]
theorem y2g{n:Int}(h:-9223372036854775808<=n/\n<=9223372036854775807):wrap64 n=n:=IntWalk.wrap64_in n h
def Bq(m:Int)(b:UInt8):Int:=wrap64 (m*256+b.toNat)
theorem z1r(b:UInt8):Bq 0 b=wrap64 (b.toNat:Int):=by unfold Bq;rw [Int.zero_mul,Int.zero_add]
theorem z1q(a:Int)(b:UInt8):Bq (wrap64 a) b=wrap64 (a*256+b.toNat):=z5u a (b.toNat:Int)
theorem Ki(l:List UInt8):Xd l=l.foldl Bq 0:=rfl
theorem Iz:∀ (l:List UInt8) (a:Int),l.foldl Bq (wrap64 a)=wrap64 (l.foldl (fun m b=>m*256+(b.toNat:Int)) a)
 | [],_=>rfl
 | b :: l,a=>by rw [List.foldl_cons,z1q,Iz l,List.foldl_cons]
theorem M7(a b c d e f g h:UInt8):Xd [a,b,c,d,e,f,g,h]=wrap64 (((((((((a.toNat:Int)*256+b.toNat)*256+c.toNat)*256+d.toNat)*256+e.toNat)*256+f.toNat)*256+g.toNat)*256+h.toNat)):=by
 rw [Ki,List.foldl_cons,z1r,Iz]
 congr 1
theorem Yo(s:Int)(k:Nat):s / 2 ^ (8*(k+1))=s / 2 ^ (8*k) / 256:=by
 rw [Int.ediv_ediv_of_nonneg (Int.le_of_lt (Int.pow_pos (by decide))),show 8*(k+1)=8*k+8 by omega,Int.pow_add];rfl
theorem Ip(s:Int)(h:-9223372036854775808<=s/\s<=9223372036854775807):Xd (Ym s)=s:=by
 have hs:Ym s=[Yq s 7,Yq s 6,Yq s 5,Yq s 4,Yq s 3,Yq s 2,Yq s 1,Yq s 0]:=rfl;rw [hs,M7];simp only [Oa];have h0:s / 2 ^ (8*0)=s:=by simp
 have h1:=Yo s 0;have h2:=Yo s 1;have h3:=Yo s 2;have h4:=Yo s 3;have h5:=Yo s 4;have h6:=Yo s 5;have h7:=Yo s 6;simp only [Nat.reduceAdd] at h1 h2 h3 h4 h5 h6 h7;rw [h0] at h1 ⊢;generalize s / 2 ^ (8 * 1)=d1 at *;generalize s / 2 ^ (8 * 2)=d2 at *;generalize s / 2 ^ (8 * 3)=d3 at *;generalize s / 2 ^ (8 * 4)=d4 at *;generalize s / 2 ^ (8 * 5)=d5 at *;generalize s / 2 ^ (8 * 6)=d6 at *;generalize s / 2 ^ (8 * 7)=d7 at *;have e0:=Int.emod_add_mul_ediv s 256;have e1:=Int.emod_add_mul_ediv d1 256;have e2:=Int.emod_add_mul_ediv d2 256;have e3:=Int.emod_add_mul_ediv d3 256;have e4:=Int.emod_add_mul_ediv d4 256;have e5:=Int.emod_add_mul_ediv d5 256;have e6:=Int.emod_add_mul_ediv d6 256;have e7:=Int.emod_add_mul_ediv d7 256;rw [<- h1] at e0;rw [<- h2] at e1;rw [<- h3] at e2;rw [<- h4] at e3;rw [<- h5] at e4;rw [<- h6] at e5;rw [<- h7] at e6;generalize d7 / 256=t at *;generalize s % 256=r0 at *;generalize d1 % 256=r1 at *;generalize d2 % 256=r2 at *;generalize d3 % 256=r3 at *;generalize d4 % 256=r4 at *;generalize d5 % 256=r5 at *;generalize d6 % 256=r6 at *;generalize d7 % 256=r7 at *;clear h1 h2 h3 h4 h5 h6 h7 hs h0;rw [show (((((((r7*256+r6)*256+r5)*256+r4)*256+r3)*256+r2)*256+r1)*256+r0)=s+18446744073709551616*(-t) by omega,Ic,y2g h]
theorem X1(b:UInt8):0<=(b.toNat:Int)/\(b.toNat:Int)<256:=by have:=UInt8.toNat_lt b;omega
theorem Xm{s:Int}{k:Nat}{b:UInt8}(h:s / 2 ^ (8*k) % 256=b.toNat):Yq s k=b:=by
 apply UInt8.toNat_inj.1
 have:=Oa s k
 omega
theorem Io(l:List UInt8)(h:l.length=8):Ym (Xd l)=l:=by
 match l,h with
 | [a,b,c,d,e,f,g,i],_ =>
   rw [M7];have ha:=X1 a;have hb:=X1 b;have hc:=X1 c;have hd:=X1 d;have he:=X1 e;have hf:=X1 f;have hg:=X1 g;have hi:=X1 i;generalize hV:(((((((a.toNat:Int)*256+b.toNat)*256+c.toNat)*256+d.toNat)*256+e.toNat)*256+f.toNat)*256+g.toNat)*256+i.toNat=V;obtain ⟨t,ht⟩:=Gx V;rw [ht];generalize hS:V+18446744073709551616*t=S;have h0:S / 2 ^ (8*0)=S:=by simp
   have h1:=Yo S 0;have h2:=Yo S 1;have h3:=Yo S 2;have h4:=Yo S 3;have h5:=Yo S 4;have h6:=Yo S 5;have h7:=Yo S 6;simp only [Nat.reduceAdd] at h1 h2 h3 h4 h5 h6 h7;rw [h0] at h1;have q1:S / 2 ^ (8*1)=((((((a.toNat:Int)*256+b.toNat)*256+c.toNat)*256+d.toNat)*256+e.toNat)*256+f.toNat)*256+g.toNat+72057594037927936*t:=by rw [h1];omega
   have q2:S / 2 ^ (8*2)=(((((a.toNat:Int)*256+b.toNat)*256+c.toNat)*256+d.toNat)*256+e.toNat)*256+f.toNat+281474976710656*t:=by rw [h2,q1];omega
   have q3:S / 2 ^ (8*3)=((((a.toNat:Int)*256+b.toNat)*256+c.toNat)*256+d.toNat)*256+e.toNat+1099511627776*t:=by rw [h3,q2];omega
   have q4:S / 2 ^ (8*4)=(((a.toNat:Int)*256+b.toNat)*256+c.toNat)*256+d.toNat+4294967296*t:=by rw [h4,q3];omega
   have q5:S / 2 ^ (8*5)=((a.toNat:Int)*256+b.toNat)*256+c.toNat+16777216*t:=by rw [h5,q4];omega
   have q6:S / 2 ^ (8*6)=(a.toNat:Int)*256+b.toNat+65536*t:=by rw [h6,q5];omega
   have q7:S / 2 ^ (8*7)=(a.toNat:Int)+256*t:=by rw [h7,q6];omega
   show [Yq S 7,Yq S 6,Yq S 5,Yq S 4,Yq S 3,Yq S 2,Yq S 1,Yq S 0]=_
   rw [Xm (b:=a) (k:=7) (by rw [q7];omega),Xm (b:=b) (k:=6) (by rw [q6];omega),Xm (b:=c) (k:=5) (by rw [q5];omega),Xm (b:=d) (k:=4) (by rw [q4];omega),
    Xm (b:=e) (k:=3) (by rw [q3];omega),Xm (b:=f) (k:=2) (by rw [q2];omega),Xm (b:=g) (k:=1) (by rw [q1];omega),Xm (b:=i) (k:=0) (by rw [h0];omega)]
def Kd(l:List Ent):List UInt8:=UInt8.ofNat (l.length / 256) :: UInt8.ofNat l.length :: l.flatMap Xo
def Zv(l:List Ent):ByteArray:=⟨(Kd l).toArray⟩
theorem Ur(l:List Ent):(Zv l).data.toList=Kd l:=rfl
theorem Og(p:ByteArray)(k:Nat)(h:k<p.data.toList.length):p.data.toList[k]=UInt8.ofNat (Yg p k):=by
 unfold Yg;rw [List.getD_eq_getElem?_getD,List.getElem?_eq_getElem h];simp
theorem Bn(l:List UInt8)(a n:Nat):l.drop a=(l.drop a).take n++l.drop (a+n):=by
 rw [<- List.drop_drop,List.take_append_drop]
theorem Ds{p:ByteArray}{k:Nat}{c:Cut}(h:Zs p k=some c)(hb:Yg p (c.to-1)=c.m.size+9):p.data.toList.drop k=Xo c.ent++p.data.toList.drop c.to:=by
 obtain ⟨h2,hf,ht,hs,h64,hm,hms,hsc⟩:=Yh h;generalize hn:Yg p k=n at *;have hl:=Yy p
 have d1:p.data.toList.drop k=UInt8.ofNat n :: p.data.toList.drop (k+1):=by
  rw [List.drop_eq_getElem_cons (show k<p.data.toList.length by omega),Og,hn]
 have d2:p.data.toList.drop (k+1)=c.m.data.toList++p.data.toList.drop (k+1+n):=by
  rw [hm,Jc];exact Bn _ _ _
 have d3:p.data.toList.drop (k+1+n)=Ym c.s++p.data.toList.drop (k+1+n+8):=by
  rw [hsc,Io _ (by rw [List.length_take,List.length_drop];omega)];exact Bn _ _ _
 have d4:p.data.toList.drop (k+1+n+8)=UInt8.ofNat (c.m.size+9) :: p.data.toList.drop c.to:=by
  have hk:k+1+n+8=c.to-1:=by omega
  rw [hk,List.drop_eq_getElem_cons (show c.to-1<p.data.toList.length by omega),show c.to-1+1=c.to by omega,Og,hb]
 rw [d1,d2,d3,d4];unfold Xo Cut.ent;simp [hms]
theorem P0{p:ByteArray}{cs:List Cut}(h:IsPack p cs):∀ (m i:Nat),i+m=cs.length->p.data.toList.drop (Zx cs i)=((cs.drop i).map Cut.ent).flatMap Xo
 | 0,i,hi=>by
   rw [show i=cs.length by omega,h.ends,List.drop_length,List.drop_of_length_le (by rw [Yy];exact Nat.le_refl _)];rfl
 | m+1,i,hi=>by
   have hx:cs[i]?=some (cs[i]'(by omega)):=List.getElem?_eq_getElem (by omega);have hb:=(U4 h.chain i (by omega)).trans hx;have he:=(P4 hb).1 (h.each _ (List.getElem_mem _)).2.2.2.2;rw [Ds hb he,List.drop_eq_getElem_cons (show i<cs.length by omega),List.map_cons,List.flatMap_cons,<- P0 h m (i+1) (by omega),show Zx cs (i+1)=(cs[i]'(by omega)).to by simp [Zx,hx]]
theorem z5l{p:ByteArray}{n:Nat}(h:Zt p=n):p.data.toList.take 2=[UInt8.ofNat (n / 256),UInt8.ofNat n]:=by
 unfold Zt at h
 split at h
 ·omega
 ·next h2 =>
  split at h
  ·omega
  ·have hl:=Yy p;have l0:=Vh p 0;have l1:=Vh p 1;have hn:n=Yg p 0*256+Yg p 1:=by omega
   obtain ⟨l,hl2⟩:∃ l,l=p.data.toList:=⟨_,rfl⟩;have b0:Yg p 0=(l.getD 0 0).toNat:=by rw [hl2];rfl
   have b1:Yg p 1=(l.getD 1 0).toNat:=by rw [hl2];rfl
   rw [<- hl2] at hl ⊢
   match l,hl with
   | a :: b :: r,_ =>
     simp at b0 b1;have ha:=UInt8.toNat_lt a;have hb:=UInt8.toNat_lt b;simp only [List.take_succ_cons,List.take_zero];rw [show UInt8.ofNat (n / 256)=a by apply UInt8.toNat_inj.1;simp;omega,show UInt8.ofNat n=b by apply UInt8.toNat_inj.1;simp;omega]
   | [a],hl=>simp at hl;omega
   | [],hl=>simp at hl;omega
theorem Gj{p:ByteArray}{cs:List Cut}(h:IsPack p cs):p=Zv (cs.map Cut.ent):=by
 apply z6f
 rw [Ur,<- List.take_append_drop 2 p.data.toList,z5l h.count]
 have:=P0 h cs.length 0 (by omega)
 rw [show Zx cs 0=2 from rfl] at this;rw [this];simp [Kd]
theorem z5h{p:ByteArray}{cs:List Cut}(h:IsPack p cs)(i:Nat)(hi:i<=cs.length):(p.data.toList.take (Zx cs i))=UInt8.ofNat (cs.length / 256) :: UInt8.ofNat cs.length :: ((cs.take i).map Cut.ent).flatMap Xo:=by
 have h1:=P0 h (cs.length-i) i (by omega);have h2:=List.take_append_drop (Zx cs i) p.data.toList;have h3:p.data.toList=Kd (cs.map Cut.ent):=by rw [<- Ur,<- Gj h]
 rw [h1] at h2;refine List.append_cancel_right (bs:=((cs.drop i).map Cut.ent).flatMap Xo) ?_;rw [h2,h3];simp only [Kd,List.length_map,List.cons_append];rw [<- List.flatMap_append,<- List.map_append,List.take_append_drop]
theorem B8{p:ByteArray}{cs:List Cut}(h:IsPack p cs)(i j:Nat)(hij:i<=j)(hj:j<=cs.length)(N:Nat)(l:List Ent)(hN:N=(cs.take i).length+l.length+(cs.drop j).length) :
 z8j p N (Zx cs i) (Zx cs j) (l.flatMap Xo)=Kd ((cs.take i).map Cut.ent++l++(cs.drop j).map Cut.ent):=by
 have h2:2<=Zx cs i:=by
  cases i with
  | zero=>exact Nat.le_refl _
  | succ i =>
    have hx:cs[i]?=some (cs[i]'(by omega)):=List.getElem?_eq_getElem (by omega);rw [show Zx cs (i+1)=(cs[i]'(by omega)).to by simp [Zx,hx]];exact (h.each _ (List.getElem_mem _)).2.1
 have ht:=z5h h i (by omega);have hd:=P0 h (cs.length-j) j (by omega);unfold z8j;rw [hd];obtain ⟨e,he⟩:∃ e,Zx cs i=e+2:=⟨Zx cs i-2,by omega⟩;rw [he] at ht ⊢;have hl:=Yy p;have h2p:=h.two
 have ht2:(p.data.toList.drop 2).take e=((cs.take i).map Cut.ent).flatMap Xo:=by
  have:=congrArg (List.drop 2) ht
  rw [List.drop_take] at this
  simpa using this
 simp only [List.take_succ_cons,ht2];unfold Kd;have hlen:((cs.take i).map Cut.ent++l++(cs.drop j).map Cut.ent).length=N:=by simp only [List.length_append,List.length_map];omega
 rw [hlen];simp [List.flatMap_append]
def Yl(s:Int):Prop:=-9223372036854775808<=s/\s<=9223372036854775807
theorem Ku{l a b:List UInt8}{k:Nat}(h:l.drop k=a++b)(n:Nat)(hn:a.length=n):l.drop (k+n)=b:=by
 rw [<- List.drop_drop,h,<- hn,List.drop_left]
theorem z6i{p:ByteArray}{k:Nat}{e:Ent}{rest:List UInt8}(hk:2<=k)(hd:p.data.toList.drop k=Xo e++rest)(h64:e.1.size<=64)(hs:Yl e.2) :
 Zs p k=some ⟨e.1,e.2,k,k+e.1.size+10⟩/\Yg p (k+e.1.size+9)=e.1.size+9/\p.data.toList.drop (k+e.1.size+10)=rest:=by
 obtain ⟨m,s⟩:=e;simp only at h64 hs ⊢;have hl:=Yy p;have hml:=Yy m;have hlen:=congrArg List.length hd;rw [List.length_drop,List.length_append,Xk] at hlen;have hrest:p.data.toList.drop (k+(m.size+10))=rest:=Ku hd _ (Xk _);have hkl:k<p.data.toList.length:=by simp only at hlen;omega
 have hb:Yg p k=m.size:=by
  have h1:=hd;rw [List.drop_eq_getElem_cons hkl,Og] at h1;unfold Xo at h1;simp only [List.cons_append,List.cons.injEq] at h1;have h2:=congrArg UInt8.toNat h1.1
  have:=Vh p k
  simp at h2;omega
 have d1:p.data.toList.drop (k+1)=m.data.toList++(Ym s++(UInt8.ofNat (m.size+9) :: rest)):=by
  refine Ku (a:=[UInt8.ofNat m.size]) ?_ 1 rfl;rw [hd];simp [Xo]
 have d2:p.data.toList.drop (k+1+m.size)=Ym s++(UInt8.ofNat (m.size+9) :: rest):=Ku d1 _ hml;have d3:p.data.toList.drop (k+1+m.size+8)=UInt8.ofNat (m.size+9) :: rest:=Ku d2 _ (Xh s);refine ⟨?_,?_,by rw [<- hrest];congr 1⟩
 ·unfold Zs;rw [if_neg (by omega),hb,if_neg (by simp only at hlen;omega)]
  have e1:p.extract (k+1) (k+1+m.size)=m:=by
   apply z6f
   rw [Jc,d1,<- hml,List.take_left]
  have e2:Xd ((p.data.toList.drop (k+1+m.size)).take 8)=s:=by
   rw [d2,<- Xh s,List.take_left,Ip s hs]
  rw [e1,e2]
 ·have hk9:k+m.size+9<p.data.toList.length:=by simp only at hlen;omega
  rw [show k+1+m.size+8=k+m.size+9 by omega,List.drop_eq_getElem_cons hk9,Og] at d3;simp only [List.cons.injEq] at d3;have h2:=congrArg UInt8.toNat d3.1
  have:=Vh p (k+m.size+9)
  simp at h2;omega
theorem Ca(p:ByteArray):∀ (l:List Ent) (k:Nat),2<=k->k<=p.size->p.data.toList.drop k=l.flatMap Xo->(∀ e∈l,e.1.size<=64/\Yl e.2)->∃ cs,goS p l.length k=some cs/\cs.map Cut.ent=l
 | [],k,_,hk2,hd,_=>by
   have hl:=Yy p
   have:=congrArg List.length hd
   simp only [List.length_drop,List.flatMap_nil,List.length_nil] at this;refine ⟨[],?_,rfl⟩;unfold goS;simp only [List.length_nil];rw [if_pos (by omega)]
 | e :: l,k,hk,hk2,hd,hv=>by
   rw [List.flatMap_cons] at hd;obtain ⟨h64,hs⟩:=hv e (List.mem_cons_self ..);obtain ⟨h1,h2,h3⟩:=z6i hk hd h64 hs;have hl:=Yy p;have hlen:=congrArg List.length hd;rw [List.length_drop,List.length_append,Xk] at hlen;obtain ⟨cs,hcs,hm⟩:=Ca p l (k+e.1.size+10) (by omega) (by omega) h3 (fun e he=>hv e (List.mem_cons_of_mem _ he));refine ⟨⟨e.1,e.2,k,k+e.1.size+10⟩ :: cs,?_,by rw [List.map_cons,hm];rfl⟩;rw [List.length_cons,goS.eq_def];simp only [h1];rw [show k+e.1.size+10-1=k+e.1.size+9 by omega,if_pos h2,hcs];rfl
structure Valid (l:List Ent):Prop where
 many:l.length<=200
 each:∀ e∈l,e.1.size<=64/\Yl e.2
theorem O4(l:List Ent):(Zv l).size=2+(l.flatMap Xo).length:=by
 rw [<- Yy,Ur,Kd];simp;omega
theorem Dw{l:List Ent}(h:l.length<=200):Zt (Zv l)=l.length:=by
 have h0:Yg (Zv l) 0=(UInt8.ofNat (l.length / 256)).toNat:=rfl;have h1:Yg (Zv l) 1=(UInt8.ofNat l.length).toNat:=rfl;unfold Zt;rw [if_neg (by rw [O4];omega),h0,h1];have e0:(UInt8.ofNat (l.length / 256)).toNat=0:=by simp;omega
 have e1:(UInt8.ofNat l.length).toNat=l.length:=by simp;omega
 rw [e0,e1,if_neg (by omega)];simp
theorem Qf{l:List Ent}(h:Valid l):∃ cs,V7 (Zv l)=some cs/\cs.map Cut.ent=l:=by
 obtain ⟨cs,hcs,hm⟩:=Ca (Zv l) l 2 (Nat.le_refl _) (by rw [O4];omega) (by rw [Ur];rfl) h.each;refine ⟨cs,?_,hm⟩;unfold V7;rw [Dw h.many,if_pos (by omega)];exact hcs
theorem U0{l:List Ent}(h:Valid l):Zz (Zv l)=true:=by
 obtain ⟨cs,hcs,_⟩:=Qf h;unfold Zz;rw [hcs];rfl
theorem Xx{l:List Ent}(h:Valid l):Zu (Zv l)=l:=by
 obtain ⟨cs,hcs,hm⟩:=Qf h;unfold Zu Z8;rw [hcs];exact hm
theorem z4s(l:List UInt8):Yl (Xd l):=by
 unfold Yl
 have:∀ n,-9223372036854775808<=wrap64 n/\wrap64 n<=9223372036854775807:=fun n=>by unfold wrap64;omega
 rcases List.eq_nil_or_concat l with rfl|⟨l,b,rfl⟩
 ·exact ⟨by decide,by decide⟩
 ·rw [List.concat_eq_append,Ki,List.foldl_append,List.foldl_cons,List.foldl_nil];exact this _
theorem Bu{p:ByteArray}(h:Zz p=true):Valid (Zu p):=by
 have hk:=Xl h;refine ⟨by unfold Zu;rw [List.length_map];exact hk.many,fun e he=>?_⟩;obtain ⟨c,hc,rfl⟩:=List.mem_map.1 he;refine ⟨hk.short c hc,?_⟩;rw [show c.ent.2=c.s from rfl,(Yh (Uh hk.chain hc)).2.2.2.2.2.2.2];exact z4s _
theorem Pn{p:ByteArray}(h:Zz p=true):p=Zv (Zu p):=Gj (Xl h)
end Go.Proofs.YtmehfohpjigmmaaGreatDoor.Pk
