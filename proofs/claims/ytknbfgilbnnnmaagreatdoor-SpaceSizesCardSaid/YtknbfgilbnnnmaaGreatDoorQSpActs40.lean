/- Texts of one kind in one: SpActs, SpDidAny, SpLook, SpPutsLaw, SpGoing, SpKeysG, SpSizes, SpLaid, SpLaid3, SpScanM, SpScans. -/
import Derived.Test.YtknbfgilbnnnmaaGreatDoorQSpDid39
import Derived.Test.YtknbfgilbnnnmaaGreatDoorTie
import Derived.LaidMore
import Derived.Stop.LaidTwo
import Derived.HandedShaped
import Derived.Deep.DeepLaidRun
set_option maxRecDepth 200000
set_option maxHeartbeats 8000000
namespace Go.Proofs.YtknbfgilbnnnmaaGreatDoor
open Zc (Ent Ext KeepC Yl Z9 Zg Xg Zw Zd Zu Yo Y6 Ze Zy Z4 Za)
open Go.ChangeShapes Go.WideShapes Go.ChangeAt Go.RowKit Go.Deep
open Go.ChangeMaps (open_string shut_string)
structure ActX where
 d:Int
 k:ByteArray
 t:ByteArray
 m:ByteArray
 sc:Int
 n:Int
 dr:Int
instance:Inhabited ActX:=⟨⟨0,⟨#[]⟩,⟨#[]⟩,⟨#[]⟩,0,0,0⟩⟩
structure ActX.Ok (x:ActX):Prop where
 k:x.k.size<=9223372036854775807
 t:x.t.size<=9223372036854775807
 m:x.m.size<=9223372036854775807
 sc:Pk.Y9 x.sc
 n:Lf.I64 x.n
 dr:0<=x.dr/\x.dr<=4294967295
def Acts(W:World)(a:Option Addr)(l:List ActX):Prop :=
 ∀ (i:Nat) (h:i<l.length),∃ b off,a=some ⟨b,off,none⟩/\b<W.heap.size/\W.cell? ⟨b,off+i*7,none⟩=some (.int .i64 l[i].d)/\W.cell? ⟨b,off+i*7+1,none⟩=some (.string l[i].k)/\W.cell? ⟨b,off+i*7+2,none⟩=some (.string l[i].t)/\W.cell? ⟨b,off+i*7+3,none⟩=some (.string l[i].m)/\W.cell? ⟨b,off+i*7+4,none⟩=some (.int .i64 l[i].sc)/\W.cell? ⟨b,off+i*7+5,none⟩=some (.int .i64 l[i].n)/\W.cell? ⟨b,off+i*7+6,none⟩=some (.int .u32 l[i].dr)
theorem Acts.below{W W':World}{a:Option Addr}{l:List ActX}(h:Acts W a l)(hb:Bl W W'):Acts W' a l:=fun i hi=>by
 obtain ⟨b,off,h1,hl,x0,x1,x2,x3,x4,x5,x6⟩:=h i hi;exact ⟨b,off,h1,Nat.lt_of_lt_of_le hl hb.size,(hb.cell (p:=⟨b,_,none⟩) hl).trans x0,(hb.cell (p:=⟨b,_,none⟩) hl).trans x1,(hb.cell (p:=⟨b,_,none⟩) hl).trans x2,(hb.cell (p:=⟨b,_,none⟩) hl).trans x3,(hb.cell (p:=⟨b,_,none⟩) hl).trans x4,(hb.cell (p:=⟨b,_,none⟩) hl).trans x5,(hb.cell (p:=⟨b,_,none⟩) hl).trans x6⟩
theorem x6o(a:Addr)(p q:Nat):(a.add p).add q=a.add (p+q):=by
 unfold Addr.add
 by_cases h1:p=0 <;> by_cases h2:q=0 <;> simp [h1,h2,Nat.add_assoc]
theorem z2r{H:Type}{enc:TypeId × Value->H}{W:World}{b0:Nat}{v:Value}{d:DataW H}{ps:List MemPlace}(hv:Value.okWide Tryz.prog W .any b0 27 v)(h:DataW.Trod enc Tryz.prog W 0 (fun _=>true) true 27 v d ps) :
 ∃ (a:Option Addr) (cap:Nat) (l:List ActX),v=.slice a l.length cap/\Acts W a l/\l.length<=cap/\l.length<=9223372036854775807/\∀ x∈l,x.Ok:=by
 obtain ⟨a,len,cap,rfl⟩:=okWide_slice Tryz.underlying27 hv;obtain ⟨fuel,hf⟩:=h;rcases Go.Deep.open_slice Tryz.underlying27 hf with ⟨hcs,_⟩|⟨a',len',cap',m,n,D,Pl,hcs,_,hl,hm,hmm,_,hx⟩
 ·simp [Value.cells] at hcs;obtain ⟨rfl,rfl,rfl⟩:=hcs;exact ⟨none,0,[],rfl,fun i hi=>by simp at hi,by simp,by simp,fun e he=>by simp at he⟩
 ·simp [Value.cells] at hcs;obtain ⟨rfl,rfl,rfl⟩:=hcs;simp only [if_true] at hmm;rw [v0m] at hx
  have each:∀ i,i<len->∃ x:ActX,W.cell? (a'.add (i*7))=some (.int .i64 x.d)/\W.cell? (a'.add (i*7+1))=some (.string x.k)/\W.cell? (a'.add (i*7+2))=some (.string x.t)/\W.cell? (a'.add (i*7+3))=some (.string x.m)/\W.cell? (a'.add (i*7+4))=some (.int .i64 x.sc)/\W.cell? (a'.add (i*7+5))=some (.int .i64 x.n)/\W.cell? (a'.add (i*7+6))=some (.int .u32 x.dr)/\x.Ok:=fun i hi=>by
   obtain ⟨cs,h1,h2⟩:=hx i (by omega);obtain ⟨xs,n',_,_,_,hxl,hfs⟩:=DataW.trod_struct v2o h2;obtain ⟨_,hlen,hat⟩:=World.cells?_some h1;have f0:=hfs 0 z4e rfl;have f1:=hfs 1 z4h rfl;have f2:=hfs 2 z4o rfl;have f3:=hfs 3 z4i rfl;have f4:=hfs 4 z4m rfl;have f5:=hfs 5 z4l rfl;have f6:=hfs 6 z4f rfl;obtain ⟨v0,v1,v2,v3,v4,v5,v6,rfl⟩:=v3s hlen
   replace hxl:xs.length=7:=hxl
   simp only [z4e,z4h,z4o,z4i,z4m,z4l,z4f,x1j,y0v,v0j,v0l,List.drop_zero,List.take_succ_cons,List.take_zero,List.drop_succ_cons] at f0 f1 f2 f3 f4 f5 f6;rw [List.getElem?_eq_getElem (show 0<xs.length by omega)] at f0;rw [List.getElem?_eq_getElem (show 1<xs.length by omega)] at f1;rw [List.getElem?_eq_getElem (show 2<xs.length by omega)] at f2;rw [List.getElem?_eq_getElem (show 3<xs.length by omega)] at f3;rw [List.getElem?_eq_getElem (show 4<xs.length by omega)] at f4;rw [List.getElem?_eq_getElem (show 5<xs.length by omega)] at f5;rw [List.getElem?_eq_getElem (show 6<xs.length by omega)] at f6;obtain ⟨k0,hk0,_,_⟩:=DataW.trod_int Tryz.underlying3 f0;obtain ⟨k1,hk1,_,w1⟩:=DataW.trod_string Tryz.underlying9 f1;obtain ⟨k2,hk2,_,w2⟩:=DataW.trod_string Tryz.underlying9 f2;obtain ⟨k3,hk3,_,w3⟩:=DataW.trod_string Tryz.underlying9 f3;obtain ⟨k4,hk4,_,w4⟩:=DataW.trod_int Tryz.underlying2 f4;obtain ⟨k5,hk5,_,w5⟩:=DataW.trod_int Tryz.underlying3 f5;obtain ⟨k6,hk6,_,w6⟩:=DataW.trod_int Tryz.underlying24 f6;simp only [List.cons.injEq,and_true] at hk0 hk1 hk2 hk3 hk4 hk5 hk6;subst hk0 hk1 hk2 hk3 hk4 hk5 hk6;have a0:=hat 0 (by simp);have a1:=hat 1 (by simp);have a2:=hat 2 (by simp);have a3:=hat 3 (by simp);have a4:=hat 4 (by simp);have a5:=hat 5 (by simp);have a6:=hat 6 (by simp);rw [x6o] at a0 a1 a2 a3 a4 a5 a6;unfold maxLen at w1 w2 w3;exact ⟨⟨k0,k1,k2,k3,k4,k5,k6⟩,a0,a1,a2,a3,a4,a5,a6,⟨w1,w2,w3,Bt w4,Bt w5,Bu w6⟩⟩
  obtain ⟨E,hE⟩:=Go.Deep.choose_lt each;unfold maxLen at hm;refine ⟨some a',cap,(List.range len).map E,by simp,fun i hi=>?_,by simp;omega,by simp;omega,fun e he=>?_⟩
  ·have hi':i<len:=by simpa using hi
   obtain ⟨c0,c1,c2,c3,c4,c5,c6,_⟩:=hE i hi';obtain ⟨b,off,spot⟩:=a';have hspot:spot=none:=by simpa [Addr.add] using World.cell?_spot (hE 0 (by omega)).1
   subst hspot;rw [Addr.add_lit] at c0 c1 c2 c3 c4 c5 c6;have hbl:b<W.heap.size:=World.block_lt_of_cell? W ⟨b,_,none⟩ c0;refine ⟨b,off,rfl,hbl,?_,?_,?_,?_,?_,?_,?_⟩
   ·simpa using c0
   ·simpa [Nat.add_assoc] using c1
   ·simpa [Nat.add_assoc] using c2
   ·simpa [Nat.add_assoc] using c3
   ·simpa [Nat.add_assoc] using c4
   ·simpa [Nat.add_assoc] using c5
   ·simpa [Nat.add_assoc] using c6
  ·obtain ⟨i,hi,rfl⟩:=List.mem_map.1 he;exact (hE i (List.mem_range.1 hi)).2.2.2.2.2.2.2
end Go.Proofs.YtknbfgilbnnnmaaGreatDoor
namespace Go.Proofs.YtknbfgilbnnnmaaGreatDoor
open Zc (Ent Ext KeepC Yl Z9 Zg Xg Zw Zd Zu Yo Y6 Ze Zy Z4 Za)
open Go.RowKit Go.Shelf Sk
attribute [local go_sem] Oper.semAt_some
def v1r(L:List Th)(x:ActX)(I:List It):Prop:=(IntKind.u64.wrap x.d).tmod 10≠9->OffI (itl L) I (Zf x.k) (Zf x.t)
def x6n(x:ActX):Value:=.agg #[.int .i64 x.d,.string x.k,.string x.t,.string x.m,.int .i64 x.sc,.int .i64 x.n,.int .u32 x.dr]
theorem DidAt.imp{w0 W W':World}{p rp sd c:Nat}{en mn mx:Int}{G H:List It->Prop}(h:DidAt w0 W W' p rp en mn sd mx c G)(g:∀ I,G I->H I):DidAt w0 W W' p rp en mn sd mx c H:=by
 obtain ⟨c',L',R',h1,h2,h3,h4,h5,h6⟩:=h;exact ⟨c',L',R',h1,h2,h3,h4,h5,g _ h6⟩
section
variable {w0 w W W':World} {p rp sd c:Nat} {en mn mx:Int} {L:List Th} {R:List Rt}
theorem x6z(h:PairSp w0 W p rp en mn sd mx c L R)(hA:Alike en mn L R)(hc5:5<=c)(hc:c<=300)(x:ActX)(hx:x.Ok) :
 Calls Tryz.prog 7 #[.pointer (some ⟨p,0,none⟩),.pointer (some ⟨rp,0,none⟩),x6n x] W fun e W'=>e=.returned (.bool true)/\DidAt w0 W W' p rp en mn sd mx c (v1r L x):=by
 have h0:0<=IntKind.u64.wrap x.d:=by rw [IntKind.wrap_u64];omega
 have e:(IntKind.u64.wrap x.d).tmod 10=(IntKind.u64.wrap x.d) % 10:=Int.tmod_eq_emod_of_nonneg h0;have fin:∀ {e:Ending} {W':World},(e=.returned (.bool true)/\DidAt w0 W W' p rp en mn sd mx c (fun I=>OffI (itl L) I (Zf x.k) (Zf x.t)))->e=.returned (.bool true)/\DidAt w0 W W' p rp en mn sd mx c (v1r L x):=fun ⟨h1,h2⟩=>⟨h1,h2.imp fun I hI _=>hI⟩;obtain hk|hk|hk|hk|hk|hk|hk|hk:((IntKind.u64.wrap x.d).tmod 10=0\/(IntKind.u64.wrap x.d).tmod 10=1\/(IntKind.u64.wrap x.d).tmod 10=2)\/(IntKind.u64.wrap x.d).tmod 10=3\/(IntKind.u64.wrap x.d).tmod 10=4\/(IntKind.u64.wrap x.d).tmod 10=5\/(IntKind.u64.wrap x.d).tmod 10=6\/(IntKind.u64.wrap x.d).tmod 10=7\/(IntKind.u64.wrap x.d).tmod 10=8\/(IntKind.u64.wrap x.d).tmod 10=9:=by omega
 ·exact (x1p h hA hc x.d x.k x.t x.m x.sc x.n x.dr hx.k hx.m hx.sc hx.n hk).mono fun _ _=>fin
 ·exact (x7b h hA hc5 (by omega) x.d x.k x.t x.m x.sc x.n x.dr hx.k hx.m hx.sc hx.n hk).mono fun _ _=>fin
 ·exact (x7a h hA x.d x.k x.t x.m x.sc x.n x.dr hx.k hk).mono fun _ _=>fin
 ·exact (x1s h hA hc x.d x.k x.t x.m x.sc x.n x.dr hx.k hx.m hk).mono fun _ _=>fin
 ·exact (x7c h hA x.d x.k x.t x.m x.sc x.n x.dr hx.k hx.t hk).mono fun _ _=>fin
 ·exact (y7b h hA x.d x.k x.t x.m x.sc x.n x.dr hx.k hx.n hx.dr.1 hx.dr.2 hk).mono fun _ _=>fin
 ·exact (x1r h hA x.d x.k x.t x.m x.sc x.n x.dr hx.k hk).mono fun _ _=>fin
 ·exact (x1q h hA x.d x.k x.t x.m x.sc x.n x.dr hx.k hk).mono fun _ _ ⟨h1,h2⟩=>⟨h1,h2.imp fun I _ h9=>absurd hk h9⟩
theorem y8w(w:World)(en mn mx:Int)(sd:Nat):RefSp (w.alloc (.cells #[.slice none 0 0,.int .i64 en,.int .i64 mn,.int .u32 sd,.int .i64 mx] Jl)) w.heap.size en mn sd mx [] (fun k=>k=w.heap.size) :=
 ⟨.slice none 0 0,⟨Blk.new w Jl _,x3k _ _,(fun x hx=>by cases hx),List.nodup_nil⟩,by simp,fun k=>⟨fun h=>.inl h,fun h=>by
   rcases h with h|h|⟨x,hx,_⟩
   ·exact h
   ·cases h
   ·cases hx⟩⟩
theorem x4c(hE:EnvE w0)(h:SpOwn w0 w p en mn sd c []):PairSp w0 (w.alloc (.cells #[.slice none 0 0,.int .i64 en,.int .i64 mn,.int .u32 sd,.int .i64 mx] Jl)) p w.heap.size en mn sd mx c [] []:=by
 obtain ⟨S,h1,h2,h3⟩:=h;exact ⟨hE,⟨S,fun k=>k=w.heap.size,h1.later (Z0 _ _),y8w w en mn mx sd,h2,fun k hk=>by subst hk;exact h3.size⟩,h3.alloc h3.size _⟩
end
section
variable {w0 W W':World} {p rp sd c:Nat} {en mn mx:Int} {L:List Th} {R:List Rt} {o:ByteArray} {a:Option Addr} {E:List En}
theorem PairSp.set(h:PairSp w0 W p rp en mn sd mx c L R){t:Th}(ht:t∈L):SetIs W t.s t.S t.isL (Z6 en 200) (Z6 mn 64) c t.E:=by
 obtain ⟨S,T,h1,_⟩:=h.ex;exact (h1.th ht).2
theorem z7r(L:List Th)(o:ByteArray):(Y4 L o).isSome=(Vb (itl L) o).isSome:=(Qb L o).symm
end
theorem y7j(a b:ByteArray):decide (a=b)=(a.toList==b.toList):=by
 by_cases h:a=b
 ·rw [h];simp
 ·rw [decide_eq_false h]
  symm
  exact beq_eq_false_iff_ne.2 fun e=>h (Pk.V9 _ _ e)
section
variable {b sd:Nat} {en mn mx d sc n dr:Int} {k t m:ByteArray} {W W' w:World}
end
theorem v0h{a b:ByteArray}(h:a=b):(a.toList==b.toList)=true:=by rw [h];simp
theorem v0g{a b:ByteArray}(h:a≠b):(a.toList==b.toList)=false:=by
 rw [<- y7j];exact decide_eq_false h
theorem y4v{W:World}{a:Option Addr}{l:List ActX}{i:Nat}(h:Acts W a l)(hi:i<l.length):∃ b off,a=some ⟨b,off,none⟩/\W.cell? ⟨b,off+i*7,none⟩=some (.int .i64 l[i].d)/\W.cell? ⟨b,off+i*7+1,none⟩=some (.string l[i].k)/\W.cell? ⟨b,off+i*7+2,none⟩=some (.string l[i].t)/\W.cell? ⟨b,off+i*7+3,none⟩=some (.string l[i].m)/\W.cell? ⟨b,off+i*7+4,none⟩=some (.int .i64 l[i].sc)/\W.cell? ⟨b,off+i*7+5,none⟩=some (.int .i64 l[i].n)/\W.cell? ⟨b,off+i*7+6,none⟩=some (.int .u32 l[i].dr):=by
 obtain ⟨b,off,h1,_,h2⟩:=h i hi;exact ⟨b,off,h1,h2⟩
def Going(w0 W:World)(p rp:Nat)(en mn:Int)(sd:Nat)(mx:Int)(i:Nat)(L:List Th)(R:List Rt):Prop:=∃ c,5<=c/\c<=5+i/\PairSp w0 W p rp en mn sd mx c L R/\Alike en mn L R
section
variable {w0 W W':World} {p rp sd i c:Nat} {en mn mx:Int} {L:List Th} {R:List Rt} {a:Option Addr} {E:List En} {o:ByteArray}
theorem Going.start(hE:EnvE w0)(h:SpOwn w0 W p en mn sd 5 []):Going w0 (W.alloc (.cells #[.slice none 0 0,.int .i64 en,.int .i64 mn,.int .u32 sd,.int .i64 mx] Jl)) p W.heap.size en mn sd mx 0 [] [] :=
 ⟨5,by omega,by omega,x4c hE h,z1k⟩
theorem Going.did(h:Going w0 W p rp en mn sd mx i L R)(hi:i<=200)(x:ActX)(hx:x.Ok) :
 Calls Tryz.prog 7 #[.pointer (some ⟨p,0,none⟩),.pointer (some ⟨rp,0,none⟩),x6n x] W fun e W'=>e=.returned (.bool true)/\∃ L' R',Going w0 W' p rp en mn sd mx (i+1) L' R'/\KeepB W W'/\v1r L x (itl L'):=by
 obtain ⟨c,h1,h2,h3,h4⟩:=h;refine (x6z h3 h4 h1 (by omega) x hx).mono ?_;rintro e W' ⟨rfl,c',L',R',g1,g2,g3,g4,g5,g6⟩;exact ⟨rfl,L',R',⟨c',by omega,by omega,g3,g4⟩,g5,g6⟩
theorem Going.below(h:Going w0 W p rp en mn sd mx i L R):Bl w0 W:=by obtain ⟨c,_,_,h,_⟩:=h;exact h.below
theorem Going.keys(h:Going w0 W p rp en mn sd mx i L R):Y5 (itl L):=by obtain ⟨c,_,_,h,_⟩:=h;exact h.keys
theorem Going.of(h:Going w0 W p rp en mn sd mx i L R)(g:∀ c,PairSp w0 W p rp en mn sd mx c L R->PairK w0 W W' p rp en mn sd mx c L R):Going w0 W' p rp en mn sd mx i L R/\KeepB W W':=by
 obtain ⟨c,h1,h2,h3,h4⟩:=h;exact ⟨⟨c,h1,h2,(g c h3).pair,h4⟩,(g c h3).keep⟩
theorem Going.later(h:Going w0 W p rp en mn sd mx i L R)(hb:Bl W W'):Going w0 W' p rp en mn sd mx i L R:=(h.of fun _ g=>g.later hb).1
theorem Going.find(h:Going w0 W p rp en mn sd mx i L R)(o:ByteArray)(ho:o.size<=281474976710656) :
 Calls Tryz.prog 9 #[.pointer (some ⟨p,0,none⟩),.string o] W fun e W'=>e=.returned (.tuple #[.pointer (Fv L o),.bool (Vb (itl L) o).isSome])/\Going w0 W' p rp en mn sd mx i L R/\KeepB W W':=by
 obtain ⟨c,h1,h2,h3,h4⟩:=h;refine (z2v h3 o ho).mono ?_;rw [z7r];rintro e W' ⟨rfl,g⟩;exact ⟨rfl,⟨c,h1,h2,g.pair,h4⟩,g.keep⟩
end
end Go.Proofs.YtknbfgilbnnnmaaGreatDoor
namespace Go.Proofs.YtknbfgilbnnnmaaGreatDoor
open Zc (Ent Ext KeepC Yl Z9 Zg Xg Zw Zd Zu Yo Y6 Ze Zy Z4 Za)
open Go.RowKit Go.Shelf Go.Sort Sk
attribute [local go_sem] Oper.semAt_some
theorem I5{W:World}{base:Nat}{v:Value}{ks:List (List UInt8)}(h:Dc.Dt.Own9 W base v ks):∃ A cap,v=.slice A ks.length cap/\ks.length<=cap/\cap<=maxLen/\∀ i k,ks[i]?=some k->∃ g,A=some ⟨g,0,none⟩/\W.cell? ⟨g,i,none⟩=some (.string (Dc.Dt.Ut k)):=by
 unfold Dc.Dt.Own9 at h;rcases h.2 with ⟨rfl,h0⟩|⟨g,cap,cur,rfl,_,hg,hl,hm,_⟩
 ·exact ⟨none,0,by rw [h0],by omega,by unfold maxLen;omega,fun i k hk=>by
   have:=(List.getElem?_eq_some_iff.1 hk).1
   omega⟩
 ·refine ⟨some ⟨g,0,none⟩,cap,rfl,hl,hm,fun i k hk=>⟨g,rfl,?_⟩⟩;have hi:=(List.getElem?_eq_some_iff.1 hk).1;rw [World.ownsRow.cellAt h i (by omega),List.getElem?_map,hk];rfl
theorem Be{W:World}{base n cap i:Nat}{A:Option Addr}{ks:List (List UInt8)}{k:List UInt8}(h:Dc.Dt.Own9 W base (.slice A n cap) ks)(hk:ks[i]?=some k):∃ g,A=some ⟨g,0,none⟩/\W.cell? ⟨g,i,none⟩=some (.string (Dc.Dt.Ut k)):=by
 obtain ⟨A',cap',e,_,_,h2⟩:=I5 h
 injection e with e1 _ _
 subst e1;exact h2 i k hk
theorem y8e{W W':World}{base:Nat}{v:Value}{ks:List (List UInt8)}(h:Dc.Dt.Own9 W base v ks)(hk:KeepB W W'):Dc.Dt.Own9 W' base v ks:=by
 unfold Dc.Dt.Own9 at *;refine ⟨h.1,?_⟩;rcases h.2 with hn|⟨g,cap,cur,rfl,hb,hg,rest⟩
 ·exact .inl hn
 ·exact .inr ⟨g,cap,cur,rfl,hb,hk _ _ _ (by decide) (by decide) hg,rest⟩
theorem y7p(k:List UInt8):(Dc.Dt.Ut k).size=k.length:=by unfold Dc.Dt.Ut;simp [ByteArray.size]
def y6x(I:List It)(k:ByteArray):Nat:=match Vb I k with
 | some x=>szS x.isL x.E
 | none=>0
def z0j(I:List It)(k:List UInt8):Nat:=48+k.length+y6x I (Dc.Dt.Ut k)
def z6n(I:List It)(ks:List (List UInt8))(j:Nat):Nat:=64+((ks.take j).map (z0j I)).sum
theorem x0f{I:List It}{ks:List (List UInt8)}{j:Nat}{k:List UInt8}(h:ks[j]?=some k):z6n I ks (j+1)=z6n I ks j+48+(Dc.Dt.Ut k).size+y6x I (Dc.Dt.Ut k):=by
 rw [y7p];obtain ⟨hj,he⟩:=List.getElem?_eq_some_iff.1 h;unfold z6n;rw [List.take_succ_eq_append_getElem hj,he,List.map_append,List.sum_append];simp [z0j];omega
theorem x5q{a b:List Nat}(h:a.Perm b):a.sum=b.sum:=by
 induction h with
 | nil=>rfl
 | cons x _ ih=>simp [ih]
 | swap x y l=>simp;omega
 | trans _ _ ih1 ih2=>exact ih1.trans ih2
theorem x5s{I:List It}(hk:Y5 I){x:It}(hx:x∈I):z0j I (P6 x)=(szI x).sum:=by
 unfold z0j y6x P6 szI;rw [Dc.Dt.Ow,Gz hk hx];simp;omega
theorem y0g{I:List It}(hk:Y5 I){ks:List (List UInt8)}(hp:ks.Perm (I.map P6)):z6n I ks ks.length=M3 I:=by
 unfold z6n M3 U2;rw [List.take_length,x5q (hp.map (z0j I)),List.map_map,List.sum_cons]
 congr 1
 have:∀ J:List It,(∀ x∈J,x∈I)->(J.map (z0j I ∘ P6)).sum=(J.flatMap szI).sum:=by
  intro J
  induction J with
  | nil=>intro _;rfl
  | cons x r ih =>
    intro h;rw [List.map_cons,List.sum_cons,List.flatMap_cons,List.sum_append,ih fun y hy=>h y (List.mem_cons_of_mem _ hy)]
    congr 1
    exact x5s hk (h x List.mem_cons_self)
 exact this I fun _ h=>h
theorem y0a(l:List Nat)(j:Nat):(l.take j).sum<=l.sum:=by
 induction l generalizing j with
 | nil=>simp
 | cons x r ih =>
   cases j with
   | zero=>simp
   | succ j=>rw [List.take_succ_cons,List.sum_cons,List.sum_cons];have:=ih j;omega
theorem x9m{I:List It}(hk:Y5 I){ks:List (List UInt8)}(hp:ks.Perm (I.map P6))(j:Nat):z6n I ks j<=M3 I:=by
 rw [<- y0g hk hp];unfold z6n;rw [List.take_length,List.map_take]
 have:=y0a (ks.map (z0j I)) j
 omega
section
variable {w0 W W':World} {p rp sd i c:Nat} {en mn mx:Int} {L:List Th} {R:List Rt} {a:Option Addr} {E:List En} {o:ByteArray}
theorem Going.keysOf(h:Going w0 W p rp en mn sd mx i L R)(hT:Dc.Dt.Env w0) :
 Calls Tryz.prog 8 #[.pointer (some ⟨p,0,none⟩)] W fun e W'=>∃ u,e=.returned u/\Dc.Dt.Own9 W' W.heap.size u (Dc.Dt.X7 ((itl L).map P6))/\Bl W W':=by
 obtain ⟨c,h1,h2,h3,h4⟩:=h;obtain ⟨S,T,g1,_⟩:=h3.ex;exact x9e g1 (hT.below h3.below)
theorem Going.lenOf(h:Going w0 W p rp en mn sd mx i L R):Calls Tryz.prog 12 #[.pointer (some ⟨p,0,none⟩)] W fun e W'=>e=.returned (.int .i64 L.length)/\W'=W:=by
 obtain ⟨c,h1,h2,h3,h4⟩:=h;exact x4a h3
theorem Going.lenLe(h:Going w0 W p rp en mn sd mx i L R):L.length<=500:=by
 obtain ⟨c,h1,h2,h3,h4⟩:=h;exact h3.len
theorem Going.sizeOf(h:Going w0 W p rp en mn sd mx i L R)(hi:i<=200):Calls Tryz.prog 11 #[.pointer (some ⟨p,0,none⟩)] W fun e W'=>e=.returned (.int .i64 (M3 (itl L):Nat))/\Bl W W':=by
 obtain ⟨c,h1,h2,h3,h4⟩:=h;obtain ⟨S,T,g1,_⟩:=h3.ex;exact y6l g1 (by omega)
theorem Going.sizeLe(h:Going w0 W p rp en mn sd mx i L R)(hi:i<=200):M3 (itl L)<=2000000000:=by
 obtain ⟨c,h1,h2,h3,h4⟩:=h;obtain ⟨S,T,g1,_⟩:=h3.ex
 have hs:=y4h (U2 (itl L)) 1000000 (fun x hx=>by
  unfold U2 at hx;rcases List.mem_cons.1 hx with rfl|hx
  ·omega
  ·obtain ⟨y,hy,hx⟩:=List.mem_flatMap.1 hx;obtain ⟨t,ht,rfl⟩:=List.mem_map.1 hy;obtain ⟨d,SD,rv,sh,g,_⟩:=g1;have hg:=(g.set t ht).good
   exact x5r (g.ksz t ht) (Nat.le_trans hg.len (by omega)) (fun e he=>(hg.each e he).1) x hx) (U2 (itl L)).length
 rw [List.take_length,Cb] at hs
 have:=h3.len
 unfold M3;omega
theorem Going.bytesOf(h:Going w0 W p rp en mn sd mx i L R)(o:ByteArray):Calls Tryz.prog 10 #[.pointer (Fv L o)] W fun e W'=>e=.returned (.int .i64 (y6x (itl L) o:Nat))/\Bl W W':=by
 obtain ⟨c,h1,h2,h3,h4⟩:=h;unfold Fv y6x
 cases hf:L.find? (fun t=>decide (t.key=o)) with
 | some t =>
   have ht:=List.mem_of_find?_eq_some hf;have hto:t.key=o:=by simpa using List.find?_some hf
   have:=y5f h3.keys ht
   rw [hto] at this;rw [this];exact z3b (h3.set ht)
 | none =>
   have:Vb (itl L) o=none:=by
    have h1:=Qb L o;unfold Y4 at h1;rw [hf] at h1
    simpa using h1
   rw [this];exact (y7z W).mono fun _ _ ⟨he,hb⟩=>⟨he,by rw [hb];exact Below.refl _ _⟩
theorem Going.sorted(_h:Going w0 W p rp en mn sd mx i L R):(Dc.Dt.X7 ((itl L).map P6)).Perm ((itl L).map P6)/\(Dc.Dt.X7 ((itl L).map P6)).length=L.length :=
 ⟨Dc.Dt.Xs _,by rw [Dm,List.length_map];unfold itl;rw [List.length_map]⟩
theorem Going.isKey(h:Going w0 W p rp en mn sd mx i L R){j:Nat}{k:List UInt8}(hk:(Dc.Dt.X7 ((itl L).map P6))[j]?=some k):(Vb (itl L) (Dc.Dt.Ut k)).isSome=true/\(Dc.Dt.Ut k).size<=64:=by
 have hm:=(Dc.Dt.Xs _).mem_iff.1 (List.mem_of_getElem? hk);obtain ⟨x,hx,rfl⟩:=List.mem_map.1 hm;unfold P6;rw [Dc.Dt.Ow,Gz h.keys hx];obtain ⟨c,h1,h2,h3,h4⟩:=h;exact ⟨rfl,h4.ksz x hx⟩
end
theorem y3z(en mn:Int)(sd:Nat)(hsd:sd<4294967296)(mx:Int)(la:Option Addr)(cap:Nat)(l:List ActX)(hl:∀ x∈l,x.Ok)(hlz:l.length<=9223372036854775807)(w:World)(hE:EnvE w)(hT:Dc.Dt.Env w)(hL:Acts w la l) :
 Calls Tryz.prog 3 #[.agg #[.int .i64 en,.int .i64 mn,.int .u32 sd,.int .i64 mx],.slice la l.length cap] w fun e w'=>e=.returned (.bool true)/\Bl w w':=by
 have HA:=jY (Blk.new w 26 #[.int .i64 en,.int .i64 mn,.int .u32 sd,.int .i64 mx]);have HW:=jY (Z0 w (.cells #[.int .i64 en,.int .i64 mn,.int .u32 sd,.int .i64 mx] 26));have HS:=fun W (h:EnvE W)=>jY (z3f W h);have HE:=jY hE;have HT:=jY hT;have HL:=jY hL;have HLO:=jY hl;have HN:=fun W=>jY (z5h en mn mx sd hsd 5 W);clear hE hL hl hT
 go_enter Tryz.func3,Tryz.ntmps3
 go_wp2_with fail;generalize w.alloc (.cells #[.int .i64 en,.int .i64 mn,.int .u32 sd,.int .i64 mx] 26)=w2 at HA HW ⊢;refine (HS w2 (HE.out.later HW.out)).out.mono ?_;rintro e w3 ⟨rfl,hb3⟩;have HA3:=jY (HA.out.later hb3);have c0:=HA3.out.cell 0;have c1:=HA3.out.cell 1;have c2:=HA3.out.cell 2;have c3:=HA3.out.cell 3;simp at c0 c1 c2 c3;have HW3:=jY (HW.out.trans (hb3.mono HW.out.size));have HN3:=HN w3;clear hb3 HA HW HS HN;go_wp2_with fail;clear c0 c1 c2 c3;refine HN3.out.mono ?_;rintro e w4 ⟨p,rfl,h4⟩;have hc4:=HA3.out.later h4.below;have c0:=hc4.cell 0;have c1:=hc4.cell 1;have c2:=hc4.cell 2;have c3:=hc4.cell 3;simp at c0 c1 c2 c3;have HG:=jY (Going.start (mx:=mx) (HE.out.later HW3.out) h4);have HL3:=jY (HL.out.below HW3.out);have HT3:=jY (HT.out.below HW3.out);clear h4 HN3 HL hc4 HT;go_wp2_with fail;clear c0 c1 c2 c3
 go_loopw [8] (fun iv wr=>∃ (i:Nat) (L:List Th) (R:List Rt),iv=.int .i64 i/\i<=l.length/\i<=80/\Going w3 wr p w4.heap.size en mn sd mx i L R) (fun iv _=>l.length-(intOf iv).toNat)
 case atStart=>exact ⟨0,[],[],rfl,by omega,by omega,HG.out⟩
 case round =>
  obtain ⟨i,L,R,rfl,hi,hi80,hg⟩:=hrel;clear HG
  by_cases hlt:i<l.length/\i<80
  ·obtain ⟨hl1,hl2⟩:=hlt;obtain ⟨b,off,rfl,x0,x1,x2,x3,x4,x5,x6⟩:=y4v (HL3.out.below hg.below) hl1;have hdi:=hg.did (by omega) l[i] (HLO.out _ (List.getElem_mem hl1));unfold x6n at hdi;have HDI:=jY hdi;clear hdi hg;generalize l[i]=y at *;go_wp2_with fail;refine HDI.out.mono ?_;rintro e w6 ⟨rfl,L',R',h6,_,_⟩;have H6:=jY h6;have HK:=jY (h6.keysOf HT3.out);have HSO:=jY h6.sorted;have HIK:=jY (fun j k=>h6.isKey (j:=j) (k:=k));have HKY:=jY h6.keys;have hsz:=h6.sizeLe (by omega);have hlen:=h6.lenLe;clear h6 HDI x0 x1 x2 x3 x4 x5 x6;go_wp2_with fail;refine HK.out.mono ?_;rintro e w7 ⟨u,rfl,ho,hb7⟩;have HUL:=jY (x9m HKY.out HSO.out.1);have HUA:=jY (y0g HKY.out HSO.out.1);have hkl:=HSO.out.2;generalize hks:Dc.Dt.X7 ((itl L').map P6)=ks at *;obtain ⟨A,cap,rfl,hcap,hmax,hat⟩:=I5 ho;have H7:=jY (H6.out.later hb7);have HAT:=jY hat;have HO:=jY ho;clear ho hat hb7 H6 HK hks;go_wp2_with fail
   go_loopw [9,11] (fun nv kv wr2=>∃ (j:Nat),nv=.int .i64 (z6n (itl L') ks j:Nat)/\kv=.int .i64 j/\j<=ks.length/\Going w3 wr2 p w4.heap.size en mn sd mx (i+1) L' R'/\Dc.Dt.Own9 wr2 w6.heap.size (.slice A ks.length cap) ks) (fun _ kv _=>ks.length-(intOf kv).toNat)
   case atStart=>exact ⟨0,rfl,rfl,by omega,H7.out,HO.out⟩
   case round =>
    obtain ⟨j,rfl,rfl,hj,hg2,ho2⟩:=hrel;have HG2:=jY hg2;have HO2:=jY ho2;clear H7 HO
    by_cases hjl:j<ks.length
    ·have hx:ks[j]?=some ks[j]:=List.getElem?_eq_getElem hjl;have hik:=HIK.out j _ hx;have hup:=x0f (I:=itl L') hx;have hul:=HUL.out (j+1);obtain ⟨g,rfl,x0⟩:=Be ho2 hx
     have HX8:=jY (fun W (h:Dc.Dt.Own9 W w6.heap.size (.slice (some ⟨g,0,none⟩) ks.length cap) ks)=>show W.cell? ⟨g,j,none⟩=some (.string (Dc.Dt.Ut ks[j])) from by
      obtain ⟨g',e,h2⟩:=Be h hx
      injection e with e
      injection e with e _ _
      subst e
      exact h2)
     generalize Dc.Dt.Ut ks[j]=kb at *;have hfi:=hg2.find kb (by omega);rw [hik.1] at hfi;have hkb:=hik.2;rw [hup] at hul;have HFI:=jY hfi;generalize hby:y6x (itl L') kb=by1 at *
     have HBY:=jY hby
     generalize hu0:z6n (itl L') ks j=n0 at *;have HUP:=jY hup;have hj2:(j:Int)<ks.length:=by omega
     generalize hsp:Fv L' kb=q at *;have HSP:=jY hsp;clear hx hik hup hg2 ho2 hfi hu0 hby hsp;go_wp2_with fail;refine HFI.out.mono ?_;rintro e w8 ⟨rfl,h8,k8⟩;have HBT:=fun (y:Ext w8)=>(h8.later y.ok).bytesOf kb;rw [HBY.out,HSP.out] at HBT;have HBT:=fun y=>jY (HBT y);have ho8:=y8e HO2.out k8;have H8:=jY h8;have HO8:=jY ho8;have q0:=fun y:Ext w8=>y.cell (HX8.out w8 ho8);have hne:=Ext.one w8;clear h8 k8 ho8 HFI HG2 HO2 x0;go_wp2_with fail;refine Za (w1:=w8) (by kernel_rfl) (by kernel_rfl) (Below.refl _ _) ?_
     repeat go_big_quiet_step ((go_at_call 10;exact Ext.call _ (HBT _).out))
     refine wpQuiet_nil ?_;rintro _ ⟨y,rfl⟩;have h9:=H8.out.later y.ok;have ho9:=HO8.out.below y.ok;have H9:=jY h9;have HO9:=jY ho9;clear q0 hne HBT h9 ho9 H8 HO8;go_wp2_with fail;exact ⟨⟨j+1,by rw [HUP.out];go_num,by go_num,by omega,H9.out,HO9.out⟩,by simp [intOf];omega⟩
    ·obtain rfl:j=ks.length:=by omega
     have hua:=HUA.out;rw [hua] at *;have HZ:=jY (hg2.sizeOf (by omega));clear hg2 ho2;go_wp2_with fail;refine HZ.out.mono ?_;rintro e w8 ⟨rfl,hb8⟩;have h8:=HG2.out.later hb8;have HLN:=jY h8.lenOf;have H8:=jY h8;rw [<- hkl] at HLN;clear h8 hb8 HZ;go_wp2_with fail;refine HLN.out.mono ?_;rintro e w9 ⟨rfl,rfl⟩;go_wp2_with fail;exact ⟨⟨i+1,L',R',by go_num,by omega,by omega,H8.out⟩,by simp [intOf];omega⟩
  ·have hor:¬ i<l.length\/(i<l.length/\¬ (i:Int)<80):=by omega
   have HB:=jY (HW3.out.trans (hg.below.mono HW3.out.size));clear hg hlt HLO HL3;rcases hor with hor|⟨hor,hor2⟩
   all_goals (
    go_wp2_with fail;go_ret
    exact ⟨rfl,HB.out⟩)
end Go.Proofs.YtknbfgilbnnnmaaGreatDoor
namespace Go.Proofs.YtknbfgilbnnnmaaGreatDoor
open Zc (Ent Ext KeepC Yl Z9 Zg Xg Zw Zd Zu Yo Y6 Ze Zy Z4 Za)
open Go.ChangeShapes Go.WideShapes Go.ChangeAt Go.RowKit
theorem Tryz.own:ownKnob Tryz.prog.godebug=none:=by kernel_rfl
theorem v3z : Tryz.prog.globalNamed "errors.errorType" = some 0 := by kernel_rfl
theorem x4y : (Tryz.prog.cutTypes.find? (·.1 == "internal/reflectlite.rtype")).map (·.2) = some 170 := by kernel_rfl
theorem v1s:((List.range Tryz.prog.types.size).filter fun t=>Tryz.prog.rowNamed t [101,114,114,111,114])=[94]:=by kernel_rfl
theorem Po{H:Type}{enc:TypeId × Value->H}{a:Assume}{C:Checked}{os:Os}{f:FuncId}{fn:Func}{s:ChangeSpec}{conds:List PathCond}{apart fresh handsOn again:Bool}{X:World->Array Value->Prop}
 (hX:∀ (w w':World) (args:Array Value),w.heap=w'.heap->X w args->X w' args)
 (own:ownKnob C.prog.godebug=none) (started:os.Started) (noInit:C.prog.inits.idxOf? f=none) (hfn:C.prog.funcs[f]?=some fn)
 (witness:∃ (w:World) (tape:Tape) (i:Input),w.os=os/\(w.forCall tape i).Shaped C.prog/\i.vars=[]/\Input.okWide C.prog (w.forCall tape i) .any w.heap.size f i /\
   ((s.pre enc C.prog fn conds apart (w.forCall tape i).memory i.args/\X (w.forCall tape i).memory i.args)/\sizedMet enc C.prog fn (OpenSpec.ofChange s) apart (w.forCall tape i).memory i.args)/\a.holds C.prog (lone (Frame.enter C.prog f i.args .normal) [] (w.forCall tape i)))
 (contract:∀ (W:World) (base:Nat) (args:Array Value) (ds gs:List (DataW H)) (before:List MemPlace),
   (∀ (j:Nat) t v,fn.params[j]?=some t->args[j]?=some v->Value.okWide C.prog W .any base t v) ->
   DataW.Whole enc C.prog fn.params.toList s.vars apart W args.toList ds gs before->X W args->W.ShapedOpen C.prog ->
   Calls C.prog f args W fun e W'=>∃ v,e=.returned v/\s.post enc C.prog fn apart fresh handsOn again W args v W') :
 ReturnsInHanded a C os f .any (fun w args=>(s.pre enc C.prog fn conds apart w args/\X w args)/\sizedMet enc C.prog fn (OpenSpec.ofChange s) apart w args) (s.post enc C.prog fn apart fresh handsOn again):=by
 refine returnsInHanded_of_calls own started noInit witness ?_;intro w tape i _ hsh _ hok hpre _;obtain ⟨_,_,_,fn',hfn',_,_,_,_,hval⟩:=hok;obtain rfl:fn'=fn:=Option.some.inj (hfn'.symm.trans hfn);obtain ⟨⟨⟨ds,gs,before,hw,_⟩,hx⟩,_⟩:=hpre;have hw':=DataW.Whole.of_heap (w':=w.forCall tape i) (by rfl) hw;refine (contract (w.forCall tape i) w.heap.size i.args ds gs before hval hw' (hX _ _ _ (by rfl) hx) hsh).mono fun e W' ⟨v,he,hp⟩=>?_;subst he;exact ChangeSpec.post_blind hp
abbrev Kx : List (String × DataW Unit) := [("math/bits.deBruijn32tab", Rows.laid_math_bits_deBruijn32tab), ("math/bits.deBruijn64tab", Rows.laid_math_bits_deBruijn64tab), ("errors.errorType", Rows.laid_errors_errorType)]
theorem g64 : Tryz.prog.globalNamed "math/bits.deBruijn64tab" = some 2 := by kernel_rfl
theorem v4a:(Tryz.prog.globals[2]?).map (·.type)=some 328:=by kernel_rfl
theorem v3x:Tryz.prog.cellsOf 328=64:=by kernel_rfl
theorem v3w:Tryz.prog.cellsOf 5=1:=by kernel_rfl
theorem v0r:(Rows.laid_math_bits_deBruijn64tab:DataW Unit)=Lib.tabData .u8 (List.map Int.ofNat Dc.Dt.y4k):=rfl
theorem x8z:((begin Tryz.prog (fun _ _=>0) default).world.heap[2]?).bind Obj.row?=some (Array.replicate 64 (.int .u8 0),328):=by kernel_rfl
theorem x4e {W : World} (h : laidMetH Tryz.prog Kx W) : laidMet Tryz.prog [("math/bits.deBruijn32tab", Rows.laid_math_bits_deBruijn32tab), ("math/bits.deBruijn64tab", Rows.laid_math_bits_deBruijn64tab)] W ∧ handlesMet Tryz.prog [("errors.errorType", Rows.laid_errors_errorType)] W := h
theorem B7{W:World}(h:laidMetH Tryz.prog Kx W):W.cell? ⟨0,0,none⟩=some (.iface 170 (.agg #[.pointer (some ⟨3,94,none⟩)])):=by
 obtain ⟨name,u,ty,e1,e2,e3,e4,e5⟩:=(x4e h).2 _ (List.mem_singleton.2 rfl);have en:name=[101,114,114,111,114]:=(Option.some.inj e1).symm;subst en;obtain rfl:=Option.some.inj (x4y.symm.trans e2);have hm:ty∈(List.range Tryz.prog.types.size).filter fun t=>Tryz.prog.rowNamed t [101,114,114,111,114]:=List.mem_filter.2 ⟨List.mem_range.2 e3,e4⟩;rw [v1s] at hm;obtain rfl:=List.mem_singleton.1 hm;have hh:typeHandle Tryz.prog 94=.pointer (some ⟨3,94,none⟩):=by kernel_rfl
 rw [hh] at e5
 simpa using World.var?_cell v3z e5 0
theorem z0z{W:World}(h:laidMetH Tryz.prog Kx W):EnvE W:=B7 h
theorem Gu{W:World}(h:laidMetH Tryz.prog Kx W)(hS:W.ShapedOpen Tryz.prog):EnvE W/\Dc.Dt.Env W:=by
 refine ⟨z0z h,?_⟩;have h2:=laidMet.tail (x4e h).1;rw [v0r] at h2;have h3:=Lib.tabIs_of_head g64 v4a Tryz.underlying328 Tryz.underlying5 v3w v3x h2;obtain ⟨cs,hh,_⟩:=hS.1 2 _ 328 (of_decide_eq_true (by kernel_rfl)) x8z
 have hc:∀ i:Nat,cs[i]?=Dc.Dt.x5v[i]?:=fun i=>by
  have h4:=World.var?_cell g64 h3 i;have h5:W.cell? ⟨2,i,none⟩=cs[i]?:=by simp [World.cell?,hh]
  rw [<- h5,h4];unfold Dc.Dt.x5v;simp only [List.getElem?_toArray,List.getElem?_map,Option.map_map];rfl
 have:cs=Dc.Dt.x5v:=Array.ext_getElem? hc
 subst this;exact hh
theorem z1o(os:Os)(args:Array Value):laidMetH Tryz.prog Kx ((World.doorLaid Tryz.prog 2000 os).forCall (fun _ _=>0) ⟨#[],args,[]⟩).memory :=
 laidMetH_of_parts (show laidMet Tryz.prog [("math/bits.deBruijn32tab", Rows.laid_math_bits_deBruijn32tab), ("math/bits.deBruijn64tab", Rows.laid_math_bits_deBruijn64tab)] _ from laidMet_of_run3 8 (by kernel_rfl) (by kernel_rfl) (by kernel_rfl)) (by kernel_rfl)
end Go.Proofs.YtknbfgilbnnnmaaGreatDoor
namespace Go.Proofs.YtknbfgilbnnnmaaGreatDoor
open Zc (Ent Ext KeepC Yl Z9 Zg Xg Zw Zd Zu Yo Y6 Ze Zy Z4 Za)
open Go.RowKit Go.Shelf Go.Sort Sk
attribute [local go_sem] Oper.semAt_some
section
variable {w w':World} {p sd c d cv n:Nat} {S:Nat->Prop} {en mn:Int} {rv:Value} {L:List Th} {Q:Value->World->Prop}
theorem x9c(h:Blk w p Ii (spC en mn sd d rv))(hs:Calls Tryz.prog 43 #[.pointer (some ⟨d,0,none⟩),.int .u32 cv] w fun e w'=>∃ u,e=.returned (.tuple #[u,.int .u32 n])/\Q u w') :
 Calls Tryz.prog 13 #[.pointer (some ⟨p,0,none⟩),.int .u32 cv] w fun e w'=>∃ u,e=.returned (.tuple #[u,.int .u32 n])/\Q u w':=by
 have HT:=jY (Pd p d sd en mn rv w h);have HS:=jY hs;clear hs h
 go_enter Tryz.func13,Tryz.ntmps13
 go_wp2_with fail;refine HT.out.mono ?_;rintro e w1 ⟨rfl,rfl⟩;go_wp2_with fail;refine HS.out.mono ?_;rintro e w2 ⟨u,rfl,hq⟩;have HQ:=jY hq;clear hq HS HT;go_wp2;go_ret2;exact ⟨_,rfl,HQ.out⟩
structure Scans (w:World) (p lst:Nat) (part tot:Nat->List (List UInt8)):Prop where
 call:∀ W,Bl w W->∀ j,j<lst->Calls Tryz.prog 13 #[.pointer (some ⟨p,0,none⟩),.int .u32 (Dc.Dt.Yn (j*Dc.Dt.Z8 lst))] W fun e W' =>
  ∃ u,e=.returned (.tuple #[u,.int .u32 (Dc.Dt.Yn ((j+1)*Dc.Dt.Z8 lst))])/\Dc.Dt.Own9 W' W.heap.size u (part j)/\Bl W W'
 zero:tot 0=[]
 succ:∀ j,tot (j+1)=tot j++part j
 size:Dc.isS (lst:Int)=true/\lst<=1024/\0<lst
 len:∀ j,j<=lst->(tot j).length<=500
theorem Scans.mem{w:World}{p lst:Nat}{part tot:Nat->List (List UInt8)}(h:Scans w p lst part tot){j:Nat}(hj:j<lst){x:List UInt8}(hx:x∈part j):x∈tot lst:=by
 have:∀ d,x∈tot (j+1+d):=by
  intro d
  induction d with
  | zero=>rw [Nat.add_zero,h.succ];exact List.mem_append_right _ hx
  | succ d ih=>rw [<- Nat.add_assoc,h.succ];exact List.mem_append_left _ ih
 have e:=this (lst-(j+1))
 rwa [show j+1+(lst-(j+1))=lst by omega] at e
theorem Scans.partLen{w:World}{p lst:Nat}{part tot:Nat->List (List UInt8)}(h:Scans w p lst part tot){j:Nat}(hj:j<lst):(tot j).length<=500/\(part j).length<=500:=by
 have h1:=h.len (j+1) (by omega);rw [h.succ,List.length_append] at h1;omega
theorem x5o(h:SpSt w p en mn sd c L S)(hE:Dc.Dt.Env w):∃ lst part tot,Scans w p lst part tot/\(tot lst).Perm ((itl L).map P6):=by
 obtain ⟨d,SD,rv,sh,h1,h2,h3,hS⟩:=h;obtain ⟨D,g1,g2,g3⟩:=h1.dict;have hs:D.shape.small:=by rw [g3];exact h2.2
 have hn:D.n<=500:=by
  have:D.shape.n=D.n:=rfl
  rw [g3,h2.1] at this;omega
 have ho:=Dc.Dt.V3 g2.1.ok _ (.inl rfl) hs.1 hs.2;have hl4:=Dc.Zn ho.2.1;refine ⟨D.least,fun j=>Dc.Dt.P0 D (j*Dc.Dt.Z8 D.least),Dc.Dt.Uf D,⟨fun W hb j hj=>?_,rfl,fun _=>rfl,⟨ho.2.1,ho.2.2.2,by have:(4:Int)<=(D.least:Int):=hl4.1;omega⟩,fun j hj=>Nat.le_trans (Dc.Dt.z3a g2 hs j hj).1 hn⟩,z2d h1.keys g2 hs⟩;exact x9c (h1.blk.later hb) (Dc.Dt.z0c (g1.later hb) g2 hn hs j hj (hE.below hb))
end
def z3y(ks:List (List UInt8))(x:List UInt8)(k:Nat):Nat:=(ks.take k).count x
theorem y6z{ks:List (List UInt8)}{x y:List UInt8}{k:Nat}(h:ks[k]?=some y):z3y ks x (k+1)=z3y ks x k+(if y=x then 1 else 0):=by
 obtain ⟨hk,he⟩:=List.getElem?_eq_some_iff.1 h;unfold z3y;rw [List.take_succ_eq_append_getElem hk,he,List.count_append,List.count_singleton];simp
theorem z1n{x:List UInt8}:∀ {l:List (List UInt8)},l.Nodup->x∈l->l.count x=1
 | [],_,h=>by cases h
 | a :: r,hn,h=>by
   obtain ⟨h1,h2⟩:=List.nodup_cons.1 hn
   by_cases e:a=x
   ·subst e;rw [List.count_cons_self,List.count_eq_zero.2 h1]
   ·rw [List.count_cons_of_ne e];rcases List.mem_cons.1 h with h|h
    ·exact absurd h.symm e
    ·exact z1n h2 h
theorem x1k{ks:List (List UInt8)}{x:List UInt8}(hn:ks.Nodup)(hx:x∈ks):z3y ks x ks.length=1:=by
 unfold z3y;rw [List.take_length];exact z1n hn hx
theorem x6u(ks:List (List UInt8))(x:List UInt8)(k:Nat):z3y ks x k<=ks.length:=by
 unfold z3y;exact Nat.le_trans List.count_le_length (by simp;omega)
theorem x7w{a b:List UInt8}(h:a≠b):Dc.Dt.Ut a≠Dc.Dt.Ut b:=fun e=>h (by have:=congrArg (fun z=>z.data.toList) e;simpa [Dc.Dt.Ut] using this)
section
variable {w0 W W':World} {p rp sd i:Nat} {en mn mx:Int} {L:List Th} {R:List Rt}
theorem Going.scans(h:Going w0 W p rp en mn sd mx i L R)(hT:Dc.Dt.Env w0):∃ lst part tot,Scans W p lst part tot/\(tot lst).Perm ((itl L).map P6):=by
 obtain ⟨c,h1,h2,h3,h4⟩:=h;obtain ⟨S,T,g1,_⟩:=h3.ex;exact x5o g1 (hT.below h3.below)
end
theorem y3t(en mn:Int)(sd:Nat)(hsd:sd<4294967296)(mx:Int)(la:Option Addr)(cap:Nat)(l:List ActX)(hl:∀ x∈l,x.Ok)(hlz:l.length<=9223372036854775807)(w:World)(hE:EnvE w)(hT:Dc.Dt.Env w)(hL:Acts w la l) :
 Calls Tryz.prog 4 #[.agg #[.int .i64 en,.int .i64 mn,.int .u32 sd,.int .i64 mx],.slice la l.length cap] w fun e w'=>e=.returned (.bool true)/\Bl w w':=by
 have HA:=jY (Blk.new w 26 #[.int .i64 en,.int .i64 mn,.int .u32 sd,.int .i64 mx]);have HW:=jY (Z0 w (.cells #[.int .i64 en,.int .i64 mn,.int .u32 sd,.int .i64 mx] 26));have HS:=fun W (h:EnvE W)=>jY (z3f W h);have HE:=jY hE;have HT:=jY hT;have HL:=jY hL;have HLO:=jY hl;have HN:=fun W=>jY (z5h en mn mx sd hsd 5 W);clear hE hL hl hT
 go_enter Tryz.func4,Tryz.ntmps4
 go_wp2_with fail;generalize w.alloc (.cells #[.int .i64 en,.int .i64 mn,.int .u32 sd,.int .i64 mx] 26)=w2 at HA HW ⊢;refine (HS w2 (HE.out.later HW.out)).out.mono ?_;rintro e w3 ⟨rfl,hb3⟩;have HA3:=jY (HA.out.later hb3);have c0:=HA3.out.cell 0;have c1:=HA3.out.cell 1;have c2:=HA3.out.cell 2;have c3:=HA3.out.cell 3;simp at c0 c1 c2 c3;have HW3:=jY (HW.out.trans (hb3.mono HW.out.size));have HN3:=HN w3;clear hb3 HA HW HS HN;go_wp2_with fail;clear c0 c1 c2 c3;refine HN3.out.mono ?_;rintro e w4 ⟨p,rfl,h4⟩;have hc4:=HA3.out.later h4.below;have c0:=hc4.cell 0;have c1:=hc4.cell 1;have c2:=hc4.cell 2;have c3:=hc4.cell 3;simp at c0 c1 c2 c3;have HG:=jY (Going.start (mx:=mx) (HE.out.later HW3.out) h4);have HL3:=jY (HL.out.below HW3.out);have HT3:=jY (HT.out.below HW3.out);clear h4 HN3 HL hc4 HT;go_wp2_with fail;clear c0 c1 c2 c3
 go_loopw [8] (fun iv wr=>∃ (i:Nat) (L:List Th) (R:List Rt),iv=.int .i64 i/\i<=l.length/\i<=100/\Going w3 wr p w4.heap.size en mn sd mx i L R) (fun iv _=>l.length-(intOf iv).toNat)
 case atStart=>exact ⟨0,[],[],rfl,by omega,by omega,HG.out⟩
 case round =>
  obtain ⟨i,L,R,rfl,hi,hi100,hg⟩:=hrel;clear HG
  by_cases hlt:i<l.length/\i<100
  ·obtain ⟨hl1,hl2⟩:=hlt;obtain ⟨b,off,rfl,x0,x1,x2,x3,x4,x5,x6⟩:=y4v (HL3.out.below hg.below) hl1;have hdi:=hg.did (by omega) l[i] (HLO.out _ (List.getElem_mem hl1));unfold x6n at hdi;have HDI:=jY hdi;clear hdi hg;generalize l[i]=y at *;go_wp2_with fail;refine HDI.out.mono ?_;rintro e w6 ⟨rfl,L',R',h6,_,_⟩;have H6:=jY h6;clear h6 HDI x0 x1 x2 x3 x4 x5 x6;go_wp2_with fail;exact ⟨⟨i+1,L',R',by go_num,by omega,by omega,H6.out⟩,by simp [intOf];omega⟩
  ·have hor:¬ i<l.length\/(i<l.length/\¬ (i:Int)<100):=by omega
   have HB:=jY (HW3.out.trans (hg.below.mono HW3.out.size));have HK:=jY (hg.keysOf HT3.out);have HSO:=jY hg.sorted;have HND:=jY ((Dc.Dt.Xs _).nodup_iff.2 (Af hg.keys));have HGO:=jY hg;have hlen:=hg.lenLe;clear hg hlt HLO HL3;rcases hor with hor|⟨hor,hor2⟩
   all_goals (
    go_wp2_with fail;refine HK.out.mono ?_;rintro e w5 ⟨u,rfl,ho,hb5⟩;obtain ⟨lst,part,tot,hsc,hpm⟩:=(HGO.out.later hb5).scans HT3.out;have HSC:=jY hsc;have HPM:=jY (hpm.trans (Dc.Dt.Xs _).symm);have hkl:=HSO.out.2;generalize hks:Dc.Dt.X7 ((itl L).map P6)=ks at *;obtain ⟨A,cap5,rfl,hcap,hmax,_⟩:=I5 ho;have HO:=jY ho;have HB5:=jY (HB.out.trans (hb5.mono HB.out.size));have hls:=hsc.size.2.1;have HFC:=jY (fun j hj h0=>Dc.Dt.Cf lst j hsc.size.1 hj h0);clear ho hb5 hsc hpm HK HSO HGO hks HB;go_wp2_with fail
    go_loopw [10,11,12] (fun tv av cv wr=>∃ j:Nat,tv=.int .i64 ((tot j).length:Nat)/\av=.int .u32 (Dc.Dt.Yn (j*Dc.Dt.Z8 lst):Nat)/\cv=.int .i64 j/\j<=lst/\Bl w5 wr) (fun _ _ cv _=>lst+1-(intOf cv).toNat)
    case atStart=>exact ⟨0,by rw [HSC.out.zero];rfl,by rw [Nat.zero_mul,Dc.Dt.z1y];rfl,rfl,by omega,Below.refl _ _⟩
    case round =>
     obtain ⟨j,rfl,rfl,rfl,hj,hb⟩:=hrel;have HBR:=jY hb
     by_cases hjl:j<lst
     ·have HC:=jY (HSC.out.call wr hb j hjl);have hpl:=HSC.out.partLen hjl;have HX:=jY (fun x (hx:x∈part j)=>HPM.out.mem_iff.1 (HSC.out.mem hjl hx));have HS1:=jY (HSC.out.succ j)
      have hcur:j=0\/(Dc.Dt.Yn (j*Dc.Dt.Z8 lst)≠0/\0<j):=by
       by_cases h0:j=0
       ·exact .inl h0
       ·rcases HFC.out j hj (by omega) with ⟨h1,_⟩|⟨_,h2,_⟩
        ·omega
        ·exact .inr ⟨h2,by omega⟩
      generalize Dc.Dt.Yn (j * Dc.Dt.Z8 lst)=cur at *;generalize hnx:Dc.Dt.Yn ((j+1) * Dc.Dt.Z8 lst)=nx at *;generalize htj:(tot j).length=tj at *;generalize hpj:part j=pj at *;have HT1:=jY (show (tot (j+1)).length=tj+pj.length by rw [HS1.out,List.length_append,htj]);have HNX:=jY hnx;clear hb htj hpj hnx HS1;have HROW:=jY (fun (wA W:World) (h2:Bl wr wA) (h3:Bl wA W)=>show Bl w5 W from HBR.out.trans ((h2.trans (h3.mono h2.size)).mono HBR.out.size));have hjl2:(j:Int)<3000:=by omega
      have hcond:(((j:Int)==0)=true/\True)\/(((j:Int)==0)=false/\(((cur:Nat):Int) != 0)=true):=by
       rcases hcur with h|⟨h,h'⟩
       ·exact .inl ⟨by simp [h],trivial⟩
       ·exact .inr ⟨by simp;omega,by simp;omega⟩
      clear hcur;rcases hcond with ⟨hje,hcu⟩|⟨hje,hcu⟩
      all_goals (
       go_wp2_with fail;refine HC.out.mono ?_;rintro e wA ⟨u,rfl,hu,hbA⟩;obtain ⟨A2,cap2,rfl,_,_,_⟩:=I5 hu;have HU:=jY hu;have HRW:=jY (fun W h3=>HROW.out wA W hbA h3);have HB2:=jY hbA;clear hu hbA HC HROW;go_wp2_with fail
       go_loopw [15] (fun iv wr2=>∃ i2:Nat,iv=.int .i64 i2/\i2<=pj.length/\Bl wA wr2) (fun iv _=>pj.length-(intOf iv).toNat)
       case atStart=>exact ⟨0,rfl,by omega,Below.refl _ _⟩
       case round =>
        obtain ⟨i2,rfl,hi2,hb2⟩:=hrel;have HBB:=jY hb2;clear hb2
        by_cases hil:i2<pj.length
        ·have hx:pj[i2]?=some pj[i2]:=List.getElem?_eq_getElem hil;have hxm:=HX.out _ (List.mem_of_getElem? hx);generalize pj[i2]=x at *;have HXX:=jY hx;have HC1:=jY (x1k HND.out hxm);have hi3:(i2:Int)<pj.length:=by omega
         clear hx hxm;go_wp2_with fail
         go_loopw [16,17] (fun nv kv wr3=>∃ k:Nat,nv=.int .i64 (z3y ks x k:Nat)/\kv=.int .i64 k/\k<=ks.length/\Bl wA wr3) (fun _ kv _=>ks.length-(intOf kv).toNat)
         case atStart=>exact ⟨0,rfl,rfl,by omega,HBB.out⟩
         case round =>
          obtain ⟨k,rfl,rfl,hk,hb3⟩:=hrel;have HB3:=jY hb3
          by_cases hkl2:k<ks.length
          ·have hy:ks[k]?=some ks[k]:=List.getElem?_eq_getElem hkl2;have hcs:=y6z (x:=x) hy;have hcl:=x6u ks x k;obtain ⟨gA,rfl,x0⟩:=Be (HO.out.below (HRW.out wr hb3)) hy;obtain ⟨gB,rfl,x1⟩:=Be (HU.out.below hb3) HXX.out;generalize ks[k]=y at *;generalize hcn:z3y ks x k=cn at *;have HCN:=jY hcn;have hk3:(k:Int)<ks.length:=by omega
           have q0:=fun z:Ext wr=>z.cell x0;have q1:=fun z:Ext wr=>z.cell x1;have hne:=Ext.one wr;clear hb3 hy hcn x0 x1
           by_cases hyx:y=x
           ·have hbq:=v0h (congrArg Dc.Dt.Ut hyx);rw [if_pos hyx] at hcs;have HCS:=jY hcs;clear hyx hcs;go_wp2_with fail;refine Za (w1:=wr) (by kernel_rfl) (by kernel_rfl) (Below.refl _ _) ?_
            repeat go_big_quiet_step (fail)
            refine wpQuiet_nil ?_;rintro _ ⟨z,rfl⟩;have hz:=HB3.out.trans (z.ok.mono HB3.out.size);have HZ:=jY hz;clear q0 q1 hne hz;go_wp2_with fail;exact ⟨⟨k+1,by rw [HCS.out];go_num,by go_num,by omega,HZ.out⟩,by simp [intOf];omega⟩
           ·have hbq:=v0g (x7w hyx);rw [if_neg hyx,Nat.add_zero] at hcs;have HCS:=jY hcs;clear hyx hcs;go_wp2_with fail;refine Za (w1:=wr) (by kernel_rfl) (by kernel_rfl) (Below.refl _ _) ?_
            repeat go_big_quiet_step (fail)
            refine wpQuiet_nil ?_;rintro _ ⟨z,rfl⟩;have hz:=HB3.out.trans (z.ok.mono HB3.out.size);have HZ:=jY hz;clear q0 q1 hne hz;go_wp2_with fail;exact ⟨⟨k+1,by rw [HCS.out];rfl,by go_num,by omega,HZ.out⟩,by simp [intOf];omega⟩
          ·obtain rfl:k=ks.length:=by omega
           rw [HC1.out];clear hb3;go_wp2_with fail;exact ⟨⟨i2+1,by go_num,by omega,HB3.out⟩,by simp [intOf];omega⟩
        ·obtain rfl:i2=pj.length:=by omega
         have HRR:=jY (HRW.out wr HBB.out);go_wp2_with fail
         exact ⟨⟨j+1,by rw [HT1.out];go_num,by rw [HNX.out],by go_num,by omega,HRR.out⟩,by simp [intOf];omega⟩)
     ·obtain rfl:j=lst:=by omega
      have hz:Dc.Dt.Yn (j*Dc.Dt.Z8 j)=0:=by
       rcases HFC.out j hj HSC.out.size.2.2 with ⟨_,h2⟩|⟨h1,_⟩
       ·exact h2
       ·omega
      rw [hz];have hje:((j:Int)==0)=false:=by have:=HSC.out.size.2.2;simp;omega
      have htl:(tot j).length=ks.length:=HPM.out.length_eq;rw [htl];have HBF:=jY (HB5.out.trans (hb.mono HB5.out.size));clear hb HBR HFC HSC HPM hz htl;go_wp2_with fail;go_ret
      exact ⟨rfl,HBF.out⟩)
end Go.Proofs.YtknbfgilbnnnmaaGreatDoor
