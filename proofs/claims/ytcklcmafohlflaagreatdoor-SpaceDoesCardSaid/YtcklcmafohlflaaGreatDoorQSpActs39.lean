/- Texts of one kind in one: SpActs, SpDidAny, SpLook, SpPutsLaw, SpGoing, SpKeysG, SpRefKeys, SpDoesG, SpDoes, SpLaid, SpLaid3. -/
import Derived.Test.YtcklcmafohlflaaGreatDoorQSpDid38
import Derived.Test.YtcklcmafohlflaaGreatDoorTie
import Derived.LaidMore
import Derived.Stop.LaidTwo
import Derived.HandedShaped
import Derived.Deep.DeepLaidRun
set_option maxRecDepth 200000
set_option maxHeartbeats 8000000
namespace Go.Proofs.YtcklcmafohlflaaGreatDoor
open Zc (Ent Ext KeepC Ym Z9 Zg Xg Zx Zb Zv Yo Y5 Ze Zz Z4 Zd)
open Go.ChangeShapes Go.WideShapes Go.ChangeAt Go.RowKit Go.Deep
open Go.ChangeMaps (open_string shut_string)
structure ActX where
 d:Int
 k:ByteArray
 t:ByteArray
 m:ByteArray
 sc:Int
 n:Int
 dr:Int
instance:Inhabited ActX:=⟨⟨0,⟨#[]⟩,⟨#[]⟩,⟨#[]⟩,0,0,0⟩⟩
structure ActX.Ok (x:ActX):Prop where
 k:x.k.size<=9223372036854775807
 t:x.t.size<=9223372036854775807
 m:x.m.size<=9223372036854775807
 sc:Pk.Ya x.sc
 n:Lf.I64 x.n
 dr:0<=x.dr/\x.dr<=4294967295
def Acts(W:World)(a:Option Addr)(l:List ActX):Prop :=
 ∀ (i:Nat) (h:i<l.length),∃ b off,a=some ⟨b,off,none⟩/\b<W.heap.size/\W.cell? ⟨b,off+i*7,none⟩=some (.int .i64 l[i].d)/\W.cell? ⟨b,off+i*7+1,none⟩=some (.string l[i].k)/\W.cell? ⟨b,off+i*7+2,none⟩=some (.string l[i].t)/\W.cell? ⟨b,off+i*7+3,none⟩=some (.string l[i].m)/\W.cell? ⟨b,off+i*7+4,none⟩=some (.int .i64 l[i].sc)/\W.cell? ⟨b,off+i*7+5,none⟩=some (.int .i64 l[i].n)/\W.cell? ⟨b,off+i*7+6,none⟩=some (.int .u32 l[i].dr)
theorem Acts.below{W W':World}{a:Option Addr}{l:List ActX}(h:Acts W a l)(hb:Bl W W'):Acts W' a l:=fun i hi=>by
 obtain ⟨b,off,h1,hl,x0,x1,x2,x3,x4,x5,x6⟩:=h i hi;exact ⟨b,off,h1,Nat.lt_of_lt_of_le hl hb.size,(hb.cell (p:=⟨b,_,none⟩) hl).trans x0,(hb.cell (p:=⟨b,_,none⟩) hl).trans x1,(hb.cell (p:=⟨b,_,none⟩) hl).trans x2,(hb.cell (p:=⟨b,_,none⟩) hl).trans x3,(hb.cell (p:=⟨b,_,none⟩) hl).trans x4,(hb.cell (p:=⟨b,_,none⟩) hl).trans x5,(hb.cell (p:=⟨b,_,none⟩) hl).trans x6⟩
theorem x7d(a:Addr)(p q:Nat):(a.add p).add q=a.add (p+q):=by
 unfold Addr.add
 by_cases h1:p=0 <;> by_cases h2:q=0 <;> simp [h1,h2,Nat.add_assoc]
theorem y8d{H:Type}{enc:TypeId × Value->H}{W:World}{b0:Nat}{v:Value}{d:DataW H}{ps:List MemPlace}(hv:Value.okWide Tryz.prog W .any b0 27 v)(h:DataW.Trod enc Tryz.prog W 0 (fun _=>true) true 27 v d ps) :
 ∃ (a:Option Addr) (cap:Nat) (l:List ActX),v=.slice a l.length cap/\Acts W a l/\l.length<=cap/\l.length<=9223372036854775807/\∀ x∈l,x.Ok:=by
 obtain ⟨a,len,cap,rfl⟩:=okWide_slice Tryz.underlying27 hv;obtain ⟨fuel,hf⟩:=h;rcases Go.Deep.open_slice Tryz.underlying27 hf with ⟨hcs,_⟩|⟨a',len',cap',m,n,D,Pl,hcs,_,hl,hm,hmm,_,hx⟩
 ·simp [Value.cells] at hcs;obtain ⟨rfl,rfl,rfl⟩:=hcs;exact ⟨none,0,[],rfl,fun i hi=>by simp at hi,by simp,by simp,fun e he=>by simp at he⟩
 ·simp [Value.cells] at hcs;obtain ⟨rfl,rfl,rfl⟩:=hcs;simp only [if_true] at hmm;rw [v0z] at hx
  have each:∀ i,i<len->∃ x:ActX,W.cell? (a'.add (i*7))=some (.int .i64 x.d)/\W.cell? (a'.add (i*7+1))=some (.string x.k)/\W.cell? (a'.add (i*7+2))=some (.string x.t)/\W.cell? (a'.add (i*7+3))=some (.string x.m)/\W.cell? (a'.add (i*7+4))=some (.int .i64 x.sc)/\W.cell? (a'.add (i*7+5))=some (.int .i64 x.n)/\W.cell? (a'.add (i*7+6))=some (.int .u32 x.dr)/\x.Ok:=fun i hi=>by
   obtain ⟨cs,h1,h2⟩:=hx i (by omega);obtain ⟨xs,n',_,_,_,hxl,hfs⟩:=DataW.trod_struct v3c h2;obtain ⟨_,hlen,hat⟩:=World.cells?_some h1;have f0:=hfs 0 z3y rfl;have f1:=hfs 1 z4b rfl;have f2:=hfs 2 z4i rfl;have f3:=hfs 3 z4c rfl;have f4:=hfs 4 z4g rfl;have f5:=hfs 5 z4f rfl;have f6:=hfs 6 z3z rfl;obtain ⟨v0,v1,v2,v3,v4,v5,v6,rfl⟩:=v4f hlen
   replace hxl:xs.length=7:=hxl
   simp only [z3y,z4b,z4i,z4c,z4g,z4f,z3z,x1p,y0s,v0w,v0y,List.drop_zero,List.take_succ_cons,List.take_zero,List.drop_succ_cons] at f0 f1 f2 f3 f4 f5 f6;rw [lAa (show 0<xs.length by omega)] at f0;rw [lAa (show 1<xs.length by omega)] at f1;rw [lAa (show 2<xs.length by omega)] at f2;rw [lAa (show 3<xs.length by omega)] at f3;rw [lAa (show 4<xs.length by omega)] at f4;rw [lAa (show 5<xs.length by omega)] at f5;rw [lAa (show 6<xs.length by omega)] at f6;obtain ⟨k0,hk0,_,_⟩:=DataW.trod_int Tryz.underlying3 f0;obtain ⟨k1,hk1,_,w1⟩:=DataW.trod_string Tryz.underlying9 f1;obtain ⟨k2,hk2,_,w2⟩:=DataW.trod_string Tryz.underlying9 f2;obtain ⟨k3,hk3,_,w3⟩:=DataW.trod_string Tryz.underlying9 f3;obtain ⟨k4,hk4,_,w4⟩:=DataW.trod_int Tryz.underlying2 f4;obtain ⟨k5,hk5,_,w5⟩:=DataW.trod_int Tryz.underlying3 f5;obtain ⟨k6,hk6,_,w6⟩:=DataW.trod_int Tryz.underlying24 f6;simp only [List.cons.injEq,and_true] at hk0 hk1 hk2 hk3 hk4 hk5 hk6;subst hk0 hk1 hk2 hk3 hk4 hk5 hk6;have a0:=hat 0 (by simp);have a1:=hat 1 (by simp);have a2:=hat 2 (by simp);have a3:=hat 3 (by simp);have a4:=hat 4 (by simp);have a5:=hat 5 (by simp);have a6:=hat 6 (by simp);rw [x7d] at a0 a1 a2 a3 a4 a5 a6;unfold maxLen at w1 w2 w3;exact ⟨⟨k0,k1,k2,k3,k4,k5,k6⟩,a0,a1,a2,a3,a4,a5,a6,⟨w1,w2,w3,Bv w4,Bv w5,Bw w6⟩⟩
  obtain ⟨E,hE⟩:=Go.Deep.choose_lt each;unfold maxLen at hm;refine ⟨some a',cap,(List.range len).map E,by simp,fun i hi=>?_,by simp;omega,by simp;omega,fun e he=>?_⟩
  ·have hi':i<len:=by simpa using hi
   obtain ⟨c0,c1,c2,c3,c4,c5,c6,_⟩:=hE i hi';obtain ⟨b,off,spot⟩:=a';have hspot:spot=none:=by simpa [Addr.add] using World.cell?_spot (hE 0 (by omega)).1
   subst hspot;rw [Addr.add_lit] at c0 c1 c2 c3 c4 c5 c6;have hbl:b<W.heap.size:=World.block_lt_of_cell? W ⟨b,_,none⟩ c0;refine ⟨b,off,rfl,hbl,?_,?_,?_,?_,?_,?_,?_⟩
   ·simpa using c0
   ·simpa [Nat.add_assoc] using c1
   ·simpa [Nat.add_assoc] using c2
   ·simpa [Nat.add_assoc] using c3
   ·simpa [Nat.add_assoc] using c4
   ·simpa [Nat.add_assoc] using c5
   ·simpa [Nat.add_assoc] using c6
  ·obtain ⟨i,hi,rfl⟩:=List.mem_map.1 he;exact (hE i (List.mem_range.1 hi)).2.2.2.2.2.2.2
end Go.Proofs.YtcklcmafohlflaaGreatDoor
namespace Go.Proofs.YtcklcmafohlflaaGreatDoor
open Zc (Ent Ext KeepC Ym Z9 Zg Xg Zx Zb Zv Yo Y5 Ze Zz Z4 Zd)
open Go.RowKit Go.Shelf Sk
attribute [local go_sem] Oper.semAt_some
def v2e(L:List Th)(x:ActX)(I:List It):Prop:=(IntKind.u64.wrap x.d).tmod 10≠9->OffI (itl L) I (Zf x.k) (Zf x.t)
def v0s(x:ActX):Value:=.agg #[.int .i64 x.d,.string x.k,.string x.t,.string x.m,.int .i64 x.sc,.int .i64 x.n,.int .u32 x.dr]
theorem DidAt.imp{w0 W W':World}{p rp sd c:Nat}{en mn mx:Int}{G H:List It->Prop}(h:DidAt w0 W W' p rp en mn sd mx c G)(g:∀ I,G I->H I):DidAt w0 W W' p rp en mn sd mx c H:=by
 obtain ⟨c',L',R',h1,h2,h3,h4,h5,h6⟩:=h;exact ⟨c',L',R',h1,h2,h3,h4,h5,g _ h6⟩
section
variable {w0 w W W':World} {p rp sd c:Nat} {en mn mx:Int} {L:List Th} {R:List Rt}
theorem x7n(h:PairSp w0 W p rp en mn sd mx c L R)(hA:Alike en mn L R)(hc5:5<=c)(hc:c<=300)(x:ActX)(hx:x.Ok) :
 Calls Tryz.prog 6 #[.pointer (some ⟨p,0,none⟩),.pointer (some ⟨rp,0,none⟩),v0s x] W fun e W'=>e=.returned (.bool true)/\DidAt w0 W W' p rp en mn sd mx c (v2e L x):=by
 have h0:0<=IntKind.u64.wrap x.d:=by rw [IntKind.wrap_u64];omega
 have e:(IntKind.u64.wrap x.d).tmod 10=(IntKind.u64.wrap x.d) % 10:=Int.tmod_eq_emod_of_nonneg h0;have fin:∀ {e:Ending} {W':World},(e=.returned (.bool true)/\DidAt w0 W W' p rp en mn sd mx c (fun I=>OffI (itl L) I (Zf x.k) (Zf x.t)))->e=.returned (.bool true)/\DidAt w0 W W' p rp en mn sd mx c (v2e L x):=fun ⟨h1,h2⟩=>⟨h1,h2.imp fun I hI _=>hI⟩;obtain hk|hk|hk|hk|hk|hk|hk|hk:((IntKind.u64.wrap x.d).tmod 10=0\/(IntKind.u64.wrap x.d).tmod 10=1\/(IntKind.u64.wrap x.d).tmod 10=2)\/(IntKind.u64.wrap x.d).tmod 10=3\/(IntKind.u64.wrap x.d).tmod 10=4\/(IntKind.u64.wrap x.d).tmod 10=5\/(IntKind.u64.wrap x.d).tmod 10=6\/(IntKind.u64.wrap x.d).tmod 10=7\/(IntKind.u64.wrap x.d).tmod 10=8\/(IntKind.u64.wrap x.d).tmod 10=9:=by omega
 ·exact (x1u h hA hc x.d x.k x.t x.m x.sc x.n x.dr hx.k hx.m hx.sc hx.n hk).mono fun _ _=>fin
 ·exact (x7p h hA hc5 (by omega) x.d x.k x.t x.m x.sc x.n x.dr hx.k hx.m hx.sc hx.n hk).mono fun _ _=>fin
 ·exact (x7o h hA x.d x.k x.t x.m x.sc x.n x.dr hx.k hk).mono fun _ _=>fin
 ·exact (x1x h hA hc x.d x.k x.t x.m x.sc x.n x.dr hx.k hx.m hk).mono fun _ _=>fin
 ·exact (x7q h hA x.d x.k x.t x.m x.sc x.n x.dr hx.k hx.t hk).mono fun _ _=>fin
 ·exact (y6y h hA x.d x.k x.t x.m x.sc x.n x.dr hx.k hx.n hx.dr.1 hx.dr.2 hk).mono fun _ _=>fin
 ·exact (x1w h hA x.d x.k x.t x.m x.sc x.n x.dr hx.k hk).mono fun _ _=>fin
 ·exact (x1v h hA x.d x.k x.t x.m x.sc x.n x.dr hx.k hk).mono fun _ _ ⟨h1,h2⟩=>⟨h1,h2.imp fun I _ h9=>absurd hk h9⟩
theorem y8x(w:World)(en mn mx:Int)(sd:Nat):RefSp (w.alloc (.cells #[.slice none 0 0,.int .i64 en,.int .i64 mn,.int .u32 sd,.int .i64 mx] Jn)) w.heap.size en mn sd mx [] (fun k=>k=w.heap.size) :=
 ⟨.slice none 0 0,⟨Blk.new w Jn _,x3s _ _,(fun x hx=>by cases hx),List.nodup_nil⟩,by simp,fun k=>⟨fun h=>.inl h,fun h=>by
   rcases h with h|h|⟨x,hx,_⟩
   ·exact h
   ·cases h
   ·cases hx⟩⟩
theorem x4m(hE:EnvE w0)(h:SpOwn w0 w p en mn sd c []):PairSp w0 (w.alloc (.cells #[.slice none 0 0,.int .i64 en,.int .i64 mn,.int .u32 sd,.int .i64 mx] Jn)) p w.heap.size en mn sd mx c [] []:=by
 obtain ⟨S,h1,h2,h3⟩:=h;exact ⟨hE,⟨S,fun k=>k=w.heap.size,h1.later (Z0 _ _),y8x w en mn mx sd,h2,fun k hk=>by subst hk;exact h3.size⟩,h3.alloc h3.size _⟩
end
def y0x(I:List It)(o:ByteArray):List En:=match Xy I o with
 | some x=>x.E
 | none=>[]
def LookAt(L:List Th)(o:ByteArray)(a:Option Addr)(E:List En):Prop:=(∃ t∈L,t.key=o/\a=some ⟨t.s,0,none⟩/\E=t.E)\/(Xy (itl L) o=none/\a=none/\E=[])
section
variable {w0 W W':World} {p rp sd c:Nat} {en mn mx:Int} {L:List Th} {R:List Rt} {o:ByteArray} {a:Option Addr} {E:List En}
theorem x8m(hk:Y6 (itl L))(o:ByteArray):LookAt L o (Fr L o) (y0x (itl L) o):=by
 unfold Fr y0x
 cases hf:L.find? (fun t=>decide (t.key=o)) with
 | some t =>
   have ht:=List.mem_of_find?_eq_some hf;have hto:t.key=o:=by simpa using List.find?_some hf
   have:=Bd hk (List.mem_map.2 ⟨t,ht,rfl⟩:t.toIt∈itl L)
   rw [show t.toIt.key=o from hto] at this;rw [this];exact .inl ⟨t,ht,hto,rfl,rfl⟩
 | none =>
   have:Xy (itl L) o=none:=by
    have h1:=Qd L o;unfold Y4 at h1;rw [hf] at h1
    simpa using h1
   rw [this];exact .inr ⟨this,rfl,rfl⟩
theorem LookAt.len(h:PairSp w0 W p rp en mn sd mx c L R)(hl:LookAt L o a E)(hc:c<=10000):E.length<=10000:=by
 rcases hl with ⟨t,ht,_,_,rfl⟩|⟨_,_,rfl⟩
 ·exact lAe (h.good ht).len hc
 ·simp
theorem PairSp.set(h:PairSp w0 W p rp en mn sd mx c L R){t:Th}(ht:t∈L):SetIs W t.s t.S t.isL (Z6 en 200) (Z6 mn 64) c t.E:=by
 obtain ⟨S,T,h1,_⟩:=h.ex;exact (h1.th ht).2
theorem x3j(h:PairSp w0 W p rp en mn sd mx c L R)(hl:LookAt L o a E):Calls Tryz.prog 19 #[.pointer a] W fun e W'=>e=.returned (.int .i64 E.length)/\Bl W W':=by
 rcases hl with ⟨t,ht,_,rfl,rfl⟩|⟨_,rfl,rfl⟩
 ·exact z6b (h.set ht)
 ·exact x8v W
theorem y2e(h:PairSp w0 W p rp en mn sd mx c L R)(hl:LookAt L o a E):Calls Tryz.prog 18 #[.pointer a,.int .i64 0,.int .i64 E.length] W fun e W'=>∃ r,e=.returned r/\Row W' W.heap.size r E/\Bl W W':=by
 rcases hl with ⟨t,ht,_,rfl,rfl⟩|⟨_,rfl,rfl⟩
 ·refine (y9o (h.set ht) 0 (t.E.length:Int)).mono ?_;rw [z9x];exact fun _ _ h=>h
 ·refine (y7y 0 _ W).mono ?_;rintro e W' ⟨x,y,rfl,hb⟩;exact ⟨_,rfl,⟨⟨x,y,rfl⟩,fun i e he=>by simp at he⟩,hb⟩
theorem Kw(L:List Th)(o:ByteArray):(Y4 L o).isSome=(Xy (itl L) o).isSome:=(Qd L o).symm
end
section
variable {b sd:Nat} {en mn mx d sc n dr:Int} {k t m:ByteArray} {W W' w:World}
end
theorem v0u{a b:ByteArray}(h:a=b):(a.toList==b.toList)=true:=by rw [h];simp
theorem x7c{W:World}{a:Option Addr}{l:List ActX}{i:Nat}(h:Acts W a l)(hi:i<l.length):∃ b off,a=some ⟨b,off,none⟩/\W.cell? ⟨b,off+i*7,none⟩=some (.int .i64 l[i].d)/\W.cell? ⟨b,off+i*7+1,none⟩=some (.string l[i].k)/\W.cell? ⟨b,off+i*7+2,none⟩=some (.string l[i].t)/\W.cell? ⟨b,off+i*7+3,none⟩=some (.string l[i].m)/\W.cell? ⟨b,off+i*7+4,none⟩=some (.int .i64 l[i].sc)/\W.cell? ⟨b,off+i*7+5,none⟩=some (.int .i64 l[i].n)/\W.cell? ⟨b,off+i*7+6,none⟩=some (.int .u32 l[i].dr):=by
 obtain ⟨b,off,h1,_,h2⟩:=h i hi;exact ⟨b,off,h1,h2⟩
def Going(w0 W:World)(p rp:Nat)(en mn:Int)(sd:Nat)(mx:Int)(i:Nat)(L:List Th)(R:List Rt):Prop:=∃ c,5<=c/\c<=5+i/\PairSp w0 W p rp en mn sd mx c L R/\Alike en mn L R
section
variable {w0 W W':World} {p rp sd i c:Nat} {en mn mx:Int} {L:List Th} {R:List Rt} {a:Option Addr} {E:List En} {o:ByteArray}
theorem Going.start(hE:EnvE w0)(h:SpOwn w0 W p en mn sd 5 []):Going w0 (W.alloc (.cells #[.slice none 0 0,.int .i64 en,.int .i64 mn,.int .u32 sd,.int .i64 mx] Jn)) p W.heap.size en mn sd mx 0 [] [] :=
 ⟨5,by omega,by omega,x4m hE h,z1l⟩
theorem Going.did(h:Going w0 W p rp en mn sd mx i L R)(hi:i<=200)(x:ActX)(hx:x.Ok) :
 Calls Tryz.prog 6 #[.pointer (some ⟨p,0,none⟩),.pointer (some ⟨rp,0,none⟩),v0s x] W fun e W'=>e=.returned (.bool true)/\∃ L' R',Going w0 W' p rp en mn sd mx (i+1) L' R'/\KeepB W W'/\v2e L x (itl L'):=by
 obtain ⟨c,h1,h2,h3,h4⟩:=h;refine (x7n h3 h4 h1 (by omega) x hx).mono ?_;rintro e W' ⟨rfl,c',L',R',g1,g2,g3,g4,g5,g6⟩;exact ⟨rfl,L',R',⟨c',by omega,by omega,g3,g4⟩,g5,g6⟩
theorem Going.below(h:Going w0 W p rp en mn sd mx i L R):Bl w0 W:=by obtain ⟨c,_,_,h,_⟩:=h;exact h.below
theorem Going.keys(h:Going w0 W p rp en mn sd mx i L R):Y6 (itl L):=by obtain ⟨c,_,_,h,_⟩:=h;exact h.keys
theorem Going.of(h:Going w0 W p rp en mn sd mx i L R)(g:∀ c,PairSp w0 W p rp en mn sd mx c L R->PairK w0 W W' p rp en mn sd mx c L R):Going w0 W' p rp en mn sd mx i L R/\KeepB W W':=by
 obtain ⟨c,h1,h2,h3,h4⟩:=h;exact ⟨⟨c,h1,h2,(g c h3).pair,h4⟩,(g c h3).keep⟩
theorem Going.later(h:Going w0 W p rp en mn sd mx i L R)(hb:Bl W W'):Going w0 W' p rp en mn sd mx i L R:=(h.of fun _ g=>g.later hb).1
theorem Going.find(h:Going w0 W p rp en mn sd mx i L R)(o:ByteArray)(ho:o.size<=281474976710656) :
 Calls Tryz.prog 15 #[.pointer (some ⟨p,0,none⟩),.string o] W fun e W'=>e=.returned (.tuple #[.pointer (Fr L o),.bool (Xy (itl L) o).isSome])/\Going w0 W' p rp en mn sd mx i L R/\KeepB W W':=by
 obtain ⟨c,h1,h2,h3,h4⟩:=h;refine (z2r h3 o ho).mono ?_;rw [Kw];rintro e W' ⟨rfl,g⟩;exact ⟨rfl,⟨c,h1,h2,g.pair,h4⟩,g.keep⟩
theorem Going.use(h:Going w0 W p rp en mn sd mx i L R)(o:ByteArray)(ho:o.size<=281474976710656) :
 Calls Tryz.prog 16 #[.pointer (some ⟨p,0,none⟩),.string o] W fun e W'=>e=.returned (.tuple #[.agg #[.int .i64 (Fy (itl L) o).1,.int .i64 (Fy (itl L) o).2],.bool (Xy (itl L) o).isSome])/\Going w0 W' p rp en mn sd mx i L R/\KeepB W W':=by
 obtain ⟨c,h1,h2,h3,h4⟩:=h;refine (x4l h3 o ho).mono ?_;rw [Kw];rintro e W' ⟨rfl,g⟩;exact ⟨rfl,⟨c,h1,h2,g.pair,h4⟩,g.keep⟩
theorem Going.look(h:Going w0 W p rp en mn sd mx i L R)(hl:LookAt L o a E):Calls Tryz.prog 19 #[.pointer a] W fun e W'=>e=.returned (.int .i64 E.length)/\Bl W W':=by
 obtain ⟨c,h1,h2,h3,h4⟩:=h;exact x3j h3 hl
theorem Going.range(h:Going w0 W p rp en mn sd mx i L R)(hl:LookAt L o a E):Calls Tryz.prog 18 #[.pointer a,.int .i64 0,.int .i64 E.length] W fun e W'=>∃ r,e=.returned r/\Row W' W.heap.size r E/\Bl W W':=by
 obtain ⟨c,h1,h2,h3,h4⟩:=h;exact y2e h3 hl
theorem Going.small(h:Going w0 W p rp en mn sd mx i L R)(hi:i<=200)(hl:LookAt L o a E):E.length<=1000000:=by
 obtain ⟨c,h1,h2,h3,h4⟩:=h
 have:=hl.len h3 (by omega)
 omega
end
theorem v0a(W:World)(a b:Int):Blk (W.alloc (.cells #[.int .i64 a,.int .i64 b] 48)) W.heap.size 48 #[.int .i64 a,.int .i64 b] /\
 Bl W (W.alloc (.cells #[.int .i64 a,.int .i64 b] 48)):=⟨Blk.new W _ _,Z0 W _⟩
end Go.Proofs.YtcklcmafohlflaaGreatDoor
namespace Go.Proofs.YtcklcmafohlflaaGreatDoor
open Zc (Ent Ext KeepC Ym Z9 Zg Xg Zx Zb Zv Yo Y5 Ze Zz Z4 Zd)
open Go.RowKit Go.Shelf Go.Sort Sk
attribute [local go_sem] Oper.semAt_some
theorem I7{W:World}{base:Nat}{v:Value}{ks:List (List UInt8)}(h:Dc.Dt.Own9 W base v ks):∃ A cap,v=.slice A ks.length cap/\ks.length<=cap/\cap<=maxLen/\∀ i k,ks[i]?=some k->∃ g,A=some ⟨g,0,none⟩/\W.cell? ⟨g,i,none⟩=some (.string (Dc.Dt.Kz k)):=by
 unfold Dc.Dt.Own9 at h;rcases h.2 with ⟨rfl,h0⟩|⟨g,cap,cur,rfl,_,hg,hl,hm,_⟩
 ·exact ⟨none,0,by rw [h0],by omega,by unfold maxLen;omega,fun i k hk=>by
   have:=(lAb.1 hk).1
   omega⟩
 ·refine ⟨some ⟨g,0,none⟩,cap,rfl,hl,hm,fun i k hk=>⟨g,rfl,?_⟩⟩;have hi:=(lAb.1 hk).1;rw [World.ownsRow.cellAt h i (by omega),List.getElem?_map,hk];rfl
theorem y5t{W:World}{base n cap i:Nat}{A:Option Addr}{ks:List (List UInt8)}{k:List UInt8}(h:Dc.Dt.Own9 W base (.slice A n cap) ks)(hk:ks[i]?=some k):∃ g,A=some ⟨g,0,none⟩/\W.cell? ⟨g,i,none⟩=some (.string (Dc.Dt.Kz k)):=by
 obtain ⟨A',cap',e,_,_,h2⟩:=I7 h
 injection e with e1 _ _
 subst e1;exact h2 i k hk
theorem y8e{W W':World}{base:Nat}{v:Value}{ks:List (List UInt8)}(h:Dc.Dt.Own9 W base v ks)(hk:KeepB W W'):Dc.Dt.Own9 W' base v ks:=by
 unfold Dc.Dt.Own9 at *;refine ⟨h.1,?_⟩;rcases h.2 with hn|⟨g,cap,cur,rfl,hb,hg,rest⟩
 ·exact .inl hn
 ·exact .inr ⟨g,cap,cur,rfl,hb,hk _ _ _ (by decide) (by decide) hg,rest⟩
theorem x6d{a b:List Nat}(h:a.Perm b):a.sum=b.sum:=by
 induction h with
 | nil=>rfl
 | cons x _ ih=>simp [ih]
 | swap x y l=>simp;omega
 | trans _ _ ih1 ih2=>exact ih1.trans ih2
section
variable {w0 W W':World} {p rp sd i c:Nat} {en mn mx:Int} {L:List Th} {R:List Rt} {a:Option Addr} {E:List En} {o:ByteArray}
theorem Going.keysOf(h:Going w0 W p rp en mn sd mx i L R)(hT:Dc.Dt.Env w0) :
 Calls Tryz.prog 11 #[.pointer (some ⟨p,0,none⟩)] W fun e W'=>∃ u,e=.returned u/\Dc.Dt.Own9 W' W.heap.size u (Dc.Dt.Xh ((itl L).map Dl))/\Bl W W':=by
 obtain ⟨c,h1,h2,h3,h4⟩:=h;obtain ⟨S,T,g1,_⟩:=h3.ex;exact x9s g1 (hT.below h3.below)
theorem Going.lenOf(h:Going w0 W p rp en mn sd mx i L R):Calls Tryz.prog 7 #[.pointer (some ⟨p,0,none⟩)] W fun e W'=>e=.returned (.int .i64 L.length)/\W'=W:=by
 obtain ⟨c,h1,h2,h3,h4⟩:=h;exact x4j h3
theorem Going.lenLe(h:Going w0 W p rp en mn sd mx i L R):L.length<=500:=by
 obtain ⟨c,h1,h2,h3,h4⟩:=h;exact h3.len
theorem Going.sizeOf(h:Going w0 W p rp en mn sd mx i L R)(hi:i<=200):Calls Tryz.prog 8 #[.pointer (some ⟨p,0,none⟩)] W fun e W'=>e=.returned (.int .i64 (V8 (itl L):Nat))/\Bl W W':=by
 obtain ⟨c,h1,h2,h3,h4⟩:=h;obtain ⟨S,T,g1,_⟩:=h3.ex;exact y6k g1 (by omega)
theorem Going.sizeLe(h:Going w0 W p rp en mn sd mx i L R)(hi:i<=200):V8 (itl L)<=2000000000:=by
 obtain ⟨c,h1,h2,h3,h4⟩:=h;obtain ⟨S,T,g1,_⟩:=h3.ex
 have hs:=y4h (Vu (itl L)) 1000000 (fun x hx=>by
  unfold Vu at hx;rcases List.mem_cons.1 hx with rfl|hx
  ·omega
  ·obtain ⟨y,hy,hx⟩:=List.mem_flatMap.1 hx;obtain ⟨t,ht,rfl⟩:=List.mem_map.1 hy;obtain ⟨d,SD,rv,sh,g,_⟩:=g1;have hg:=(g.set t ht).good
   exact x6e (g.ksz t ht) (lAe hg.len (by omega)) (fun e he=>(hg.each e he).1) x hx) (Vu (itl L)).length
 rw [List.take_length,Ca] at hs
 have:=h3.len
 unfold V8;omega
end
theorem v2g{W:World}{base n cap:Nat}{A:Option Addr}{ks:List (List UInt8)}(h:Dc.Dt.Own9 W base (.slice A n cap) ks):n=ks.length:=by
 obtain ⟨_,_,e,_⟩:=I7 h
 injection e
theorem x0f{ba bb na ca cb:Nat}{A B:Option Addr}{ks:List (List UInt8)}(hl:ks.length<=1000000)(w:World)(h1:Dc.Dt.Own9 w ba (.slice A na ca) ks)(h2:Dc.Dt.Own9 w bb (.slice B na cb) ks) :
 Calls Tryz.prog 10 #[.slice A na ca,.slice B na cb] w fun e w'=>e=.returned (.bool true)/\Bl w w':=by
 obtain rfl:=v2g h1;have H1:=jY (fun i k (h:ks[i]?=some k)=>y5t h1 h);have H2:=jY (fun i k (h:ks[i]?=some k)=>y5t h2 h);clear h1 h2
 go_enter Tryz.func10,Tryz.ntmps10
 go_wp2_with fail
 go_loopw [5] (fun iv wr=>∃ i:Nat,iv=.int .i64 i/\i<=ks.length/\Bl w wr) (fun iv _=>ks.length-(intOf iv).toNat)
 case atStart=>exact ⟨0,rfl,by omega,Below.refl _ _⟩
 case round =>
  obtain ⟨i,rfl,hi,hb⟩:=hrel
  by_cases hil:i<ks.length
  ·have hx:ks[i]?=some ks[i]:=lAa hil;obtain ⟨ga,rfl,x0⟩:=H1.out i _ hx;obtain ⟨gb,rfl,x1⟩:=H2.out i _ hx;generalize Dc.Dt.Kz ks[i]=kb at *;have hi2:(i:Int)<ks.length:=by omega
   have y0:=(hb.cell (p:=⟨ga,i,none⟩) (World.block_lt_of_cell? _ _ x0)).trans x0;have y1:=(hb.cell (p:=⟨gb,i,none⟩) (World.block_lt_of_cell? _ _ x1)).trans x1;have hbq:=v0u (rfl:kb=kb);have HB:=jY hb;have q0:=fun z:Ext wr=>z.cell y0;have q1:=fun z:Ext wr=>z.cell y1;have hne:=Ext.one wr;clear hb hx x0 x1 y0 y1 H1 H2;go_wp2_with fail;refine Zd (w1:=wr) (by kernel_rfl) (by kernel_rfl) (Below.refl _ _) ?_
   repeat go_big_quiet_step (fail)
   refine wpQuiet_nil ?_;rintro _ ⟨z,rfl⟩;have HZ:=jY (HB.out.trans (z.ok.mono HB.out.size));clear q0 q1 hne;go_wp2_with fail;exact ⟨⟨i+1,by go_num,by omega,HZ.out⟩,by simp [intOf];omega⟩
  ·obtain rfl:i=ks.length:=by omega
   have HB:=jY hb;clear hb;go_wp2;go_returns;exact ⟨rfl,HB.out⟩
section
variable {w:World} {rp sd:Nat} {en mn mx:Int} {R:List Rt} {S:Nat->Prop}
theorem x5c(h:RefSp w rp en mn sd mx R S) :
 Calls Tryz.prog 12 #[.pointer (some ⟨rp,0,none⟩)] w fun e w'=>∃ u,e=.returned u/\Dc.Dt.Own9 w' w.heap.size u (R.map Qt)/\Bl w w':=by
 obtain ⟨rv,h1,h2,_⟩:=h;obtain ⟨i0,hi0,hz0,hz1,hz2⟩:=info_parts Dc.Dt.x2o;have hO:=h1.row;obtain ⟨A,cap,rfl,_,_⟩:=hO.form;have HK:=jY (fun W (hb:Bl w W)=>h1.blk.later hb);have HO:=jY (fun W (hb:Bl w W)=>hO.later hb);have hrl:(R.length:Int)<=600:=by omega
 clear h1 hO
 go_enter Tryz.func12,Tryz.ntmps12
 go_wp2_with fail
 go_loopw [3,4] (fun lv iv wr=>∃ i:Nat,iv=.int .i64 i/\i<=R.length/\Dc.Dt.Own9 wr w.heap.size lv ((R.take i).map Qt)/\Bl w wr) (fun _ iv _=>R.length-(intOf iv).toNat)
 case atStart=>exact ⟨0,rfl,by omega,World.ownsRow_nil _ _ _ _,Below.refl _ _⟩
 case round =>
  obtain ⟨i,rfl,hi,hL,hb⟩:=hrel;have c0:=(HK.out wr hb).cell 0;simp at c0
  by_cases hil:i<R.length
  ·have hx:R[i]?=some R[i]:=lAa hil;obtain ⟨g,c',e1,x0,_⟩:=(HO.out wr hb).cells hx
   injection e1 with e1 _ e2
   subst e1;subst e2;have hnx:(R.take (i+1)).map Qt=(R.take i).map Qt++[Qt R[i]]:=by rw [lAf hil,List.map_append];rfl
   have hkl:((R.take i).map Qt).length=i:=by simp;omega
   have HNX:=jY hnx;clear hnx hx;generalize R[i]=x at *;have hi2:(i:Int)<R.length:=by omega
   have hzb:=hb.size;have hO2:=(hL.below (W':=wr) (Below.refl _ _)).alloc (Obj.cells #[.string x.key] 9);have HO2:=jY hO2;clear hL hO2
   go_wp2_with (at_builtin;refine wpList_append_own _ rfl _ _ 40 rfl w.heap.size 9 i0 (.string ⟨#[]⟩) 1 16 Tryz.underlying40 hi0 hz0 hz1 hz2 rfl (by decide) _ _ _ rfl HO2.out ⟨wr.heap.size,0,none⟩ 1 1 [.string x.key] (by simp [Act.eval]) rfl (by have:=cell_one_new wr (.string x.key) 9;simpa using this) (by simp [Value.oneCell']) (by unfold maxLen;omega) (by omega) (by simp;omega) ?_;intro v7 w7 hown7 hgrow _)
   have hb7:Bl w w7:=(hb.alloc hb.size _).grown hgrow (by simp;omega) (fun k e=>(World.ownsRow.lt HO2.out k e).1);have HB7:=jY hb7;have HO7:=jY hown7;clear hb7 hown7 hgrow c0 x0;go_wp2;refine ⟨⟨i+1,by go_num,hil,?_,HB7.out⟩,by simp [intOf];omega⟩
   have:=HO7.out
   unfold Dc.Dt.Own9;rw [HNX.out,List.map_append,lAh];exact this
  ·obtain rfl:i=R.length:=by omega
   rw [List.take_length] at hL;have HL:=jY hL;have HB:=jY hb;clear hL hb;go_wp2;go_returns;exact ⟨_,rfl,HL.out,HB.out⟩
theorem y3z{i:Nat}{x:Rt}(h:R[i]?=some x):V8 (itr (R.take (i+1)))=V8 (itr (R.take i))+48+x.key.size+szS x.isL x.E:=by
 obtain ⟨hi,he⟩:=lAb.1 h;unfold V8 Vu itr;rw [lAf hi,he,List.map_append,List.flatMap_append];simp [szI];omega
theorem x5d(h:RefSp w rp en mn sd mx R S)(hE:∀ x∈R,x.E.length<=1000/\x.key.size<=64/\∀ e∈x.E,e.1.size<=64)(hz:∀ i,V8 (itr (R.take i))<=2000000000) :
 Calls Tryz.prog 9 #[.pointer (some ⟨rp,0,none⟩)] w fun e w'=>e=.returned (.int .i64 (V8 (itr R):Nat))/\Bl w w':=by
 obtain ⟨rv,h1,h2,_⟩:=h;have hO:=h1.row;obtain ⟨A,cap,rfl,_,_⟩:=hO.form;have HS:=jY (fun W (hb:Bl w W) x (hx:x∈R)=>y8u ((h1.set x hx).later hb) (hE x hx).1 (hE x hx).2.2);have HK:=jY (fun W (hb:Bl w W)=>h1.blk.later hb);have HO:=jY (fun W (hb:Bl w W)=>hO.later hb);have hrl:(R.length:Int)<=600:=by omega
 clear h1 hO
 go_enter Tryz.func9,Tryz.ntmps9
 go_wp2_with fail
 go_loopw [3,4] (fun nv iv wr=>∃ i:Nat,iv=.int .i64 i/\i<=R.length/\nv=.int .i64 (V8 (itr (R.take i)):Nat)/\Bl w wr) (fun _ iv _=>R.length-(intOf iv).toNat)
 case atStart=>exact ⟨0,rfl,by omega,rfl,Below.refl _ _⟩
 case round =>
  obtain ⟨i,rfl,hi,rfl,hb⟩:=hrel;have c0:=(HK.out wr hb).cell 0;simp at c0
  by_cases hil:i<R.length
  ·have hx:R[i]?=some R[i]:=lAa hil;obtain ⟨g,c',e1,x0,x1,_⟩:=(HO.out wr hb).cells hx
   injection e1 with e1 _ e2
   subst e1;subst e2;have hst:=y3z hx;have hle:=hz (i+1);have hxm:=List.getElem_mem hil;have hbx:=fun (y:Ext wr)=>HS.out y.w (hb.trans (y.ok.mono hb.size)) R[i] hxm;have hks:=(hE _ hxm).2.1;generalize R[i]=x at *;rw [hst] at hle;have HST:=jY hst;have HBX:=fun y=>jY ((hbx y).mono fun e w' (hh:e=.returned (.int .i64 (szS x.isL x.E:Nat))/\w'=y.w)=>show e=.returned (.int .i64 (szS x.isL x.E:Nat))/\Below y.w.heap.size y.w w' from ⟨hh.1,by rw [hh.2];exact Below.refl _ _⟩);generalize V8 (itr (R.take i))=n0 at *;generalize szS x.isL x.E=b0 at *;have hi2:(i:Int)<R.length:=by omega
   have HB:=jY hb;have q0:=fun z:Ext wr=>z.cell c0;have q1:=fun z:Ext wr=>z.cell x0;have q2:=fun z:Ext wr=>z.cell x1;have hne:=Ext.one wr;clear hb hx hxm hbx hst;go_wp2_with fail;refine Zd (w1:=wr) (by kernel_rfl) (by kernel_rfl) (Below.refl _ _) ?_
   repeat go_big_quiet_step ((go_at_call 44;exact Ext.call _ (HBX _).out))
   refine wpQuiet_nil ?_;rintro _ ⟨z,rfl⟩;have HZ:=jY (HB.out.trans (z.ok.mono HB.out.size));clear q0 q1 q2 hne c0 x0 x1 HBX;go_wp2_with fail;exact ⟨⟨i+1,by go_num,by omega,by rw [HST.out];go_num,HZ.out⟩,by simp [intOf];omega⟩
  ·obtain rfl:i=R.length:=by omega
   rw [List.take_length];have HB:=jY hb;clear hb;go_wp2;go_returns;exact ⟨rfl,HB.out⟩
end
section
variable {w0 W W':World} {p rp sd i c:Nat} {en mn mx:Int} {L:List Th} {R:List Rt} {a:Option Addr} {E:List En} {o:ByteArray}
theorem Going.alike(h:Going w0 W p rp en mn sd mx i L R):Alike en mn L R:=by obtain ⟨c,_,_,_,h⟩:=h;exact h
theorem Going.rlist(h:Going w0 W p rp en mn sd mx i L R):∃ A cap,W.cell? ⟨rp,0,none⟩=some (.slice A R.length cap):=by
 obtain ⟨c,_,_,h3,_⟩:=h;obtain ⟨S,T,_,h2,_⟩:=h3.ex;obtain ⟨rv,g,_,_⟩:=h2;obtain ⟨A,cap,e,_,_⟩:=g.row.form;refine ⟨A,cap,?_⟩
 have:=g.blk.cell 0
 rw [e] at this;exact this
theorem x2x(h:Alike en mn L R):Dc.Dt.Xh ((itl L).map Dl)=R.map Qt:=by
 have h1:((itl L).map Dl).Perm (R.map Qt):=by
  have:=h.perm.map Dl
  unfold itr at this;rw [List.map_map] at this;exact this
 rw [z9p h1];exact x5v (List.pairwise_map.2 h.srt)
theorem Going.rkeysOf(h:Going w0 W p rp en mn sd mx i L R) :
 Calls Tryz.prog 12 #[.pointer (some ⟨rp,0,none⟩)] W fun e W'=>∃ u,e=.returned u/\Dc.Dt.Own9 W' W.heap.size u (R.map Qt)/\Bl W W':=by
 obtain ⟨c,_,_,h3,_⟩:=h;obtain ⟨S,T,_,h2,_⟩:=h3.ex;exact x5c h2
theorem y4i{I J:List It}(h:I.Perm J):V8 I=V8 J:=x6d ((h.flatMap_right szI).cons 64)
theorem y3y(R:List Rt)(i:Nat):V8 (itr (R.take i))<=V8 (itr R):=by
 have h:V8 (itr R)=V8 (itr (R.take i))+((itr (R.drop i)).flatMap szI).sum:=by
  have e:itr R=itr (R.take i)++itr (R.drop i):=by unfold itr;rw [<- List.map_append,List.take_append_drop]
  unfold V8 Vu;rw [e,List.flatMap_append];simp;omega
 omega
theorem Going.each(h:Going w0 W p rp en mn sd mx i L R)(hi:i<=200):∀ x∈itl L,x.E.length<=1000/\x.key.size<=64/\∀ e∈x.E,e.1.size<=64:=by
 obtain ⟨c,h1,h2,h3,h4⟩:=h;obtain ⟨S,T,g1,_⟩:=h3.ex;intro x hx;obtain ⟨t,ht,rfl⟩:=List.mem_map.1 hx;obtain ⟨d,SD,rv,sh,g,_⟩:=g1;have hg:=(g.set t ht).good;exact ⟨lAe hg.len (by omega),g.ksz t ht,fun e he=>(hg.each e he).1⟩
theorem Going.rsizeOf(h:Going w0 W p rp en mn sd mx i L R)(hi:i<=200):Calls Tryz.prog 9 #[.pointer (some ⟨rp,0,none⟩)] W fun e W'=>e=.returned (.int .i64 (V8 (itl L):Nat))/\Bl W W':=by
 have h5:=h.each hi;have h6:=h.sizeLe hi;obtain ⟨c,h1,h2,h3,h4⟩:=h;obtain ⟨S,T,_,g2,_⟩:=h3.ex;rw [y4i h4.perm] at h6 ⊢;exact x5d g2 (fun x hx=>h5 x.toIt (h4.perm.mem_iff.2 (List.mem_map.2 ⟨x,hx,rfl⟩))) (fun i=>lAe (y3y R i) h6)
theorem Going.atOf(h:Going w0 W p rp en mn sd mx i L R)(k:ByteArray) :
 Calls Tryz.prog 13 #[.pointer (some ⟨rp,0,none⟩),.string k] W fun e W'=>e=.returned (.int .i64 (atR R k))/\W'=W:=by
 obtain ⟨c,_,_,h3,_⟩:=h;exact y5w h3 k
theorem Going.isAt(h:Going w0 W p rp en mn sd mx i L R)(k:ByteArray):(Xy (itl L) k).isSome=decide (0<=atR R k):=by
 rw [<- Kw];exact h.alike.there k
theorem Going.item(h:Going w0 W p rp en mn sd mx i L R)(h0:0<=atR R o):∃ j,atR R o=(j:Nat)/\j<R.length/\∃ g cap r b c,W.cell? ⟨rp,0,none⟩=some (.slice (some ⟨g,0,none⟩) R.length cap)/\W.cell? ⟨g,j*4+1,none⟩=some (.pointer (some ⟨r,0,none⟩)) /\
 W.cell? ⟨g,j*4+2,none⟩=some (.int .i64 (Fy (itl L) o).1)/\W.cell? ⟨g,j*4+3,none⟩=some (.int .i64 (Fy (itl L) o).2)/\W.cell? ⟨r,0,none⟩=some (.slice b (y0x (itl L) o).length c)/\Row W 0 (.slice b (y0x (itl L) o).length c) (y0x (itl L) o):=by
 have hA:=h.alike;obtain ⟨j,x,hat,hx,hxk,hlt⟩:=O7 h0;have hg:Xy (itl L) o=some x.toIt:=by rw [Df hA.keys hA.perm];exact x8d hA.rkeys (lAc hx) hxk
 obtain ⟨c,_,_,h3,_⟩:=h;obtain ⟨S,T,_,h2,_⟩:=h3.ex;obtain ⟨rv,g,_,_⟩:=h2;obtain ⟨gg,cap,hrv,_,q1,q2,q3⟩:=g.row.cells hx;subst hrv;obtain ⟨b,cc,k1,_,k3⟩:=(g.set x (lAc hx)).ex;unfold Fy y0x;rw [hg];exact ⟨j,hat,hlt,gg,cap,x.r,b,cc,g.blk.cell 0,q1,q2,q3,k1.cell 0,k3⟩
end
end Go.Proofs.YtcklcmafohlflaaGreatDoor
namespace Go.Proofs.YtcklcmafohlflaaGreatDoor
open Zc (Ent Ext KeepC Ym Z9 Zg Xg Zx Zb Zv Yo Y5 Ze Zz Z4 Zd)
open Go.RowKit Go.Shelf Go.Sort Sk
def order13:List (Nat × Bool):=[(0,true),(1,true),(2,true),(3,true),(4,true),(5,true),(6,true),(7,true),(8,true),(9,true),(10,true),(11,true),(12,true),(13,true),(14,true),(15,true),(16,true),(17,true),(18,true),(19,true),(20,true),(21,true),(22,true),(23,true),(24,true),(27,true),(28,true),(29,true),(30,true),(31,true),(32,true),(33,true),(34,true),(35,true),(36,true),(37,true),(25,false),(26,false),(38,false),(39,true),(40,true),(41,true),(42,true)]
attribute [local go_sem] Oper.semAt_some
attribute [local go_sem high] Lf.v1g
attribute [local go_sem] Lf.z4l
theorem y7c(en mn:Int)(sd:Nat)(hsd:sd<4294967296)(mx:Int)(la:Option Addr)(cap:Nat)(l:List ActX)(hl:∀ x∈l,x.Ok)(hlz:l.length<=9223372036854775807)(w:World)(hE:EnvE w)(hT:Dc.Dt.Env w)(hL:Acts w la l) :
 Calls Tryz.prog 3 #[.agg #[.int .i64 en,.int .i64 mn,.int .u32 sd,.int .i64 mx],.slice la l.length cap] w fun e w'=>e=.returned (.bool true)/\Bl w w':=by
 have HA:=jY (Blk.new w 26 #[.int .i64 en,.int .i64 mn,.int .u32 sd,.int .i64 mx]);have HW:=jY (Z0 w (.cells #[.int .i64 en,.int .i64 mn,.int .u32 sd,.int .i64 mx] 26));have HS:=fun W (h:EnvE W)=>jY (y9r W h);have HE:=jY hE;have HT:=jY hT;have HL:=jY hL;have HLO:=jY hl;have HN:=fun W=>jY (y5u en mn mx sd hsd 5 W);clear hE hL hl hT
 go_enter Tryz.func3,Tryz.ntmps3
 go_wp2_with fail;generalize w.alloc (.cells #[.int .i64 en,.int .i64 mn,.int .u32 sd,.int .i64 mx] 26)=w2 at HA HW ⊢;refine (HS w2 (HE.out.later HW.out)).out.mono ?_;rintro e w3 ⟨rfl,hb3⟩;have HA3:=jY (HA.out.later hb3);have c0:=HA3.out.cell 0;have c1:=HA3.out.cell 1;have c2:=HA3.out.cell 2;have c3:=HA3.out.cell 3;simp at c0 c1 c2 c3;have HW3:=jY (HW.out.trans (hb3.mono HW.out.size));have HN3:=HN w3;clear hb3 HA HW HS HN;go_wp2_with fail;clear c0 c1 c2 c3;refine HN3.out.mono ?_;rintro e w4 ⟨p,rfl,h4⟩;have hc4:=HA3.out.later h4.below;have c0:=hc4.cell 0;have c1:=hc4.cell 1;have c2:=hc4.cell 2;have c3:=hc4.cell 3;simp at c0 c1 c2 c3;have HG:=jY (Going.start (mx:=mx) (HE.out.later HW3.out) h4);have HL3:=jY (HL.out.below HW3.out);have HT3:=jY (HT.out.below HW3.out);clear h4 HN3 HL hc4 HT;go_wp2_with fail;clear c0 c1 c2 c3
 go_loopw [8] (fun iv wr=>∃ (i:Nat) (L:List Th) (R:List Rt),iv=.int .i64 i/\i<=l.length/\i<=100/\Going w3 wr p w4.heap.size en mn sd mx i L R) (fun iv _=>l.length-(intOf iv).toNat)
 case atStart=>exact ⟨0,[],[],rfl,by omega,by omega,HG.out⟩
 case round =>
  obtain ⟨i,L,R,rfl,hi,hi100,hg⟩:=hrel;clear HG
  by_cases hlt:i<l.length/\i<100
  ·obtain ⟨hl1,hl2⟩:=hlt;have HAT:=jY (fun W (hb:Bl w3 W)=>x7c (HL3.out.below hb) hl1);have hok:=HLO.out _ (List.getElem_mem hl1);have hdi:=hg.did (by omega) l[i] hok;have hn70:=Xl l[i].k;have HK:=fun W=>jY (V5 l[i].k hok.k W);obtain ⟨b,off,hla,x0,x1,x2,x3,x4,x5,x6⟩:=HAT.out _ hg.below
   have HKC:=jY (fun W (hb:Bl w3 W)=>show W.cell? ⟨b,off+i*7+1,none⟩=some (.string l[i].k) from by
    obtain ⟨b',off',h1,_,h2,_⟩:=HAT.out W hb;rw [hla] at h1
    injection h1 with h1
    injection h1 with h1 h3 _
    subst h1
    have:off=off':=by simpa using h3
    subst this
    exact h2)
   subst hla;unfold v0s at hdi;have HDI:=jY hdi;clear hdi hg HAT HLO hok;generalize l[i]=y at *;generalize Zf y.k=o at *;go_wp2_with fail;refine HDI.out.mono ?_;rintro e w6 ⟨rfl,L',R',h6,_,_⟩;have hA6:=h6.alike;have hlen:=hA6.len;have hk2:=x2x hA6;have hle6:=h6.lenLe;obtain ⟨A,rcap,hr0⟩:=h6.rlist;have g6:=h6.later (Zk w6 1);have hln:=g6.lenOf;have hsz:=g6.sizeOf (by omega);have hrsz:=fun W (hb:Below w6.drew.heap.size w6.drew W)=>(g6.later hb).rsizeOf (by omega);have hky:=fun W (hb:Below w6.drew.heap.size w6.drew W)=>(g6.later hb).keysOf HT3.out;have hrky:=fun W (hb:Below w6.drew.heap.size w6.drew W)=>(g6.later hb).rkeysOf;rw [hlen] at hln;rw [hk2] at hky;have HG6:=jY g6;have HLN:=jY hln;have HSZ:=jY hsz;have HRSZ:=jY hrsz;have HKY:=jY hky;have HRKY:=jY hrky;have S0:=jY (show w6.drew.cell? ⟨w4.heap.size,0,none⟩=some (.slice A R'.length rcap) from hr0);have hkl:(R'.map Qt).length<=1000000:=by rw [List.length_map];omega
   clear h6 HDI x0 x1 x2 x3 x4 x5 x6 hA6 hlen hk2 hln hsz hrsz hky hrky g6 hr0;generalize hKS:R'.map Qt=ks at *;generalize V8 (itl L')=zz at *;go_wp2_with fail
   refine Sched.Yj [(0,true),(1,true),(2,true),(3,true),(5,true),(6,true),(7,true),(8,true),(9,true),(4,false),(10,true),(11,true),(12,true),(13,true),(15,true),(14,false),(16,false),(17,true),(18,true),(19,true),(20,true),(22,true),(21,false),(23,false),(24,false),(25,true),(26,true)]
    (fun V=>V.cell? ⟨w4.heap.size,0,none⟩=some (.slice A R'.length rcap)) (by kernel_rfl) (by kernel_rfl) rfl (by kernel_rfl) (fun _ _ _ d _ h=>by cases d <;> exact h) S0.out ?_
   intro L0 hL;simp only [Sched.Qw,List.getElem?_toArray,List.getElem?_cons_zero,List.getElem?_cons_succ] at hL;subst hL
   repeat (first
    | (refine Sched.Zj (v:=?_) (by rfl) ?_ ?_
       rotate_left
       (focus (intro w' hSw;have l0:=hSw;go_simp;(try with_reducible rfl);done))
       simp only [Act.put,List.setIfInBounds_toArray,List.set_cons_zero,List.set_cons_succ]))
   refine Sched.Zo (by rfl) fun K' hK=>?_
   go_simp
   refine HLN.out.mono ?_;rintro e w7 ⟨rfl,rfl⟩
   go_simp
   refine hK _ _ S0.out ?_;clear hK K'
   repeat (first
    | (refine Sched.Zj (v:=?_) (by rfl) ?_ ?_
       rotate_left
       (focus (intro w' hSw;have l0:=hSw;go_simp;(try with_reducible rfl);done))
       simp only [Act.put,List.setIfInBounds_toArray,List.set_cons_zero,List.set_cons_succ]))
   refine Sched.Zo (by rfl) fun K' hK=>?_
   go_simp
   refine HSZ.out.mono ?_;rintro e w7 ⟨rfl,hb7⟩
   go_simp
   refine hK _ _ (Dc.Xi hb7 S0.out) ?_;clear hK K'
   repeat (first
    | (refine Sched.Zj (v:=?_) (by rfl) ?_ ?_
       rotate_left
       (focus (intro w' hSw;have l0:=hSw;go_simp;(try with_reducible rfl);done))
       simp only [Act.put,List.setIfInBounds_toArray,List.set_cons_zero,List.set_cons_succ]))
   have S7:=jY (Dc.Xi hb7 S0.out);have B7:=jY hb7;clear hb7 S0;refine Sched.Zo (by rfl) fun K' hK=>?_
   go_simp
   refine (HRSZ.out _ B7.out).mono ?_;rintro e w8 ⟨rfl,hb8⟩
   go_simp
   refine hK _ _ (Dc.Xi hb8 S7.out) ?_;clear hK K';have S8:=jY (Dc.Xi hb8 S7.out);have B8:=jY (B7.out.trans (hb8.mono B7.out.size));clear hb8 S7 B7
   repeat (first
    | (refine Sched.Zj (v:=?_) (by rfl) ?_ ?_
       rotate_left
       (focus (intro w' hSw;have l0:=hSw;go_simp;(try with_reducible rfl);done))
       simp only [Act.put,List.setIfInBounds_toArray,List.set_cons_zero,List.set_cons_succ]))
   refine Sched.Zo (by rfl) fun K' hK=>?_
   go_simp
   refine (HKY.out _ B8.out).mono ?_;rintro e w9 ⟨u1,rfl,hu1,hb9⟩
   go_simp
   refine hK _ _ (Dc.Xi hb9 S8.out) ?_;clear hK K';have S9:=jY (Dc.Xi hb9 S8.out);have B9:=jY (B8.out.trans (hb9.mono B8.out.size));have U1:=jY hu1;obtain ⟨uA,uc,rfl,_⟩:=I7 hu1;clear hb9 S8 B8 hu1;refine Sched.Zo (by rfl) fun K' hK=>?_
   go_simp
   refine (HRKY.out _ B9.out).mono ?_;rintro e w10 ⟨u2,rfl,hu2,hb10⟩
   go_simp
   refine hK _ _ (Dc.Xi hb10 S9.out) ?_;clear hK K';have S10:=jY (Dc.Xi hb10 S9.out);have B10:=jY (B9.out.trans (hb10.mono B9.out.size));have hu1:=y8e U1.out (KeepB.below hb10);obtain ⟨vA,vc,rfl,_⟩:=I7 hu2;have HTX:=jY (x0f hkl w10 hu1 hu2);clear hb10 S9 B9 hu1 hu2 U1;refine Sched.Zo (by rfl) fun K' hK=>?_
   go_simp
   refine HTX.out.mono ?_;rintro e w11 ⟨rfl,hb11⟩
   go_simp
   refine hK _ _ (Dc.Xi hb11 S10.out) ?_;clear hK K';have H11:=jY (HG6.out.later (B10.out.trans (hb11.mono B10.out.size)));clear hb11 S10 B10 HTX HG6 HLN HSZ HRSZ HKY HRKY
   repeat (first
    | (refine Sched.Zj (v:=?_) (by rfl) ?_ ?_
       rotate_left
       (focus (intro w' hSw;have l0:=hSw;go_simp;(try with_reducible rfl);done))
       simp only [Act.put,List.setIfInBounds_toArray,List.set_cons_zero,List.set_cons_succ]))
   refine Sched.Xf ?_;have g11:=H11.out;have x1:=HKC.out _ g11.below;have HAO:=jY (fun W (g:Going w3 W p w4.heap.size en mn sd mx (i+1) L' R')=>g.atOf o);have HFO:=jY (fun W (g:Going w3 W p w4.heap.size en mn sd mx (i+1) L' R')=>g.find o (by omega));have HUO:=jY (fun W (g:Going w3 W p w4.heap.size en mn sd mx (i+1) L' R')=>g.use o (by omega));have HIT:=jY (fun W (g:Going w3 W p w4.heap.size en mn sd mx (i+1) L' R') (h0:0<=atR R' o)=>g.item h0);have HLK:=jY (x8m g11.keys o);have HSM:=jY (g11.small (by omega) HLK.out);have HIS:=jY (g11.isAt o);clear g11;generalize Fr L' o=q1 at *;generalize y0x (itl L') o=E1 at *;generalize (Xy (itl L') o).isSome=B1 at *;generalize Fy (itl L') o=U1 at *;generalize atR R' o=at1 at *;go_wp2_with fail;refine (HK _).out.mono ?_;rintro e w12 ⟨rfl,rfl⟩;go_wp2_with fail;refine (HAO.out _ H11.out).mono ?_;rintro e w12 ⟨rfl,rfl⟩;go_wp2_with fail;refine (HK _).out.mono ?_;rintro e w12 ⟨rfl,rfl⟩;go_wp2_with fail;refine (HFO.out _ H11.out).mono ?_;rintro e w12 ⟨rfl,h12,_⟩;have x1:=HKC.out _ h12.below;have H12:=jY h12;clear h12 H11 HAO HFO;go_wp2_with fail;refine (HK _).out.mono ?_;rintro e w13 ⟨rfl,rfl⟩;go_wp2_with fail;refine (HUO.out _ H12.out).mono ?_;rintro e w13 ⟨rfl,h13,_⟩;have hun:=v0a w13 U1.1 U1.2;have h14:=h13.later hun.2;have HUN:=jY hun.1;have H14:=jY h14;clear h13 hun h14 H12 HUO x1 HK
   go_upto_region 13 with fail
   generalize w13.alloc (.cells #[.int .i64 U1.1,.int .i64 U1.2] 48)=w14 at *;have his:=HIS.out;have B14:=jY (Zk w14 1)
   by_cases h0:0<=at1
   ·rw [decide_eq_true h0] at his;subst his;obtain ⟨j,hj,hjl,g,cap2,r,b2,cap3,q0,q1',q2,q3,q4,q5⟩:=HIT.out _ H14.out h0;subst hj;have hun:=HUN.out;have u0:=hun.cell 0;have u1:=hun.cell 1;simp at u0 u1;obtain ⟨P,hP⟩:∃ P:World->Prop,P=fun V=>V.cell? ⟨w13.heap.size,0,none⟩=some (.int .i64 U1.1)/\V.cell? ⟨w13.heap.size,1,none⟩=some (.int .i64 U1.2)/\V.cell? ⟨w4.heap.size,0,none⟩=some (.slice (some ⟨g,0,none⟩) R'.length cap2)/\V.cell? ⟨g,j*4+1,none⟩=some (.pointer (some ⟨r,0,none⟩))/\V.cell? ⟨g,j*4+2,none⟩=some (.int .i64 U1.1)/\V.cell? ⟨g,j*4+3,none⟩=some (.int .i64 U1.2)/\V.cell? ⟨r,0,none⟩=some (.slice b2 E1.length cap3):=⟨_,rfl⟩;have S0:Hid (P w14.drew):=jY (by rw [hP];exact ⟨u0,u1,q0,q1',q2,q3,q4⟩);have HSK:Hid (∀ V W,Bl V W->P V->P W):=jY (by rw [hP];exact fun V W hb h=>⟨Dc.Xi hb h.1,Dc.Xi hb h.2.1,Dc.Xi hb h.2.2.1,Dc.Xi hb h.2.2.2.1,Dc.Xi hb h.2.2.2.2.1,Dc.Xi hb h.2.2.2.2.2.1,Dc.Xi hb h.2.2.2.2.2.2⟩);have hg:=H14.out.later B14.out;have HRW:=jY (q5.later B14.out);have HLE:=jY (hg.look HLK.out);have HRG:=jY (fun W (hb:Below w14.drew.heap.size w14.drew W)=>(hg.later hb).range HLK.out);have HG:=jY hg;have hsame:Lf.z2w U1.1 U1.2 U1.1 U1.2=true:=by simp [Lf.z2w]
    have hj0:(0:Int)<=(j:Int):=by omega
    have hj1:(j:Int)<R'.length:=by omega
    clear hun u0 u1 q0 q1' q2 q3 q4 q5 hg HUN H14 B14 HIT HIS
    refine Sched.Yj order13
     P (by kernel_rfl) (by kernel_rfl) rfl (by kernel_rfl) (fun _ _ _ d _ h=>by cases d <;> exact h) S0.out ?_
    intro L0 hL;simp only [order13,Sched.Qw,List.getElem?_toArray,List.getElem?_cons_zero,List.getElem?_cons_succ] at hL;subst hL
    repeat (first
     | (refine Sched.Zj (v:=?_) (by rfl) ?_ ?_
        rotate_left
        (focus (intro w' hSw;rw [hP] at hSw;obtain ⟨l0,l1,l2,l3,l4,l5,l6⟩:=hSw;go_simp;(try with_reducible rfl);done))
        simp only [Act.put,List.setIfInBounds_toArray,List.set_cons_zero,List.set_cons_succ]))
    refine Sched.Zo (by rfl) fun K' hK=>?_
    go_simp
    refine HLE.out.mono ?_;rintro e w15 ⟨rfl,hb15⟩
    go_simp
    refine hK _ _ (HSK.out _ _ hb15 S0.out) ?_;clear hK K';have S15:=jY (HSK.out _ _ hb15 S0.out);have B15:=jY hb15;clear hb15 S0 HLE;refine Sched.Zo (by rfl) fun K' hK=>?_
    go_simp
    refine (HRG.out _ B15.out).mono ?_;rintro e w16 ⟨r1,rfl,hr16,hb16⟩
    go_simp
    refine hK _ _ (HSK.out _ _ hb16 S15.out) ?_;clear hK K';have S16:=jY (HSK.out _ _ hb16 S15.out);have B16:=jY (B15.out.trans (hb16.mono B15.out.size));have HSE:=jY (y9g _ _ E1 HSM.out w16 hr16 (HRW.out.later B16.out));clear hb16 hr16 S15 B15 HRG HRW
    repeat (first
     | (refine Sched.Zj (v:=?_) (by rfl) ?_ ?_
        rotate_left
        (focus (intro w' hSw;rw [hP] at hSw;obtain ⟨l0,l1,l2,l3,l4,l5,l6⟩:=hSw;go_simp;(try with_reducible rfl);done))
        simp only [Act.put,List.setIfInBounds_toArray,List.set_cons_zero,List.set_cons_succ]))
    refine Sched.Zo (by rfl) fun K' hK=>?_
    go_simp
    refine HSE.out.mono ?_;rintro e w17 ⟨rfl,hb17⟩
    go_simp
    refine hK _ _ (HSK.out _ _ hb17 S16.out) ?_;clear hK K';have H17:=jY (HG.out.later (B16.out.trans (hb17.mono B16.out.size)));clear hb17 S16 B16 HSE HG HSK
    repeat (first
     | (refine Sched.Zj (v:=?_) (by rfl) ?_ ?_
        rotate_left
        (focus (intro w' hSw;rw [hP] at hSw;obtain ⟨l0,l1,l2,l3,l4,l5,l6⟩:=hSw;go_simp;(try with_reducible rfl);done))
        simp only [Act.put,List.setIfInBounds_toArray,List.set_cons_zero,List.set_cons_succ]))
    refine Sched.Xf ?_;go_wp2_with fail;exact ⟨⟨i+1,L',R',by go_num,by omega,by omega,H17.out⟩,by simp [intOf];omega⟩
   ·rw [decide_eq_false h0] at his;subst his;have H15:=jY (H14.out.later B14.out);clear HUN H14 B14 HIT HIS
    refine Sched.Yj order13
     (fun _=>True) (by kernel_rfl) (by kernel_rfl) rfl (by kernel_rfl) (fun _ _ _ d _ h=>by cases d <;> exact h) trivial ?_
    intro L0 hL;simp only [order13,Sched.Qw,List.getElem?_toArray,List.getElem?_cons_zero,List.getElem?_cons_succ] at hL;subst hL
    repeat (first
     | (refine Sched.Zj (v:=?_) (by rfl) ?_ ?_
        rotate_left
        (focus (intro w' _;go_simp;(try with_reducible rfl);done))
        simp only [Act.put,List.setIfInBounds_toArray,List.set_cons_zero,List.set_cons_succ])
     | (refine Sched.y3s (by rfl) ?_
        simp only [Act.put,List.setIfInBounds_toArray,List.set_cons_zero,List.set_cons_succ]))
    refine Sched.Xf ?_;go_wp2_with fail;exact ⟨⟨i+1,L',R',by go_num,by omega,by omega,H15.out⟩,by simp [intOf];omega⟩
  ·have hor:¬ i<l.length\/(i<l.length/\¬ (i:Int)<100):=by omega
   have HB:=jY (HW3.out.trans (hg.below.mono HW3.out.size));clear hg hlt HLO HL3;rcases hor with hor|⟨hor,hor2⟩
   all_goals (
    go_wp2_with fail;go_ret
    exact ⟨rfl,HB.out⟩)
end Go.Proofs.YtcklcmafohlflaaGreatDoor
namespace Go.Proofs.YtcklcmafohlflaaGreatDoor
open Zc (Ent Ext KeepC Ym Z9 Zg Xg Zx Zb Zv Yo Y5 Ze Zz Z4 Zd)
open Go.ChangeShapes Go.WideShapes Go.ChangeAt Go.RowKit
theorem Tryz.own:ownKnob Tryz.prog.godebug=none:=by kernel_rfl
theorem v4m : Tryz.prog.globalNamed "errors.errorType" = some 0 := by kernel_rfl
theorem x5n : (Tryz.prog.cutTypes.find? (·.1 == "internal/reflectlite.rtype")).map (·.2) = some 177 := by kernel_rfl
theorem v2f:((List.range Tryz.prog.types.size).filter fun t=>Tryz.prog.rowNamed t [101,114,114,111,114])=[99]:=by kernel_rfl
theorem G4{H:Type}{enc:TypeId × Value->H}{a:Assume}{C:Checked}{os:Os}{f:FuncId}{fn:Func}{s:ChangeSpec}{conds:List PathCond}{apart fresh handsOn again:Bool}{X:World->Array Value->Prop}
 (hX:∀ (w w':World) (args:Array Value),w.heap=w'.heap->X w args->X w' args)
 (own:ownKnob C.prog.godebug=none) (started:os.Started) (noInit:C.prog.inits.idxOf? f=none) (hfn:C.prog.funcs[f]?=some fn)
 (witness:∃ (w:World) (tape:Tape) (i:Input),w.os=os/\(w.forCall tape i).Shaped C.prog/\i.vars=[]/\Input.okWide C.prog (w.forCall tape i) .any w.heap.size f i /\
   ((s.pre enc C.prog fn conds apart (w.forCall tape i).memory i.args/\X (w.forCall tape i).memory i.args)/\sizedMet enc C.prog fn (OpenSpec.ofChange s) apart (w.forCall tape i).memory i.args)/\a.holds C.prog (lone (Frame.enter C.prog f i.args .normal) [] (w.forCall tape i)))
 (contract:∀ (W:World) (base:Nat) (args:Array Value) (ds gs:List (DataW H)) (before:List MemPlace),
   (∀ (j:Nat) t v,fn.params[j]?=some t->args[j]?=some v->Value.okWide C.prog W .any base t v) ->
   DataW.Whole enc C.prog fn.params.toList s.vars apart W args.toList ds gs before->X W args->W.ShapedOpen C.prog ->
   Calls C.prog f args W fun e W'=>∃ v,e=.returned v/\s.post enc C.prog fn apart fresh handsOn again W args v W') :
 ReturnsInHanded a C os f .any (fun w args=>(s.pre enc C.prog fn conds apart w args/\X w args)/\sizedMet enc C.prog fn (OpenSpec.ofChange s) apart w args) (s.post enc C.prog fn apart fresh handsOn again):=by
 refine returnsInHanded_of_calls own started noInit witness ?_;intro w tape i _ hsh _ hok hpre _;obtain ⟨_,_,_,fn',hfn',_,_,_,_,hval⟩:=hok;obtain rfl:fn'=fn:=Option.some.inj (hfn'.symm.trans hfn);obtain ⟨⟨⟨ds,gs,before,hw,_⟩,hx⟩,_⟩:=hpre;have hw':=DataW.Whole.of_heap (w':=w.forCall tape i) (by rfl) hw;refine (contract (w.forCall tape i) w.heap.size i.args ds gs before hval hw' (hX _ _ _ (by rfl) hx) hsh).mono fun e W' ⟨v,he,hp⟩=>?_;subst he;exact ChangeSpec.post_blind hp
abbrev Cf : List (String × DataW Unit) := [("math/bits.deBruijn32tab", Rows.laid_math_bits_deBruijn32tab), ("math/bits.deBruijn64tab", Rows.laid_math_bits_deBruijn64tab), ("errors.errorType", Rows.laid_errors_errorType)]
theorem g64 : Tryz.prog.globalNamed "math/bits.deBruijn64tab" = some 2 := by kernel_rfl
theorem v4n:(Tryz.prog.globals[2]?).map (·.type)=some 334:=by kernel_rfl
theorem v4k:Tryz.prog.cellsOf 334=64:=by kernel_rfl
theorem v4j:Tryz.prog.cellsOf 5=1:=by kernel_rfl
theorem v1e:(Rows.laid_math_bits_deBruijn64tab:DataW Unit)=Lib.tabData .u8 (List.map Int.ofNat Dc.Dt.y4l):=rfl
theorem x9o:((begin Tryz.prog (fun _ _=>0) default).world.heap[2]?).bind Obj.row?=some (Array.replicate 64 (.int .u8 0),334):=by kernel_rfl
theorem x4o {W : World} (h : laidMetH Tryz.prog Cf W) : laidMet Tryz.prog [("math/bits.deBruijn32tab", Rows.laid_math_bits_deBruijn32tab), ("math/bits.deBruijn64tab", Rows.laid_math_bits_deBruijn64tab)] W ∧ handlesMet Tryz.prog [("errors.errorType", Rows.laid_errors_errorType)] W := h
theorem B6{W:World}(h:laidMetH Tryz.prog Cf W):W.cell? ⟨0,0,none⟩=some (.iface 177 (.agg #[.pointer (some ⟨3,99,none⟩)])):=by
 obtain ⟨name,u,ty,e1,e2,e3,e4,e5⟩:=(x4o h).2 _ (lAg.2 rfl);have en:name=[101,114,114,111,114]:=(Option.some.inj e1).symm;subst en;obtain rfl:=Option.some.inj (x5n.symm.trans e2);have hm:ty∈(List.range Tryz.prog.types.size).filter fun t=>Tryz.prog.rowNamed t [101,114,114,111,114]:=List.mem_filter.2 ⟨List.mem_range.2 e3,e4⟩;rw [v2f] at hm;obtain rfl:=lAg.1 hm;have hh:typeHandle Tryz.prog 99=.pointer (some ⟨3,99,none⟩):=by kernel_rfl
 rw [hh] at e5
 simpa using World.var?_cell v4m e5 0
theorem z1a{W:World}(h:laidMetH Tryz.prog Cf W):EnvE W:=B6 h
theorem z3x{W:World}(h:laidMetH Tryz.prog Cf W)(hS:W.ShapedOpen Tryz.prog):EnvE W/\Dc.Dt.Env W:=by
 refine ⟨z1a h,?_⟩;have h2:=laidMet.tail (x4o h).1;rw [v1e] at h2;have h3:=Lib.tabIs_of_head g64 v4n Tryz.underlying334 Tryz.underlying5 v4j v4k h2;obtain ⟨cs,hh,_⟩:=hS.1 2 _ 334 (of_decide_eq_true (by kernel_rfl)) x9o
 have hc:∀ i:Nat,cs[i]?=Dc.Dt.x6k[i]?:=fun i=>by
  have h4:=World.var?_cell g64 h3 i;have h5:W.cell? ⟨2,i,none⟩=cs[i]?:=by simp [World.cell?,hh]
  rw [<- h5,h4];unfold Dc.Dt.x6k;simp only [List.getElem?_toArray,List.getElem?_map,Option.map_map];rfl
 have:cs=Dc.Dt.x6k:=Array.ext_getElem? hc
 subst this;exact hh
theorem y7d(os:Os)(args:Array Value):laidMetH Tryz.prog Cf ((World.doorLaid Tryz.prog 2000 os).forCall (fun _ _=>0) ⟨#[],args,[]⟩).memory :=
 laidMetH_of_parts (show laidMet Tryz.prog [("math/bits.deBruijn32tab", Rows.laid_math_bits_deBruijn32tab), ("math/bits.deBruijn64tab", Rows.laid_math_bits_deBruijn64tab)] _ from laidMet_of_run3 8 (by kernel_rfl) (by kernel_rfl) (by kernel_rfl)) (by kernel_rfl)
end Go.Proofs.YtcklcmafohlflaaGreatDoor
