/- Texts of one kind in one: SpActs, SpDidAny, SpLook, SpPutsLaw, SpApart, SpLaid, SpRenMath, SpRenames. -/
import Derived.Test.YtlckdfoflimahaaGreatDoorQSpDid34
import Derived.Test.YtlckdfoflimahaaGreatDoorQZName33
import Derived.Test.YtlckdfoflimahaaGreatDoorQLfBase23
import Derived.Test.YtlckdfoflimahaaGreatDoorQErReflect25
import Derived.Test.YtlckdfoflimahaaGreatDoorTie
import Derived.ProofKit
import Derived.LaidMore
import Derived.LaidLaws
import Derived.Stop.LaidTwo
import Derived.LaidHandle
import Derived.OpenShut
import Derived.ShutString
import Derived.Stop.Joined
import Derived.HandedShaped
import Derived.Shelf.Vars
set_option maxRecDepth 200000
set_option maxHeartbeats 8000000
namespace Go.Proofs.YtlckdfoflimahaaGreatDoor
open Go.ChangeShapes Go.WideShapes Go.ChangeAt Go.RowKit Go.Deep
open Go.ChangeMaps (open_string shut_string)
structure ActX where
 d:Int
 k:ByteArray
 t:ByteArray
 m:ByteArray
 sc:Int
 n:Int
 dr:Int
instance:Inhabited ActX:=⟨⟨0,⟨#[]⟩,⟨#[]⟩,⟨#[]⟩,0,0,0⟩⟩
structure ActX.Ok (x:ActX):Prop where
 k:x.k.size≤9223372036854775807
 t:x.t.size≤9223372036854775807
 m:x.m.size≤9223372036854775807
 sc:Pk.scoreOk x.sc
 n:Lf.I64 x.n
 dr:0≤x.dr∧x.dr≤4294967295
def Acts(W:World)(a:Option Addr)(l:List ActX):Prop :=
 ∀ (i:Nat) (h:i<l.length),∃ b off,a=some ⟨b,off,none⟩∧b<W.heap.size∧W.cell? ⟨b,off+i*7,none⟩=some (.int .i64 l[i].d)∧W.cell? ⟨b,off+i*7+1,none⟩=some (.string l[i].k)∧W.cell? ⟨b,off+i*7+2,none⟩=some (.string l[i].t)∧W.cell? ⟨b,off+i*7+3,none⟩=some (.string l[i].m)∧W.cell? ⟨b,off+i*7+4,none⟩=some (.int .i64 l[i].sc)∧W.cell? ⟨b,off+i*7+5,none⟩=some (.int .i64 l[i].n)∧W.cell? ⟨b,off+i*7+6,none⟩=some (.int .u32 l[i].dr)
theorem Acts.below{W W':World}{a:Option Addr}{l:List ActX}(h:Acts W a l)(hb:Below W.heap.size W W'):Acts W' a l:=fun i hi=>by
 obtain ⟨b,off,h1,hl,x0,x1,x2,x3,x4,x5,x6⟩:=h i hi
 exact ⟨b,off,h1,Nat.lt_of_lt_of_le hl hb.size,(hb.cell (p:=⟨b,_,none⟩) hl).trans x0,(hb.cell (p:=⟨b,_,none⟩) hl).trans x1,(hb.cell (p:=⟨b,_,none⟩) hl).trans x2,(hb.cell (p:=⟨b,_,none⟩) hl).trans x3,(hb.cell (p:=⟨b,_,none⟩) hl).trans x4,(hb.cell (p:=⟨b,_,none⟩) hl).trans x5,(hb.cell (p:=⟨b,_,none⟩) hl).trans x6⟩
theorem add_add(a:Addr)(p q:Nat):(a.add p).add q=a.add (p+q):=by
 unfold Addr.add
 by_cases h1:p=0 <;> by_cases h2:q=0 <;> simp [h1,h2,Nat.add_assoc]
theorem open_acts{H:Type}{enc:TypeId × Value→H}{W:World}{b0:Nat}{v:Value}{d:DataW H}{ps:List MemPlace}(hv:Value.okWide Tryz.prog W .any b0 27 v)(h:DataW.Trod enc Tryz.prog W 0 (fun _=>true) true 27 v d ps) :
   ∃ (a:Option Addr) (cap:Nat) (l:List ActX),v=.slice a l.length cap∧Acts W a l∧l.length≤cap∧l.length≤9223372036854775807∧∀ x∈l,x.Ok:=by
 obtain ⟨a,len,cap,rfl⟩:=okWide_slice Tryz.underlying27 hv
 obtain ⟨fuel,hf⟩:=h
 rcases Go.Deep.open_slice Tryz.underlying27 hf with ⟨hcs,_⟩|⟨a',len',cap',m,n,D,Pl,hcs,_,hl,hm,hmm,_,hx⟩
 · simp [Value.cells] at hcs
   obtain ⟨rfl,rfl,rfl⟩:=hcs
   exact ⟨none,0,[],rfl,fun i hi=>by simp at hi,by simp,by simp,fun e he=>by simp at he⟩
 · simp [Value.cells] at hcs
   obtain ⟨rfl,rfl,rfl⟩:=hcs
   simp only [if_true] at hmm
   rw [cellsX] at hx
   have each:∀ i,i<len→∃ x:ActX,W.cell? (a'.add (i*7))=some (.int .i64 x.d)∧W.cell? (a'.add (i*7+1))=some (.string x.k)∧W.cell? (a'.add (i*7+2))=some (.string x.t)∧W.cell? (a'.add (i*7+3))=some (.string x.m)∧W.cell? (a'.add (i*7+4))=some (.int .i64 x.sc)∧W.cell? (a'.add (i*7+5))=some (.int .i64 x.n)∧W.cell? (a'.add (i*7+6))=some (.int .u32 x.dr)∧x.Ok:=fun i hi=>by
     obtain ⟨cs,h1,h2⟩:=hx i (by omega)
     obtain ⟨xs,n',_,_,_,hxl,hfs⟩:=DataW.trod_struct underX h2
     obtain ⟨_,hlen,hat⟩:=World.cells?_some h1
     have f0:=hfs 0 fieldDo rfl
     have f1:=hfs 1 fieldKy rfl
     have f2:=hfs 2 fieldTo rfl
     have f3:=hfs 3 fieldMb rfl
     have f4:=hfs 4 fieldSc rfl
     have f5:=hfs 5 fieldNn rfl
     have f6:=hfs 6 fieldDr rfl
     obtain ⟨v0,v1,v2,v3,v4,v5,v6,rfl⟩:=seven hlen
     replace hxl:xs.length=7:=hxl
     simp only [fieldDo,fieldKy,fieldTo,fieldMb,fieldSc,fieldNn,fieldDr,cellsU,cellsI,cellsJ,cellsS,List.drop_zero,List.take_succ_cons,List.take_zero,List.drop_succ_cons] at f0 f1 f2 f3 f4 f5 f6
     rw [List.getElem?_eq_getElem (show 0<xs.length by omega)] at f0
     rw [List.getElem?_eq_getElem (show 1<xs.length by omega)] at f1
     rw [List.getElem?_eq_getElem (show 2<xs.length by omega)] at f2
     rw [List.getElem?_eq_getElem (show 3<xs.length by omega)] at f3
     rw [List.getElem?_eq_getElem (show 4<xs.length by omega)] at f4
     rw [List.getElem?_eq_getElem (show 5<xs.length by omega)] at f5
     rw [List.getElem?_eq_getElem (show 6<xs.length by omega)] at f6
     obtain ⟨k0,hk0,_,_⟩:=DataW.trod_int Tryz.underlying3 f0
     obtain ⟨k1,hk1,_,w1⟩:=DataW.trod_string Tryz.underlying9 f1
     obtain ⟨k2,hk2,_,w2⟩:=DataW.trod_string Tryz.underlying9 f2
     obtain ⟨k3,hk3,_,w3⟩:=DataW.trod_string Tryz.underlying9 f3
     obtain ⟨k4,hk4,_,w4⟩:=DataW.trod_int Tryz.underlying2 f4
     obtain ⟨k5,hk5,_,w5⟩:=DataW.trod_int Tryz.underlying3 f5
     obtain ⟨k6,hk6,_,w6⟩:=DataW.trod_int Tryz.underlying24 f6
     simp only [List.cons.injEq,and_true] at hk0 hk1 hk2 hk3 hk4 hk5 hk6
     subst hk0 hk1 hk2 hk3 hk4 hk5 hk6
     have a0:=hat 0 (by simp)
     have a1:=hat 1 (by simp)
     have a2:=hat 2 (by simp)
     have a3:=hat 3 (by simp)
     have a4:=hat 4 (by simp)
     have a5:=hat 5 (by simp)
     have a6:=hat 6 (by simp)
     rw [add_add] at a0 a1 a2 a3 a4 a5 a6
     unfold maxLen at w1 w2 w3
     exact ⟨⟨k0,k1,k2,k3,k4,k5,k6⟩,a0,a1,a2,a3,a4,a5,a6,⟨w1,w2,w3,bounds_i64 w4,bounds_i64 w5,bounds_u32 w6⟩⟩
   obtain ⟨E,hE⟩:=Go.Deep.choose_lt each
   unfold maxLen at hm
   refine ⟨some a',cap,(List.range len).map E,by simp,fun i hi=>?_,by simp;omega,by simp;omega,fun e he=>?_⟩
   · have hi':i<len:=by simpa using hi
     obtain ⟨c0,c1,c2,c3,c4,c5,c6,_⟩:=hE i hi'
     obtain ⟨b,off,spot⟩:=a'
     have hspot:spot=none:=by simpa [Addr.add] using World.cell?_spot (hE 0 (by omega)).1
     subst hspot
     rw [Addr.add_lit] at c0 c1 c2 c3 c4 c5 c6
     have hbl:b<W.heap.size:=World.block_lt_of_cell? W ⟨b,_,none⟩ c0
     refine ⟨b,off,rfl,hbl,?_,?_,?_,?_,?_,?_,?_⟩
     · simpa using c0
     · simpa [Nat.add_assoc] using c1
     · simpa [Nat.add_assoc] using c2
     · simpa [Nat.add_assoc] using c3
     · simpa [Nat.add_assoc] using c4
     · simpa [Nat.add_assoc] using c5
     · simpa [Nat.add_assoc] using c6
   · obtain ⟨i,hi,rfl⟩:=List.mem_map.1 he
     exact (hE i (List.mem_range.1 hi)).2.2.2.2.2.2.2
end Go.Proofs.YtlckdfoflimahaaGreatDoor
namespace Go.Proofs.YtlckdfoflimahaaGreatDoor
open Go.RowKit Go.Shelf Sk
attribute [local go_sem] Oper.semAt_some
def offD(L:List Th)(x:ActX)(I:List It):Prop:=(IntKind.u64.wrap x.d).tmod 10≠9→OffI (itl L) I (nameB x.k) (nameB x.t)
def actX(x:ActX):Value:=.agg #[.int .i64 x.d,.string x.k,.string x.t,.string x.m,.int .i64 x.sc,.int .i64 x.n,.int .u32 x.dr]
theorem DidAt.imp{w0 W W':World}{p rp sd c:Nat}{en mn mx:Int}{G H:List It→Prop}(h:DidAt w0 W W' p rp en mn sd mx c G)(g:∀ I,G I→H I):DidAt w0 W W' p rp en mn sd mx c H:=by
 obtain ⟨c',L',R',h1,h2,h3,h4,h5,h6⟩:=h
 exact ⟨c',L',R',h1,h2,h3,h4,h5,g _ h6⟩
section
variable {w0 w W W':World} {p rp sd c:Nat} {en mn mx:Int} {L:List Th} {R:List Rt}
theorem did_any(h:PairSp w0 W p rp en mn sd mx c L R)(hA:Alike en mn L R)(hc5:5≤c)(hc:c≤300)(x:ActX)(hx:x.Ok) :
   Calls Tryz.prog 17 #[.pointer (some ⟨p,0,none⟩),.pointer (some ⟨rp,0,none⟩),actX x] W fun e W'=>e=.returned (.bool true)∧DidAt w0 W W' p rp en mn sd mx c (offD L x):=by
 have h0:0≤IntKind.u64.wrap x.d:=by rw [IntKind.wrap_u64];omega
 have e:(IntKind.u64.wrap x.d).tmod 10=(IntKind.u64.wrap x.d) % 10:=Int.tmod_eq_emod_of_nonneg h0
 have fin:∀ {e:Ending} {W':World},(e=.returned (.bool true)∧DidAt w0 W W' p rp en mn sd mx c (fun I=>OffI (itl L) I (nameB x.k) (nameB x.t)))→e=.returned (.bool true)∧DidAt w0 W W' p rp en mn sd mx c (offD L x):=fun ⟨h1,h2⟩=>⟨h1,h2.imp fun I hI _=>hI⟩
 obtain hk|hk|hk|hk|hk|hk|hk|hk:((IntKind.u64.wrap x.d).tmod 10=0∨(IntKind.u64.wrap x.d).tmod 10=1∨(IntKind.u64.wrap x.d).tmod 10=2)∨(IntKind.u64.wrap x.d).tmod 10=3∨(IntKind.u64.wrap x.d).tmod 10=4∨(IntKind.u64.wrap x.d).tmod 10=5∨(IntKind.u64.wrap x.d).tmod 10=6∨(IntKind.u64.wrap x.d).tmod 10=7∨(IntKind.u64.wrap x.d).tmod 10=8∨(IntKind.u64.wrap x.d).tmod 10=9:=by omega
 · exact (did_make h hA hc x.d x.k x.t x.m x.sc x.n x.dr hx.k hx.m hx.sc hx.n hk).mono fun _ _=>fin
 · exact (did_put h hA hc5 (by omega) x.d x.k x.t x.m x.sc x.n x.dr hx.k hx.m hx.sc hx.n hk).mono fun _ _=>fin
 · exact (did_del h hA x.d x.k x.t x.m x.sc x.n x.dr hx.k hk).mono fun _ _=>fin
 · exact (did_tidy h hA hc x.d x.k x.t x.m x.sc x.n x.dr hx.k hx.m hk).mono fun _ _=>fin
 · exact (did_ren h hA x.d x.k x.t x.m x.sc x.n x.dr hx.k hx.t hk).mono fun _ _=>fin
 · exact (did_touch h hA x.d x.k x.t x.m x.sc x.n x.dr hx.k hx.n hx.dr.1 hx.dr.2 hk).mono fun _ _=>fin
 · exact (did_step h hA x.d x.k x.t x.m x.sc x.n x.dr hx.k hk).mono fun _ _=>fin
 · exact (did_rest h hA x.d x.k x.t x.m x.sc x.n x.dr hx.k hk).mono fun _ _ ⟨h1,h2⟩=>⟨h1,h2.imp fun I _ h9=>absurd hk h9⟩
theorem refsp_new(w:World)(en mn mx:Int)(sd:Nat):RefSp (w.alloc (.cells #[.slice none 0 0,.int .i64 en,.int .i64 mn,.int .u32 sd,.int .i64 mx] tyRs)) w.heap.size en mn sd mx [] (fun k=>k=w.heap.size) :=
 ⟨.slice none 0 0,⟨Blk.new w tyRs _,n0_nil _ _,(fun x hx=>by cases hx),List.nodup_nil⟩,by simp,fun k=>⟨fun h=>.inl h,fun h=>by
   rcases h with h|h|⟨x,hx,_⟩
   · exact h
   · cases h
   · cases hx⟩⟩
theorem pair_new(hE:EnvE w0)(h:SpOwn w0 w p en mn sd c []):PairSp w0 (w.alloc (.cells #[.slice none 0 0,.int .i64 en,.int .i64 mn,.int .u32 sd,.int .i64 mx] tyRs)) p w.heap.size en mn sd mx c [] []:=by
 obtain ⟨S,h1,h2,h3⟩:=h
 exact ⟨hE,⟨S,fun k=>k=w.heap.size,h1.later (alloc_below _ _),refsp_new w en mn mx sd,h2,fun k hk=>by subst hk;exact h3.size⟩,h3.alloc h3.size _⟩
end
def entI(I:List It)(o:ByteArray):List En:=match getI I o with
 | some x=>x.E
 | none=>[]
def LookAt(L:List Th)(o:ByteArray)(a:Option Addr)(E:List En):Prop:=(∃ t∈L,t.key=o∧a=some ⟨t.s,0,none⟩∧E=t.E)∨(getI (itl L) o=none∧a=none∧E=[])
theorem KeepB.rows{W W':World}(h:KeepB W W'):KeepRows W W':=fun n0 v l hr =>
 ⟨hr.form,fun i e he=>by
   obtain ⟨b,off,c,cur,h1,h2,h3,h4,h5⟩:=hr.at' i e he
   have h6:=h _ _ _ (by decide) (by decide) h3
   refine ⟨b,off,c,cur,h1,h2,h6,?_,?_⟩
   · rw [h6.cell,← h3.cell];exact h4
   · rw [h6.cell,← h3.cell];exact h5⟩
section
variable {w0 W W':World} {p rp sd c:Nat} {en mn mx:Int} {L:List Th} {R:List Rt} {o:ByteArray} {a:Option Addr} {E:List En}
theorem look_of(hk:Keys (itl L))(o:ByteArray):LookAt L o (sptr L o) (entI (itl L) o):=by
 unfold sptr entI
 cases hf:L.find? (fun t=>decide (t.key=o)) with
 | some t =>
   have ht:=List.mem_of_find?_eq_some hf
   have hto:t.key=o:=by simpa using List.find?_some hf
   have:=getI_of hk (List.mem_map.2 ⟨t,ht,rfl⟩:t.toIt∈itl L)
   rw [show t.toIt.key=o from hto] at this
   rw [this]
   exact .inl ⟨t,ht,hto,rfl,rfl⟩
 | none =>
   have:getI (itl L) o=none:=by
     have h1:=getI_tmap L o
     unfold tmap at h1
     rw [hf] at h1
     simpa using h1
   rw [this]
   exact .inr ⟨this,rfl,rfl⟩
theorem LookAt.len(h:PairSp w0 W p rp en mn sd mx c L R)(hl:LookAt L o a E)(hc:c≤10000):E.length≤10000:=by
 rcases hl with ⟨t,ht,_,_,rfl⟩|⟨_,_,rfl⟩
 · exact Nat.le_trans (h.good ht).len hc
 · simp
theorem PairSp.set(h:PairSp w0 W p rp en mn sd mx c L R){t:Th}(ht:t∈L):SetIs W t.s t.S t.isL (clampL en 200) (clampL mn 64) c t.E:=by
 obtain ⟨S,T,h1,_⟩:=h.ex
 exact (h1.th ht).2
theorem look_len(h:PairSp w0 W p rp en mn sd mx c L R)(hl:LookAt L o a E):Calls Tryz.prog 30 #[.pointer a] W fun e W'=>e=.returned (.int .i64 E.length)∧Below W.heap.size W W':=by
 rcases hl with ⟨t,ht,_,rfl,rfl⟩|⟨_,rfl,rfl⟩
 · exact set_len (h.set ht)
 · exact nil_len W
theorem look_range(h:PairSp w0 W p rp en mn sd mx c L R)(hl:LookAt L o a E):Calls Tryz.prog 29 #[.pointer a,.int .i64 0,.int .i64 E.length] W fun e W'=>∃ r,e=.returned r∧Row W' W.heap.size r E∧Below W.heap.size W W':=by
 rcases hl with ⟨t,ht,_,rfl,rfl⟩|⟨_,rfl,rfl⟩
 · refine (set_range (h.set ht) 0 (t.E.length:Int)).mono ?_
   rw [subE_all]
   exact fun _ _ h=>h
 · refine (nil_range 0 _ W).mono ?_
   rintro e W' ⟨x,y,rfl,hb⟩
   exact ⟨_,rfl,⟨⟨x,y,rfl⟩,fun i e he=>by simp at he⟩,hb⟩
theorem getI_isSome(L:List Th)(o:ByteArray):(tmap L o).isSome=(getI (itl L) o).isSome:=(getI_tmap L o).symm
end
theorem eq_toList(a b:ByteArray):decide (a=b)=(a.toList==b.toList):=by
 by_cases h:a=b
 · rw [h];simp
 · rw [decide_eq_false h]
   symm
   exact beq_eq_false_iff_ne.2 fun e=>h (Pk.toList_inj _ _ e)
def PutsArgs(b:Nat)(en mn:Int)(sd:Nat)(mx d:Int)(k t m:ByteArray)(sc n dr:Int)(W:World):Prop :=
 Blk W b 26 #[.int .i64 en,.int .i64 mn,.int .u32 sd,.int .i64 mx]∧Blk W (b+1) 37 #[.int .i64 d,.string k,.string t,.string m,.int .i64 sc,.int .i64 n,.int .u32 dr]
section
variable {b sd:Nat} {en mn mx d sc n dr:Int} {k t m:ByteArray} {W W' w:World}
theorem PutsArgs.later(h:PutsArgs b en mn sd mx d k t m sc n dr W)(hb:Below W.heap.size W W'):PutsArgs b en mn sd mx d k t m sc n dr W':=⟨h.1.later hb,h.2.later hb⟩
theorem PutsArgs.cells(h:PutsArgs b en mn sd mx d k t m sc n dr W) :
   (W.cell? ⟨b,0,none⟩=some (.int .i64 en)∧W.cell? ⟨b,1,none⟩=some (.int .i64 mn)∧W.cell? ⟨b,2,none⟩=some (.int .u32 sd)∧W.cell? ⟨b,3,none⟩=some (.int .i64 mx)) ∧
   W.cell? ⟨b+1,0,none⟩=some (.int .i64 d)∧W.cell? ⟨b+1,1,none⟩=some (.string k)∧W.cell? ⟨b+1,2,none⟩=some (.string t)∧W.cell? ⟨b+1,3,none⟩=some (.string m)∧W.cell? ⟨b+1,4,none⟩=some (.int .i64 sc)∧W.cell? ⟨b+1,5,none⟩=some (.int .i64 n)∧W.cell? ⟨b+1,6,none⟩=some (.int .u32 dr) :=
 ⟨⟨h.1.cell 0,h.1.cell 1,h.1.cell 2,h.1.cell 3⟩,h.2.cell 0,h.2.cell 1,h.2.cell 2,h.2.cell 3,h.2.cell 4,h.2.cell 5,h.2.cell 6⟩
theorem args_new(w:World)(en mn:Int)(sd:Nat)(mx d:Int)(k t m:ByteArray)(sc n dr:Int) :
   PutsArgs w.heap.size en mn sd mx d k t m sc n dr ((w.alloc (.cells #[.int .i64 en,.int .i64 mn,.int .u32 sd,.int .i64 mx] 26)).alloc (.cells #[.int .i64 d,.string k,.string t,.string m,.int .i64 sc,.int .i64 n,.int .u32 dr] 37)):=by
 refine ⟨(Blk.new w 26 _).later (alloc_below _ _),?_⟩
 have h:=Blk.new (w.alloc (.cells #[.int .i64 en,.int .i64 mn,.int .u32 sd,.int .i64 mx] 26)) 37 #[.int .i64 d,.string k,.string t,.string m,.int .i64 sc,.int .i64 n,.int .u32 dr]
 rw [alloc_size] at h
 exact h
end
theorem alloc_lt(w:World)(o:Obj):w.heap.size<(w.alloc o).heap.size:=by rw [alloc_size];omega
theorem beq_of{a b:ByteArray}(h:a=b):(a.toList==b.toList)=true:=by rw [h];simp
theorem beq_no{a b:ByteArray}(h:a≠b):(a.toList==b.toList)=false:=by
 rw [← eq_toList]
 exact decide_eq_false h
theorem acts_at{W:World}{a:Option Addr}{l:List ActX}{i:Nat}(h:Acts W a l)(hi:i<l.length):∃ b off,a=some ⟨b,off,none⟩∧W.cell? ⟨b,off+i*7,none⟩=some (.int .i64 l[i].d)∧W.cell? ⟨b,off+i*7+1,none⟩=some (.string l[i].k)∧W.cell? ⟨b,off+i*7+2,none⟩=some (.string l[i].t)∧W.cell? ⟨b,off+i*7+3,none⟩=some (.string l[i].m)∧W.cell? ⟨b,off+i*7+4,none⟩=some (.int .i64 l[i].sc)∧W.cell? ⟨b,off+i*7+5,none⟩=some (.int .i64 l[i].n)∧W.cell? ⟨b,off+i*7+6,none⟩=some (.int .u32 l[i].dr):=by
 obtain ⟨b,off,h1,_,h2⟩:=h i hi
 exact ⟨b,off,h1,h2⟩
def Going(w0 W:World)(p rp:Nat)(en mn:Int)(sd:Nat)(mx:Int)(i:Nat)(L:List Th)(R:List Rt):Prop:=∃ c,5≤c∧c≤5+i∧PairSp w0 W p rp en mn sd mx c L R∧Alike en mn L R
section
variable {w0 W W':World} {p rp sd i c:Nat} {en mn mx:Int} {L:List Th} {R:List Rt} {a:Option Addr} {E:List En} {o:ByteArray}
theorem Going.start(hE:EnvE w0)(h:SpOwn w0 W p en mn sd 5 []):Going w0 (W.alloc (.cells #[.slice none 0 0,.int .i64 en,.int .i64 mn,.int .u32 sd,.int .i64 mx] tyRs)) p W.heap.size en mn sd mx 0 [] [] :=
 ⟨5,by omega,by omega,pair_new hE h,alike_nil⟩
theorem Going.did(h:Going w0 W p rp en mn sd mx i L R)(hi:i≤200)(x:ActX)(hx:x.Ok) :
   Calls Tryz.prog 17 #[.pointer (some ⟨p,0,none⟩),.pointer (some ⟨rp,0,none⟩),actX x] W fun e W'=>e=.returned (.bool true)∧∃ L' R',Going w0 W' p rp en mn sd mx (i+1) L' R'∧KeepB W W'∧offD L x (itl L'):=by
 obtain ⟨c,h1,h2,h3,h4⟩:=h
 refine (did_any h3 h4 h1 (by omega) x hx).mono ?_
 rintro e W' ⟨rfl,c',L',R',g1,g2,g3,g4,g5,g6⟩
 exact ⟨rfl,L',R',⟨c',by omega,by omega,g3,g4⟩,g5,g6⟩
theorem Going.below(h:Going w0 W p rp en mn sd mx i L R):Below w0.heap.size w0 W:=by obtain ⟨c,_,_,h,_⟩:=h;exact h.below
theorem Going.keys(h:Going w0 W p rp en mn sd mx i L R):Keys (itl L):=by obtain ⟨c,_,_,h,_⟩:=h;exact h.keys
theorem Going.of(h:Going w0 W p rp en mn sd mx i L R)(g:∀ c,PairSp w0 W p rp en mn sd mx c L R→PairK w0 W W' p rp en mn sd mx c L R):Going w0 W' p rp en mn sd mx i L R∧KeepB W W':=by
 obtain ⟨c,h1,h2,h3,h4⟩:=h
 exact ⟨⟨c,h1,h2,(g c h3).pair,h4⟩,(g c h3).keep⟩
theorem Going.later(h:Going w0 W p rp en mn sd mx i L R)(hb:Below W.heap.size W W'):Going w0 W' p rp en mn sd mx i L R:=(h.of fun _ g=>g.later hb).1
theorem Going.find(h:Going w0 W p rp en mn sd mx i L R)(o:ByteArray)(ho:o.size≤281474976710656) :
   Calls Tryz.prog 26 #[.pointer (some ⟨p,0,none⟩),.string o] W fun e W'=>e=.returned (.tuple #[.pointer (sptr L o),.bool (getI (itl L) o).isSome])∧Going w0 W' p rp en mn sd mx i L R∧KeepB W W':=by
 obtain ⟨c,h1,h2,h3,h4⟩:=h
 refine (pair_Find h3 o ho).mono ?_
 rw [getI_isSome]
 rintro e W' ⟨rfl,g⟩
 exact ⟨rfl,⟨c,h1,h2,g.pair,h4⟩,g.keep⟩
theorem Going.use(h:Going w0 W p rp en mn sd mx i L R)(o:ByteArray)(ho:o.size≤281474976710656) :
   Calls Tryz.prog 27 #[.pointer (some ⟨p,0,none⟩),.string o] W fun e W'=>e=.returned (.tuple #[.agg #[.int .i64 (useI (itl L) o).1,.int .i64 (useI (itl L) o).2],.bool (getI (itl L) o).isSome])∧Going w0 W' p rp en mn sd mx i L R∧KeepB W W':=by
 obtain ⟨c,h1,h2,h3,h4⟩:=h
 refine (pair_Use h3 o ho).mono ?_
 rw [getI_isSome]
 rintro e W' ⟨rfl,g⟩
 exact ⟨rfl,⟨c,h1,h2,g.pair,h4⟩,g.keep⟩
theorem Going.look(h:Going w0 W p rp en mn sd mx i L R)(hl:LookAt L o a E):Calls Tryz.prog 30 #[.pointer a] W fun e W'=>e=.returned (.int .i64 E.length)∧Below W.heap.size W W':=by
 obtain ⟨c,h1,h2,h3,h4⟩:=h
 exact look_len h3 hl
theorem Going.range(h:Going w0 W p rp en mn sd mx i L R)(hl:LookAt L o a E):Calls Tryz.prog 29 #[.pointer a,.int .i64 0,.int .i64 E.length] W fun e W'=>∃ r,e=.returned r∧Row W' W.heap.size r E∧Below W.heap.size W W':=by
 obtain ⟨c,h1,h2,h3,h4⟩:=h
 exact look_range h3 hl
theorem Going.small(h:Going w0 W p rp en mn sd mx i L R)(hi:i≤200)(hl:LookAt L o a E):E.length≤1000000:=by
 obtain ⟨c,h1,h2,h3,h4⟩:=h
 have:=hl.len h3 (by omega)
 omega
end
theorem use_new(W:World)(a b:Int):Blk (W.alloc (.cells #[.int .i64 a,.int .i64 b] 48)) W.heap.size 48 #[.int .i64 a,.int .i64 b] ∧
   Below W.heap.size W (W.alloc (.cells #[.int .i64 a,.int .i64 b] 48)):=⟨Blk.new W _ _,alloc_below W _⟩
attribute [local go_sem high] Lf.eq23
attribute [local go_sem] Lf.guard23
theorem apart_walk(en mn:Int)(sd:Nat)(hsd:sd<4294967296)(mx:Int)(la:Option Addr)(cap:Nat)(l:List ActX)(hl:∀ x∈l,x.Ok)(hlz:l.length≤9223372036854775807)(x:ActX)(hx:x.Ok)(o0:ByteArray)(ho0:o0.size≤9223372036854775807)(w:World)(hE:EnvE w)(hL:Acts w la l) :
   Calls Tryz.prog 4 #[.agg #[.int .i64 en,.int .i64 mn,.int .u32 sd,.int .i64 mx],.slice la l.length cap,actX x,.string o0] w fun e w'=>e=.returned (.bool true)∧Below w.heap.size w w':=by
 have HX:=Lib.hid hx
 have HD:Hid (∀ (w0 W:World) (p rp i:Nat) (L:List Th) (R:List Rt),Going w0 W p rp en mn sd mx i L R→i≤200→Calls Tryz.prog 17 #[.pointer (some ⟨p,0,none⟩),.pointer (some ⟨rp,0,none⟩),actX x] W fun e W'=>e=.returned (.bool true)∧∃ L' R',Going w0 W' p rp en mn sd mx (i+1) L' R'∧KeepB W W'∧offD L x (itl L')):=Lib.hid fun w0 W p rp i L R g hi=>g.did hi x hx
 have hkk:=hx.k
 have htt:=hx.t
 obtain ⟨d,k0,t0,m,sc,n,dr⟩:=x
 simp only at hkk htt
 have HA:=Lib.hid (args_new w en mn sd mx d k0 t0 m sc n dr)
 have HW:=Lib.hid ((alloc_below w (.cells #[.int .i64 en,.int .i64 mn,.int .u32 sd,.int .i64 mx] 26)).alloc (Nat.le_of_lt (alloc_lt _ _)) (.cells #[.int .i64 d,.string k0,.string t0,.string m,.int .i64 sc,.int .i64 n,.int .u32 dr] 37))
 have HS:=fun W (h:EnvE W)=>Lib.hid (shown_any W h)
 have HE:=Lib.hid hE
 have HL:=Lib.hid hL
 have HLO:=Lib.hid hl
 have HN:=fun W=>Lib.hid (own_New en mn mx sd hsd 5 W)
 have HK:=fun W=>Lib.hid (name_any k0 hkk W)
 have HT:=fun W=>Lib.hid (name_any t0 htt W)
 have HO:=fun W=>Lib.hid (name_any o0 ho0 W)
 have ho70:=name_size o0
 unfold actX at *
 unfold offD at HD
 simp only at HD
 generalize nameB k0=k at *
 generalize nameB t0=t at *
 generalize nameB o0=o at *
 clear hE hL hl hx HX
 go_enter Tryz.func4,Tryz.ntmps4
 go_wp2_with fail
 generalize (w.alloc (.cells #[.int .i64 en,.int .i64 mn,.int .u32 sd,.int .i64 mx] 26)).alloc (.cells #[.int .i64 d,.string k0,.string t0,.string m,.int .i64 sc,.int .i64 n,.int .u32 dr] 37)=w2 at HA HW ⊢
 refine (HS w2 (HE.out.later HW.out)).out.mono ?_
 rintro e w3 ⟨rfl,hb3⟩
 obtain ⟨⟨c0,c1,c2,c3⟩,a0,a1,a2,a3,a4,a5,a6⟩:=(HA.out.later hb3).cells
 have HA3:=Lib.hid (HA.out.later hb3)
 have HW3:=Lib.hid (HW.out.trans (hb3.mono HW.out.size))
 have HN3:=HN w3
 clear hb3 HA HW HS HN
 go_wp2_with fail
 clear c0 c1 c2 c3 a0 a1 a2 a3 a4 a5 a6
 refine HN3.out.mono ?_
 rintro e w4 ⟨p,rfl,h4⟩
 obtain ⟨⟨c0,c1,c2,c3⟩,a0,a1,a2,a3,a4,a5,a6⟩:=(HA3.out.later h4.below).cells
 have HG:=Lib.hid (Going.start (mx:=mx) (HE.out.later HW3.out) h4)
 have HL3:=Lib.hid (HL.out.below HW3.out)
 clear h4 HN3 HL
 go_wp2_with fail
 go_loopw [12] (fun iv wr=>∃ (i:Nat) (L:List Th) (R:List Rt),iv=.int .i64 i∧i≤l.length∧i≤60∧Going w3 wr p w4.heap.size en mn sd mx i L R) (fun iv _=>l.length-(intOf iv).toNat)
 case atStart=>exact ⟨0,[],[],rfl,by omega,by omega,HG.out⟩
 case round =>
   obtain ⟨i,L,R,rfl,hi,hi60,hg⟩:=hrel
   clear HG c0 c1 c2 c3 a0 a1 a2 a3 a4 a5 a6
   by_cases hlt:i<l.length∧i<60
   · obtain ⟨hl1,hl2⟩:=hlt
     obtain ⟨b,off,rfl,x0,x1,x2,x3,x4,x5,x6⟩:=acts_at (HL3.out.below hg.below) hl1
     have hdi:=hg.did (by omega) l[i] (HLO.out _ (List.getElem_mem hl1))
     unfold actX at hdi
     have HDI:=Lib.hid hdi
     clear hdi hg HD HK HT HO
     generalize l[i]=y at *
     go_wp2_with fail
     refine HDI.out.mono ?_
     rintro e w6 ⟨rfl,L',R',h6,_,_⟩
     have H6:=Lib.hid h6
     clear h6 HDI x0 x1 x2 x3 x4 x5 x6
     go_wp2_with fail
     refine ⟨⟨i+1,L',R',by go_num,by omega,by omega,H6.out⟩,by simp [intOf];omega⟩
   · have hor:¬ i<l.length∨(i<l.length∧¬ (i:Int)<60):=by omega
     have HGX:=Lib.hid hg
     have hc:=(HA3.out.later hg.below).cells
     obtain ⟨_,a0,a1,a2,a3,a4,a5,a6⟩:=hc
     have HBE:=Lib.hid (fun W (h:Below w3.heap.size w3 W)=>show Below w.heap.size w W from HW3.out.trans (h.mono HW3.out.size))
     have HAC:=Lib.hid (fun W (h:Below w3.heap.size w3 W)=>(HA3.out.later h).cells.2)
     clear hg hlt HLO HL3
     rcases hor with hor|⟨hor,hor2⟩
     all_goals (
       go_wp2_with fail
       refine (HO _).out.mono ?_
       rintro e w7 ⟨rfl,rfl⟩
       by_cases h9:(IntKind.u64.wrap d).tmod 10=9
       · have HB:=Lib.hid (HBE.out _ HGX.out.below)
         go_wp2_with fail
         go_ret
         exact ⟨rfl,HB.out⟩
       · go_wp2_with fail
         refine (HK _).out.mono ?_
         rintro e w7 ⟨rfl,rfl⟩
         by_cases hk:o=k
         · have hb:=beq_of hk
           have HB:=Lib.hid (HBE.out _ HGX.out.below)
           clear hk
           go_wp2_with fail
           go_ret
           exact ⟨rfl,HB.out⟩
         · have hb:=beq_no hk
           have HNK:=Lib.hid hk
           clear hk
           go_wp2_with fail
           refine (HT _).out.mono ?_
           rintro e w7 ⟨rfl,rfl⟩
           by_cases hk:o=t
           · have hb2:=beq_of hk
             have HB:=Lib.hid (HBE.out _ HGX.out.below)
             clear hk
             go_wp2_with fail
             go_ret
             exact ⟨rfl,HB.out⟩
           · have hb2:=beq_no hk
             have HNT:=Lib.hid hk
             have HFI:=Lib.hid (HGX.out.find o (by omega))
             have HLK:=Lib.hid (look_of HGX.out.keys o)
             have HKL:=Lib.hid HGX.out.keys
             have H9:=Lib.hid h9
             clear hk HK HT HO
             generalize sptr L o=q1 at *
             generalize hE1:entI (itl L) o=E1 at *
             generalize hB1:(getI (itl L) o).isSome=B1 at *
             generalize hU1:useI (itl L) o=U1 at *
             go_wp2_with fail
             refine HFI.out.mono ?_
             rintro e w8 ⟨rfl,h8,k8⟩
             have HLE:=Lib.hid (h8.look HLK.out)
             have H8:=Lib.hid h8
             clear h8 k8 HFI HGX a0 a1 a2 a3 a4 a5 a6
             go_wp2_with fail
             refine HLE.out.mono ?_
             rintro e w9 ⟨rfl,hb9⟩
             have h9g:=H8.out.later hb9
             have HRG:=Lib.hid (h9g.range HLK.out)
             have HSM:=Lib.hid (h9g.small (by omega) HLK.out)
             have HG9:=Lib.hid h9g
             clear h9g hb9 H8 HLE
             go_wp2_with fail
             refine HRG.out.mono ?_
             rintro e w10 ⟨r1,rfl,hr10,hb10⟩
             have h10:=HG9.out.later hb10
             have huse:=h10.use o (by omega)
             rw [hU1,hB1] at huse
             have HUS:=Lib.hid huse
             have R10:=Lib.hid hr10
             obtain ⟨rA,rC,rfl⟩:=hr10.form
             clear huse h10 hb10 hr10 HRG HG9
             go_wp2_with fail
             refine HUS.out.mono ?_
             rintro e w11 ⟨rfl,h11,k11⟩
             have hun:=use_new w11 U1.1 U1.2
             have h12:=h11.later hun.2
             have HR12:=Lib.hid ((k11.rows _ _ _ R10.out).later hun.2)
             have HUN:=Lib.hid hun.1
             have HDX:=Lib.hid (HD.out w3 _ p w4.heap.size i L R h12 (by omega))
             obtain ⟨a0,a1,a2,a3,a4,a5,a6⟩:=HAC.out _ h12.below
             clear h11 k11 hun h12 HUS R10 HD
             go_upto_region 14 with fail
             generalize w11.alloc (.cells #[.int .i64 U1.1,.int .i64 U1.2] 48)=w12 at *
             go_wp2_with fail
             refine HDX.out.mono ?_
             rintro e w13 ⟨rfl,L',R',h13,k13,hoff⟩
             have hget:=(hoff H9.out).get HKL.out h13.keys HNK.out HNT.out
             have hE2:entI (itl L') o=E1:=by rw [← hE1];unfold entI;rw [hget]
             have hB2:(getI (itl L') o).isSome=B1:=by rw [hget];exact hB1
             have hU2:useI (itl L') o=U1:=by rw [← hU1];unfold useI;rw [hget]
             have HR13:=Lib.hid (k13.rows _ _ _ HR12.out)
             have HUN13:=Lib.hid (k13 _ _ _ (by decide) (by decide) HUN.out)
             have hfi:=h13.find o (by omega)
             have hlk:=look_of h13.keys o
             rw [hB2] at hfi
             rw [hE2] at hlk
             have HFI:=Lib.hid hfi
             have HLK2:=Lib.hid hlk
             have HU2:=Lib.hid hU2
             have HB2:=Lib.hid hB2
             clear h13 k13 hoff hget hE2 hB2 hU2 hfi hlk HDX HR12 HUN a0 a1 a2 a3 a4 a5 a6 HLK HKL
             generalize sptr L' o=q2 at *
             go_wp2_with fail
             refine HFI.out.mono ?_
             rintro e w14 ⟨rfl,h14,k14⟩
             have HR14:=Lib.hid (k14.rows _ _ _ HR13.out)
             have HUN14:=Lib.hid (k14 _ _ _ (by decide) (by decide) HUN13.out)
             have huse:=h14.use o (by omega)
             rw [HU2.out,HB2.out] at huse
             have HUS:=Lib.hid huse
             clear huse h14 k14 HFI HR13 HUN13
             go_wp2_with fail
             refine HUS.out.mono ?_
             rintro e w15 ⟨rfl,h15,k15⟩
             have hun:=use_new w15 U1.1 U1.2
             have h16:=h15.later hun.2
             have HR16:=Lib.hid ((k15.rows _ _ _ HR14.out).later hun.2)
             have hua:=(k15 _ _ _ (by decide) (by decide) HUN14.out).later hun.2
             have HLE:=Lib.hid (h16.look HLK2.out)
             have H16:=Lib.hid h16
             have u0:=hua.cell 0
             have u1:=hua.cell 1
             have HV:=Lib.hid (show (w15.alloc (.cells #[.int .i64 U1.1,.int .i64 U1.2] 48)).cell? ⟨w15.heap.size,0,none⟩=some (.int .i64 U1.1)∧(w15.alloc (.cells #[.int .i64 U1.1,.int .i64 U1.2] 48)).cell? ⟨w15.heap.size,1,none⟩=some (.int .i64 U1.2) from ⟨hun.1.cell 0,hun.1.cell 1⟩)
             simp at u0 u1
             clear h15 k15 hun h16 hua HUS HR14 HUN14
             go_upto_region 17 with fail
             generalize w15.alloc (.cells #[.int .i64 U1.1,.int .i64 U1.2] 48)=w16 at *
             obtain ⟨v0,v1⟩:=HV.out
             clear HV
             have hsame:Lf.sameU U1.1 U1.2 U1.1 U1.2=true:=by simp [Lf.sameU]
             go_wp2_with fail
             refine HLE.out.mono ?_
             rintro e w17 ⟨rfl,hb17⟩
             have h17:=H16.out.later hb17
             have HR17:=Lib.hid (HR16.out.later hb17)
             have HRG:=Lib.hid (h17.range HLK2.out)
             have H17:=Lib.hid h17
             clear h17 hb17 HLE H16 HR16 u0 u1 v0 v1
             go_wp2_with fail
             refine HRG.out.mono ?_
             rintro e w18 ⟨r2,rfl,hr18,hb18⟩
             have HB18:=Lib.hid (HBE.out _ (H17.out.later hb18).below)
             have HSE:=Lib.hid (same_rows _ _ E1 HSM.out w18 (HR17.out.later hb18) hr18)
             clear hr18 hb18 HRG H17 HR17
             go_wp2_with fail
             refine HSE.out.mono ?_
             rintro e w19 ⟨rfl,hb19⟩
             have HB19:=Lib.hid (HB18.out.trans (hb19.mono HB18.out.size))
             clear hb19 HSE HB18
             go_wp2_with fail
             go_ret
             exact ⟨rfl,HB19.out⟩)
end Go.Proofs.YtlckdfoflimahaaGreatDoor
namespace Go.Proofs.YtlckdfoflimahaaGreatDoor
open Go.ChangeShapes Go.WideShapes Go.ChangeAt Go.RowKit
theorem Tryz.own:ownKnob Tryz.prog.godebug=none:=by kernel_rfl
theorem gErr : Tryz.prog.globalNamed "errors.errorType" = some 0 := by kernel_rfl
theorem rtNumber : (Tryz.prog.cutTypes.find? (·.1 == "internal/reflectlite.rtype")).map (·.2) = some 215 := by kernel_rfl
theorem oneRow:((List.range Tryz.prog.types.size).filter fun t=>Tryz.prog.rowNamed t [101,114,114,111,114])=[125]:=by kernel_rfl
abbrev laid1 : List (String × DataW Unit) := [("errors.errorType", Rows.laid_errors_errorType)]
theorem handle_of_laid{W:World}(h:laidMetH Tryz.prog laid1 W):W.cell? ⟨0,0,none⟩=some (.iface 215 (.agg #[.pointer (some ⟨3,125,none⟩)])):=by
 have h':laidMet Tryz.prog [] W∧handlesMet Tryz.prog laid1 W:=h
 obtain ⟨name,u,ty,e1,e2,e3,e4,e5⟩:=h'.2 _ (List.mem_singleton.2 rfl)
 have en:name=[101,114,114,111,114]:=(Option.some.inj e1).symm
 subst en
 obtain rfl:=Option.some.inj (rtNumber.symm.trans e2)
 have hm:ty∈(List.range Tryz.prog.types.size).filter fun t=>Tryz.prog.rowNamed t [101,114,114,111,114]:=List.mem_filter.2 ⟨List.mem_range.2 e3,e4⟩
 rw [oneRow] at hm
 obtain rfl:=List.mem_singleton.1 hm
 have hh:typeHandle Tryz.prog 125=.pointer (some ⟨3,125,none⟩):=by kernel_rfl
 rw [hh] at e5
 simpa using World.var?_cell gErr e5 0
theorem env_of_laid{W:World}(hL:laidMetH Tryz.prog laid1 W):EnvE W:=handle_of_laid hL
theorem door_met(os:Os)(args:Array Value):laidMetH Tryz.prog laid1 ((World.doorLaid Tryz.prog 2000 os).forCall (fun _ _=>0) ⟨#[],args,[]⟩).memory :=
 laidMetH_of_parts (laidMet_nil _ _) (by kernel_rfl)
theorem handed_laid_shaped{H:Type}{enc:TypeId × Value→H}{a:Assume}{C:Checked}{os:Os}{f:FuncId}{fn:Func}{s:ChangeSpec}{conds:List PathCond}{apart fresh handsOn again:Bool}{X:World→Array Value→Prop}
   (hX:∀ (w w':World) (args:Array Value),w.heap=w'.heap→X w args→X w' args)
   (own:ownKnob C.prog.godebug=none) (started:os.Started) (noInit:C.prog.inits.idxOf? f=none) (hfn:C.prog.funcs[f]?=some fn)
   (witness:∃ (w:World) (tape:Tape) (i:Input),w.os=os∧(w.forCall tape i).Shaped C.prog∧i.vars=[]∧Input.okWide C.prog (w.forCall tape i) .any w.heap.size f i ∧
     ((s.pre enc C.prog fn conds apart (w.forCall tape i).memory i.args∧X (w.forCall tape i).memory i.args)∧sizedMet enc C.prog fn (OpenSpec.ofChange s) apart (w.forCall tape i).memory i.args)∧a.holds C.prog (lone (Frame.enter C.prog f i.args .normal) [] (w.forCall tape i)))
   (contract:∀ (W:World) (base:Nat) (args:Array Value) (ds gs:List (DataW H)) (before:List MemPlace),
     (∀ (j:Nat) t v,fn.params[j]?=some t→args[j]?=some v→Value.okWide C.prog W .any base t v) →
     DataW.Whole enc C.prog fn.params.toList s.vars apart W args.toList ds gs before→X W args→W.ShapedOpen C.prog →
     Calls C.prog f args W fun e W'=>∃ v,e=.returned v∧s.post enc C.prog fn apart fresh handsOn again W args v W') :
   ReturnsInHanded a C os f .any (fun w args=>(s.pre enc C.prog fn conds apart w args∧X w args)∧sizedMet enc C.prog fn (OpenSpec.ofChange s) apart w args) (s.post enc C.prog fn apart fresh handsOn again):=by
 refine returnsInHanded_of_calls own started noInit witness ?_
 intro w tape i _ hsh _ hok hpre _
 obtain ⟨_,_,_,fn',hfn',_,_,_,_,hval⟩:=hok
 obtain rfl:fn'=fn:=Option.some.inj (hfn'.symm.trans hfn)
 obtain ⟨⟨⟨ds,gs,before,hw,_⟩,hx⟩,_⟩:=hpre
 have hw':=DataW.Whole.of_heap (w':=w.forCall tape i) (by rfl) hw
 refine (contract (w.forCall tape i) w.heap.size i.args ds gs before hval hw' (hX _ _ _ (by rfl) hx) hsh).mono fun e W' ⟨v,he,hp⟩=>?_
 subst he
 exact ChangeSpec.post_blind hp
end Go.Proofs.YtlckdfoflimahaaGreatDoor
namespace Go.Proofs.YtlckdfoflimahaaGreatDoor
open Go.RowKit Go.Shelf Sk
attribute [local go_sem] Oper.semAt_some
section
variable {L L1 L2:List Th} {f k:ByteArray}
theorem isSome_mem{I:List It}{o:ByteArray}:(getI I o).isSome=true↔∃ x∈I,x.key=o:=by
 constructor
 · intro h
   obtain ⟨x,hx⟩:=Option.isSome_iff_exists.1 h
   obtain ⟨h1,h2⟩:=getI_some hx
   exact ⟨x,h1,h2⟩
 · rintro ⟨x,hx,rfl⟩
   cases h:getI I x.key with
   | some y=>rfl
   | none=>exact absurd rfl (getI_none h x hx)
theorem tmap_mem{o:ByteArray}:(tmap L o).isSome=true↔∃ x∈itl L,x.key=o:=by rw [getI_isSome];exact isSome_mem
theorem tmap_out(hk:Keys (itl L))(h:f≠k):(tmap (remT L f) k).isSome=(tmap L k).isSome:=by
 rw [Bool.eq_iff_iff,tmap_mem,tmap_mem,itl_rem hk]
 constructor
 · rintro ⟨x,hx,e⟩
   exact ⟨x,(mem_outI.1 hx).1,e⟩
 · rintro ⟨x,hx,e⟩
   exact ⟨x,mem_outI.2 ⟨hx,fun e2=>h (e2.symm.trans e)⟩,e⟩
theorem tmap_len(h:(tmap L k).isSome=true):0<L.length:=by
 obtain ⟨x,hx,_⟩:=tmap_mem.1 h
 have:=List.length_pos_of_mem hx
 unfold itl at this
 simpa using this
theorem entI_mem{I:List It}(hk:Keys I){x:It}(hx:x∈I):entI I x.key=x.E:=by
 unfold entI
 rw [getI_of hk hx]
theorem ren_len(hk:Keys (itl L))(h1:RenTo L f k L1)(he:renE L f k=0)(hth:(tmap L f).isSome=true) :
   (f=k→L1.length=L.length)∧(f≠k→(tmap L k).isSome=true→L1.length+1=L.length)∧(f≠k→(tmap L k).isSome=false→L1.length=L.length):=by
 rcases h1 with ⟨h,_⟩|⟨_,hfk,rfl⟩|⟨_,hfk,_,t,ht,htf,rfl⟩
 · exact absurd he h
 · exact ⟨fun _=>rfl,fun h=>absurd hfk h,fun h=>absurd hfk h⟩
 · have hk1:Keys (itl (remT L f)):=by rw [itl_rem hk];exact keys_rem hk _
   have e1:=remT_len hk f
   have e2:=remT_len hk1 k
   rw [hth,if_pos rfl] at e1
   rw [tmap_out hk hfk] at e2
   have hp:=tmap_len hth
   refine ⟨fun h=>absurd h hfk,fun _ ho=>?_,fun _ ho=>?_⟩
   · have hp2:=tmap_len (L:=remT L f) (k:=k) (by rw [tmap_out hk hfk];exact ho)
     rw [ho,if_pos rfl] at e2
     rw [List.length_append,List.length_singleton]
     omega
   · rw [ho] at e2
     simp only [Bool.false_eq_true,if_false] at e2
     rw [List.length_append,List.length_singleton]
     omega
theorem ren_back(hk:Keys (itl L))(hk1:Keys (itl L1))(hk2:Keys (itl L2))(h1:RenTo L f k L1)(he:renE L f k=0)(hf:f.size≤64)(h2:RenTo L1 k f L2) :
   renE L1 k f=0∧entI (itl L2) f=entI (itl L) f∧(tmap L2 f).isSome=true∧L2.length=L1.length:=by
 have hth:(tmap L f).isSome=true:=by
   unfold renE at he
   by_cases h:(tmap L f).isSome=true
   · exact h
   · rw [if_neg h] at he;cases he
 rcases h1 with ⟨h,_⟩|⟨_,hfk,rfl⟩|⟨_,hfk,_,t,ht,htf,rfl⟩
 · exact absurd he h
 · subst hfk
   rcases h2 with ⟨h,_⟩|⟨_,_,rfl⟩|⟨_,h,_⟩
   · exact absurd he h
   · exact ⟨he,rfl,hth,rfl⟩
   · exact absurd rfl h
 · have hti:(t.named k).toIt∈itl (remT (remT L f) k++[t.named k]):=List.mem_map.2 ⟨t.named k,by simp,rfl⟩
   have htk:(tmap (remT (remT L f) k++[t.named k]) k).isSome=true:=tmap_mem.2 ⟨_,hti,rfl⟩
   have hr:renE (remT (remT L f) k++[t.named k]) k f=0:=by
     unfold renE
     rw [if_pos htk,if_neg (by omega)]
   have hl:=ren_len hk1 h2 hr htk
   rcases h2 with ⟨h,_⟩|⟨_,h,_⟩|⟨_,_,_,u,hu,huk,rfl⟩
   · exact absurd hr h
   · exact absurd h.symm hfk
   · have hui:u.toIt∈itl (remT (remT L f) k++[t.named k]):=List.mem_map.2 ⟨u,hu,rfl⟩
     have e:u.toIt=(t.named k).toIt:=keys_inj hk1 hui hti huk
     have hno:(tmap (remT (remT L f) k++[t.named k]) f).isSome=false:=by
       rw [Bool.eq_false_iff]
       intro h
       obtain ⟨y,hy,hyf⟩:=tmap_mem.1 h
       have e3:itl (remT (remT L f) k++[t.named k])=itl (remT (remT L f) k)++[(t.named k).toIt]:=by unfold itl;simp
       rw [e3,List.mem_append,List.mem_singleton] at hy
       rcases hy with hy|rfl
       · have hk3:Keys (itl (remT L f)):=by rw [itl_rem hk];exact keys_rem hk _
         rw [itl_rem hk3,itl_rem hk] at hy
         exact (mem_outI.1 (mem_outI.1 hy).1).2 hyf
       · exact hfk hyf.symm
     refine ⟨hr,?_,tmap_mem.2 ⟨(u.named f).toIt,List.mem_map.2 ⟨u.named f,by simp,rfl⟩,rfl⟩,hl.2.2 (fun h=>hfk h.symm) hno⟩
     have h3:=entI_mem hk2 (x:=(u.named f).toIt) (List.mem_map.2 ⟨u.named f,by simp,rfl⟩)
     have h4:=entI_mem hk (x:=t.toIt) (List.mem_map.2 ⟨t,ht,rfl⟩)
     rw [show (u.named f).toIt.key=f from rfl] at h3
     rw [show t.toIt.key=f from htf] at h4
     rw [h3,h4]
     show u.E=t.E
     have e4:=congrArg It.E e
     exact e4
end
theorem ren_cases(L:List Th)(f k:ByteArray):((tmap L f).isSome=false∧renE L f k=141)∨((tmap L f).isSome=true∧renE L f k=140∧64<k.size)∨((tmap L f).isSome=true∧renE L f k=0):=by
 unfold renE
 cases h:(tmap L f).isSome with
 | false=>exact .inl ⟨rfl,rfl⟩
 | true =>
   right
   by_cases h2:64<k.size
   · rw [if_pos h2];exact .inl ⟨rfl,rfl,h2⟩
   · rw [if_neg h2];exact .inr ⟨rfl,rfl⟩
theorem ren_no{L L1:List Th}{f k:ByteArray}(h:RenTo L f k L1)(h0:renE L f k≠0):L1=L:=by
 rcases h with ⟨_,h⟩|⟨h,_⟩|⟨h,_⟩
 · exact h
 · exact absurd h h0
 · exact absurd h h0
theorem renames_walk(en mn:Int)(sd:Nat)(hsd:sd<4294967296)(mx:Int)(la:Option Addr)(cap:Nat)(l:List ActX)(hl:∀ x∈l,x.Ok)(hlz:l.length≤9223372036854775807)(s0 s1:ByteArray)(hs0:s0.size≤9223372036854775807)(hs1:s1.size≤9223372036854775807)(w:World)(hE:EnvE w)(hL:Acts w la l) :
   Calls Tryz.prog 8 #[.agg #[.int .i64 en,.int .i64 mn,.int .u32 sd,.int .i64 mx],.slice la l.length cap,.string s0,.string s1] w fun e w'=>e=.returned (.bool true)∧Below w.heap.size w w':=by
 have HA:=Lib.hid (Blk.new w 26 #[.int .i64 en,.int .i64 mn,.int .u32 sd,.int .i64 mx])
 have HW:=Lib.hid (alloc_below w (.cells #[.int .i64 en,.int .i64 mn,.int .u32 sd,.int .i64 mx] 26))
 have HS:=fun W (h:EnvE W)=>Lib.hid (shown_any W h)
 have HE:=Lib.hid hE
 have HL:=Lib.hid hL
 have HLO:=Lib.hid hl
 have HN:=fun W=>Lib.hid (own_New en mn mx sd hsd 5 W)
 have HK:=fun W=>Lib.hid (name_any s0 hs0 W)
 have HT:=fun W=>Lib.hid (name_any s1 hs1 W)
 have hf70:=name_size s0
 have hk70:=name_size s1
 generalize nameB s0=f at *
 generalize nameB s1=k at *
 clear hE hL hl
 go_enter Tryz.func8,Tryz.ntmps8
 go_wp2_with fail
 generalize w.alloc (.cells #[.int .i64 en,.int .i64 mn,.int .u32 sd,.int .i64 mx] 26)=w2 at HA HW ⊢
 refine (HS w2 (HE.out.later HW.out)).out.mono ?_
 rintro e w3 ⟨rfl,hb3⟩
 have ha3:=HA.out.later hb3
 have c0:=ha3.cell 0
 have c1:=ha3.cell 1
 have c2:=ha3.cell 2
 have c3:=ha3.cell 3
 simp at c0 c1 c2 c3
 have HA3:=Lib.hid ha3
 have HW3:=Lib.hid (HW.out.trans (hb3.mono HW.out.size))
 have HN3:=HN w3
 clear hb3 HA HW HS HN ha3
 go_wp2_with fail
 clear c0 c1 c2 c3
 refine HN3.out.mono ?_
 rintro e w4 ⟨p,rfl,h4⟩
 have ha4:=HA3.out.later h4.below
 have c0:=ha4.cell 0
 have c1:=ha4.cell 1
 have c2:=ha4.cell 2
 have c3:=ha4.cell 3
 simp at c0 c1 c2 c3
 have HG:=Lib.hid (Going.start (mx:=mx) (HE.out.later HW3.out) h4)
 have HL3:=Lib.hid (HL.out.below HW3.out)
 clear h4 HN3 HL ha4
 go_wp2_with fail
 go_loopw [12] (fun iv wr=>∃ (i:Nat) (L:List Th) (R:List Rt),iv=.int .i64 i∧i≤l.length∧i≤60∧Going w3 wr p w4.heap.size en mn sd mx i L R) (fun iv _=>l.length-(intOf iv).toNat)
 case atStart=>exact ⟨0,[],[],rfl,by omega,by omega,HG.out⟩
 case round =>
   obtain ⟨i,L,R,rfl,hi,hi60,hg⟩:=hrel
   clear HG c0 c1 c2 c3
   by_cases hlt:i<l.length∧i<60
   · obtain ⟨hl1,hl2⟩:=hlt
     obtain ⟨b,off,rfl,x0,x1,x2,x3,x4,x5,x6⟩:=acts_at (HL3.out.below hg.below) hl1
     have hdi:=hg.did (by omega) l[i] (HLO.out _ (List.getElem_mem hl1))
     unfold actX at hdi
     have HDI:=Lib.hid hdi
     clear hdi hg HK HT
     generalize l[i]=y at *
     go_wp2_with fail
     refine HDI.out.mono ?_
     rintro e w6 ⟨rfl,L',R',h6,_,_⟩
     have H6:=Lib.hid h6
     clear h6 HDI x0 x1 x2 x3 x4 x5 x6
     go_wp2_with fail
     refine ⟨⟨i+1,L',R',by go_num,by omega,by omega,H6.out⟩,by simp [intOf];omega⟩
   · have hor:¬ i<l.length∨(i<l.length∧¬ (i:Int)<60):=by omega
     have HBE:=Lib.hid (fun W (h:Below w3.heap.size w3 W)=>show Below w.heap.size w W from HW3.out.trans (h.mono HW3.out.size))
     have HGX:=Lib.hid hg
     have HFI:=Lib.hid (hg.find f (by omega))
     have HLK:=Lib.hid (look_of hg.keys f)
     clear hg hlt HLO HL3
     rcases hor with hor|⟨hor,hor2⟩
     all_goals (
       go_wp2_with fail
       refine (HK _).out.mono ?_
       rintro e w7 ⟨rfl,rfl⟩
       go_wp2_with fail
       refine (HT _).out.mono ?_
       rintro e w7 ⟨rfl,rfl⟩
       clear HK HT
       go_wp2_with fail
       refine HFI.out.mono ?_
       rintro e w8 ⟨rfl,h8,k8⟩
       have HLE:=Lib.hid (h8.look HLK.out)
       have H8:=Lib.hid h8
       clear h8 k8 HFI HGX
       generalize sptr L f=q1 at *
       generalize hE1:entI (itl L) f=E1 at *
       go_wp2_with fail
       refine HLE.out.mono ?_
       rintro e w9 ⟨rfl,hb9⟩
       have h9g:=H8.out.later hb9
       have HRG:=Lib.hid (h9g.range HLK.out)
       have HSM:=Lib.hid (h9g.small (by omega) HLK.out)
       have HG9:=Lib.hid h9g
       clear h9g hb9 H8 HLE HLK
       go_wp2_with fail
       refine HRG.out.mono ?_
       rintro e w10 ⟨r1,rfl,hr10,hb10⟩
       have h10:=HG9.out.later hb10
       have HFO:=Lib.hid (h10.find k (by omega))
       have R10:=Lib.hid hr10
       obtain ⟨rA,rC,rfl⟩:=hr10.form
       clear h10 hb10 hr10 HRG HG9
       generalize sptr L k=q3 at *
       generalize hOB:(getI (itl L) k).isSome=OB at *
       go_wp2_with fail
       refine HFO.out.mono ?_
       rintro e w11 ⟨rfl,h11,k11⟩
       obtain ⟨c,_,hc2,hp11,hal11⟩:=h11
       have R11:=Lib.hid (k11.rows _ _ _ R10.out)
       have HLN:=Lib.hid (pair_Len hp11)
       have hren:=pair_Rename hp11 f k (by omega) (by omega)
       have HKS:=Lib.hid (fun (e:(tmap L f).isSome=true)=>show f.size≤64 from by
         obtain ⟨y,hy,hyf⟩:=tmap_mem.1 e
         rw [← hyf]
         exact hal11.ksz y hy)
       have HKL:=Lib.hid hp11.keys
       have hlen500:L.length≤500:=by obtain ⟨S,T,h1,_⟩:=hp11.ex;exact h1.len
       have hgs:=getI_isSome L f
       clear k11 hp11 hal11 HFO R10
       go_wp2_with fail
       refine HLN.out.mono ?_
       rintro e w12 ⟨rfl,rfl⟩
       clear HLN
       rcases ren_cases L f k with ⟨hB,hz⟩|⟨hB,hz,h64⟩|⟨hB,hz⟩
       · rw [← hgs,hB]
         have HNO:=Lib.hid (fun L1 (h:RenTo L f k L1)=>ren_no h (by rw [hz];decide))
         rw [hz] at hren
         have HREN:=Lib.hid hren
         clear hren hz hgs hB hE1 hOB R11 HKS HKL HSM
         go_wp2_with fail
         refine HREN.out.mono ?_
         rintro e w13 ⟨L1,rfl,h13,hto⟩
         obtain rfl:=HNO.out L1 hto
         have HLN2:=Lib.hid (pair_Len h13.pair)
         have HB:=Lib.hid (HBE.out _ h13.pair.below)
         clear h13 hto HREN HNO
         go_wp2_with fail
         refine HLN2.out.mono ?_
         rintro e w14 ⟨rfl,rfl⟩
         clear HLN2
         go_wp2_with fail
         go_ret
         exact ⟨by simp,HB.out⟩
       · rw [← hgs,hB]
         have HNO:=Lib.hid (fun L1 (h:RenTo L f k L1)=>ren_no h (by rw [hz];decide))
         have h64i:(64:Int)<k.size:=by omega
         rw [hz] at hren
         have HREN:=Lib.hid hren
         clear hren hz hgs hB hE1 hOB R11 HKS HKL HSM
         go_wp2_with fail
         refine HREN.out.mono ?_
         rintro e w13 ⟨L1,rfl,h13,hto⟩
         obtain rfl:=HNO.out L1 hto
         have HLN2:=Lib.hid (pair_Len h13.pair)
         have HB:=Lib.hid (HBE.out _ h13.pair.below)
         clear h13 hto HREN HNO
         go_wp2_with fail
         refine HLN2.out.mono ?_
         rintro e w14 ⟨rfl,rfl⟩
         clear HLN2
         go_wp2_with fail
         go_ret
         exact ⟨by simp,HB.out⟩
       · have hz2:=hz
         rw [hz] at hren
         have HREN:=Lib.hid hren
         have HTH:=Lib.hid hB
         have HZ:=Lib.hid hz2
         have HE1:=Lib.hid hE1
         have HOB:=Lib.hid (show (tmap L k).isSome=OB from by rw [getI_isSome];exact hOB)
         rw [← hgs,hB]
         clear hren hz hz2 hgs hB hE1 hOB
         go_wp2_with fail
         refine HREN.out.mono ?_
         rintro e w13 ⟨L1,rfl,h13,hto⟩
         have R13:=Lib.hid (h13.keep.rows _ _ _ R11.out)
         have HLN:=Lib.hid (pair_Len h13.pair)
         have HTO:=Lib.hid hto
         have HK1:=Lib.hid h13.pair.keys
         have hren:=pair_Rename h13.pair k f (by omega) (by omega)
         have HRL:=Lib.hid (ren_len HKL.out hto HZ.out HTH.out)
         have HREN2:=Lib.hid hren
         clear h13 hto HREN R11 hren
         go_wp2_with fail
         refine HLN.out.mono ?_
         rintro e w14 ⟨rfl,rfl⟩
         clear HLN
         go_wp2_with fail
         refine HREN2.out.mono ?_
         rintro e w15 ⟨L2,rfl,h15,hto2⟩
         obtain ⟨hr0,he2,hth2,hln2⟩:=ren_back HKL.out HK1.out h15.pair.keys HTO.out HZ.out (HKS.out HTH.out) hto2
         rw [hr0]
         have R15:=Lib.hid (h15.keep.rows _ _ _ R13.out)
         have hfi:=pair_Find h15.pair f (by omega)
         rw [hth2] at hfi
         have hlk:=look_of h15.pair.keys f
         rw [he2,HE1.out] at hlk
         have HFI:=Lib.hid hfi
         have HLK:=Lib.hid hlk
         have HL2:=Lib.hid hln2
         clear h15 hto2 hr0 he2 hth2 hln2 hfi hlk HREN2 R13 HK1 HTO HKS HZ HKL HTH HE1
         generalize sptr L2 f=q2 at *
         go_wp2_with fail
         refine HFI.out.mono ?_
         rintro e w16 ⟨rfl,h16⟩
         have R16:=Lib.hid (h16.keep.rows _ _ _ R15.out)
         have HP16:=Lib.hid h16.pair
         have HLE:=Lib.hid (look_len h16.pair HLK.out)
         clear h16 HFI R15
         have hcase:(f=k∧L1.length=L.length)∨(f≠k∧OB=true∧((L.length:Int)-1=(L1.length:Int)))∨(f≠k∧OB=false∧L1.length=L.length):=by
           obtain ⟨r1,r2,r3⟩:=HRL.out
           by_cases hfk:f=k
           · exact .inl ⟨hfk,r1 hfk⟩
           · cases hob:OB with
             | true=>exact .inr (.inl ⟨hfk,rfl,by have:=r2 hfk (HOB.out.trans hob);omega⟩)
             | false=>exact .inr (.inr ⟨hfk,rfl,r3 hfk (HOB.out.trans hob)⟩)
         clear HRL HOB
         rcases hcase with ⟨hfk,hn⟩|⟨hfk,rfl,hn⟩|⟨hfk,rfl,hn⟩
         · have hb:=beq_of hfk
           have HL2:=Lib.hid (HL2.out.trans hn)
           rw [hn]
           clear hfk hn
           go_wp2_with fail
           refine HLE.out.mono ?_
           rintro e w17 ⟨rfl,hb17⟩
           have h17:=(HP16.out.later hb17).pair
           have HR17:=Lib.hid (R16.out.later hb17)
           have HRG:=Lib.hid (look_range h17 HLK.out)
           have H17:=Lib.hid h17
           clear h17 hb17 HLE HP16 R16
           go_wp2_with fail
           refine HRG.out.mono ?_
           rintro e w18 ⟨r2,rfl,hr18,hb18⟩
           have h18:=(H17.out.later hb18).pair
           have HSE:=Lib.hid (same_rows _ _ E1 HSM.out w18 (HR17.out.later hb18) hr18)
           have HLN:=Lib.hid (fun W hb=>pair_Len (h18.later (W':=W) hb).pair)
           have HB18:=Lib.hid (HBE.out _ h18.below)
           clear hr18 hb18 h18 HRG H17 HR17
           go_wp2_with fail
           refine HSE.out.mono ?_
           rintro e w19 ⟨rfl,hb19⟩
           have HLN2:=HLN.out _ hb19
           rw [HL2.out] at HLN2
           have HLN3:=Lib.hid HLN2
           have HB19:=Lib.hid (HB18.out.trans (hb19.mono HB18.out.size))
           clear hb19 HSE HB18 HLN HLN2
           go_wp2_with fail
           refine HLN3.out.mono ?_
           rintro e w20 ⟨rfl,rfl⟩
           go_wp2_with fail
           go_ret
           exact ⟨by simp,HB19.out⟩
         · have hb:=beq_no hfk
           clear hfk
           generalize L.length=n0 at *
           generalize L1.length=n1 at *
           have hm0:(0:Int)≤n0:=by omega
           have hm1:-9223372036854775808≤(n0:Int)-1∧(n0:Int)-1≤9223372036854775807:=by omega
           go_wp2_with fail
           refine HLE.out.mono ?_
           rintro e w17 ⟨rfl,hb17⟩
           have h17:=(HP16.out.later hb17).pair
           have HR17:=Lib.hid (R16.out.later hb17)
           have HRG:=Lib.hid (look_range h17 HLK.out)
           have H17:=Lib.hid h17
           clear h17 hb17 HLE HP16 R16
           go_wp2_with fail
           refine HRG.out.mono ?_
           rintro e w18 ⟨r2,rfl,hr18,hb18⟩
           have h18:=(H17.out.later hb18).pair
           have HSE:=Lib.hid (same_rows _ _ E1 HSM.out w18 (HR17.out.later hb18) hr18)
           have HLN:=Lib.hid (fun W hb=>pair_Len (h18.later (W':=W) hb).pair)
           have HB18:=Lib.hid (HBE.out _ h18.below)
           clear hr18 hb18 h18 HRG H17 HR17
           go_wp2_with fail
           refine HSE.out.mono ?_
           rintro e w19 ⟨rfl,hb19⟩
           have HLN2:=HLN.out _ hb19
           rw [HL2.out] at HLN2
           have HLN3:=Lib.hid HLN2
           have HB19:=Lib.hid (HB18.out.trans (hb19.mono HB18.out.size))
           clear hb19 HSE HB18 HLN HLN2
           go_wp2_with fail
           refine HLN3.out.mono ?_
           rintro e w20 ⟨rfl,rfl⟩
           go_wp2_with fail
           go_ret
           exact ⟨by simp,HB19.out⟩
         · have hb:=beq_no hfk
           have HL2:=Lib.hid (HL2.out.trans hn)
           rw [hn]
           clear hfk hn
           generalize L.length=nL at *
           go_wp2_with fail
           refine HLE.out.mono ?_
           rintro e w17 ⟨rfl,hb17⟩
           have h17:=(HP16.out.later hb17).pair
           have HR17:=Lib.hid (R16.out.later hb17)
           have HRG:=Lib.hid (look_range h17 HLK.out)
           have H17:=Lib.hid h17
           clear h17 hb17 HLE HP16 R16
           go_wp2_with fail
           refine HRG.out.mono ?_
           rintro e w18 ⟨r2,rfl,hr18,hb18⟩
           have h18:=(H17.out.later hb18).pair
           have HSE:=Lib.hid (same_rows _ _ E1 HSM.out w18 (HR17.out.later hb18) hr18)
           have HLN:=Lib.hid (fun W hb=>pair_Len (h18.later (W':=W) hb).pair)
           have HB18:=Lib.hid (HBE.out _ h18.below)
           clear hr18 hb18 h18 HRG H17 HR17
           go_wp2_with fail
           refine HSE.out.mono ?_
           rintro e w19 ⟨rfl,hb19⟩
           have HLN2:=HLN.out _ hb19
           rw [HL2.out] at HLN2
           have HLN3:=Lib.hid HLN2
           have HB19:=Lib.hid (HB18.out.trans (hb19.mono HB18.out.size))
           clear hb19 HSE HB18 HLN HLN2
           go_wp2_with fail
           refine HLN3.out.mono ?_
           rintro e w20 ⟨rfl,rfl⟩
           go_wp2_with fail
           go_ret
           exact ⟨by simp,HB19.out⟩)
end Go.Proofs.YtlckdfoflimahaaGreatDoor
