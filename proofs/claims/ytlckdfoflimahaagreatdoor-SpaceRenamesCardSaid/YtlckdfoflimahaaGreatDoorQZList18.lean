/- Texts of one kind in one: ZList, ZLPut, ZLCut, ZMeth, ZSet, ZFit, ZFitP, ZOps. -/
import Derived.Test.YtlckdfoflimahaaGreatDoorQZPack12
import Derived.Test.YtlckdfoflimahaaGreatDoorQDcMap17
import Derived.Deep.RegionHeld
set_option maxRecDepth 200000
set_option maxHeartbeats 8000000
namespace Go.Proofs.YtlckdfoflimahaaGreatDoor
open Go.RowKit Go.Shelf Sk
attribute [local go_sem] Oper.semAt_some
theorem toDc{S:Nat→Prop}{W W':World}(h:Far S W W'):Dc.Far S W W':=⟨h.os,h.tape,h.output,h.size,h.block⟩
theorem ofDc{S:Nat→Prop}{W W':World}(h:Dc.Far S W W'):Far S W W':=⟨h.os,h.tape,h.output,h.size,h.block⟩
def en(x:Nd):En:=(x.m,x.s)
theorem pos_en(L:List Nd)(m:ByteArray)(s:Int):pos L m s=posE (L.map en) m s:=by
 unfold pos posE
 rw [List.takeWhile_map,List.length_map]
 rfl
theorem srt_en{L:List Nd}(h:Srt L):SrtE (L.map en):=by unfold SrtE;rw [List.pairwise_map];exact h
theorem has_en{L:List Nd}(hs:Srt L)(m:ByteArray)(s:Int):has L m s=true↔(m,s)∈L.map en:=by
 constructor
 · intro h
   unfold has at h
   split at h
   · rename_i x hx
     have:=of_decide_eq_true h
     exact List.mem_map.2 ⟨x,List.mem_of_getElem? hx,by unfold en;rw [this.1,this.2]⟩
   · cases h
 · intro h
   obtain ⟨i,hi⟩:=List.mem_iff_getElem?.1 h
   have hp:=pos_selfE (srt_en hs) hi
   simp only at hp
   rw [List.getElem?_map] at hi
   obtain ⟨x,hx,he⟩:=Option.map_eq_some_iff.1 hi
   unfold has
   rw [pos_en,hp,hx]
   unfold en at he
   injection he with h1 h2
   simp [h1,h2]
theorem put_en(L:List Nd)(x:Nd):(putL L x).map en=putE (L.map en) x.m x.s:=by
 unfold putL putE
 rw [pos_en,List.map_append,List.map_cons,List.map_take,List.map_drop]
 rfl
structure LAt (W:World) (l p q:Nat) (D:Nat→Prop) (sd:Nat) (L:List Nd) (m:ByteArray→Option Int) (n:Dc.Sh):Prop where
 blk:Blk W l 266 #[.pointer (some ⟨p,0,none⟩),.pointer (some ⟨q,0,none⟩)]
 ls:Ls W p L
 is:Dc.Is W q D sd m n
 sd:sd<4294967296
variable {w w':World} {l p q sd:Nat} {D:Nat→Prop} {L:List Nd} {m:ByteArray→Option Int} {n:Dc.Sh}
theorem LAt.d_ty(h:LAt w l p q D sd L m n){k:Nat}(hk:D k):∃ t c,(t=311∨t=338∨t=337)∧Blk w k t c:=h.is.cells k hk
theorem LAt.d_node(h:LAt w l p q D sd L m n){k:Nat}(hk:D k):¬ isB (hd p :: L) k:=by
 obtain ⟨t,c,ht,hb⟩:=h.d_ty hk
 exact h.ls.sk.not_ty hb fun q e=>by unfold tyq at e;rcases ht with rfl|rfl|rfl <;> (split at e <;> exact absurd e (by decide))
theorem LAt.d_l(h:LAt w l p q D sd L m n){k:Nat}(hk:D k):k≠l:=by
 obtain ⟨t,c,ht,hb⟩:=h.d_ty hk
 rintro rfl
 have:=hb.ty h.blk
 rcases ht with rfl|rfl|rfl <;> exact absurd this (by decide)
theorem LAt.l_node(h:LAt w l p q D sd L m n):¬ isB (hd p :: L) l:=h.ls.sk.not_ty h.blk fun q e=>by unfold tyq at e;split at e <;> exact absurd e (by decide)
def LOwn(l p:Nat)(L:List Nd)(D:Nat→Prop)(k:Nat):Prop:=k=l∨isB (hd p :: L) k∨D k
theorem LAt.own_lt(h:LAt w l p q D sd L m n){k:Nat}(hk:LOwn l p L D k):k<w.heap.size:=by
 rcases hk with rfl|hk|hk
 · exact h.blk.lt
 · exact h.ls.sk.lt hk
 · exact h.is.lt k hk
theorem LAt.own_ty(h:LAt w l p q D sd L m n){k t:Nat}{c:Array Value}(hk:LOwn l p L D k)(hb:Blk w k t c)(ht:t≠266∧t≠304∧t≠306∧t≠311∧t≠337∧t≠338):False:=by
 rcases hk with rfl|hk|hk
 · exact ht.1 (hb.ty h.blk)
 · exact h.ls.sk.not_ty hb (fun q e=>by unfold tyq at e;split at e;exact ht.2.2.1 e.symm;exact ht.2.1 e.symm) hk
 · obtain ⟨t',c',ht',hb'⟩:=h.d_ty hk
   have:=hb.ty hb'
   subst this
   rcases ht' with e|e|e
   · exact ht.2.2.2.1 e
   · exact ht.2.2.2.2.2 e
   · exact ht.2.2.2.2.1 e
theorem LAt.far{S:Nat→Prop}(h:LAt w l p q D sd L m n)(hf:Far S w w')(hS:∀ k,LOwn l p L D k→¬ S k):LAt w' l p q D sd L m n :=
 ⟨hf.blk h.blk (hS l (.inl rfl)),h.ls.far hf (fun k hk=>hS k (.inr (.inl hk))),h.is.far (toDc hf) (fun k hk=>hS k (.inr (.inr hk))),h.sd⟩
theorem LAt.later(h:LAt w l p q D sd L m n)(hb:Below w.heap.size w w'):LAt w' l p q D sd L m n:=h.far (S:=fun _=>False) (Far.of_below hb) (fun _ _ h=>h)
theorem LAt.dict(h:LAt w l p q D sd L m n){m2:ByteArray→Option Int}{n2:Dc.Sh}(hn:Dc.IsNow D w q sd m2 n2 w'):LAt w' l p q (Dc.grow Dc.tyI D w w') sd L m2 n2 :=
 ⟨(ofDc hn.2).blk h.blk (fun hk=>h.d_l hk rfl),h.ls.far (ofDc hn.2) (fun _ hk hd=>h.d_node hd hk),hn.1,h.sd⟩
theorem entsF_range(p:Nat)(L:List Nd)(a k:Nat)(h:a+k≤L.length):entsF (hd p :: L) (List.range' (a+1) k)=((L.map en).drop a).take k:=by
 unfold entsF
 apply List.ext_getElem?
 intro i
 rw [List.getElem?_map,List.getElem?_take]
 by_cases hi:i<k
 · rw [if_pos hi,List.getElem?_drop,List.getElem?_map]
   have h1:(List.range' (a+1) k)[i]?=some (a+1+i):=by
     rw [List.getElem?_eq_getElem (by simpa using hi)];simp
   have h2:L[a+i]?=some L[a+i]:=List.getElem?_eq_getElem (by omega)
   rw [h1,h2]
   simp only [Option.map_some]
   rw [show a+1+i=(a+i)+1 by omega,List.getElem?_cons_succ,h2]
   rfl
 · rw [if_neg hi,List.getElem?_eq_none (by simpa using hi)];rfl
theorem l_range(h:Ls w p L)(hN:L.length≤100000)(f t:Int):Calls Tryz.prog 326 #[.pointer (some ⟨p,0,none⟩),.int .i64 f,.int .i64 t] w fun e w'=>∃ r,e=.returned r∧Row w' w.heap.size r (subE (L.map en) f t)∧Below w.heap.size w w':=by
 unfold subE
 rw [List.length_map]
 by_cases hab:f0 f<t0 t L.length
 · have:=range_any p L rfl w h.sk (by simp;omega) rfl f t (f0 f) (t0 t L.length) (by unfold f0;omega) (by unfold f0 t0 at *;omega) hab
   have hle:f0 f+(t0 t L.length-f0 f)≤L.length:=by unfold t0 at *;omega
   rw [entsF_range p L _ _ hle] at this
   exact this.mono fun e w' ⟨r,h1,h2,h3⟩=>⟨r,h1,own_row h2,h3⟩
 · refine (range_none p L rfl w h.sk f t (by unfold f0 t0 at hab;omega)).mono ?_
   rintro e w' ⟨rfl,hb⟩
   refine ⟨_,rfl,?_,hb⟩
   rw [show t0 t L.length-f0 f=0 by omega,List.take_zero]
   exact Row.nil _ _
theorem l_score(h:LAt w l p q D sd L m n)(hn:n.n≤1000000)(key:ByteArray)(hk:key.size≤281474976710656):Calls Tryz.prog 330 #[.pointer (some ⟨l,0,none⟩),.string key] w fun e w' =>
   e=.returned (.tuple #[.int .i64 ((m key).getD 0),.bool (m key).isSome])∧Dc.IsNow D w q sd m n.step1 w':=by
 have HG:=Lib.hid (Dc.get_is h.sd h.is hn key hk)
 obtain ⟨e0,e1,_,_⟩:=facts2 h.blk
 clear h hk hn
 generalize (m key).getD 0=x at *
 generalize (m key).isSome=y at *
 go_enter Tryz.func330,Tryz.ntmps330
 go_wp2_with (go_at_call 336;refine HG.out.mono ?_;rintro e w1 ⟨rfl,hd⟩)
 go_ret2
 exact ⟨rfl,hd⟩
theorem map_get{E:List En}(hm:MapOf m E)(key:ByteArray):match whE E key with
   | none=>m key=none
   | some i=>∃ v,m key=some v∧E[i]?=some (key,v):=by
 cases h:whE E key with
 | none =>
   cases h2:m key with
   | none=>rfl
   | some v=>exact absurd rfl (whE_none h _ ((hm key v).1 h2))
 | some i =>
   obtain ⟨v,hv⟩:=whE_some h
   exact ⟨v,(hm key v).2 (List.mem_of_getElem? hv),hv⟩
theorem l_rank(h:LAt w l p q D sd L m n)(hn:n.n≤1000000)(hN:L.length≤100000)(hm:MapOf m (L.map en))(key:ByteArray)(hk:key.size≤281474976710656):Calls Tryz.prog 328 #[.pointer (some ⟨l,0,none⟩),.string key] w fun e w' =>
   e=.returned (.tuple #[.int .i64 ((whE (L.map en) key).getD 0:Nat),.bool (whE (L.map en) key).isSome])∧Dc.IsNow D w q sd m n.step1 w':=by
 have HS:=Lib.hid (l_score h hn key hk)
 have hmg:=map_get hm key
 cases hq:whE (L.map en) key with
 | none =>
   rw [hq] at hmg
   simp only at hmg
   rw [hmg] at HS
   clear h hk hn hN hm hq hmg
   go_enter Tryz.func328,Tryz.ntmps328
   go_wp2_with (go_at_call 330;refine HS.out.mono ?_;rintro e w1 ⟨rfl,hd⟩)
   go_ret2
   exact ⟨rfl,hd⟩
 | some i =>
   rw [hq] at hmg
   obtain ⟨v,hv,hi⟩:=hmg
   rw [hv] at HS
   have hps:=pos_selfE (srt_en h.ls.srt) hi
   simp only at hps
   have hhas:has L key v=true:=(has_en h.ls.srt key v).2 (List.mem_of_getElem? hi)
   have HK:=fun w1 (hd:Dc.IsNow D w q sd m n.step1 w1)=>Lib.hid (seek_ls (h.dict hd).ls hN key v)
   rw [pos_en,hps,hhas] at HK
   have HB:=fun w1 (hd:Dc.IsNow D w q sd m n.step1 w1)=>Lib.hid (facts2 (h.dict hd).blk)
   clear h hk hn hN hm hq hi hv hps hhas
   go_enter Tryz.func328,Tryz.ntmps328
   go_wp2_with fail
   refine HS.out.mono ?_
   rintro e w1 ⟨rfl,hd⟩
   have HK1:=HK w1 hd
   obtain ⟨e0,e1,_,_⟩:=(HB w1 hd).out
   have HD:=Lib.hid hd
   clear hd HK HB HS
   go_wp2_with (go_at_call 334;refine HK1.out.mono ?_;rintro e w2 ⟨rfl,hb⟩)
   go_ret2
   exact ⟨by simp,HD.out.later hb⟩
variable {w w' w1 w2:World} {l p q sd:Nat} {D D1 D2:Nat→Prop} {L L1 L2:List Nd} {m:ByteArray→Option Int} {n:Dc.Sh}
structure LStep (w w':World) (l p:Nat) (L:List Nd) (D:Nat→Prop) (L':List Nd) (D':Nat→Prop):Prop where
 far:Far (LOwn l p L D) w w'
 new:∀ k,LOwn l p L' D' k→LOwn l p L D k∨w.heap.size≤k
theorem LStep.refl:LStep w w l p L D L D:=⟨Far.refl _ _,fun _ h=>.inl h⟩
theorem LStep.trans(h:LStep w w1 l p L D L1 D1)(g:LStep w1 w2 l p L1 D1 L2 D2):LStep w w2 l p L D L2 D2 :=
 ⟨h.far.trans g.far h.new,fun k hk=>by
   rcases g.new k hk with h1|h1
   · exact h.new k h1
   · exact .inr (Nat.le_trans h.far.size h1)⟩
theorem LStep.below(hb:Below w.heap.size w w1):LStep w w1 l p L D L D:=⟨Far.of_below hb,fun _ h=>.inl h⟩
theorem LStep.dict{m2:ByteArray→Option Int}{n2:Dc.Sh}(hn:Dc.IsNow D w q sd m2 n2 w'):LStep w w' l p L D L (Dc.grow Dc.tyI D w w') :=
 ⟨(ofDc hn.2).mono fun _ h=>.inr (.inr h),fun k hk=>by
   rcases hk with h|h|h
   · exact .inl (.inl h)
   · exact .inl (.inr (.inl h))
   · rcases h.1 with h|h
     · exact .inl (.inr (.inr h))
     · exact .inr h⟩
theorem isB_put{x:Nd}{k:Nat}(h:isB (hd p :: putL L x) k):k=x.b∨isB (hd p :: L) k:=by
 obtain ⟨y,hy,rfl⟩:=h
 rcases List.mem_cons.1 hy with rfl|hy
 · exact .inr ⟨_,List.mem_cons_self ..,rfl⟩
 · unfold putL at hy
   rcases List.mem_append.1 hy with hy|hy
   · exact .inr ⟨y,List.mem_cons_of_mem _ (List.mem_of_mem_take hy),rfl⟩
   · rcases List.mem_cons.1 hy with rfl|hy
     · exact .inl rfl
     · exact .inr ⟨y,List.mem_cons_of_mem _ (List.mem_of_mem_drop hy),rfl⟩
theorem isB_cut{a b k:Nat}(h:isB (hd p :: (L.take a++L.drop b)) k):isB (hd p :: L) k:=by
 obtain ⟨y,hy,rfl⟩:=h
 rcases List.mem_cons.1 hy with rfl|hy
 · exact ⟨_,List.mem_cons_self ..,rfl⟩
 · rcases List.mem_append.1 hy with hy|hy
   · exact ⟨y,List.mem_cons_of_mem _ (List.mem_of_mem_take hy),rfl⟩
   · exact ⟨y,List.mem_cons_of_mem _ (List.mem_of_mem_drop hy),rfl⟩
theorem LAt.nodes(h:LAt w l p q D sd L m n)(hf:Far (isB (hd p :: L)) w w')(hl:Ls w' p L1):LAt w' l p q D sd L1 m n :=
 ⟨hf.blk h.blk h.l_node,hl,h.is.far (toDc hf) (fun _ hk=>h.d_node hk),h.sd⟩
theorem LStep.nodes(hf:Far (isB (hd p :: L)) w w')(hn:∀ k,isB (hd p :: L1) k→isB (hd p :: L) k∨w.heap.size≤k):LStep w w' l p L D L1 D :=
 ⟨hf.mono fun _ h=>.inr (.inl h),fun k hk=>by
   rcases hk with h|h|h
   · exact .inl (.inl h)
   · rcases hn k h with h|h
     · exact .inl (.inr (.inl h))
     · exact .inr h
   · exact .inl (.inr (.inr h))⟩
theorem l_insert(h:LAt w l p q D sd L m n)(hN:L.length≤100000)(x:En)(hx:x.1.size≤281474976710656)(lv:Nat)(hl:0<lv∧lv≤32)(hno:x ∉ L.map en) :
   Calls Tryz.prog 206 #[.pointer (some ⟨p,0,none⟩),.agg #[.string x.1,.int .i64 x.2],.int .i64 lv] w fun e w'=>e=.returned (.int .i64 0)∧∃ L1,L1.map en=putE (L.map en) x.1 x.2∧LAt w' l p q D sd L1 m n∧LStep w w' l p L D L1 D:=by
 have hh:has L x.1 x.2=false:=by
   cases h2:has L x.1 x.2 with
   | false=>rfl
   | true=>exact absurd ((has_en h.ls.srt x.1 x.2).1 h2) hno
 refine (insert_ls h.ls hN x.1 hx x.2 lv hl).mono fun e w' hp=>?_
 obtain ⟨he,nb,hnb,hf,hls⟩:=hp.2 hh
 refine ⟨he,_,put_en L ⟨nb,x.1,x.2,lv⟩,h.nodes hf hls,LStep.nodes hf fun k hk=>?_⟩
 rcases isB_put hk with rfl|h1
 · exact .inr hnb
 · exact .inl h1
theorem l_delete(h:LAt w l p q D sd L m n)(hN:L.length≤100000)(hd:Dist (L.map en))(x:En)(hx:x∈L.map en) :
   Calls Tryz.prog 324 #[.pointer (some ⟨p,0,none⟩),.agg #[.string x.1,.int .i64 x.2]] w fun e w'=>e=.returned (.bool true)∧∃ L1,L1.map en=rmE (L.map en) x.1∧LAt w' l p q D sd L1 m n∧LStep w w' l p L D L1 D:=by
 have hh:has L x.1 x.2=true:=(has_en h.ls.srt x.1 x.2).2 hx
 obtain ⟨i,hi⟩:=List.mem_iff_getElem?.1 hx
 have hp:=pos_selfE (srt_en h.ls.srt) hi
 refine (delete_ls h.ls hN x.1 x.2).mono fun e w' hq=>?_
 obtain ⟨he,hf,hls⟩:=hq.2 hh
 refine ⟨he,_,?_,h.nodes hf hls,LStep.nodes hf fun k hk=>.inl (isB_cut hk)⟩
 rw [pos_en,hp,rmE_at hd hi,List.map_append,List.map_take,List.map_drop]
theorem l_cut(h:LAt w l p q D sd L m n)(hN:L.length≤100000)(f t:Int) :
   Calls Tryz.prog 333 #[.pointer (some ⟨p,0,none⟩),.int .i64 f,.int .i64 t] w fun e w'=>e=.returned (.int .i64 (subE (L.map en) f t).length)∧∃ L1,L1.map en=cutE (L.map en) f t∧LAt w' l p q D sd L1 m n∧LStep w w' l p L D L1 D:=by
 rw [subE_len]
 unfold cutE
 rw [List.length_map]
 by_cases hlt:f0 f<t0 t L.length
 · rw [if_pos hlt]
   refine (cut_ls h.ls hN f t (f0 f) (t0 t L.length) (by unfold f0;omega) (by unfold t0 f0 at *;omega) hlt).mono fun e w' hq=>?_
   obtain ⟨he,hf,hls⟩:=hq
   refine ⟨by rw [he];congr 2;omega,_,?_,h.nodes hf hls,LStep.nodes hf fun k hk=>.inl (isB_cut hk)⟩
   rw [List.map_append,List.map_take,List.map_drop]
 · rw [if_neg hlt]
   refine (cut_none p L rfl w h.ls.sk f t (by unfold t0 f0 at hlt;omega)).mono fun e w' hq=>?_
   obtain ⟨he,rfl⟩:=hq
   refine ⟨?_,L,rfl,h,LStep.refl⟩
   rw [he,show t0 t L.length-f0 f=0 by omega]
   rfl
theorem l_set(h:LAt w l p q D sd L m n)(hn:n.n+1≤1000000)(key:ByteArray)(hk:key.size≤281474976710656)(v:Int) :
   Calls Tryz.prog 207 #[.pointer (some ⟨q,0,none⟩),.string key,.int .i64 v] w fun e w'=>(∃ bb,e=.returned (.bool bb))∧∃ D1,LAt w' l p q D1 sd L (putI m key v) (n.set (m key).isSome)∧LStep w w' l p L D L D1 :=
 (Dc.set_is h.sd h.is hn key hk v).mono fun _ _ ⟨he,hi⟩=>⟨⟨_,he⟩,_,h.dict hi,LStep.dict hi⟩
theorem l_unset(h:LAt w l p q D sd L m n)(hn:n.n≤1000000)(key:ByteArray)(hk:key.size≤281474976710656) :
   Calls Tryz.prog 332 #[.pointer (some ⟨q,0,none⟩),.string key] w fun e w'=>(∃ bb,e=.returned (.bool bb))∧∃ D1,LAt w' l p q D1 sd L (remI m key) (n.del (m key).isSome)∧LStep w w' l p L D L D1 :=
 (Dc.del_is h.sd h.is hn key hk).mono fun _ _ ⟨he,hi,_⟩=>⟨⟨_,he⟩,_,h.dict hi,LStep.dict hi⟩
def putAll(E xs:List En):List En:=xs.foldl (fun E x=>putE E x.1 x.2) E
def putsI(m:ByteArray→Option Int)(xs:List En):ByteArray→Option Int:=xs.foldl (fun m x=>putI m x.1 x.2) m
theorem putAll_snoc(E xs:List En)(k:Nat)(x:En)(h:xs[k]?=some x):putAll E (xs.take (k+1))=putE (putAll E (xs.take k)) x.1 x.2:=by
 obtain ⟨hk,rfl⟩:=List.getElem?_eq_some_iff.1 h
 unfold putAll
 rw [List.take_succ_eq_append_getElem hk,List.foldl_append]
 rfl
theorem putsI_snoc(m:ByteArray→Option Int)(xs:List En)(k:Nat)(x:En)(h:xs[k]?=some x):putsI m (xs.take (k+1))=putI (putsI m (xs.take k)) x.1 x.2:=by
 obtain ⟨hk,rfl⟩:=List.getElem?_eq_some_iff.1 h
 unfold putsI
 rw [List.take_succ_eq_append_getElem hk,List.foldl_append]
 rfl
theorem mem_putAll{xs:List En}:∀ {E:List En} {y:En},y∈putAll E xs↔y∈E∨y∈xs:=by
 induction xs with
 | nil=>intro E y;simp [putAll]
 | cons x xs ih =>
   intro E y
   show y∈putAll (putE E x.1 x.2) xs↔_
   rw [ih,mem_putE,List.mem_cons]
   constructor
   · rintro ((h|h)|h)
     · exact .inr (.inl h)
     · exact .inl h
     · exact .inr (.inr h)
   · rintro (h|h|h)
     · exact .inl (.inr h)
     · exact .inl (.inl h)
     · exact .inr h
theorem putAll_len{xs:List En}:∀ {E:List En},(putAll E xs).length=E.length+xs.length:=by
 induction xs with
 | nil=>intro E;rfl
 | cons x xs ih =>
   intro E
   show (putAll (putE E x.1 x.2) xs).length=_
   rw [ih,putE_len,List.length_cons];omega
theorem not_before{xs:List En}(hd:Dist xs){k:Nat}{x:En}(h:xs[k]?=some x):x ∉ xs.take k:=fun hm=>by
 obtain ⟨j,hj⟩:=List.mem_iff_getElem?.1 hm
 have hjl:=(List.getElem?_eq_some_iff.1 hj).1
 rw [List.length_take] at hjl
 rw [List.getElem?_take_of_lt (by omega)] at hj
 obtain ⟨h1,h2⟩:=List.getElem?_eq_some_iff.1 h
 obtain ⟨h3,h4⟩:=List.getElem?_eq_some_iff.1 hj
 exact List.pairwise_iff_getElem.1 hd j k h3 h1 (by omega) (by rw [h2,h4])
theorem set_n(n:Dc.Sh)(b:Bool):(n.set b).n≤n.n+1:=by rw [Dc.shset_n];cases b <;> simp
theorem del_n(n:Dc.Sh)(b:Bool):(n.del b).n≤n.n:=by rw [Dc.shdel_n];cases b <;> simp
structure PutAt (w:World) (l p q sd:Nat) (D:Nat→Prop) (L:List Nd) (m:ByteArray→Option Int) (n:Dc.Sh) (xs:List En) (k:Nat) (W:World):Prop where
 ex:∃ D1 L1 n1,LAt W l p q D1 sd L1 (putsI m (xs.take k)) n1∧L1.map en=putAll (L.map en) (xs.take k)∧n1.n≤n.n+k∧LStep w W l p L D L1 D1
theorem LStep.row{v:Value}{xs:List En}{n0:Nat}(h:LAt w l p q D sd L m n)(hr:Row w n0 v xs)(hs:LStep w w1 l p L D L1 D1):Row w1 n0 v xs :=
 hr.far hs.far fun _ _ _ hk ho=>h.own_ty ho hk (by decide)
theorem l_put(h:LAt w l p q D sd L m n)(v:Value)(xs:List En)(hr:Row w 0 v xs)(hd:Dist xs)(hno:∀ x∈xs,x ∉ L.map en)(hz:∀ x∈xs,x.1.size≤281474976710656)(hN:L.length+xs.length≤100000)(hn:n.n+xs.length≤999999)(lv:Nat)(hl:0<lv∧lv≤32) :
   Calls Tryz.prog 185 #[.pointer (some ⟨l,0,none⟩),.int .i64 lv,v] w fun e w'=>e=.returned (.tuple #[])∧PutAt w l p q sd D L m n xs xs.length w':=by
 obtain ⟨a,c,rfl⟩:=hr.form
 have HROW:=Lib.hid (fun W L1 D1 (hs:LStep w W l p L D L1 D1)=>hs.row h hr)
 have H0:=Lib.hid (show PutAt w l p q sd D L m n xs 0 w from ⟨D,L,n,h,rfl,by omega,LStep.refl⟩)
 have HNO:=Lib.hid hno
 have HZ:=Lib.hid hz
 have HDI:=Lib.hid hd
 clear h hr hno hz hd
 go_enter Tryz.func185,Tryz.ntmps185
 go_wp2
 go_loopw [10] (fun i wr=>∃ (k:Nat),i=.int .i64 k∧k≤xs.length∧PutAt w l p q sd D L m n xs k wr) (fun i _=>xs.length-(intOf i).toNat)
 case atStart=>exact ⟨0,rfl,by omega,H0.out⟩
 case round =>
   obtain ⟨k,rfl,hk,⟨D1,L1,n1,h1,hE,hn1,hs⟩⟩:=hrel
   by_cases hlt:k<xs.length
   · have hx:xs[k]?=some xs[k]:=List.getElem?_eq_getElem hlt
     generalize xs[k]=x at *
     obtain ⟨b,off,c',e1,g0,g1⟩:=row_cells (HROW.out wr _ _ hs) hx
     injection e1 with e1 _ e2
     subst e1
     subst e2
     have hxm:=List.mem_of_getElem? hx
     have hlen:L1.length=L.length+k:=by
       have:=congrArg List.length hE
       rw [List.length_map,putAll_len,List.length_map,List.length_take] at this
       omega
     have hno1:x ∉ L1.map en:=by
       rw [hE,mem_putAll]
       rintro (h2|h2)
       · exact HNO.out x hxm h2
       · exact not_before HDI.out hx h2
     have hzx:=HZ.out x hxm
     have hb1:=(alloc_below wr (.cells #[.string x.1,.int .i64 x.2] 117)).trans ((drewB (wr.alloc (.cells #[.string x.1,.int .i64 x.2] 117)) 1).mono (by simp))
     have kE:=(Blk.new wr 117 #[.string x.1,.int .i64 x.2])
     have hI:=l_insert (h1.later hb1) (by omega) x hzx lv hl hno1
     have hE2:∀ L2:List Nd,L2.map en=putE (L1.map en) x.1 x.2→L2.map en=putAll (L.map en) (xs.take (k+1)):=fun L2 h2=>by rw [h2,hE,putAll_snoc _ _ _ _ hx]
     have hm2:=putsI_snoc m xs k x hx
     have hl1:(lv:Int)≤32:=by omega
     have HSET:=fun (W:World) (L2:List Nd) (h2:LAt W l p q D1 sd L2 (putsI m (xs.take k)) n1)=>Lib.hid (l_set h2 (by omega) x.1 hzx x.2)
     rw [← hm2] at HSET
     have hsz:=set_n n1 ((putsI m (xs.take k)) x.1).isSome
     have FIN:=fun (W:World) (D2:Nat→Prop) (L2:List Nd) (h2:LAt W l p q D2 sd L2 (putsI m (xs.take (k+1))) (n1.set ((putsI m (xs.take k)) x.1).isSome)) (e2:L2.map en=putE (L1.map en) x.1 x.2) (hs2:LStep wr W l p L1 D1 L2 D2) =>
       Lib.hid (show PutAt w l p q sd D L m n xs (k+1) W from ⟨D2,L2,_,h2,hE2 L2 e2,by omega,hs.trans hs2⟩)
     have HS1:=Lib.hid (show LStep wr ((wr.alloc (.cells #[.string x.1,.int .i64 x.2] 117)).drew) l p L1 D1 L1 D1 from LStep.below hb1)
     have HI:=Lib.hid hI
     have HKE:=fun (W:World) (L2:List Nd) (D2:Nat→Prop) (hs2:LStep ((wr.alloc (.cells #[.string x.1,.int .i64 x.2] 117)).drew) W l p L1 D1 L2 D2)=>Lib.hid (hs2.far.blk (kE.later (drewB _ 1)) (fun ho=>(h1.later hb1).own_ty ho (kE.later (drewB _ 1)) (by decide)))
     have hk2:(k:Int)<xs.length:=by omega
     obtain ⟨c0,c1,_,_⟩:=facts2 h1.blk
     obtain ⟨d0,d1,_,_⟩:=facts2 (h1.later hb1).blk
     obtain ⟨f0,f1,_,_⟩:=facts2 kE
     clear h1 hE hs hn1 hx hlen hno1 hzx hb1 kE hI hE2 hm2 hsz hxm
     go_wp2_with fail
     have S0:((wr.alloc (.cells #[.string x.1,.int .i64 x.2] 117)).drew).cell? ⟨l,0,none⟩=some (.pointer (some ⟨p,0,none⟩))∧((wr.alloc (.cells #[.string x.1,.int .i64 x.2] 117)).drew).cell? ⟨wr.heap.size,0,none⟩=some (.string x.1)∧((wr.alloc (.cells #[.string x.1,.int .i64 x.2] 117)).drew).cell? ⟨wr.heap.size,1,none⟩=some (.int .i64 x.2):=⟨d0,f0,f1⟩
     clear c0 c1 d0 d1 f0 f1 g0 g1
     go_region_held (fun W=>W.cell? ⟨l,0,none⟩=some (.pointer (some ⟨p,0,none⟩))∧W.cell? ⟨wr.heap.size,0,none⟩=some (.string x.1)∧W.cell? ⟨wr.heap.size,1,none⟩=some (.int .i64 x.2)) (first|exact S0|exact S1)
       (first
         | (go_at_call 206;refine HI.out.mono ?_;rintro e w2 ⟨rfl,L2,e2,h2,hs2⟩
            obtain ⟨c0,c1,_,_⟩:=facts2 h2.blk
            obtain ⟨f0,f1,_,_⟩:=facts2 (HKE w2 L2 D1 hs2).out
            have S1:w2.cell? ⟨l,0,none⟩=some (.pointer (some ⟨p,0,none⟩))∧w2.cell? ⟨wr.heap.size,0,none⟩=some (.string x.1)∧w2.cell? ⟨wr.heap.size,1,none⟩=some (.int .i64 x.2):=⟨c0,f0,f1⟩
            have hs3:=(HS1.out.trans hs2).trans (LStep.below (drewB w2 1))
            have h3:=h2.later (drewB w2 1)
            have S2:w2.drew.cell? ⟨l,1,none⟩=some (.pointer (some ⟨q,0,none⟩))∧w2.drew.cell? ⟨wr.heap.size,0,none⟩=some (.string x.1)∧w2.drew.cell? ⟨wr.heap.size,1,none⟩=some (.int .i64 x.2):=⟨c1,f0,f1⟩
            have HK3:=(HKE w2 L2 D1 hs2)
            have HKE3:=fun (W:World) (L3:List Nd) (D3:Nat→Prop) (hs4:LStep w2.drew W l p L2 D1 L3 D3)=>Lib.hid (hs4.far.blk (HK3.out.later (drewB w2 1)) (fun ho=>h3.own_ty ho (HK3.out.later (drewB w2 1)) (by decide)))
            have HST:=HSET w2.drew L2 h3
            have FIN2:=fun (W:World) (D2:Nat→Prop) (h4:LAt W l p q D2 sd L2 (putsI m (xs.take (k+1))) (n1.set ((putsI m (xs.take k)) x.1).isSome)) (hs4:LStep w2.drew W l p L2 D1 L2 D2)=>FIN W D2 L2 h4 e2 (hs3.trans hs4)
            clear HI HKE h2 hs2 h3 hs3 c0 c1 f0 f1 HSET FIN HK3))
     all_goals (
       clear S1
       go_wp2_with fail
       go_region_held (fun W=>W.cell? ⟨l,1,none⟩=some (.pointer (some ⟨q,0,none⟩))∧W.cell? ⟨wr.heap.size,0,none⟩=some (.string x.1)∧W.cell? ⟨wr.heap.size,1,none⟩=some (.int .i64 x.2)) (first|exact S2|exact S3)
         (first
           | (go_at_call 207;refine HST.out.mono ?_;rintro e w3 ⟨⟨bb,rfl⟩,D2,h4,hs4⟩
              obtain ⟨c0,c1,_,_⟩:=facts2 h4.blk
              obtain ⟨f0,f1,_,_⟩:=facts2 (HKE3 w3 L2 D2 hs4).out
              have S3:w3.cell? ⟨l,1,none⟩=some (.pointer (some ⟨q,0,none⟩))∧w3.cell? ⟨wr.heap.size,0,none⟩=some (.string x.1)∧w3.cell? ⟨wr.heap.size,1,none⟩=some (.int .i64 x.2):=⟨c1,f0,f1⟩
              have HFIN:=FIN2 w3 D2 h4 hs4
              clear HST HKE3 FIN2 h4 hs4 c0 c1 f0 f1))
       all_goals (
         clear S3
         go_wp2_with fail
         exact ⟨⟨k+1,by go_num,hlt,HFIN.out⟩,by simp [intOf];omega⟩))
   · obtain rfl:k=xs.length:=by omega
     have HP:=Lib.hid (show PutAt w l p q sd D L m n xs xs.length wr from ⟨D1,L1,n1,h1,hE,hn1,hs⟩)
     clear h1 hE hs hn1
     go_wp2_with fail
     go_returns
     exact ⟨rfl,HP.out⟩
variable {w w' w1 w2:World} {l p q sd:Nat} {D D1 D2:Nat→Prop} {L L1 L2:List Nd} {m:ByteArray→Option Int} {n:Dc.Sh}
theorem remAll_snoc(m:ByteArray→Option Int)(xs:List En)(k:Nat)(x:En)(h:xs[k]?=some x):remAll m (xs.take (k+1))=remI (remAll m (xs.take k)) x.1:=by
 obtain ⟨hk,rfl⟩:=List.getElem?_eq_some_iff.1 h
 unfold remAll
 rw [List.take_succ_eq_append_getElem hk,List.foldl_append]
 rfl
structure RemAt (w:World) (l p q sd:Nat) (D:Nat→Prop) (L:List Nd) (m:ByteArray→Option Int) (n:Dc.Sh) (xs:List En) (k:Nat) (W:World):Prop where
 ex:∃ D1 n1,LAt W l p q D1 sd L (remAll m (xs.take k)) n1∧n1.n≤n.n∧LStep w W l p L D L D1
theorem l_cutAll(h:LAt w l p q D sd L m n)(hN:L.length≤100000)(hn:n.n≤999999)(hz:∀ x∈L.map en,x.1.size≤281474976710656)(hd:Dist (L.map en))(hm:MapOf m (L.map en))(f t:Int) :
   Calls Tryz.prog 323 #[.pointer (some ⟨l,0,none⟩),.int .i64 f,.int .i64 t] w fun e w'=>e=.returned (.int .i64 (subE (L.map en) f t).length) ∧
     ∃ D1 L1 m1 n1,L1.map en=cutE (L.map en) f t∧MapOf m1 (L1.map en)∧LAt w' l p q D1 sd L1 m1 n1∧n1.n≤n.n∧LStep w w' l p L D L1 D1:=by
 have HR:=Lib.hid (l_range h.ls hN f t)
 have hsub:∀ x∈subE (L.map en) f t,x.1.size≤281474976710656:=fun x hx=>hz x (List.mem_of_mem_drop (List.mem_of_mem_take hx))
 have HZ:=Lib.hid hsub
 have hmc:MapOf (remAll m (subE (L.map en) f t)) (cutE (L.map en) f t):=by
   rw [← rmAll_cut hd f t]
   exact hm.remAll
 have HMC:=Lib.hid hmc
 have HC:=fun (W:World) D1 m1 n1 (h1:LAt W l p q D1 sd L m1 n1)=>Lib.hid (l_cut h1 hN f t)
 have HH:=Lib.hid h
 have hNs:(subE (L.map en) f t).length≤100000:=by rw [subE_len,List.length_map];unfold t0;omega
 obtain ⟨e0,e1,_,_⟩:=facts2 h.blk
 clear h hN hz hd hm hsub hmc
 generalize subE (L.map en) f t=xs at *
 generalize cutE (L.map en) f t=EC at *
 go_enter Tryz.func323,Tryz.ntmps323
 go_wp2_with fail
 refine HR.out.mono ?_
 rintro e w1 ⟨r,rfl,hr,hb⟩
 obtain ⟨a,c,rfl⟩:=hr.form
 have h1:=HH.out.later hb
 have HB:=Lib.hid (show LStep w w1 l p L D L D from LStep.below hb)
 have H0:=Lib.hid (show RemAt w1 l p q sd D L m n xs 0 w1 from ⟨D,n,h1,Nat.le_refl _,LStep.refl⟩)
 have HROW:=Lib.hid (fun W L1 D1 (hs:LStep w1 W l p L D L1 D1)=>hs.row h1 hr)
 clear hb h1 hr HR HH e0 e1
 go_wp2_with fail
 go_loopw [17] (fun i wr=>∃ (k:Nat),i=.int .i64 k∧k≤xs.length∧RemAt w1 l p q sd D L m n xs k wr) (fun i _=>xs.length-(intOf i).toNat)
 case atStart=>exact ⟨0,rfl,by omega,H0.out⟩
 case round =>
   obtain ⟨k,rfl,hk,⟨D1,n1,h1,hn1,hs⟩⟩:=hrel
   by_cases hlt:k<xs.length
   · have hx:xs[k]?=some xs[k]:=List.getElem?_eq_getElem hlt
     generalize xs[k]=x at *
     obtain ⟨b,off,c',e1,g0,g1⟩:=row_cells (HROW.out wr _ _ hs) hx
     injection e1 with e1 _ e2
     subst e1
     subst e2
     have hzx:=HZ.out x (List.mem_of_getElem? hx)
     have hb1:=(alloc_below wr (.cells #[.string x.1,.int .i64 x.2] 117)).trans ((drewB (wr.alloc (.cells #[.string x.1,.int .i64 x.2] 117)) 1).mono (by simp))
     have kE:=(Blk.new wr 117 #[.string x.1,.int .i64 x.2])
     have hm2:=remAll_snoc m xs k x hx
     have HST:=Lib.hid (l_unset (w:=(wr.alloc (.cells #[.string x.1,.int .i64 x.2] 117)).drew) (h1.later hb1) (by omega) x.1 hzx)
     rw [← hm2] at HST
     have hsz:=del_n n1 ((remAll m (xs.take k)) x.1).isSome
     have FIN:=fun (W:World) (D2:Nat→Prop) (h2:LAt W l p q D2 sd L (remAll m (xs.take (k+1))) (n1.del ((remAll m (xs.take k)) x.1).isSome)) (hs2:LStep ((wr.alloc (.cells #[.string x.1,.int .i64 x.2] 117)).drew) W l p L D1 L D2) =>
       Lib.hid (show RemAt w1 l p q sd D L m n xs (k+1) W from ⟨D2,_,h2,by omega,(hs.trans (LStep.below hb1)).trans hs2⟩)
     have HKE:=fun (W:World) (D2:Nat→Prop) (hs2:LStep ((wr.alloc (.cells #[.string x.1,.int .i64 x.2] 117)).drew) W l p L D1 L D2)=>Lib.hid (hs2.far.blk (kE.later (drewB _ 1)) (fun ho=>(h1.later hb1).own_ty ho (kE.later (drewB _ 1)) (by decide)))
     have hk2:(k:Int)<xs.length:=by omega
     obtain ⟨d0,d1,_,_⟩:=facts2 (h1.later hb1).blk
     obtain ⟨f0,f1,_,_⟩:=facts2 kE
     clear h1 hs hn1 hx hzx hb1 kE hm2 hsz
     go_wp2_with fail
     have S0:((wr.alloc (.cells #[.string x.1,.int .i64 x.2] 117)).drew).cell? ⟨l,1,none⟩=some (.pointer (some ⟨q,0,none⟩))∧((wr.alloc (.cells #[.string x.1,.int .i64 x.2] 117)).drew).cell? ⟨wr.heap.size,0,none⟩=some (.string x.1):=⟨d1,f0⟩
     clear d0 d1 f0 f1 g0 g1
     go_region_held (fun W=>W.cell? ⟨l,1,none⟩=some (.pointer (some ⟨q,0,none⟩))∧W.cell? ⟨wr.heap.size,0,none⟩=some (.string x.1)) (first|exact S0|exact S1)
       (first
         | (go_at_call 332;refine HST.out.mono ?_;rintro e w2 ⟨⟨bb,rfl⟩,D2,h2,hs2⟩
            obtain ⟨c0,c1,_,_⟩:=facts2 h2.blk
            obtain ⟨f0,f1,_,_⟩:=facts2 (HKE w2 D2 hs2).out
            have S1:w2.cell? ⟨l,1,none⟩=some (.pointer (some ⟨q,0,none⟩))∧w2.cell? ⟨wr.heap.size,0,none⟩=some (.string x.1):=⟨c1,f0⟩
            have HFIN:=FIN w2 D2 h2 hs2
            clear HST HKE FIN h2 hs2 c0 c1 f0 f1))
     all_goals (
       clear S1
       go_wp2_with fail
       exact ⟨⟨k+1,by go_num,hlt,HFIN.out⟩,by simp [intOf];omega⟩)
   · obtain rfl:k=xs.length:=by omega
     rw [List.take_length] at h1
     have HC2:=HC wr D1 _ n1 h1
     obtain ⟨e0,e1,_,_⟩:=facts2 h1.blk
     have HS:=Lib.hid (HB.out.trans hs)
     clear h1 hs HC
     go_wp2_with fail
     refine HC2.out.mono ?_
     rintro e w3 ⟨rfl,L1,he1,h3,hs3⟩
     have HFIN:=Lib.hid (show ∃ D1 L1 m1 n1,L1.map en=EC∧MapOf m1 (L1.map en)∧LAt w3 l p q D1 sd L1 m1 n1∧n1.n≤n.n∧LStep w w3 l p L D L1 D1 from ⟨_,L1,_,n1,he1,by rw [he1];exact HMC.out,h3,hn1,HS.out.trans hs3⟩)
     clear h3 hs3 he1 HC2
     go_wp2_with fail
     go_ret
     exact ⟨rfl,HFIN.out⟩
theorem l_new(v:Value)(xs:List En)(hsd:sd<4294967296)(hr:Row w 0 v xs)(hd:Dist xs)(hz:∀ x∈xs,x.1.size≤281474976710656)(hN:xs.length≤100000) :
   Calls Tryz.prog 135 #[.int .u32 sd,v] w fun e w'=>∃ l p q D L m n,e=.returned (.pointer (some ⟨l,0,none⟩))∧L.map en=putAll [] xs∧m=putsI (fun _=>none) xs∧LAt w' l p q D sd L m n∧n.n≤xs.length∧Below w.heap.size w w'∧(∀ k,LOwn l p L D k→w.heap.size≤k):=by
 have HN:=fun W=>Lib.hid (new_any W)
 have HD:=fun W=>Lib.hid (Dc.new_is sd W)
 have HR:=Lib.hid hr
 have HP:=fun W l p q D n (h:LAt W l p q D sd [] (fun _=>none) n) (hr:Row W 0 v xs) (hn:n.n=0)=>Lib.hid (l_put h v xs hr hd (fun x _ hx=>by cases hx) hz (by simpa using hN) (by omega) 1 (by omega))
 clear hr hd hz hN
 go_enter Tryz.func135,Tryz.ntmps135
 go_wp2_with fail
 refine (HN _).out.mono ?_
 rintro e w1 ⟨rfl,hb1,hl1⟩
 go_wp2_with fail
 refine (HD _).out.mono ?_
 rintro e w2 ⟨q,rfl,hi,hb2⟩
 have hz1:=hb1.size
 have hz2:=hb2.size
 have hb3:=alloc_below w2 (.cells #[.pointer (some ⟨w.heap.size,0,none⟩),.pointer (some ⟨q,0,none⟩)] 266)
 have h3:LAt (w2.alloc (.cells #[.pointer (some ⟨w.heap.size,0,none⟩),.pointer (some ⟨q,0,none⟩)] 266)) w2.heap.size w.heap.size q (Dc.fresh Dc.tyI w1 w2) sd [] (fun _=>none) ⟨4,0,0,0⟩ :=
   ⟨Blk.new _ _ _,(hl1.later hb2).later hb3,hi.later hb3,hsd⟩
 have hbw:=(hb1.trans (hb2.mono hz1)).trans (hb3.mono (by omega))
 have HP3:=HP _ _ _ _ _ _ h3 (HR.out.later hbw) rfl
 have HBW:=Lib.hid hbw
 have HOW:=Lib.hid (show ∀ k,LOwn w2.heap.size w.heap.size [] (Dc.fresh Dc.tyI w1 w2) k→w.heap.size≤k from fun k hk=>by
   rcases hk with rfl|hk|hk
   · omega
   · obtain ⟨x,hx,rfl⟩:=hk
     simp at hx
     subst hx
     exact Nat.le_refl _
   · rcases hk.1 with h|h
     · exact h.elim
     · omega)
 clear hb1 hb2 hb3 hl1 hi hz1 hz2 h3 hbw HP HN HD HR
 go_wp2_with fail
 refine HP3.out.mono ?_
 rintro e w4 ⟨rfl,⟨D1,L1,n1,h4,he4,hn4,hs4⟩⟩
 rw [List.take_length] at h4 he4
 have HFIN:=Lib.hid (show ∃ l p q D L m n,Ending.returned (.pointer (some ⟨w2.heap.size,0,none⟩))=.returned (.pointer (some ⟨l,0,none⟩))∧L.map en=putAll [] xs∧m=putsI (fun _=>none) xs∧LAt w4 l p q D sd L m n∧n.n≤xs.length∧Below w.heap.size w w4∧(∀ k,LOwn l p L D k→w.heap.size≤k) from
   ⟨_,_,q,D1,L1,_,n1,rfl,he4,rfl,h4,by simpa using hn4,HBW.out.trans (hs4.far.below HOW.out HBW.out.size),fun k hk=>by
     rcases hs4.new k hk with h|h
     · exact HOW.out k h
     · exact Nat.le_trans HBW.out.size h⟩)
 clear h4 he4 hn4 hs4 HP3 HBW HOW
 go_wp2_with fail
 go_ret
 exact HFIN.out
theorem meth_row(name:String)(f:FuncId)(k:Nat)(W:World)(l p:Nat)(h:W.cell? ⟨l,0,none⟩=some (.pointer (some ⟨p,0,none⟩)))
   (hm:((Tryz.prog.info? 209).bind fun i=>(i.methods.find? (·.name==name)).map fun m=>(m.path.toList,m.func))=some ([{ struct:=266,index:=0,deref:=true }],some (f,true))) :
   (method (k+1) 209 (.pointer (some ⟨l,0,none⟩)) name).run Tryz.prog W=.ok (f,.pointer (some ⟨p,0,none⟩)) W:=by
 cases hi:Tryz.prog.info? 209 with
 | none=>rw [hi] at hm;cases hm
 | some i =>
   rw [hi] at hm
   cases hf:i.methods.find? (·.name==name) with
   | none=>rw [Option.bind_some,hf] at hm;cases hm
   | some mm =>
     rw [Option.bind_some,hf] at hm
     simp only [Option.map_some,Option.some.injEq,Prod.mk.injEq] at hm
     have hu:=run_underlying (P:=Tryz.prog) Tryz.underlying266
     have hu2:=run_underlying (P:=Tryz.prog) Tryz.underlying261
     unfold method
     simp [typeInfo,hi,hf,hm.1,hm.2,follow,hu,hu2,receiverAt,Place.get,go_sem,h]
theorem meth_len{W:World}{l p:Nat}(h:W.cell? ⟨l,0,none⟩=some (.pointer (some ⟨p,0,none⟩))) :
    (method 525 209 (.pointer (some ⟨l, 0, none⟩)) "Len").run Tryz.prog W = .ok (325, .pointer (some ⟨p, 0, none⟩)) W := meth_row "Len" 325 524 W l p h (by kernel_rfl)
theorem meth_range{W:World}{l p:Nat}(h:W.cell? ⟨l,0,none⟩=some (.pointer (some ⟨p,0,none⟩))) :
    (method 525 209 (.pointer (some ⟨l, 0, none⟩)) "Range").run Tryz.prog W = .ok (326, .pointer (some ⟨p, 0, none⟩)) W := meth_row "Range" 326 524 W l p h (by kernel_rfl)
theorem meth_delete{W:World}{l p:Nat}(h:W.cell? ⟨l,0,none⟩=some (.pointer (some ⟨p,0,none⟩))) :
    (method 525 209 (.pointer (some ⟨l, 0, none⟩)) "Delete").run Tryz.prog W = .ok (324, .pointer (some ⟨p, 0, none⟩)) W := meth_row "Delete" 324 524 W l p h (by kernel_rfl)
theorem facts4{W:World}{b:Nat}{t:TypeId}{c0 c1 c2 c3:Value}(h:Blk W b t #[c0,c1,c2,c3]):(W.cell? ⟨b,0,none⟩=some c0∧W.cell? ⟨b,1,none⟩=some c1∧W.cell? ⟨b,2,none⟩=some c2∧W.cell? ⟨b,3,none⟩=some c3)∧W.frozen? ⟨b,0,none⟩=false :=
 ⟨⟨h.cell 0,h.cell 1,h.cell 2,h.cell 3⟩,h.free 0⟩
abbrev SetC (form:Value) (le lm:Int) (sd:Nat):Array Value:=#[form,.int .i64 le,.int .i64 lm,.int .u32 sd]
structure Good (le lm:Int) (c:Nat) (E:List En):Prop where
 le:0≤le∧le≤200
 lm:0≤lm∧lm≤64
 srt:SrtE E
 dist:Dist E
 each:∀ e∈E,e.1.size≤64∧Pk.scoreOk e.2
 len:E.length≤c
 cap:c≤10000
structure PSet (W:World) (s b:Nat) (le lm:Int) (sd c:Nat) (E:List En):Prop where
 blk:Blk W s 122 (SetC (.iface 183 (.pointer (some ⟨b,0,none⟩))) le lm sd)
 pk:PackAt W b E
 few:(E.length:Int)≤le
 good:Good le lm c E
 sd:sd<4294967296
structure LSet (W:World) (s l p q:Nat) (D:Nat→Prop) (L:List Nd) (m:ByteArray→Option Int) (n:Dc.Sh) (le lm:Int) (sd c:Nat) (E:List En):Prop where
 blk:Blk W s 122 (SetC (.iface 209 (.pointer (some ⟨l,0,none⟩))) le lm sd)
 li:LAt W l p q D sd L m n
 en:L.map en=E
 map:MapOf m E
 n:n.n≤c
 good:Good le lm c E
variable {w w' w1 w2:World} {s b l p q sd c:Nat} {D:Nat→Prop} {L:List Nd} {m:ByteArray→Option Int} {n:Dc.Sh} {le lm:Int} {E:List En}
theorem PSet.later(h:PSet w s b le lm sd c E)(hb:Below w.heap.size w w'):PSet w' s b le lm sd c E:=⟨h.blk.later hb,h.pk.later hb,h.few,h.good,h.sd⟩
theorem LSet.later(h:LSet w s l p q D L m n le lm sd c E)(hb:Below w.heap.size w w'):LSet w' s l p q D L m n le lm sd c E:=⟨h.blk.later hb,h.li.later hb,h.en,h.map,h.n,h.good⟩
theorem LSet.len(h:LSet w s l p q D L m n le lm sd c E):L.length=E.length:=by rw [← h.en,List.length_map]
theorem LSet.lenN(h:LSet w s l p q D L m n le lm sd c E):L.length≤100000:=by
 have h1:=h.len
 have h2:=h.good.len
 have h3:=h.good.cap
 omega
theorem now_s{v:Value}(hb:Blk w s 122 (SetC v le lm sd)):Calls Tryz.prog 70 #[.pointer (some ⟨s,0,none⟩)] w fun e w'=>e=.returned v∧w'=w:=by
 obtain ⟨⟨e0,_⟩,_⟩:=facts4 hb
 clear hb
 go_enter Tryz.func70,Tryz.ntmps70
 go_wp2
 go_ret
 exact ⟨rfl,rfl⟩
theorem ps_len(h:PSet w s b le lm sd c E):Calls Tryz.prog 30 #[.pointer (some ⟨s,0,none⟩)] w fun e w'=>e=.returned (.int .i64 E.length)∧Below w.heap.size w w':=by
 have HN:=Lib.hid (now_s h.blk)
 have HL:=Lib.hid (p_len h.pk)
 clear h
 go_enter Tryz.func30,Tryz.ntmps30
 go_wp2_with fail
 refine HN.out.mono ?_
 rintro e w1 ⟨rfl,rfl⟩
 go_wp2_with fail
 refine HL.out.mono ?_
 rintro e w1 ⟨rfl,hb⟩
 go_wp2_with fail
 go_ret
 exact ⟨rfl,hb⟩
theorem ls_len(h:LSet w s l p q D L m n le lm sd c E):Calls Tryz.prog 30 #[.pointer (some ⟨s,0,none⟩)] w fun e w'=>e=.returned (.int .i64 E.length)∧Below w.heap.size w w':=by
 have HN:=Lib.hid (now_s h.blk)
 have HL:=Lib.hid (len_any p L rfl h.li.ls.sk)
 obtain ⟨e0,e1,_,_⟩:=facts2 h.li.blk
 rw [← h.len]
 have hme:=meth_len e0
 clear h e0 e1
 go_enter Tryz.func30,Tryz.ntmps30
 go_wp2_with fail
 refine HN.out.mono ?_
 rintro e w1 ⟨rfl,rfl⟩
 go_wp2_with fail
 refine HL.out.mono ?_
 rintro e w1 ⟨rfl,rfl⟩
 go_wp2_with fail
 go_ret
 exact ⟨rfl,Below.refl _ _⟩
variable {w w' w1 w2:World} {s b l p q sd c:Nat} {D:Nat→Prop} {L:List Nd} {m:ByteArray→Option Int} {n:Dc.Sh} {le lm:Int} {E:List En}
theorem assert_p(u:Value)(W:World):(Instr.typeAssert (.iface 183 u) 119 183 true).run Tryz.prog W=.ok (.tuple #[u,.bool true]) W:=by kernel_rfl
theorem assert_l(u:Value)(W:World):(Instr.typeAssert (.iface 209 u) 119 183 true).run Tryz.prog W=.ok (.tuple #[.pointer none,.bool false]) W:=by kernel_rfl
theorem small_p(hb:Blk w s 122 (SetC (.iface 183 (.pointer (some ⟨b,0,none⟩))) le lm sd)):Calls Tryz.prog 133 #[.pointer (some ⟨s,0,none⟩)] w fun e w'=>e=.returned (.tuple #[.pointer (some ⟨b,0,none⟩),.bool true])∧w'=w:=by
 obtain ⟨⟨e0,_⟩,_⟩:=facts4 hb
 have ha:=assert_p
 clear hb
 go_enter Tryz.func133,Tryz.ntmps133
 go_wp2
 go_ret2
 exact ⟨rfl,rfl⟩
theorem small_l(hb:Blk w s 122 (SetC (.iface 209 (.pointer (some ⟨l,0,none⟩))) le lm sd)):Calls Tryz.prog 133 #[.pointer (some ⟨s,0,none⟩)] w fun e w'=>e=.returned (.tuple #[.pointer none,.bool false])∧w'=w:=by
 obtain ⟨⟨e0,_⟩,_⟩:=facts4 hb
 have ha:=assert_l
 clear hb
 go_enter Tryz.func133,Tryz.ntmps133
 go_wp2
 go_ret2
 exact ⟨rfl,rfl⟩
theorem bytes_p(h:PSet w s b le lm sd c E):Calls Tryz.prog 31 #[.pointer (some ⟨s,0,none⟩)] w fun e w'=>e=.returned (.int .i64 (Pk.packB E).size)∧w'=w:=by
 obtain ⟨⟨e0,_⟩,_⟩:=facts4 h.blk
 have HB:=Lib.hid (p_bytes h.pk)
 clear h
 go_enter Tryz.func31,Tryz.ntmps31
 go_wp2_with fail
 refine HB.out.mono ?_
 rintro e w1 ⟨rfl,rfl⟩
 go_wp2_with fail
 go_ret
 exact ⟨rfl,rfl⟩
theorem full_p(h:PSet w s b le lm sd c E)(m:ByteArray):Calls Tryz.prog 94 #[.pointer (some ⟨s,0,none⟩),.string m] w fun e w'=>e=.returned (.bool false)∧Below w.heap.size w w':=by
 obtain ⟨⟨e0,_⟩,_⟩:=facts4 h.blk
 have HL:=Lib.hid (p_len h.pk)
 have h1:(E.length:Int)<400:=by have:=h.pk.ok.many;omega
 clear h
 go_enter Tryz.func94,Tryz.ntmps94
 go_wp2_with fail
 refine HL.out.mono ?_
 rintro e w1 ⟨rfl,hb⟩
 go_wp2_with fail
 go_ret
 exact ⟨rfl,hb⟩
theorem full_l(h:LSet w s l p q D L m n le lm sd c E)(h4:E.length<400)(k:ByteArray):Calls Tryz.prog 94 #[.pointer (some ⟨s,0,none⟩),.string k] w fun e w'=>e=.returned (.bool false)∧Below w.heap.size w w':=by
 obtain ⟨⟨e0,_⟩,_⟩:=facts4 h.blk
 have HL:=Lib.hid (len_any p L rfl h.li.ls.sk)
 rw [h.len] at HL
 have hme:=meth_len (facts2 h.li.blk).1
 have h1:(E.length:Int)<400:=by omega
 clear h
 go_enter Tryz.func94,Tryz.ntmps94
 go_wp2_with fail
 refine HL.out.mono ?_
 rintro e w1 ⟨rfl,rfl⟩
 go_wp2_with fail
 go_ret
 exact ⟨rfl,Below.refl _ _⟩
theorem fit_l(hb:Blk w s 122 (SetC (.iface 209 (.pointer (some ⟨l,0,none⟩))) le lm sd))(k:ByteArray):Calls Tryz.prog 95 #[.pointer (some ⟨s,0,none⟩),.string k] w fun e w'=>e=.returned (.tuple #[])∧Below w.heap.size w w':=by
 have HS:=Lib.hid (small_l hb)
 clear hb
 go_enter Tryz.func95,Tryz.ntmps95
 go_wp2_with (go_at_call 133;refine HS.out.mono ?_;rintro e w1 ⟨rfl,rfl⟩)
 go_quiet (fail)
 go_wp2_with fail
 go_returns
 exact ⟨rfl,drewB _ _⟩
theorem puts_map{xs:List En}:∀ {m:ByteArray→Option Int} {E:List En},MapOf m E→Dist xs→(∀ x∈xs,∀ y∈E,y.1≠x.1)→MapOf (putsI m xs) (putAll E xs):=by
 induction xs with
 | nil=>intro m E h _ _;exact h
 | cons x xs ih =>
   intro m E h hd hno
   have hd2:=List.pairwise_cons.1 hd
   show MapOf (putsI (putI m x.1 x.2) xs) (putAll (putE E x.1 x.2) xs)
   have h1:=h.put x.1 x.2
   unfold addE at h1
   rw [rmE_none fun y hy=>hno x (List.mem_cons_self ..) y hy] at h1
   refine ih h1 hd2.2 fun z hz y hy=>?_
   rcases mem_putE.1 hy with rfl|hy
   · exact hd2.1 z hz
   · exact hno z (List.mem_cons_of_mem _ hz) y hy
theorem tw_all{α:Type}(P:α→Bool):∀ l:List α,(∀ y∈l,P y=true)→l.takeWhile P=l
 | [],_=>rfl
 | x :: l,h=>by rw [List.takeWhile_cons_of_pos (h x (List.mem_cons_self ..)),tw_all P l fun y hy=>h y (List.mem_cons_of_mem _ hy)]
theorem putAll_sorted{E:List En}(hs:SrtE E):∀ k,k≤E.length→putAll [] (E.take k)=E.take k:=by
 intro k
 induction k with
 | zero=>intro _;simp [putAll]
 | succ k ih =>
   intro hk
   have hx:E[k]?=some E[k]:=List.getElem?_eq_getElem (by omega)
   rw [putAll_snoc [] E k _ hx,ih (by omega)]
   have hp:posE (E.take k) E[k].1 E[k].2=k:=by
     unfold posE
     have:∀ y∈E.take k,lessE y.1 y.2 E[k].1 E[k].2=true:=fun y hy=>by
       obtain ⟨i,hi⟩:=List.mem_iff_getElem?.1 hy
       have hil:=(List.getElem?_eq_some_iff.1 hi).1
       rw [List.length_take] at hil
       rw [List.getElem?_take_of_lt (by omega)] at hi
       obtain ⟨h1,h2⟩:=List.getElem?_eq_some_iff.1 hi
       have:=List.pairwise_iff_getElem.1 hs i k h1 (by omega) (by omega)
       rw [h2] at this
       exact this
     rw [tw_all _ _ this,List.length_take]
     omega
   unfold putE
   rw [hp,List.take_take,Nat.min_self,List.drop_of_length_le (by simp;omega),List.take_succ_eq_append_getElem (by omega)]
theorem putAll_self{E:List En}(hs:SrtE E):putAll [] E=E:=by
 have:=putAll_sorted hs E.length (Nat.le_refl _)
 rwa [List.take_length] at this
theorem set_other{W:World}{s o o':Nat}{v u:Value}(h:W.cell? ⟨s,o,none⟩=some u)(hne:o≠o'):(W.setCell ⟨s,o',none⟩ v).cell? ⟨s,o,none⟩=some u:=by
 rw [World.cell?_setCell_other _ _ _ _ (fun e=>hne (by injection e with _ e2 _;exact e2.symm))];exact h
variable {w w' w1 w2:World} {s b l p q sd c:Nat} {D:Nat→Prop} {L:List Nd} {m:ByteArray→Option Int} {n:Dc.Sh} {le lm:Int} {E:List En}
theorem fit_no(h:PSet w s b le lm sd c E)(k:ByteArray)(h1:(E.length:Int)<le)(h2:(k.size:Int)≤lm):Calls Tryz.prog 95 #[.pointer (some ⟨s,0,none⟩),.string k] w fun e w'=>e=.returned (.tuple #[])∧Below w.heap.size w w':=by
 have HS:=Lib.hid (small_p h.blk)
 have HL:=fun W (hb:Below w.heap.size w W)=>Lib.hid (p_len (h.pk.later hb))
 have HSW:=Lib.hid (fun W (hb:Below w.heap.size w W)=>show W.cell? ⟨s,1,none⟩=some (.int .i64 le)∧W.cell? ⟨s,2,none⟩=some (.int .i64 lm) from ⟨(facts4 (h.blk.later hb)).1.2.1,(facts4 (h.blk.later hb)).1.2.2.1⟩)
 have g1:decide (le≤(E.length:Int))=false:=decide_eq_false (by omega)
 have g2:decide (lm<(k.size:Int))=false:=decide_eq_false (by omega)
 clear h h1 h2
 go_enter Tryz.func95,Tryz.ntmps95
 go_wp2_with (go_at_call 133;refine HS.out.mono ?_;rintro e w1 ⟨rfl,rfl⟩)
 have HB1:=Lib.hid (drewB w1 1)
 have HL1:=HL w1.drew HB1.out
 have S0:=HSW.out w1.drew HB1.out
 clear HL HS
 go_region_held (fun W=>W.cell? ⟨s,1,none⟩=some (.int .i64 le)∧W.cell? ⟨s,2,none⟩=some (.int .i64 lm)) (first|exact S0|exact S1)
   (first
     | (go_at_call 134;refine HL1.out.mono ?_;rintro e w2 ⟨rfl,hb⟩
        have HB2:=Lib.hid (HB1.out.trans (hb.mono HB1.out.size))
        have S1:=HSW.out _ HB2.out
        clear hb HL1))
 all_goals (
   clear S1
   go_wp2_with fail
   go_returns
   exact ⟨rfl,HB2.out⟩)
theorem fit_yes(h:PSet w s b le lm sd c E)(k:ByteArray)(h1:le≤(E.length:Int)∨lm<(k.size:Int)):Calls Tryz.prog 95 #[.pointer (some ⟨s,0,none⟩),.string k] w fun e w'=>e=.returned (.tuple #[]) ∧
   ∃ l p q D L m n,LSet w' s l p q D L m n le lm sd c E∧(∀ k,LOwn l p L D k→w.heap.size≤k)∧Far (fun k=>k=s) w w':=by
 have HS:=Lib.hid (small_p h.blk)
 have HL:=fun W (hb:Below w.heap.size w W)=>Lib.hid (p_len (h.pk.later hb))
 have HE:=fun W (hb:Below w.heap.size w W)=>Lib.hid (p_entries (h.pk.later hb))
 have HSW:=Lib.hid (fun W (hb:Below w.heap.size w W)=>show W.cell? ⟨s,1,none⟩=some (.int .i64 le)∧W.cell? ⟨s,2,none⟩=some (.int .i64 lm) from ⟨(facts4 (h.blk.later hb)).1.2.1,(facts4 (h.blk.later hb)).1.2.2.1⟩)
 have HSV:=Lib.hid (fun W (hb:Below w.heap.size w W)=>show W.cell? ⟨s,3,none⟩=some (.int .u32 sd)∧W.frozen? ⟨s,0,none⟩=false from ⟨(facts4 (h.blk.later hb)).1.2.2.2,(facts4 (h.blk.later hb)).2⟩)
 have HBK:=Lib.hid (fun W (hb:Below w.heap.size w W)=>h.blk.later hb)
 have hEl:=h.good.len
 have hEc:=h.good.cap
 have HNEW:=fun W v (hr:Row W 0 v E)=>Lib.hid (l_new (w:=W) (sd:=sd) v E h.sd hr h.good.dist (fun x hx=>by have:=(h.good.each x hx).1;omega) (by omega))
 have HG:=Lib.hid h.good
 have HME:=Lib.hid (show MapOf (putsI (fun _=>none) E) E by
   have:=puts_map (xs:=E) (m:=fun _=>none) (E:=[]) (fun k v=>by simp) h.good.dist (fun _ _ y hy=>by cases hy)
   rwa [putAll_self h.good.srt] at this)
 have HPE:=Lib.hid (putAll_self h.good.srt)
 have hsz:=h.blk.lt
 have hcase:(decide (le≤(E.length:Int))=true)∨(decide (le≤(E.length:Int))=false∧decide (lm<(k.size:Int))=true):=by
   by_cases h3:le≤(E.length:Int)
   · exact .inl (decide_eq_true h3)
   · exact .inr ⟨decide_eq_false h3,decide_eq_true (by omega)⟩
 clear h h1
 go_enter Tryz.func95,Tryz.ntmps95
 go_wp2_with (go_at_call 133;refine HS.out.mono ?_;rintro e w1 ⟨rfl,rfl⟩)
 clear HS hEl hEc
 have q1:=fun y:Ext w1=>(HSW.out y.w y.ok).1
 have q2:=fun y:Ext w1=>(HSW.out y.w y.ok).2
 have HLE:=fun y:Ext w1=>HL y.w y.ok
 have hne:=Ext.one w1
 clear HSW HL
 rcases hcase with g1|⟨g1,g2⟩
 all_goals (
   refine region_ext (w1:=w1) (by kernel_rfl) (by kernel_rfl) (Below.refl _ _) ?_
   repeat go_big_quiet_step ((go_at_call 134;exact Ext.call _ (HLE _).out))
   refine wpQuiet_nil ?_
   rintro _ ⟨y,rfl⟩
   have HB2:=Lib.hid y.ok
   clear q1 q2 HLE hne
   obtain ⟨w2,hok⟩:=y
   (
     go_wp2_with fail
     have HB3:=Lib.hid (HB2.out.trans ((drewB w2 1).mono HB2.out.size))
     have HE1:=HE w2.drew HB3.out
     have S2:=HSV.out w2.drew HB3.out
     go_region_held (fun W=>W.cell? ⟨s,3,none⟩=some (.int .u32 sd)∧W.frozen? ⟨s,0,none⟩=false) (first|exact S2|exact S3|exact S4|exact S5)
       (first
         | (go_at_call 136;refine HE1.out.mono ?_;rintro e w3 ⟨r,rfl,ho,hb⟩
            have HB4:=Lib.hid (HB3.out.trans (hb.mono HB3.out.size))
            have S3:=HSV.out _ HB4.out
            have HN1:=HNEW w3 r ((own_row ho).mono (Nat.zero_le _))
            clear hb HE1 ho HNEW)
         | (go_at_call 135;refine HN1.out.mono ?_;rintro e w4 ⟨l,p,q,D,L,m,n,rfl,he4,hm4,h4,hn4,hb,hown⟩
            have HB5:=Lib.hid (HB4.out.trans (hb.mono HB4.out.size))
            have S4:=HSV.out _ HB5.out
            have G0:=(facts4 (HBK.out _ HB5.out)).1.1
            have G1:=S4.2
            have S5:(w4.setCell ⟨s,0,none⟩ (.iface 209 (.pointer (some ⟨l,0,none⟩)))).cell? ⟨s,3,none⟩=some (.int .u32 sd)∧(w4.setCell ⟨s,0,none⟩ (.iface 209 (.pointer (some ⟨l,0,none⟩)))).frozen? ⟨s,0,none⟩=false:=by
              have hk:=(HBK.out _ HB5.out).set 0 (.iface 209 (.pointer (some ⟨l,0,none⟩)))
              exact ⟨set_other S4.1 (by decide),hk.free 0⟩
            have HFIN:=Lib.hid (show ∃ l' p q D L m n,LSet (w4.setCell ⟨s,0,none⟩ (.iface 209 (.pointer (some ⟨l,0,none⟩)))) s l' p q D L m n le lm sd c E∧(∀ k,LOwn l' p L D k→w1.heap.size≤k)∧Far (fun k=>k=s) w1 (w4.setCell ⟨s,0,none⟩ (.iface 209 (.pointer (some ⟨l,0,none⟩)))) from by
              have hk:=(HBK.out _ HB5.out).set 0 (.iface 209 (.pointer (some ⟨l,0,none⟩)))
              have hge:∀ k,LOwn l p L D k→w1.heap.size≤k:=fun k hk=>Nat.le_trans HB4.out.size (hown k hk)
              have hfs:=far_set (S:=fun k=>k=s) w4 s 0 (.iface 209 (.pointer (some ⟨l,0,none⟩))) rfl
              exact ⟨l,p,q,D,L,m,n,⟨hk,h4.far hfs (fun k hk2 e=>by have:=hge k hk2;omega),he4.trans HPE.out,by rw [hm4];exact HME.out,Nat.le_trans hn4 HG.out.len,HG.out⟩,hge,(Far.of_below HB5.out).trans hfs (fun k hk=>.inl hk)⟩)
            clear he4 hm4 h4 hn4 hb hown HN1))
     all_goals (
       clear S5 G0 G1
       go_wp2_with fail
       go_returns
       exact ⟨rfl,HFIN.out⟩)))
variable {w w' w1 w2:World} {s b l p q sd c:Nat} {D D1:Nat→Prop} {L L1:List Nd} {m:ByteArray→Option Int} {n:Dc.Sh} {le lm:Int} {E:List En}
theorem ps_range(h:PSet w s b le lm sd c E)(f t:Int):Calls Tryz.prog 29 #[.pointer (some ⟨s,0,none⟩),.int .i64 f,.int .i64 t] w fun e w'=>∃ r,e=.returned r∧Row w' w.heap.size r (subE E f t)∧Below w.heap.size w w':=by
 have HN:=Lib.hid (now_s h.blk)
 have HR:=Lib.hid (p_range h.pk f t)
 clear h
 go_enter Tryz.func29,Tryz.ntmps29
 go_wp2_with fail
 refine HN.out.mono ?_
 rintro e w1 ⟨rfl,rfl⟩
 go_wp2_with fail
 refine HR.out.mono ?_
 rintro e w1 ⟨r,rfl,hr,hb⟩
 go_wp2_with fail
 go_ret
 exact ⟨_,rfl,hr,hb⟩
theorem ls_range(h:LSet w s l p q D L m n le lm sd c E)(f t:Int):Calls Tryz.prog 29 #[.pointer (some ⟨s,0,none⟩),.int .i64 f,.int .i64 t] w fun e w'=>∃ r,e=.returned r∧Row w' w.heap.size r (subE E f t)∧Below w.heap.size w w':=by
 have HN:=Lib.hid (now_s h.blk)
 have HR:=Lib.hid (l_range h.li.ls h.lenN f t)
 rw [h.en] at HR
 have hme:=meth_range (facts2 h.li.blk).1
 clear h
 go_enter Tryz.func29,Tryz.ntmps29
 go_wp2_with fail
 refine HN.out.mono ?_
 rintro e w1 ⟨rfl,rfl⟩
 go_wp2_with fail
 refine HR.out.mono ?_
 rintro e w1 ⟨r,rfl,hr,hb⟩
 go_wp2_with fail
 go_ret
 exact ⟨_,rfl,hr,hb⟩
theorem ps_rank(h:PSet w s b le lm sd c E)(k:ByteArray):Calls Tryz.prog 99 #[.pointer (some ⟨s,0,none⟩),.string k] w fun e w'=>e=.returned (.tuple #[.int .i64 ((whE E k).getD 0:Nat),.bool (whE E k).isSome])∧Below w.heap.size w w':=by
 have HN:=Lib.hid (now_s h.blk)
 have HR:=Lib.hid (p_rank h.pk k)
 clear h
 generalize (whE E k).isSome=bb at *
 generalize (whE E k).getD 0=ii at *
 go_enter Tryz.func99,Tryz.ntmps99
 go_wp2_with fail
 refine HN.out.mono ?_
 rintro e w1 ⟨rfl,rfl⟩
 go_wp2_with fail
 refine HR.out.mono ?_
 rintro e w1 ⟨rfl,hb⟩
 go_wp2_with fail
 go_ret2
 exact ⟨rfl,hb⟩
theorem LSet.dict(h:LSet w s l p q D L m n le lm sd c E){n2:Dc.Sh}(hn:Dc.IsNow D w q sd m n2 w')(hc:n2.n≤c):LSet w' s l p q (Dc.grow Dc.tyI D w w') L m n2 le lm sd c E :=
 ⟨(ofDc hn.2).blk h.blk (fun hk=>by
   obtain ⟨t,c,ht,hb⟩:=h.li.d_ty hk
   have:=hb.ty h.blk
   rcases ht with rfl|rfl|rfl <;> exact absurd this (by decide)),h.li.dict hn,h.en,h.map,hc,h.good⟩
theorem step1_c(n:Dc.Sh):n.step1.n=n.n:=Dc.step1_n n
theorem ls_rank(h:LSet w s l p q D L m n le lm sd c E)(k:ByteArray)(hk:k.size≤281474976710656):Calls Tryz.prog 99 #[.pointer (some ⟨s,0,none⟩),.string k] w fun e w'=>e=.returned (.tuple #[.int .i64 ((whE E k).getD 0:Nat),.bool (whE E k).isSome]) ∧
   ∃ D1 n1,LSet w' s l p q D1 L m n1 le lm sd c E∧LStep w w' l p L D L D1:=by
 have HN:=Lib.hid (now_s h.blk)
 have hcap:=h.good.cap
 have hnn:=h.n
 have HR:=Lib.hid (l_rank h.li (by omega) h.lenN (h.en ▸ h.map) k hk)
 rw [h.en] at HR
 have HF:=fun w1 (hd:Dc.IsNow D w q sd m n.step1 w1)=>Lib.hid (show ∃ D1 n1,LSet w1 s l p q D1 L m n1 le lm sd c E∧LStep w w1 l p L D L D1 from ⟨_,_,h.dict hd (by rw [step1_c];exact hnn),LStep.dict hd⟩)
 clear h hk hcap hnn
 generalize (whE E k).isSome=bb at *
 generalize (whE E k).getD 0=ii at *
 go_enter Tryz.func99,Tryz.ntmps99
 go_wp2_with fail
 refine HN.out.mono ?_
 rintro e w1 ⟨rfl,rfl⟩
 go_wp2_with fail
 refine HR.out.mono ?_
 rintro e w2 ⟨rfl,hd⟩
 have HF2:=HF w2 hd
 clear hd HF
 go_wp2_with fail
 go_ret2
 exact ⟨rfl,HF2.out⟩
theorem Good.cut(h:Good le lm c E)(f t:Int):Good le lm c (cutE E f t) :=
 ⟨h.le,h.lm,srt_cutE h.srt f t,dist_cutE h.dist f t,fun e he=>h.each e (mem_cutE he),by have:=h.len;rw [cutE_len];omega,h.cap⟩
theorem PSet.cut(h:PSet w s b le lm sd c E){f t:Int}(hp:PackAt w' b (cutE E f t))(hf:Far (fun k=>k=b) w w'):PSet w' s b le lm sd c (cutE E f t) :=
 ⟨hf.blk h.blk (fun e=>by subst e;exact absurd (h.blk.ty h.pk.blk) (by decide)),hp,by have:=h.few;rw [cutE_len];omega,h.good.cut f t,h.sd⟩
theorem ps_cut(h:PSet w s b le lm sd c E)(f t:Int):Calls Tryz.prog 100 #[.pointer (some ⟨s,0,none⟩),.int .i64 f,.int .i64 t] w fun e w'=>e=.returned (.int .i64 (subE E f t).length)∧PSet w' s b le lm sd c (cutE E f t)∧Far (fun k=>k=b) w w':=by
 have HN:=Lib.hid (now_s h.blk)
 have HR:=Lib.hid (p_cut h.pk h.good.dist f t)
 have HF:=fun w1 (hp:PackAt w1 b (cutE E f t)) (hf:Far (fun k=>k=b) w w1)=>Lib.hid (And.intro (h.cut hp hf) hf)
 clear h
 generalize (subE E f t).length=nn at *
 go_enter Tryz.func100,Tryz.ntmps100
 go_wp2_with fail
 refine HN.out.mono ?_
 rintro e w1 ⟨rfl,rfl⟩
 go_wp2_with fail
 refine HR.out.mono ?_
 rintro e w2 ⟨rfl,hp,hf⟩
 have HF2:=HF w2 hp hf
 clear hp hf HF
 go_wp2_with fail
 go_ret
 exact ⟨rfl,HF2.out⟩
theorem LSet.blk_step(h:LSet w s l p q D L m n le lm sd c E)(hs:LStep w w' l p L D L1 D1):Blk w' s 122 (SetC (.iface 209 (.pointer (some ⟨l,0,none⟩))) le lm sd) :=
 hs.far.blk h.blk fun ho=>h.li.own_ty ho h.blk (by decide)
theorem ls_cut(h:LSet w s l p q D L m n le lm sd c E)(f t:Int):Calls Tryz.prog 100 #[.pointer (some ⟨s,0,none⟩),.int .i64 f,.int .i64 t] w fun e w'=>e=.returned (.int .i64 (subE E f t).length) ∧
   ∃ D1 L1 m1 n1,LSet w' s l p q D1 L1 m1 n1 le lm sd c (cutE E f t)∧LStep w w' l p L D L1 D1:=by
 have HN:=Lib.hid (now_s h.blk)
 have hcap:=h.good.cap
 have hnn:=h.n
 have HR:=Lib.hid (l_cutAll h.li h.lenN (by omega) (fun x hx=>by have:=(h.good.each x (h.en ▸ hx)).1;omega) (h.en ▸ h.good.dist) (h.en ▸ h.map) f t)
 rw [h.en] at HR
 have HF:=fun w1 D1 L1 m1 n1 (he:L1.map en=cutE E f t) (hm:MapOf m1 (L1.map en)) (hl:LAt w1 l p q D1 sd L1 m1 n1) (hn:n1.n≤n.n) (hs:LStep w w1 l p L D L1 D1) =>
   Lib.hid (show ∃ D1 L1 m1 n1,LSet w1 s l p q D1 L1 m1 n1 le lm sd c (cutE E f t)∧LStep w w1 l p L D L1 D1 from ⟨D1,L1,m1,n1,⟨h.blk_step hs,hl,he,he ▸ hm,Nat.le_trans hn hnn,h.good.cut f t⟩,hs⟩)
 clear h hcap hnn
 generalize (subE E f t).length=nn at *
 go_enter Tryz.func100,Tryz.ntmps100
 go_wp2_with fail
 refine HN.out.mono ?_
 rintro e w1 ⟨rfl,rfl⟩
 go_wp2_with fail
 refine HR.out.mono ?_
 rintro e w2 ⟨rfl,D1,L1,m1,n1,he,hm,hl,hn,hs⟩
 have HF2:=HF w2 D1 L1 m1 n1 he hm hl hn hs
 clear he hm hl hn hs HF
 go_wp2_with fail
 go_ret
 exact ⟨rfl,HF2.out⟩
theorem whE_cut{E:List En}(hd:Dist E){k:ByteArray}{i:Nat}(h:whE E k=some i):cutE E i (i+1:Int)=rmE E k∧(subE E i (i+1:Int)).length=1:=by
 obtain ⟨v,hv⟩:=whE_some h
 have hi:=(List.getElem?_eq_some_iff.1 hv).1
 refine ⟨cut_one hd hv,?_⟩
 rw [subE_len]
 unfold t0 f0
 omega
end Go.Proofs.YtlckdfoflimahaaGreatDoor
