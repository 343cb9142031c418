/- Texts of one kind in one: ZBytes, ZSee, SpSum, SpSize, SpRefMake, SpRefTidy. -/
import Derived.Test.YtlckdfoflimahaaGreatDoorQSched26
import Derived.Test.YtlckdfoflimahaaGreatDoorQZSame29
import Derived.Test.YtlckdfoflimahaaGreatDoorQSpRename28
import Derived.Test.YtlckdfoflimahaaGreatDoorQSpRef30
set_option maxRecDepth 200000
set_option maxHeartbeats 8000000
namespace Go.Proofs.YtlckdfoflimahaaGreatDoor
open Go.RowKit Go.Shelf Sk
attribute [local go_sem] Oper.semAt_some
def szL:List En→Nat
 | []=>0
 | e :: r=>64+2*e.1.size+szL r
theorem szL_append(a b:List En):szL (a++b)=szL a+szL b:=by
 induction a with
 | nil=>simp [szL]
 | cons e r ih=>simp only [List.cons_append,szL,ih];omega
theorem szL_take{E:List En}{i:Nat}{x:En}(h:E[i]?=some x):szL (E.take (i+1))=szL (E.take i)+(64+2*x.1.size):=by
 obtain ⟨hi,he⟩:=List.getElem?_eq_some_iff.1 h
 rw [List.take_succ_eq_append_getElem hi,szL_append,he]
 simp [szL]
theorem szL_le{E:List En}(h:∀ e∈E,e.1.size≤64):szL E≤192*E.length:=by
 induction E with
 | nil=>simp [szL]
 | cons e r ih =>
   have h1:=h e (by simp)
   have h2:=ih fun e he=>h e (by simp [he])
   simp only [szL,List.length_cons];omega
variable {w w' w1 w2:World} {s b l p q sd c:Nat} {D D1:Nat→Prop} {L L1:List Nd} {m:ByteArray→Option Int} {n:Dc.Sh} {le lm:Int} {E:List En}
theorem bytes_walk(fv:Nat)(E:List En)(hl:E.length≤1000000)(hz:∀ e∈E,e.1.size≤64)(w:World)(HT:∀ W,Below w.heap.size w W→Hid (Calls Tryz.prog 182 #[.iface 209 (.pointer (some ⟨fv,0,none⟩))] W (Thru W E))) :
   Calls Tryz.prog 327 #[.pointer (some ⟨fv,0,none⟩)] w fun e w'=>e=.returned (.int .i64 (szL E))∧Below w.heap.size w w':=by
 refine (callsIn_wide (n:=6)).1 (callsIn_of_wp_marks Tryz.func327 rfl trivial ?_ rfl)
 refine wpIn_wide.2 ?_
 simp only [Tryz.ntmps327,List.size_toArray,List.length_cons,List.length_nil,Nat.reduceAdd,Nat.reduceSub,Array.replicate_succ,Array.replicate_zero,List.push_toArray,List.append_toArray,List.nil_append,List.cons_append]
 have hB0:Below w.heap.size w (w.alloc (Obj.cells #[Value.int .i64 0] 3)):=alloc_below _ _
 have k0:=Blk.new w 3 #[Value.int .i64 0]
 have HTA:=HT _ hB0
 go_wp2_with fail
 have hsz:(w.alloc (Obj.cells #[Value.int .i64 0] 3)).heap.size=w.heap.size+1:=by simp
 generalize w.alloc (Obj.cells #[Value.int .i64 0] 3)=w1 at *
 refine HTA.out.mono ?_
 rintro e w2 ⟨bx,r,rfl,hbx,hbs,hr,hb2⟩
 have k0:=k0.later hb2
 have hB:=hB0.trans (hb2.mono hB0.size)
 have hseq:=vals_any E (by omega) r w1.heap.size bx [w.heap.size] w2 hr (by intro k hk;simp at hk;omega) hbx
 have hz2:=hb2.size
 have HZ:=Lib.hid hz
 have HLL:=Lib.hid (show ∀ i,szL (E.take i)≤192*E.length from fun i=>Nat.le_trans (szL_le fun e he=>hz e (List.mem_of_mem_take he)) (by simp only [List.length_take];omega))
 clear HT HTA hB0 hr hbx hz
 go_wp2_with fail
 refine (wpIn_wide (n:=6)).1 (Zr.range_x (gf:=220) (lb:=#[.pointer (some ⟨bx,0,none⟩)]) (encs:=encE) (xs:=E) (L:=[w.heap.size]) rfl (enters_of Tryz.func220 (by kernel_rfl) rfl) hseq (fun _ _=>rfl)
   (fun i W=>Below w.heap.size w W∧Blk W w.heap.size 3 #[.int .i64 (szL (E.take i))])
   (fun _ _ _=>False)
   ?hI ?hIx ?h0 (fun i x a' W=>∃ q,(∃ u,a'={ tmps:=#[.pointer (some ⟨fv,0,none⟩),undef,.int .i64 0,.pointer (some ⟨w.heap.size,0,none⟩),.pointer (some ⟨q,0,none⟩),.pointer (some ⟨fv,0,none⟩),.iface 209 (.pointer (some ⟨fv,0,none⟩)),
         .func (.func 220) #[] #[.pointer (some ⟨bx,0,none⟩)],u,undef,undef,undef,undef,undef,undef,undef,undef],defers:=[] })∧Blk W q 117 #[.string x.1,.int .i64 x.2])
   (fun _ _ _=>own_ex fun _=>(own_pure _ _).and (own_blk _ _ _ _)) ?assign ?body ?done ?stop)
 case hI=>exact (own_below _ w (by omega)).and (own_blk _ _ _ _)
 case hIx=>exact fun c=>own_pure _ _
 case h0=>exact ⟨hB,k0⟩
 case assign =>
   rintro l i ⟨xm,xs⟩ W K hx' ⟨hb,q0⟩ hK
   clear hseq
   unfold encE
   gi_wp2
   refine hK _ _ ((KeepsOthers.alloc _ _).from _) (Zr.KeepC.of_below ((Below.refl _ _).alloc (Nat.le_refl _) _)) ⟨hb.alloc hb.size _,q0.alloc _⟩ ⟨_,⟨_,rfl⟩,Blk.new _ _ _⟩
 case body =>
   rintro l i ⟨xm,xs⟩ a' W hx' ⟨hb,q0⟩ ⟨q,⟨u,rfl⟩,q6⟩
   clear hseq
   simp only at q6
   have hxm:xm.size≤64:=HZ.out _ (List.mem_of_getElem? hx')
   have hst:=szL_take hx'
   have hle:=HLL.out i
   simp only at hst
   obtain ⟨c1,c2⟩:=facts1 q0
   obtain ⟨d0,d1,_⟩:=facts2 q6
   have Q0:=Lib.hid q0
   have HB:=Lib.hid hb
   have HST:=Lib.hid hst
   generalize szL (E.take i)=k at *
   clear q0 q6 hx' hb hst
   gi_wp2
   refine ⟨(KeepsOthers.setCell _ _ _).from _,Zr.KeepC.set _ _ _ _ (by simp),HB.out.setCell (p:=⟨w.heap.size,0,none⟩) (Nat.le_refl _) _,?_⟩
   rw [HST.out]
   have:=Q0.out.set 0 (.int .i64 ((k+(64+2*xm.size):Nat):Int))
   simp only [Int.natCast_add,Int.natCast_mul] at this ⊢
   exact this
 case done =>
   rintro D W hD ⟨hb,q0⟩ hK
   rw [List.take_length] at q0
   clear hseq
   obtain ⟨c1,c2⟩:=facts1 q0
   have HK:=Lib.hid hK
   have HB:=Lib.hid hb
   clear hK q0 hb
   simp only [Exit.inBlock,Exit.then]
   go_wp2
   exact Zr.leave (v:=.int .i64 (szL E)) rfl HK.out (by simp [results,Tryz.results327,go_sem]) ⟨rfl,below_put HB.out (by omega) _⟩
 case stop =>
   rintro D c j W hD hI hK
   exact hI.elim
theorem bytes_l(h:LSet w s l p q D L m n le lm sd c E):Calls Tryz.prog 31 #[.pointer (some ⟨s,0,none⟩)] w fun e w'=>e=.returned (.int .i64 (szL E))∧Below w.heap.size w w':=by
 obtain ⟨⟨e0,_⟩,_⟩:=facts4 h.blk
 have hlen:=h.len
 have hln:=h.lenN
 have HB:=Lib.hid (bytes_walk l E (by omega) (fun e he=>(h.good.each e he).1) w fun W hb=>Lib.hid (by have:=l_thru (h.li.later hb) hln;rw [h.en] at this;exact this))
 clear h
 go_enter Tryz.func31,Tryz.ntmps31
 go_wp2_with fail
 refine HB.out.mono ?_
 rintro e w1 ⟨rfl,hb⟩
 go_wp2_with fail
 go_ret
 exact ⟨rfl,hb⟩
def szS(isL:Bool)(E:List En):Nat:=if isL then szL E else (Pk.packB E).size
theorem set_bytes{S:Nat→Prop}{isL:Bool}(h:SetIs w s S isL le lm c E):Calls Tryz.prog 31 #[.pointer (some ⟨s,0,none⟩)] w fun e w'=>e=.returned (.int .i64 (szS isL E))∧Below w.heap.size w w':=by
 obtain ⟨sd,⟨rfl,b,h,_⟩|⟨rfl,l,p,q,D,L,m,n,h,_⟩⟩:=h
 · exact (bytes_p h).mono fun _ _ ⟨he,hb⟩=>⟨he,by rw [hb];exact Below.refl _ _⟩
 · exact bytes_l h
theorem szS_le{isL:Bool}{E:List En}(hE:E.length≤1000)(hz:∀ e∈E,e.1.size≤64)(i:Nat):szS isL (E.take i)≤200000:=by
 have hz2:∀ e∈E.take i,e.1.size≤64:=fun e he=>hz e (List.mem_of_mem_take he)
 have hl:(E.take i).length≤1000:=by simp;omega
 unfold szS
 split
 · have:=szL_le hz2;omega
 · have:=Pk.size_packB hz2 hl;omega
def szI(x:It):List Nat:=[48,x.key.size,szS x.isL x.E]
def szAll(I:List It):List Nat:=64 :: I.flatMap szI
def intV(n:Nat):Value:=.int .i64 n
def sizeI(I:List It):Nat:=(szAll I).sum
theorem info3:(Tryz.prog.info? 3).map (fun i=>(i.zero,i.size,i.bytes))=some (some (.int .i64 0),1,8):=by kernel_rfl
theorem ints_keep{W W':World}{n0 n:Nat}{rv:Value}{xs:List Value}(h:W.ownsRow n0 3 1 rv n xs)(hb:∀ k,rv.ownBlock=some k→W'.heap[k]?=W.heap[k]?):W'.ownsRow n0 3 1 rv n xs:=by
 refine ⟨h.1,?_⟩
 rcases h.2 with hn|⟨g,cap,cur,rfl,hb',hg,rest⟩
 · exact .inl hn
 · exact .inr ⟨g,cap,cur,rfl,hb',(hb g rfl).trans hg,rest⟩
theorem ints_later{W W':World}{n0 n:Nat}{rv:Value}{xs:List Value}(h:W.ownsRow n0 3 1 rv n xs)(hb:Below W.heap.size W W'):W'.ownsRow n0 3 1 rv n xs:=ints_keep h fun k hk=>hb.block k (h.lt k hk).2
theorem ints_blk{W:World}{n0 n:Nat}{rv:Value}{xs:List Value}(h:W.ownsRow n0 3 1 rv n xs){k:Nat}(hk:rv.ownBlock=some k):∃ c,Blk W k 3 c:=by
 rcases h.2 with ⟨rfl,_⟩|⟨g,cap,cur,rfl,_,hg,_⟩
 · simp [Value.ownBlock] at hk
 · simp [Value.ownBlock] at hk;subst hk;exact ⟨cur,hg⟩
theorem app_ints{W W6:World}{n0 n:Nat}{rv:Value}{xs:List Value}(hr:W.ownsRow n0 3 1 rv n xs)(hb:Below W.heap.size W W6)(a b c:Int)(hn:n≤1000000)(h0:n0≤W.heap.size) :
   ∃ gg cap' W7,(Builtin.append_ #[103,103] 103 #[rv,.slice (some ⟨W6.heap.size,0,none⟩) 3 3]).run Tryz.prog (W6.alloc (.cells #[.int .i64 a,.int .i64 b,.int .i64 c] 3))=.ok (.slice (some ⟨gg,0,none⟩) (n+3) cap') W7 ∧
     W7.ownsRow n0 3 1 (.slice (some ⟨gg,0,none⟩) (n+3) cap') (n+3) (xs++[.int .i64 a,.int .i64 b,.int .i64 c])∧(W6.alloc (.cells #[.int .i64 a,.int .i64 b,.int .i64 c] 3)).grownBy W7 rv.ownBlock:=by
 obtain ⟨i0,hi0,hz0,hz1,hz2⟩:=info_parts info3
 have hB:Below W.heap.size W (W6.alloc (.cells #[.int .i64 a,.int .i64 b,.int .i64 c] 3)):=hb.trans ((alloc_below W6 _).mono hb.size)
 obtain ⟨v',w',hrun,r1,r2,r3,r4⟩:=run_append_own_at (P:=Tryz.prog) (W6.alloc (.cells #[.int .i64 a,.int .i64 b,.int .i64 c] 3)) n0 103 103 3 i0 _ 1 8 Tryz.underlying103 hi0 hz0 hz1 hz2 rfl (by decide) rv _ _ (ints_later hr hB) ⟨W6.heap.size,0,none⟩ 3 3 [.int .i64 a,.int .i64 b,.int .i64 c] rfl
   (World.news_of_block (cs:=#[.int .i64 a,.int .i64 b,.int .i64 c]) (t:=3) (fr:=(0,0)) (heap_alloc_new _ _)) (fun u hu=>by simp at hu;rcases hu with rfl|rfl|rfl <;> rfl) (by unfold maxLen;omega) (by omega) (Nat.le_trans h0 hB.size)
 rcases r1.2 with ⟨rfl,h0⟩|⟨gg,cap',cur,rfl,_⟩
 · omega
 · exact ⟨gg,cap',w',hrun,r1,r2⟩
theorem sum_le:∀ (l:List Nat) (b:Nat),(∀ x∈l,x≤b)→∀ k,(l.take k).sum≤b*l.length
 | [],b,_,k=>by simp
 | x :: l,b,h,0=>by simp
 | x :: l,b,h,k+1=>by
   have h1:=sum_le l b (fun y hy=>h y (by simp [hy])) k
   have h2:=h x (by simp)
   rw [List.take_succ_cons,List.sum_cons,List.length_cons,Nat.mul_succ]
   omega
theorem sum_any{n0:Nat}(l:List Nat)(hl:l.length≤100000)(hb:∀ x∈l,x≤1000000)(rv:Value)(w:World)(hr:w.ownsRow n0 3 1 rv l.length (l.map intV)) :
   Calls Tryz.prog 64 #[rv] w fun e w'=>e=.returned (.int .i64 (l.sum:Nat))∧w'=w:=by
 have hform:∃ A cap,rv=.slice A l.length cap∧∀ i x,l[i]?=some x→∃ g,A=some ⟨g,0,none⟩∧w.cell? ⟨g,i,none⟩=some (intV x):=by
   have hO:=hr
   rcases hr.2 with ⟨rfl,h0⟩|⟨g,cap,cur,rfl,_,hg,hlc,hm,_⟩
   · have:l=[]:=List.eq_nil_of_length_eq_zero h0
     subst this
     exact ⟨none,0,rfl,fun i x hx=>by simp at hx⟩
   · refine ⟨some ⟨g,0,none⟩,cap,rfl,fun i x hx=>⟨g,rfl,?_⟩⟩
     obtain ⟨hi,_⟩:=List.getElem?_eq_some_iff.1 hx
     rw [World.ownsRow.cellAt (base:=n0) (e:=3) (size:=1) (g:=g) (n:=l.length) (cap:=cap) (xs:=l.map intV) hO i (by omega),List.getElem?_map,hx]
     rfl
 obtain ⟨A,cap,rfl,hc⟩:=hform
 have HC:=Lib.hid hc
 have HS:=Lib.hid (fun k=>sum_le l 1000000 hb k)
 have HT:=Lib.hid (fun k x (h:l[k]?=some x)=>show (l.take (k+1)).sum=(l.take k).sum+x from by
   obtain ⟨hk,he⟩:=List.getElem?_eq_some_iff.1 h
   rw [List.take_succ_eq_append_getElem hk,List.sum_append,he]
   simp)
 have HALL:=Lib.hid (show (l.take l.length).sum=l.sum by rw [List.take_length])
 clear hc hb hr
 go_enter Tryz.func64,Tryz.ntmps64
 go_wp2
 go_loopw [3,8] (fun s i wr=>∃ (k:Nat),i=.int .i64 k∧k≤l.length∧s=.int .i64 ((l.take k).sum:Nat)∧wr=w) (fun _ i _=>l.length-(intOf i).toNat)
 case atStart=>exact ⟨0,rfl,by omega,rfl,rfl⟩
 case round =>
   obtain ⟨k,rfl,hk,rfl,rfl⟩:=hrel
   have hle:=HS.out k
   by_cases hlt:k<l.length
   · have hx:l[k]?=some l[k]:=List.getElem?_eq_getElem hlt
     have hle2:=HS.out (k+1)
     have hst:=HT.out k _ hx
     rw [hst] at hle2
     have HST:=Lib.hid hst
     obtain ⟨g,rfl,g0⟩:=HC.out k _ hx
     unfold intV at g0
     generalize l[k]=x at *
     generalize (l.take k).sum=m at *
     have hk2:(k:Int)<l.length:=by omega
     clear hx hst
     go_wp2_with fail
     exact ⟨⟨k+1,by go_num,hlt,by rw [HST.out];simp,trivial⟩,by simp [intOf];omega⟩
   · obtain rfl:k=l.length:=by omega
     rw [HALL.out] at *
     go_wp2
     go_ret
     exact ⟨rfl,rfl⟩
theorem wp_append_at{P:Program}{o:Oper}{a:Act}{w w':World}{K:Act→World→Prop}{Q:Exit→Act→World→Prop}{v xv v':Value}(s x:Operand)(t u:TypeId)
   (ho:o.op=Op.call { callee:=Callee.builtin Builtin.append,args:=#[s,x],argTypes:=#[t,u] }) (hs:a.eval s=v) (hx:a.eval x=xv) (hrun:(Builtin.append_ #[t,u] o.type #[v,xv]).run P w=.ok v' w')
   (h:K (a.put o.dst v') w'):o.wp P a w K Q:=by
 unfold Oper.wp
 simp [execOp,ho,resolve,invoke,builtin,hs,hx,hrun,Result.andThen]
 exact h
theorem szI_le{x:It}(h1:x.key.size≤64)(h2:x.E.length≤1000)(h3:∀ e∈x.E,e.1.size≤64):∀ n∈szI x,n≤1000000:=by
 intro n hn
 unfold szI at hn
 simp only [List.mem_cons,List.not_mem_nil,or_false] at hn
 rcases hn with rfl|rfl|rfl
 · omega
 · omega
 · have:=szS_le (isL:=x.isL) h2 h3 x.E.length
   rw [List.take_length] at this
   omega
theorem szAll_take{L:List Th}{i:Nat}{t:Th}(h:L[i]?=some t):szAll (itl (L.take (i+1)))=szAll (itl (L.take i))++szI t.toIt:=by
 obtain ⟨hi,he⟩:=List.getElem?_eq_some_iff.1 h
 unfold szAll itl
 rw [List.take_succ_eq_append_getElem hi,he,List.map_append,List.flatMap_append]
 simp
theorem szAll_len(L:List Th):(szAll (itl L)).length=1+3*L.length:=by
 unfold szAll itl
 induction L with
 | nil=>rfl
 | cons a r ih =>
   simp only [List.map_cons,List.flatMap_cons,List.length_cons,List.length_append] at ih ⊢
   simp only [szI,List.length_cons,List.length_nil]
   omega
theorem op_do{P:Program}{md:Region.Mode}{ops:Array Oper}{Q:Exit→Act→World→Prop}{S:World→Prop}{fuel:Nat}{l:Array Bool}{i:Nat}{o:Oper}{a:Act}{w:World}(ho:ops[i]?=some o)(hw:Region.wanted o (yielded ops a.tmps)=true)
   (h:∀ K':Act→World→Prop,(∀ a' w',S w'→wpAnyH P md ops Q S fuel l a' w'→K' a' w')→o.wp P a w K' Q):wpOp P ops Q i (fun a' w'=>S w'∧wpAnyH P md ops Q S fuel l a' w') a w:=by
 unfold wpOp
 simp only [ho]
 rw [if_pos hw]
 exact .inl (h _ fun _ _ h1 h2=>⟨h1,h2⟩)
def SizeEnd(w:World)(B F:Nat)(L:List Th)(i:Nat)(W W':World):Prop:=KeepsFrom B W W'∧Zr.KeepC [F] W W'∧∃ rv,Below w.heap.size w W'∧Blk W' F 103 #[rv]∧W'.ownsRow w.heap.size 3 1 rv (szAll (itl (L.take (i+1)))).length ((szAll (itl (L.take (i+1)))).map intV)
def SizeAt(F:Nat)(t:Th)(a:Act):Prop:=∃ u0 u1 u2 u6 u7 u8 u9 u10 u11 u12 u13 u14 u15 u16 u17 u18 u19 u20 u21 u22 u23 u24,a={ tmps:=#[u0,u1,u2,.pointer (some ⟨F,0,none⟩),.string t.key,ptrT t,u6,u7,u8,u9,u10,u11,u12,u13,u14,u15,u16,u17,u18,u19,u20,u21,u22,u23,u24],defers:=[] }
section
variable {w:World} {p c sd:Nat} {S:Nat→Prop} {en mn:Int} {L:List Th}
theorem st_Size(h:SpSt w p en mn sd c L S)(hc:c≤1000):Calls Tryz.prog 19 #[.pointer (some ⟨p,0,none⟩)] w fun e w'=>e=.returned (.int .i64 (sizeI (itl L):Nat))∧Below w.heap.size w w':=by
 have hlen:=h.len
 have HA:=fun W=>Lib.hid (all_any p W)
 have HH:=Lib.hid h
 have HSM:=Lib.hid (fun rv W (hr:W.ownsRow w.heap.size 3 1 rv (szAll (itl L)).length ((szAll (itl L)).map intV))=>sum_any (szAll (itl L)) (by rw [szAll_len];omega) (fun x hx=>by
   unfold szAll at hx
   rcases List.mem_cons.1 hx with rfl|hx
   · omega
   · obtain ⟨y,hy,hx⟩:=List.mem_flatMap.1 hx
     obtain ⟨t,ht,rfl⟩:=List.mem_map.1 hy
     obtain ⟨d,SD,rv,sh,g,_⟩:=h
     have hg:=(g.set t ht).good
     exact szI_le (g.ksz t ht) (Nat.le_trans hg.len hc) (fun e he=>(hg.each e he).1) x hx) rv W hr)
 clear h
 refine (callsIn_wide (n:=6)).1 (callsIn_of_wp_marks Tryz.func19 rfl trivial ?_ rfl)
 refine wpIn_wide.2 ?_
 simp only [Tryz.ntmps19,List.size_toArray,List.length_cons,List.length_nil,Nat.reduceAdd,Nat.reduceSub,Array.replicate_succ,Array.replicate_zero,List.push_toArray,List.append_toArray,List.nil_append,List.cons_append]
 obtain ⟨F,hF⟩:∃ F,F=w.heap.size+1:=⟨_,rfl⟩
 have hb1:=alloc_below w (.cells #[.int .i64 64] 3)
 have hb2:=hb1.trans ((alloc_below (w.alloc (.cells #[.int .i64 64] 3)) (.cells #[.slice (some ⟨w.heap.size,0,none⟩) 1 1] 103)).mono hb1.size)
 have kF:Blk ((w.alloc (.cells #[.int .i64 64] 3)).alloc (.cells #[.slice (some ⟨w.heap.size,0,none⟩) 1 1] 103)) F 103 #[.slice (some ⟨w.heap.size,0,none⟩) 1 1]:=by
   have:=Blk.new (w.alloc (.cells #[.int .i64 64] 3)) 103 #[.slice (some ⟨w.heap.size,0,none⟩) 1 1]
   rw [World.size_alloc,← hF] at this
   exact this
 have hr0:((w.alloc (.cells #[.int .i64 64] 3)).alloc (.cells #[.slice (some ⟨w.heap.size,0,none⟩) 1 1] 103)).ownsRow w.heap.size 3 1 (.slice (some ⟨w.heap.size,0,none⟩) 1 1) 1 [intV 64] :=
   ⟨rfl,.inr ⟨w.heap.size,1,#[intV 64],rfl,Nat.le_refl _,(Blk.new w 3 #[intV 64]).alloc _,Nat.le_refl _,by decide,rfl,rfl⟩⟩
 go_wp2_with fail
 generalize (w.alloc (.cells #[.int .i64 64] 3)).alloc (.cells #[.slice (some ⟨w.heap.size,0,none⟩) 1 1] 103)=w2 at *
 rw [← hF]
 refine (HA _).out.mono ?_
 rintro e w3 ⟨bx,rfl,hbx,hbl,hb3⟩
 have hB3:=hb2.trans (hb3.mono hb2.size)
 have kF3:=kF.later hb3
 have hr3:=ints_later hr0 hb3
 have hseq:Zr.SeqX Tryz.prog 102 #[.pointer (some ⟨bx,0,none⟩)] encT L [F] w3:=by
   obtain ⟨d,SD,rv,sh,g,_,_,hS⟩:=HH.out
   have g3:=g.later hB3
   exact all_seq L (by omega) rv p d sd en mn bx [F] w3 hbx g3.blk g3.row g3.th (fun j hj e=>by
     obtain rfl:j=F:=by simpa using hj
     have:=g.lt (.inr (.inl e));omega) (fun j hj t ht e=>by
     obtain rfl:j=F:=by simpa using hj
     have:=g.lt (.inr (.inr (.inr ⟨t,ht,.inl e.symm⟩)));omega)
 have HLE:=Lib.hid hlen
 have HFL:=Lib.hid hF
 clear hbx hbl hb3 hb1 hb2 hr0 kF HA hF hlen
 go_wp2_with fail
 refine (wpIn_wide (n:=6)).1 (Zr.range_x (gf:=102) (lb:=#[.pointer (some ⟨bx,0,none⟩)]) (encs:=encT) (xs:=L) (L:=[F]) rfl (enters_of Tryz.func102 (by kernel_rfl) rfl) hseq (fun _ _=>rfl)
   (fun i W=>∃ rv,Below w.heap.size w W∧Blk W F 103 #[rv]∧W.ownsRow w.heap.size 3 1 rv (szAll (itl (L.take i))).length ((szAll (itl (L.take i))).map intV))
   (fun _ _ _=>False)
   ?hI ?hIx ?h0 (fun _ t a' _=>SizeAt F t a') (fun _ _ _=>own_pure _ _) ?assign ?body ?done ?stop)
 case hI=>exact own_ex fun rv=>(own_below _ w (by have:=hB3.size;omega)).and ((own_blk _ _ _ _).and (own_gen _ _ _ _ _))
 case hIx=>exact fun c=>own_pure _ _
 case h0=>exact ⟨_,hB3,kF3,hr3⟩
 case assign =>
   rintro l i t W K hx' hI hK
   clear hseq
   unfold encT
   gi_wp2
   exact hK _ _ ⟨Nat.le_refl _,fun _ _ _ h _=>h⟩ (Zr.KeepC.refl _ _) hI ⟨_,_,_,_,_,_,_,_,_,_,_,_,_,_,_,_,_,_,_,_,_,_,rfl⟩
 case body =>
   rintro l i t a' W hx' ⟨rv,hb,q0,hr⟩ ⟨u0,u1,u2,u6,u7,u8,u9,u10,u11,u12,u13,u14,u15,u16,u17,u18,u19,u20,u21,u22,u23,u24,rfl⟩
   clear hseq
   have ht:=List.mem_of_getElem? hx'
   have hd:Below w.heap.size w W.drew:=hb.drew
   obtain ⟨hq,hset⟩:=(HH.out.later hd).th ht
   have HBY:=Lib.hid (set_bytes hset)
   have hst:=szAll_take hx'
   have hlen:(szAll (itl (L.take i))).length≤100000:=by
     rw [szAll_len,List.length_take]
     have:=HLE.out;omega
   have hmx:Tryz.prog.follows .mixedOrders=true:=by kernel_rfl
   have hFlt:=hq.lt
   have S0:W.drew.cell? ⟨t.q,0,none⟩=some (.pointer (some ⟨t.s,0,none⟩)):=by have:=hq.cell 0;simpa [thC] using this
   have d0:W.drew.cell? ⟨F,0,none⟩=some rv:=q0.drew.cell 0
   have hne:t.q≠F:=fun e=>by rw [e] at hq;exact absurd (hq.ty q0.drew) (by decide)
   have hro:∀ k,rv.ownBlock=some k→k≠F∧k≠t.q:=fun k hk=>by
     obtain ⟨cc,hc⟩:=ints_blk hr hk
     exact ⟨fun e=>by rw [e] at hc;exact absurd (hc.ty q0) (by decide),fun e=>by rw [e] at hc;exact absurd (hc.ty (show Blk W t.q tyTh _ from hq)) (by decide)⟩
   have HRUN:=Lib.hid (fun w5 (hb5:Below W.drew.heap.size W.drew w5)=>show
       Hid (w5.cell? ⟨t.q,0,none⟩=some (.pointer (some ⟨t.s,0,none⟩)))∧Hid (w5.cell? ⟨F,0,none⟩=some rv) ∧
       Hid ((w5.alloc (.cells #[.int .i64 48,.int .i64 t.key.size,.int .i64 (szS t.isL t.E)] 3)).cell? ⟨t.q,0,none⟩=some (.pointer (some ⟨t.s,0,none⟩)))∧Hid ((w5.alloc (.cells #[.int .i64 48,.int .i64 t.key.size,.int .i64 (szS t.isL t.E)] 3)).cell? ⟨F,0,none⟩=some rv) ∧
       ∃ gg cap' W7,(Builtin.append_ #[103,103] 103 #[rv,.slice (some ⟨w5.heap.size,0,none⟩) 3 3]).run Tryz.prog (w5.alloc (.cells #[.int .i64 48,.int .i64 t.key.size,.int .i64 (szS t.isL t.E)] 3))=.ok (.slice (some ⟨gg,0,none⟩) ((szAll (itl (L.take i))).length+3) cap') W7 ∧
         Hid (SizeEnd w w3.heap.size F L i W (W7.setCell ⟨F,0,none⟩ (.slice (some ⟨gg,0,none⟩) ((szAll (itl (L.take i))).length+3) cap')))∧W7.cell? ⟨F,0,none⟩=some rv∧W7.frozen? ⟨F,0,none⟩=false ∧
         Hid (W7.cell? ⟨t.q,0,none⟩=some (.pointer (some ⟨t.s,0,none⟩)))∧Hid ((W7.setCell ⟨F,0,none⟩ (.slice (some ⟨gg,0,none⟩) ((szAll (itl (L.take i))).length+3) cap')).cell? ⟨t.q,0,none⟩=some (.pointer (some ⟨t.s,0,none⟩))) from by
     have hb5':Below W.heap.size W w5:=(Below.refl W.heap.size W).drew.trans hb5
     obtain ⟨gg,cap',W7,hrun,hr7,hg7⟩:=app_ints hr hb5' 48 t.key.size (szS t.isL t.E) (by omega) hb.size
     have hb6:=hb5'.trans ((alloc_below w5 (.cells #[.int .i64 48,.int .i64 t.key.size,.int .i64 (szS t.isL t.E)] 3)).mono hb5'.size)
     have k5:=hq.later hb5
     have kF5:=q0.later hb5'
     have kF6:=q0.later hb6
     have k6:=k5.alloc (.cells #[.int .i64 48,.int .i64 t.key.size,.int .i64 (szS t.isL t.E)] 3)
     have kF7:Blk W7 F 103 #[rv]:=(hg7.block F kF6.lt fun e=>(hro F e.symm).1 rfl).trans kF6
     have k7:Blk W7 t.q tyTh (thC t.s t.toIt):=(hg7.block t.q k6.lt fun e=>(hro t.q e.symm).2 rfl).trans k6
     have cq:∀ {V:World},Blk V t.q tyTh (thC t.s t.toIt)→V.cell? ⟨t.q,0,none⟩=some (.pointer (some ⟨t.s,0,none⟩)):=fun h=>by have:=h.cell 0;simpa [thC] using this
     refine ⟨Lib.hid (cq k5),Lib.hid (kF5.cell 0),Lib.hid (cq k6),Lib.hid (kF6.cell 0),gg,cap',W7,hrun,Lib.hid ?_,kF7.cell 0,kF7.free 0,Lib.hid (cq k7),Lib.hid (cq (k7.setOther 0 _ hne))⟩
     have hgb:Below w.heap.size w W7:=(hb.trans (hb6.mono hb.size)).grown hg7 (Nat.le_trans hb.size hb6.size) fun k e=>(hr.lt k e).1
     refine ⟨(KeepsFrom.of_grownBy (row:=none) (below_grown hb6) fun _ h=>by cases h).trans ((show KeepsFrom w3.heap.size _ W7 from ⟨hg7.size,fun k o hk ho hcc=>(hg7.block k (Array.getElem?_eq_some_iff.1 ho).1 fun e=>?_).trans ho⟩).trans ((KeepsOthers.setCell _ _ _).from _)),
       (Zr.KeepC.of_below hb6).trans ((Zr.KeepC.of_grownBy hg7 fun k cc ty e hk=>?_).trans (Zr.KeepC.set _ _ _ _ (by simp))),_,hgb.setCell (p:=⟨F,0,none⟩) (by have:=HFL.out;simp only;omega) _,kF7.set 0 _,?_⟩
     · obtain ⟨cc,hc6⟩:=ints_blk (ints_later hr hb6) e.symm
       rw [show (w5.alloc _).heap[k]?=_ from hc6] at ho
       cases ho
       cases hcc
     · obtain ⟨c2,hc6⟩:=ints_blk (ints_later hr hb6) e
       rw [show (w5.alloc _).heap[k]?=_ from hc6] at hk
       cases hk
       unfold Zr.itT
       decide
     · rw [hst,List.length_append,List.map_append]
       exact ints_keep hr7 fun k hk=>Below.heap_setCell _ _ _ _ fun e=>by
         obtain ⟨cc,hc7⟩:=ints_blk hr7 hk
         rw [show k=F from e] at hc7
         exact absurd (hc7.ty kF7) (by decide))
   clear hx' hb q0 hr ht hd hq hset hst hlen hFlt hne hro
   unfold ptrT
   gi_wp2_with fail
   refine wpIn_mono (Q:=fun (e:Exit) (_:Act) W'=>e=.normal∧SizeEnd w w3.heap.size F L i W W') ?_ ?_
   · have hL:¬ LetsOut (fun (e:Exit) (_:Act) W'=>e=.normal∧SizeEnd w w3.heap.size F L i W W'):=fun ⟨_,_,h⟩=>by cases h.1
     refine wpIn_region_any hmx (Sched.wpAnyIn_of (by kernel_rfl) hL _ _ _ _ (wpAny_of_held (S:=fun V=>V.cell? ⟨t.q,0,none⟩=some (.pointer (some ⟨t.s,0,none⟩))) _ _ _ _ ?_))
     change wpAnyH _ _ _ _ _ _ _ _ (World.drew _)
     refine wpAnyH_take (i:=1) (v:=.string t.key) rfl (by kernel_rfl) (by decide +kernel) (by decide +kernel) (fun _ _ _ h=>h) (.inl ⟨by rfl,fun W' hS=>by go_simp⟩) S0 ?_
     simp only [Act.put,List.setIfInBounds_toArray]
     refine wpAnyH_take (i:=2) (v:=.int .i64 t.key.size) rfl (by kernel_rfl) (by decide +kernel) (by decide +kernel) (fun _ _ _ h=>h) (.inl ⟨by rfl,fun W' hS=>by go_simp⟩) S0 ?_
     simp only [Act.put]
     refine wpAnyH_take (i:=3) (v:=.pointer (some ⟨t.q,0,none⟩)) rfl (by kernel_rfl) (by decide +kernel) (by decide +kernel) (fun _ _ _ h=>h) (.inl ⟨by rfl,fun W' hS=>by go_simp⟩) S0 ?_
     simp only [Act.put]
     refine wpAnyH_take (i:=4) (v:=.pointer (some ⟨t.q,0,none⟩)) rfl (by kernel_rfl) (by decide +kernel) (by decide +kernel) (fun _ _ _ h=>h) (.inl ⟨by rfl,fun W' hS=>by go_simp⟩) S0 ?_
     simp only [Act.put]
     refine wpAnyH_take (i:=5) (v:=.pointer (some ⟨t.q,0,none⟩)) rfl (by kernel_rfl) (by decide +kernel) (by decide +kernel) (fun _ _ _ h=>h) (.inl ⟨by rfl,fun W' hS=>by go_simp⟩) S0 ?_
     simp only [Act.put]
     refine wpAnyH_take (i:=6) (v:=.pointer (some ⟨t.s,0,none⟩)) rfl (by kernel_rfl) (by decide +kernel) (by decide +kernel) (fun _ _ _ h=>h) (.inl ⟨by rfl,fun W' hS=>by go_simp⟩) S0 ?_
     simp only [Act.put]
     refine wpAnyH_all (rs:=[0,7]) (by decide +kernel) (by simp) ?_
     intro i hi
     simp only [List.mem_cons,List.not_mem_nil,or_false] at hi
     rcases hi with rfl|rfl
     · refine op_do rfl (by rfl) fun K' hK=>?_
       go_simp
       refine hK _ _ (by first|exact S0|exact HS5.out|exact HS6.out) ?_
       clear hK K'
       refine wpAnyH_all (rs:=[7]) (by decide +kernel) (by simp) ?_
       intro i hi
       rw [List.mem_singleton] at hi
       subst hi
       refine op_do rfl (by rfl) fun K' hK=>?_
       go_simp
       go_at_call 31
       refine HBY.out.mono ?_
       rintro e w5 ⟨rfl,hb5⟩
       obtain ⟨HS5,HF5,HS6,HF6,gg,cap',W7,hrun,HEND,c7,f7,HS7,HS8⟩:=HRUN.out w5 hb5
       have c5:=HF5.out
       have c6:=HF6.out
       clear hb5 HRUN HBY
       refine hK _ _ HS5.out ?_
       clear hK K'
       refine wpAnyH_all (rs:=[8]) (by decide +kernel) (by simp) ?_
       intro i hi
       rw [List.mem_singleton] at hi
       subst hi
       refine op_do rfl (by rfl) fun K' hK=>?_
       go_simp
       refine hK _ _ HS6.out ?_
       clear hK K'
       refine wpAnyH_all (rs:=[9]) (by decide +kernel) (by simp) ?_
       intro i hi
       rw [List.mem_singleton] at hi
       subst hi
       refine op_do rfl (by rfl) fun K' hK=>?_
       refine wp_append_at _ _ 103 103 rfl rfl rfl hrun ?_
       refine hK _ _ HS7.out ?_
       clear hK K'
       simp only [Act.put,List.setIfInBounds_toArray]
       refine wpAnyH_all (rs:=[10]) (by decide +kernel) (by simp) ?_
       intro i hi
       rw [List.mem_singleton] at hi
       subst hi
       refine op_do rfl (by rfl) fun K' hK=>?_
       go_simp
       refine hK _ _ HS8.out ?_
       clear hK K'
       exact wpAnyH_done (by decide +kernel) ⟨rfl,HEND.out⟩ _
     · refine op_do rfl (by rfl) fun K' hK=>?_
       go_simp
       go_at_call 31
       refine HBY.out.mono ?_
       rintro e w5 ⟨rfl,hb5⟩
       obtain ⟨HS5,HF5,HS6,HF6,gg,cap',W7,hrun,HEND,c7,f7,HS7,HS8⟩:=HRUN.out w5 hb5
       have c5:=HF5.out
       have c6:=HF6.out
       clear hb5 HRUN HBY
       refine hK _ _ HS5.out ?_
       clear hK K'
       refine wpAnyH_all (rs:=[0,8]) (by decide +kernel) (by simp) ?_
       intro i hi
       simp only [List.mem_cons,List.not_mem_nil,or_false] at hi
       rcases hi with rfl|rfl
       · refine op_do rfl (by rfl) fun K' hK=>?_
         go_simp
         refine hK _ _ (by first|exact S0|exact HS5.out|exact HS6.out) ?_
         clear hK K'
         refine wpAnyH_all (rs:=[8]) (by decide +kernel) (by simp) ?_
         intro i hi
         rw [List.mem_singleton] at hi
         subst hi
         refine op_do rfl (by rfl) fun K' hK=>?_
         go_simp
         refine hK _ _ HS6.out ?_
         clear hK K'
         refine wpAnyH_all (rs:=[9]) (by decide +kernel) (by simp) ?_
         intro i hi
         rw [List.mem_singleton] at hi
         subst hi
         refine op_do rfl (by rfl) fun K' hK=>?_
         refine wp_append_at _ _ 103 103 rfl rfl rfl hrun ?_
         refine hK _ _ HS7.out ?_
         clear hK K'
         simp only [Act.put,List.setIfInBounds_toArray]
         refine wpAnyH_all (rs:=[10]) (by decide +kernel) (by simp) ?_
         intro i hi
         rw [List.mem_singleton] at hi
         subst hi
         refine op_do rfl (by rfl) fun K' hK=>?_
         go_simp
         refine hK _ _ HS8.out ?_
         clear hK K'
         exact wpAnyH_done (by decide +kernel) ⟨rfl,HEND.out⟩ _
       · refine op_do rfl (by rfl) fun K' hK=>?_
         go_simp
         refine hK _ _ HS6.out ?_
         clear hK K'
         refine wpAnyH_all (rs:=[0]) (by decide +kernel) (by simp) ?_
         intro i hi
         rw [List.mem_singleton] at hi
         subst hi
         refine op_do rfl (by rfl) fun K' hK=>?_
         go_simp
         refine hK _ _ (by first|exact S0|exact HS5.out|exact HS6.out) ?_
         clear hK K'
         refine wpAnyH_all (rs:=[9]) (by decide +kernel) (by simp) ?_
         intro i hi
         rw [List.mem_singleton] at hi
         subst hi
         refine op_do rfl (by rfl) fun K' hK=>?_
         refine wp_append_at _ _ 103 103 rfl rfl rfl hrun ?_
         refine hK _ _ HS7.out ?_
         clear hK K'
         simp only [Act.put,List.setIfInBounds_toArray]
         refine wpAnyH_all (rs:=[10]) (by decide +kernel) (by simp) ?_
         intro i hi
         rw [List.mem_singleton] at hi
         subst hi
         refine op_do rfl (by rfl) fun K' hK=>?_
         go_simp
         refine hK _ _ HS8.out ?_
         clear hK K'
         exact wpAnyH_done (by decide +kernel) ⟨rfl,HEND.out⟩ _
   · rintro e a' W' ⟨rfl,hend⟩
     exact hend
 case done =>
   rintro D W hD ⟨rv,hb,q0,hr⟩ hK
   rw [List.take_length] at hr
   clear hseq
   have HSW:=Lib.hid (HSM.out rv W hr)
   obtain ⟨c1,c2⟩:=facts1 q0
   have HK:=Lib.hid hK
   have HB:=Lib.hid hb
   clear hK q0 hb hr
   simp only [Exit.inBlock,Exit.then]
   go_wp2_with fail
   refine HSW.out.mono ?_
   rintro e W1 ⟨rfl,rfl⟩
   go_wp2_with fail
   exact Zr.leave (v:=.int .i64 (sizeI (itl L):Nat)) rfl HK.out (by simp [results,Tryz.results19,go_sem,sizeI]) ⟨rfl,below_put HB.out (Nat.le_trans hB3.size hD) _⟩
 case stop =>
   rintro D c j W hD hI hK
   exact hI.elim
end
theorem atR_get{R:List Rt}{k:ByteArray}(h:0≤atR R k):∃ i x,atR R k=(i:Nat)∧R[i]?=some x∧x.key=k∧i<R.length:=by
 cases hf:R.findIdx? (fun x=>decide (x.key=k)) with
 | none =>
   have e:atR R k=-1:=by unfold atR;rw [hf]
   omega
 | some i =>
   have e:atR R k=i:=by unfold atR;rw [hf]
   obtain ⟨hi,hk,_⟩:=List.findIdx?_eq_some_iff_getElem.1 hf
   exact ⟨i,R[i],e,List.getElem?_eq_getElem hi,by simpa using hk,hi⟩
theorem atR_neg{R:List Rt}{k:ByteArray}(h:¬ 0≤atR R k):atR R k=-1∧∀ x∈R,x.key≠k:=by
 cases hf:R.findIdx? (fun x=>decide (x.key=k)) with
 | none=>exact ⟨by unfold atR;rw [hf],fun x hx=>by simpa using List.findIdx?_eq_none_iff.1 hf x hx⟩
 | some i =>
   have e:atR R k=i:=by unfold atR;rw [hf]
   omega
def madeR(R:List Rt)(k:ByteArray)(now:Int):Int:=if 64<k.size then 140 else if 0≤atR R k then 0 else if now<0 then 130 else if 500≤R.length then 51 else 0
def RMake(R:List Rt)(k:ByteArray)(now:Int)(a:Option Addr)(R':List Rt):Prop :=
 (madeR R k now≠0∧a=none∧R'=R)∨(madeR R k now=0∧k.size≤64∧∃ x∈R',x.key=k∧a=some ⟨x.r,0,none⟩∧((x∈R∧R'=R)∨(¬ 0≤atR R k∧0≤now∧R.length<500∧R'=withR R k [x]∧x.toIt=⟨k,5,now,false,[]⟩)))
section
variable {w w1 w':World} {rp sd:Nat} {u:Value} {en mn mx:Int} {R R':List Rt} {S:Nat→Prop}
theorem ref_Make(h:RefSp w rp en mn sd mx R S)(hz:∀ x∈R,x.key.size≤281474976710656)(k:ByteArray)(hk:k.size≤281474976710656)(now:Int) :
   Calls Tryz.prog 50 #[.pointer (some ⟨rp,0,none⟩),.string k,.int .i64 now] w fun e w'=>∃ a R',e=.returned (.tuple #[.pointer a,.int .i64 (madeR R k now)])∧RefNow w rp en mn sd mx S R' w'∧RMake R k now a R':=by
 have HA:=Lib.hid (ref_At h k)
 have HN:=fun W=>Lib.hid (Lf.refNew_any now W)
 have HS:=Lib.hid (fun W hb=>RefNow.same (w':=W) h hb)
 obtain ⟨rv,hb,ho,hl,hs,hrs,hS⟩:=h.keys
 have HB:=Lib.hid hb
 by_cases h64:64<k.size
 · have hm:madeR R k now=140:=by unfold madeR;rw [if_pos h64]
   have h64i:(64:Int)<k.size:=by omega
   have HM:=Lib.hid (show RMake R k now none R from .inl ⟨by rw [hm];decide,rfl,rfl⟩)
   rw [hm]
   clear hm h hb ho hs hrs hS hz HA HN HB
   go_enter Tryz.func50,Tryz.ntmps50
   go_wp2_with fail
   go_ret2
   exact ⟨none,R,rfl,HS.out _ (Below.refl _ _),HM.out⟩
 have h64i:(k.size:Int)≤64:=by omega
 by_cases hat:0≤atR R k
 · have hm:madeR R k now=0:=by unfold madeR;rw [if_neg h64,if_pos hat]
   obtain ⟨i,x,hi,hx,hxk,hil⟩:=atR_get hat
   have HM:=Lib.hid (show RMake R k now (some ⟨x.r,0,none⟩) R from .inr ⟨hm,by omega,x,List.mem_of_getElem? hx,hxk,rfl,.inl ⟨List.mem_of_getElem? hx,rfl⟩⟩)
   obtain ⟨g,cap,rfl,_,g1,_⟩:=ho.cells hx
   have c0:=hb.cell 0
   have hil2:(i:Int)<R.length:=by omega
   simp at c0
   rw [hm]
   rw [hi] at HA
   clear hm h hb ho hs hrs hS hz HN HB hxk hat hi hx
   go_enter Tryz.func50,Tryz.ntmps50
   go_wp2_with fail
   refine HA.out.mono ?_
   rintro e w1 ⟨rfl,rfl⟩
   go_wp2_with fail
   go_ret2
   exact ⟨_,R,rfl,HS.out _ (Below.refl _ _),HM.out⟩
 · obtain ⟨hat1,hno⟩:=atR_neg hat
   rw [hat1] at HA
   by_cases hnow:now<0
   · have hm:madeR R k now=130:=by unfold madeR;rw [if_neg h64,if_neg hat,if_pos hnow]
     have HM:=Lib.hid (show RMake R k now none R from .inl ⟨by rw [hm];decide,rfl,rfl⟩)
     rw [hm]
     simp only [if_neg (show ¬ 0≤now by omega)] at HN
     clear hm h hb ho hs hrs hS hz HB hat hat1 hno
     go_enter Tryz.func50,Tryz.ntmps50
     go_wp2_with fail
     refine HA.out.mono ?_
     rintro e w1 ⟨rfl,rfl⟩
     go_wp2_with fail
     refine (HN w1).out.mono ?_
     rintro e w2 ⟨rfl,hb2⟩
     have HX:=Lib.hid ((HS.out w2 hb2).later (alloc_below w2 (.cells #[.int .i64 0,.int .i64 0] 48)))
     clear hb2 HS HN HA
     go_wp2_with fail
     go_ret2
     exact ⟨none,R,rfl,HX.out,HM.out⟩
   · have hnow2:0≤now:=by omega
     simp only [if_pos hnow2] at HN
     obtain ⟨A,cap,rfl,_,_⟩:=ho.form
     by_cases hfull:500≤R.length
     · have hm:madeR R k now=51:=by unfold madeR;rw [if_neg h64,if_neg hat,if_neg hnow,if_pos hfull]
       have HM:=Lib.hid (show RMake R k now none R from .inl ⟨by rw [hm];decide,rfl,rfl⟩)
       have hf2:(500:Int)≤R.length:=by omega
       rw [hm]
       clear hm h hb ho hs hrs hS hz hat hat1 hno
       go_enter Tryz.func50,Tryz.ntmps50
       go_wp2_with fail
       refine HA.out.mono ?_
       rintro e w1 ⟨rfl,rfl⟩
       go_wp2_with fail
       refine (HN w1).out.mono ?_
       rintro e w2 ⟨rfl,hb2⟩
       have HX:=Lib.hid ((HS.out w2 hb2).later (alloc_below w2 (.cells #[.int .i64 5,.int .i64 now] 48)))
       have c0:=((HB.out.later hb2).alloc (.cells #[.int .i64 5,.int .i64 now] 48)).cell 0
       simp at c0
       clear hb2 HS HN HA HB
       go_wp2_with fail
       go_ret2
       exact ⟨none,R,rfl,HX.out,HM.out⟩
     · have hm:madeR R k now=0:=by unfold madeR;rw [if_neg h64,if_neg hat,if_neg hnow,if_neg hfull]
       have hf2:(R.length:Int)<500:=by omega
       have HR:=fun W=>Lib.hid (ref_new en mn _ _ rfl rfl W)
       rw [hm]
       clear hat1
       go_enter Tryz.func50,Tryz.ntmps50
       go_wp2_with fail
       refine HA.out.mono ?_
       rintro e w1 ⟨rfl,rfl⟩
       go_wp2_with fail
       refine (HN w1).out.mono ?_
       rintro e w2 ⟨rfl,hb2⟩
       have c0:=((HB.out.later hb2).alloc (.cells #[.int .i64 5,.int .i64 now] 48)).cell 0
       have c1:=((HB.out.later hb2).alloc (.cells #[.int .i64 5,.int .i64 now] 48)).cell 1
       have c2:=((HB.out.later hb2).alloc (.cells #[.int .i64 5,.int .i64 now] 48)).cell 2
       simp at c0 c1 c2
       have HB2:=Lib.hid hb2
       clear hb2
       go_wp2_with fail
       have K3:=Blk.new w2 48 #[.int .i64 5,.int .i64 now]
       have HB3:=Lib.hid (HB2.out.alloc HB2.out.size (.cells #[.int .i64 5,.int .i64 now] 48))
       generalize w2.alloc (.cells #[.int .i64 5,.int .i64 now] 48)=w3 at *
       refine (HR w3).out.mono ?_
       rintro e w4 ⟨r,rfl,hr,hrc,hb4⟩
       have k4:=K3.later hb4
       obtain ⟨u0,u1,_,_⟩:=facts2 k4
       have hb14:=HB3.out.trans (hb4.mono HB3.out.size)
       have e0:=(HB.out.later hb14).cell 0
       have e1:=((HB.out.later hb14).alloc (.cells #[.string k,.pointer (some ⟨r,0,none⟩),.int .i64 5,.int .i64 now] tyRi)).cell 0
       simp at e0 e1
       clear c0 c1 c2 K3 HR
       go_wp2_with fail
       obtain ⟨x,hx⟩:∃ x:Rt,x=⟨⟨k,5,now,false,[]⟩,r⟩:=⟨_,rfl⟩
       have hb4d:Below w1.heap.size w1 w4.drew:=hb14.drew
       have hb5:Below w1.heap.size w1 (w4.drew.alloc (.cells #[.string k,.pointer (some ⟨r,0,none⟩),.int .i64 5,.int .i64 now] tyRi)):=hb4d.alloc hb4d.size _
       have HWI:=Lib.hid (with_any (X:=[x]) k hk (by omega) hz (w4.drew.alloc (.cells #[.string k,.pointer (some ⟨r,0,none⟩),.int .i64 5,.int .i64 now] tyRi)) (ho.later hb5) (by rw [hx];exact xs_new w4.drew ⟨⟨k,5,now,false,[]⟩,r⟩))
       have hrp:rp<w1.heap.size:=hb.lt
       have hrw:w1.heap.size≤r:=Nat.le_trans HB3.out.size hr
       have hne:w2.heap.size≠rp:=by have:=HB2.out.size;omega
       have k5:Blk (w4.drew.alloc (.cells #[.string k,.pointer (some ⟨r,0,none⟩),.int .i64 5,.int .i64 now] tyRi)) w2.heap.size 48 #[.int .i64 5,.int .i64 now]:=(k4.later (drewB w4 1)).alloc _
       have hrc5:RefC (w4.drew.alloc (.cells #[.string k,.pointer (some ⟨r,0,none⟩),.int .i64 5,.int .i64 now] tyRi)) r [] (clampL en 200) (clampL mn 64) false:=(hrc.later (drewB w4 1)).later (alloc_below w4.drew _)
       have HEND:=Lib.hid (fun w6 u (hb6:Below (w4.drew.alloc (.cells #[.string k,.pointer (some ⟨r,0,none⟩),.int .i64 5,.int .i64 now] tyRi)).heap.size (w4.drew.alloc (.cells #[.string k,.pointer (some ⟨r,0,none⟩),.int .i64 5,.int .i64 now] tyRi)) w6) (hu:OwnR w6 (w4.drew.alloc (.cells #[.string k,.pointer (some ⟨r,0,none⟩),.int .i64 5,.int .i64 now] tyRi)).heap.size u (withR R k [x]))=>show ∃ uA uC,u=.slice uA (withR R k [x]).length uC∧RefNow w1 rp en mn sd mx S (withR R k [x]) (w6.setCell ⟨rp,0,none⟩ u)∧Blk w6 w2.heap.size 48 #[.int .i64 5,.int .i64 now]∧Blk w6 rp tyRs #[.slice A R.length cap,.int .i64 en,.int .i64 mn,.int .u32 sd,.int .i64 mx] from by
         obtain ⟨uA,uC,he,_,_⟩:=hu.form
         have hb16:=hb5.trans (hb6.mono hb5.size)
         refine ⟨uA,uC,he,h.put hb16 (hu.mono hb5.size) ?_ (fun y hy=>?_) (withR_rs hrs (by simp) fun y hy z hz2 _ e=>?_) fun y hy=>?_,k5.later hb6,hb.later hb16⟩
         · have:=withR_len R k [x]
           simp at this
           omega
         · rcases mem_with hy with hy|hy
           · exact (hs y hy).later hb16
           · rw [List.mem_singleton] at hy
             subst hy
             subst hx
             exact hrc5.later hb6
         · rw [List.mem_singleton] at hy
           subst hy
           subst hx
           have h1:=(h.lt (hS z hz2))
           simp only at e
           omega
         · rcases mem_with hy with hy|hy
           · exact .inl (hS y hy)
           · rw [List.mem_singleton] at hy
             subst hy
             subst hx
             exact .inr hrw)
       have HM:=Lib.hid (show RMake R k now (some ⟨r,0,none⟩) (withR R k [x]) from .inr ⟨hm,by omega,x,(withR_perm R k [x]).mem_iff.2 (by simp),by rw [hx],by rw [hx],.inr ⟨by omega,hnow2,by omega,rfl,by rw [hx]⟩⟩)
       have S0:(fun V:World=>V.cell? ⟨w2.heap.size,0,none⟩=some (.int .i64 5)∧V.cell? ⟨w2.heap.size,1,none⟩=some (.int .i64 now)) w4.drew:=⟨u0,u1⟩
       have S5:=Lib.hid (show (w4.drew.alloc (.cells #[.string k,.pointer (some ⟨r,0,none⟩),.int .i64 5,.int .i64 now] tyRi)).cell? ⟨w2.heap.size,0,none⟩=some (.int .i64 5)∧(w4.drew.alloc (.cells #[.string k,.pointer (some ⟨r,0,none⟩),.int .i64 5,.int .i64 now] tyRi)).cell? ⟨w2.heap.size,1,none⟩=some (.int .i64 now) from ⟨k5.cell 0,k5.cell 1⟩)
       clear hx h hb ho hs hrs hS hz HS HN HA HB HB2 HB3 k4 k5 hb4d hb5 hb14 hrc hrc5 hr u0 u1
       refine wp_region_any (by kernel_rfl) (wpAny_of_held (S:=fun V=>V.cell? ⟨w2.heap.size,0,none⟩=some (.int .i64 5)∧V.cell? ⟨w2.heap.size,1,none⟩=some (.int .i64 now)) _ _ _ _ ?_)
       change wpAnyH _ _ _ _ _ _ _ _ (World.drew _)
       refine wpAnyH_take (i:=0) (v:=.pointer (some ⟨rp,0,none⟩)) rfl (by kernel_rfl) (by decide +kernel) (by decide +kernel) (fun _ _ _ h=>h) (.inl ⟨by rfl,fun W' hS=>by go_simp⟩) S0 ?_
       simp only [Act.put]
       refine wpAnyH_take (i:=1) (v:=.pointer (some ⟨rp,0,none⟩)) rfl (by kernel_rfl) (by decide +kernel) (by decide +kernel) (fun _ _ _ h=>h) (.inl ⟨by rfl,fun W' hS=>by go_simp⟩) S0 ?_
       simp only [Act.put]
       refine wpAnyH_take (i:=2) (v:=.pointer (some ⟨rp,0,none⟩)) rfl (by kernel_rfl) (by decide +kernel) (by decide +kernel) (fun _ _ _ h=>h) (.inl ⟨by rfl,fun W' hS=>by go_simp⟩) S0 ?_
       simp only [Act.put]
       refine wpAnyH_take (i:=3) (v:=.pointer (some ⟨rp,0,none⟩)) rfl (by kernel_rfl) (by decide +kernel) (by decide +kernel) (fun _ _ _ h=>h) (.inl ⟨by rfl,fun W' hS=>by go_simp⟩) S0 ?_
       simp only [Act.put]
       refine wpAnyH_take (i:=5) (v:=.string k) rfl (by kernel_rfl) (by decide +kernel) (by decide +kernel) (fun _ _ _ h=>h) (.inl ⟨by rfl,fun W' hS=>by go_simp⟩) S0 ?_
       simp only [Act.put]
       refine wpAnyH_take (i:=6) (v:=.string k) rfl (by kernel_rfl) (by decide +kernel) (by decide +kernel) (fun _ _ _ h=>h) (.inl ⟨by rfl,fun W' hS=>by go_simp⟩) S0 ?_
       simp only [Act.put]
       refine wpAnyH_take (i:=7) (v:=.pointer (some ⟨r,0,none⟩)) rfl (by kernel_rfl) (by decide +kernel) (by decide +kernel) (fun _ _ _ h=>h) (.inl ⟨by rfl,fun W' hS=>by go_simp⟩) S0 ?_
       simp only [Act.put]
       refine wpAnyH_take (i:=8) (v:=.agg #[.int .i64 5,.int .i64 now]) rfl (by kernel_rfl) (by decide +kernel) (by decide +kernel) (fun _ _ _ h=>h) (.inl ⟨by rfl,fun W' hS=>by obtain ⟨s0,s1⟩:=hS;go_simp⟩) S0 ?_
       simp only [Act.put]
       refine wpAnyH_take (i:=9) (v:=.agg #[.string k,.pointer (some ⟨r,0,none⟩),.int .i64 5,.int .i64 now]) rfl (by kernel_rfl) (by decide +kernel) (by decide +kernel) (fun _ _ _ h=>h) (.inl ⟨by rfl,fun W' hS=>by go_simp⟩) S0 ?_
       simp only [Act.put]
       refine wpAnyH_all (rs:=[4,10]) (by decide +kernel) (by simp) ?_
       intro i hi
       simp only [List.mem_cons,List.not_mem_nil,or_false] at hi
       rcases hi with rfl|rfl
       · refine op_do rfl (by rfl) fun K' hK=>?_
         go_simp
         refine hK _ _ S0 ?_
         clear hK K'
         refine wpAnyH_all (rs:=[10]) (by decide +kernel) (by simp) ?_
         intro i hi
         rw [List.mem_singleton] at hi
         subst hi
         refine op_do rfl (by rfl) fun K' hK=>?_
         go_simp
         refine hK _ _ S5.out ?_
         clear hK K'
         refine wpAnyH_all (rs:=[11]) (by decide +kernel) (by simp) ?_
         intro i hi
         rw [List.mem_singleton] at hi
         subst hi
         refine op_do rfl (by rfl) fun K' hK=>?_
         go_simp
         go_at_call 93
         refine HWI.out.mono ?_
         rintro e w6 ⟨u,rfl,hu,hb6⟩
         obtain ⟨uA,uC,rfl,HN6,k6,kr⟩:=HEND.out w6 u hb6 hu
         have f6:=kr.free 0
         have S6:=Lib.hid (show w6.cell? ⟨w2.heap.size,0,none⟩=some (.int .i64 5)∧w6.cell? ⟨w2.heap.size,1,none⟩=some (.int .i64 now) from ⟨k6.cell 0,k6.cell 1⟩)
         have S7:=Lib.hid (show (w6.setCell ⟨rp,0,none⟩ (.slice uA (withR R k [x]).length uC)).cell? ⟨w2.heap.size,0,none⟩=some (.int .i64 5)∧(w6.setCell ⟨rp,0,none⟩ (.slice uA (withR R k [x]).length uC)).cell? ⟨w2.heap.size,1,none⟩=some (.int .i64 now) from
           have k7:=k6.setOther 0 (.slice uA (withR R k [x]).length uC) hne
           ⟨k7.cell 0,k7.cell 1⟩)
         have c6:=kr.cell 0
         simp at c6
         have HNN:=Lib.hid HN6
         clear hu hb6 HN6 k6 kr HWI HEND
         refine hK _ _ S6.out ?_
         clear hK K'
         refine wpAnyH_all (rs:=[12]) (by decide +kernel) (by simp) ?_
         intro i hi
         rw [List.mem_singleton] at hi
         subst hi
         refine op_do rfl (by rfl) fun K' hK=>?_
         go_simp
         refine hK _ _ S6.out ?_
         clear hK K'
         refine wpAnyH_all (rs:=[13]) (by decide +kernel) (by simp) ?_
         intro i hi
         rw [List.mem_singleton] at hi
         subst hi
         refine op_do rfl (by rfl) fun K' hK=>?_
         go_simp
         refine hK _ _ S6.out ?_
         clear hK K'
         refine wpAnyH_all (rs:=[14]) (by decide +kernel) (by simp) ?_
         intro i hi
         rw [List.mem_singleton] at hi
         subst hi
         refine op_do rfl (by rfl) fun K' hK=>?_
         go_simp
         refine hK _ _ S7.out ?_
         clear hK K'
         refine wpAnyH_done (by decide +kernel) ?_ _
         clear S6 S7 c6 f6
         go_wp2_with fail
         go_ret2
         exact ⟨_,rfl,_,HNN.out,HM.out⟩
       · refine op_do rfl (by rfl) fun K' hK=>?_
         go_simp
         refine hK _ _ S5.out ?_
         clear hK K'
         refine wpAnyH_all (rs:=[4]) (by decide +kernel) (by simp) ?_
         intro i hi
         rw [List.mem_singleton] at hi
         subst hi
         refine op_do rfl (by rfl) fun K' hK=>?_
         go_simp
         refine hK _ _ S5.out ?_
         clear hK K'
         refine wpAnyH_all (rs:=[11]) (by decide +kernel) (by simp) ?_
         intro i hi
         rw [List.mem_singleton] at hi
         subst hi
         refine op_do rfl (by rfl) fun K' hK=>?_
         go_simp
         go_at_call 93
         refine HWI.out.mono ?_
         rintro e w6 ⟨u,rfl,hu,hb6⟩
         obtain ⟨uA,uC,rfl,HN6,k6,kr⟩:=HEND.out w6 u hb6 hu
         have f6:=kr.free 0
         have S6:=Lib.hid (show w6.cell? ⟨w2.heap.size,0,none⟩=some (.int .i64 5)∧w6.cell? ⟨w2.heap.size,1,none⟩=some (.int .i64 now) from ⟨k6.cell 0,k6.cell 1⟩)
         have S7:=Lib.hid (show (w6.setCell ⟨rp,0,none⟩ (.slice uA (withR R k [x]).length uC)).cell? ⟨w2.heap.size,0,none⟩=some (.int .i64 5)∧(w6.setCell ⟨rp,0,none⟩ (.slice uA (withR R k [x]).length uC)).cell? ⟨w2.heap.size,1,none⟩=some (.int .i64 now) from
           have k7:=k6.setOther 0 (.slice uA (withR R k [x]).length uC) hne
           ⟨k7.cell 0,k7.cell 1⟩)
         have c6:=kr.cell 0
         simp at c6
         have HNN:=Lib.hid HN6
         clear hu hb6 HN6 k6 kr HWI HEND
         refine hK _ _ S6.out ?_
         clear hK K'
         refine wpAnyH_all (rs:=[12]) (by decide +kernel) (by simp) ?_
         intro i hi
         rw [List.mem_singleton] at hi
         subst hi
         refine op_do rfl (by rfl) fun K' hK=>?_
         go_simp
         refine hK _ _ S6.out ?_
         clear hK K'
         refine wpAnyH_all (rs:=[13]) (by decide +kernel) (by simp) ?_
         intro i hi
         rw [List.mem_singleton] at hi
         subst hi
         refine op_do rfl (by rfl) fun K' hK=>?_
         go_simp
         refine hK _ _ S6.out ?_
         clear hK K'
         refine wpAnyH_all (rs:=[14]) (by decide +kernel) (by simp) ?_
         intro i hi
         rw [List.mem_singleton] at hi
         subst hi
         refine op_do rfl (by rfl) fun K' hK=>?_
         go_simp
         refine hK _ _ S7.out ?_
         clear hK K'
         refine wpAnyH_done (by decide +kernel) ?_ _
         clear S6 S7 c6 f6
         go_wp2_with fail
         go_ret2
         exact ⟨_,rfl,_,HNN.out,HM.out⟩
end
theorem getR{R:List Rt}{x:Rt}{k:ByteArray}(hk:Keys (itr R))(hx:x∈R)(he:x.key=k):getI (itr R) k=some x.toIt:=by
 rw [← he]
 exact getI_of hk (List.mem_map.2 ⟨x,hx,rfl⟩)
theorem getR_no{R:List Rt}{k:ByteArray}(h:∀ x∈R,x.key≠k):getI (itr R) k=none:=by
 unfold getI
 rw [List.find?_eq_none]
 intro y hy
 obtain ⟨x,hx,rfl⟩:=List.mem_map.1 hy
 simpa using h x hx
section
variable {w w1 w':World} {rp sd:Nat} {u:Value} {en mn mx:Int} {R R':List Rt} {S:Nat→Prop}
theorem ref_Tidy(h:RefSp w rp en mn sd mx R S)(hkeys:Keys (itr R))(hz:∀ x∈R,x.key.size≤281474976710656)(k:ByteArray)(hk:k.size≤281474976710656) :
   Calls Tryz.prog 58 #[.pointer (some ⟨rp,0,none⟩),.string k] w fun e w'=>e=.returned (.bool (emptyI (itr R) k))∧RefNow w rp en mn sd mx S (if emptyI (itr R) k then withR R k [] else R) w':=by
 have HA:=Lib.hid (ref_At h k)
 have HD:=Lib.hid (ref_Delete h hz k hk)
 have HS:=Lib.hid (RefNow.same h (Below.refl _ _))
 obtain ⟨rv,hb,ho,hl,hs,hrs,hS⟩:=h.keys
 by_cases hat:0≤atR R k
 · obtain ⟨i,x,hi,hx,hxk,hil⟩:=atR_get hat
   have hg:=getR hkeys (List.mem_of_getElem? hx) hxk
   obtain ⟨g,cap,rfl,_,g1,_⟩:=ho.cells hx
   obtain ⟨a,c,hre,_,_⟩:=(hs x (List.mem_of_getElem? hx)).ex
   have c0:=hb.cell 0
   have c1:=hre.cell 0
   have hil2:(i:Int)<R.length:=by omega
   simp at c0 c1
   rw [decide_eq_true hat] at HD
   rw [hi] at HA
   by_cases he:x.E=[]
   · have hem:emptyI (itr R) k=true:=by unfold emptyI;rw [hg];simp [he]
     rw [hem]
     simp only [if_true]
     rw [he] at c1
     clear h hb ho hs hrs hS hz hxk hat hi hx hg hkeys hre
     go_enter Tryz.func58,Tryz.ntmps58
     go_wp2_with fail
     refine HA.out.mono ?_
     rintro e w1 ⟨rfl,rfl⟩
     go_wp2_with fail
     refine HD.out.mono ?_
     rintro e w2 ⟨rfl,hn⟩
     have HN:=Lib.hid hn
     clear hn HD HA HS
     go_wp2_with fail
     go_ret
     exact ⟨rfl,HN.out⟩
   · have hem:emptyI (itr R) k=false:=by unfold emptyI;rw [hg];simp [he]
     have hpos:(0:Int)<x.E.length:=by have:=List.length_pos_iff.2 he;omega
     rw [hem]
     clear h hb ho hs hrs hS hz hxk hat hi hx hg hkeys hre HD
     go_enter Tryz.func58,Tryz.ntmps58
     go_wp2_with fail
     refine HA.out.mono ?_
     rintro e w1 ⟨rfl,rfl⟩
     go_wp2_with fail
     go_ret
     exact ⟨rfl,HS.out⟩
 · obtain ⟨hat1,hno⟩:=atR_neg hat
   have hem:emptyI (itr R) k=false:=by unfold emptyI;rw [getR_no hno]
   rw [hem]
   rw [hat1] at HA
   clear h hb ho hs hrs hS hz hat hat1 hno HD
   go_enter Tryz.func58,Tryz.ntmps58
   go_wp2_with fail
   refine HA.out.mono ?_
   rintro e w1 ⟨rfl,rfl⟩
   go_wp2_with fail
   go_ret
   exact ⟨rfl,HS.out⟩
end
end Go.Proofs.YtlckdfoflimahaaGreatDoor
