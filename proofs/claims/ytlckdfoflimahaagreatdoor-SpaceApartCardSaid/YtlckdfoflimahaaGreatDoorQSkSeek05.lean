/- Texts of one kind in one: SkSeek, SkAt, SkRelink, SkSplit, SkOver, SkIns, SkJoin. -/
import Derived.Test.YtlckdfoflimahaaGreatDoorQShelf04
import Derived.Deep.RegionHeld
set_option maxRecDepth 200000
set_option maxHeartbeats 8000000
namespace Go.Proofs.YtlckdfoflimahaaGreatDoor.Sk
open Go.RowKit Go.Shelf
attribute [local go_sem] Oper.semAt_some
variable {w:World} {F:List Nd} {ah:Nat→Value} {n:Int}
theorem toPlace_any(p:Nat)(L:List Nd)(hF:F=hd p :: L)(hw:Sk w F (lk0 F) ah n)(hN:F.length≤1000000)(a:Nat)(ha:a<F.length) :
   Calls Tryz.prog 331 #[.pointer (some ⟨p,0,none⟩),.int .i64 a] w fun e w'=>e=.returned (.agg (wayA F a))∧Below w.heap.size w w':=by
 have hz:=zero71
 have hzs:=zW_size
 generalize zW=zw at *
 have hb1:Below w.heap.size w ((w.alloc (.cells #[.int .i64 a] 3)).alloc (.cells zw 331)):=((Below.refl _ _).alloc (Nat.le_refl _) _).alloc (by simp) _
 have kC:Blk ((w.alloc (.cells #[.int .i64 a] 3)).alloc (.cells zw 331)) w.heap.size 3 #[.int .i64 a]:=(Blk.new _ _ _).alloc _
 have kR:Blk ((w.alloc (.cells #[.int .i64 a] 3)).alloc (.cells zw 331)) (w.heap.size+1) 331 zw:=by have:=Blk.new (w.alloc (.cells #[.int .i64 a] 3)) 331 zw;simpa using this
 have hasks:=asks_place (F:=F) w.heap.size a kC a (fun q h1 h2=>by omega)
 have HD:=Lib.hid (down_any p L F hF ah n _ (hw.later hb1) hN a ha 337 _ hasks)
 have HB1:=Lib.hid hb1
 have HR:=Lib.hid kR
 have hw1:=wayA_size F a
 have hw2:=way_one F a
 generalize wayA F a=WA at *
 clear hb1 kC kR hasks hw hF
 go_enter Tryz.func331,Tryz.ntmps331
 go_wp2_with fail
 rename_i Kk hKk
 refine HD.out.mono ?_
 rintro e w2 ⟨rfl,hb2⟩
 have k2:=HR.out.later hb2
 have hb3:=HB1.out.trans (hb2.mono HB1.out.size)
 clear hb2
 refine hKk _ _ ?_
 refine wpList_plain rfl ?_
 intro K2 hK2
 refine wp_store71 _ _ rfl _ rfl rfl k2 hzs hw1 hw2 ?_
 refine hK2 _ _ ?_
 have k3:=k2.setRow WA
 go_wp2_with fail
 refine bodyPost_ret (results_cell Tryz.results331 (b:=⟨w.heap.size+1,0,none⟩) rfl (loadVar71 k3 hw1)) rfl ?_
 refine ⟨rfl,hb3.os,hb3.tape,hb3.output,by rw [setRow_size];exact hb3.size,fun q hq=>(setRow_other _ (by omega)).trans (hb3.block q hq)⟩
theorem toEntry_any(p:Nat)(L:List Nd)(hF:F=hd p :: L)(hw:Sk w F (lk0 F) ah n)(hN:F.length≤1000000)(m:ByteArray)(s:Int)(a:Nat)(ha:a<F.length)(hq:∀ q x,0<q→F[q]?=some x→lessE x.m x.s m s=decide (q≤a)) :
   Calls Tryz.prog 221 #[.pointer (some ⟨p,0,none⟩),.agg #[.string m,.int .i64 s]] w fun e w'=>e=.returned (.agg (wayA F a))∧Below w.heap.size w w':=by
 have hz:=zero71
 have hzs:=zW_size
 generalize zW=zw at *
 have hb1:Below w.heap.size w ((w.alloc (.cells #[.string m,.int .i64 s] 117)).alloc (.cells zw 331)):=((Below.refl _ _).alloc (Nat.le_refl _) _).alloc (by simp) _
 have kC:Blk ((w.alloc (.cells #[.string m,.int .i64 s] 117)).alloc (.cells zw 331)) w.heap.size 117 #[.string m,.int .i64 s]:=(Blk.new _ _ _).alloc _
 have kR:Blk ((w.alloc (.cells #[.string m,.int .i64 s] 117)).alloc (.cells zw 331)) (w.heap.size+1) 331 zw:=by have:=Blk.new (w.alloc (.cells #[.string m,.int .i64 s] 117)) 331 zw;simpa using this
 have hasks:=asks_entry (F:=F) w.heap.size m s kC (hw.later hb1) a hq
 have HD:=Lib.hid (down_any p L F hF ah n _ (hw.later hb1) hN a ha 243 _ hasks)
 have HB1:=Lib.hid hb1
 have HR:=Lib.hid kR
 have hw1:=wayA_size F a
 have hw2:=way_one F a
 generalize wayA F a=WA at *
 clear hb1 kC kR hasks hw hF hq
 go_enter Tryz.func221,Tryz.ntmps221
 go_wp2_with fail
 rename_i Kk hKk
 refine HD.out.mono ?_
 rintro e w2 ⟨rfl,hb2⟩
 have k2:=HR.out.later hb2
 have hb3:=HB1.out.trans (hb2.mono HB1.out.size)
 clear hb2
 refine hKk _ _ ?_
 refine wpList_plain rfl ?_
 intro K2 hK2
 refine wp_store71 _ _ rfl _ rfl rfl k2 hzs hw1 hw2 ?_
 refine hK2 _ _ ?_
 have k3:=k2.setRow WA
 go_wp2_with fail
 refine bodyPost_ret (results_cell Tryz.results221 (b:=⟨w.heap.size+1,0,none⟩) rfl (loadVar71 k3 hw1)) rfl ?_
 refine ⟨rfl,hb3.os,hb3.tape,hb3.output,by rw [setRow_size];exact hb3.size,fun q hq=>(setRow_other _ (by omega)).trans (hb3.block q hq)⟩
theorem len_any(p:Nat)(L:List Nd)(hF:F=hd p :: L)(hw:Sk w F (lk0 F) ah n):Calls Tryz.prog 325 #[.pointer (some ⟨p,0,none⟩)] w fun e w'=>e=.returned (.int .i64 n)∧w'=w:=by
 obtain ⟨A,hA,hN⟩:=hw.node 0 (hd p) (by rw [hF];rfl)
 have e0:=(hA.cell 67).trans (hN.n rfl)
 have e1:w.cell? ⟨p,67,none⟩=some (.int .i64 n):=e0
 clear hA hN hw hF e0
 go_enter Tryz.func325,Tryz.ntmps325
 go_wp2
 go_ret
 exact ⟨rfl,rfl⟩
theorem part_any(p:Nat)(L:List Nd)(hF:F=hd p :: L)(hw:Sk w F (lk0 F) ah n)(f t:Int):Calls Tryz.prog 335 #[.pointer (some ⟨p,0,none⟩),.int .i64 f,.int .i64 t] w fun e w'=>e=.returned (.tuple #[.int .i64 (max f 0),.int .i64 (min t n)])∧w'=w:=by
 have HL:=Lib.hid (len_any p L hF hw)
 clear hF hw
 go_enter Tryz.func335,Tryz.ntmps335
 go_wp2_with fail
 refine HL.out.mono ?_
 rintro e w1 ⟨rfl,rfl⟩
 go_wp2
 go_returns
 exact ⟨rfl,rfl⟩
theorem beq_toList{a b:ByteArray}(h:a.toList=b.toList):a=b:=by
 have h1:a.data.toList=b.data.toList:=by rw [← Lib.toList_data,← Lib.toList_data];exact h
 cases a;cases b
 simp at h1
 rw [h1]
theorem eq_ent(m m':ByteArray)(s s':Int)(b:Bool)(h:decide (m=m'∧s=s')=b)(W:World) :
   (binOp .eql 117 (.agg #[.string m,.int .i64 s]) (.agg #[.string m',.int .i64 s'])).run Tryz.prog W=.ok (.bool b) W:=by
 by_cases h1:s=s'
 · by_cases h2:m=m'
   · rw [h1,h2] at h
     simp at h
     subst h
     rw [h1,h2]
     simp [go_sem]
   · have h3:¬ m.toList=m'.toList:=fun e=>h2 (beq_toList e)
     simp [h1,h2] at h
     subst h
     rw [h1]
     simp [go_sem,h3]
 · simp [h1] at h
   subst h
   simp [go_sem,h1]
def entAt(F:List Nd)(q:Nat)(m:ByteArray)(s:Int):Bool:=match F[q]? with
 | some x=>decide (x.m=m∧x.s=s)
 | none=>false
theorem leads_any(hw:Sk w F (lk0 F) ah n)(k q:Nat)(hk:k<32)(hq:q<F.length)(hl:k<lev F q)(m:ByteArray)(s:Int):Calls Tryz.prog 222 #[.agg #[adr F q,.int .i64 ((q:Int)-1),.int .i64 k],.agg #[.string m,.int .i64 s]] w fun e w'=>e=.returned (.bool (entAt F (nxt F k q) m s))∧Below w.heap.size w w':=by
 obtain ⟨x,hx⟩:∃ x,F[q]?=some x:=⟨_,List.getElem?_eq_getElem hq⟩
 obtain ⟨A,hA,hN⟩:=hw.node q x hx
 rw [lev_some hx] at hl
 obtain ⟨l1,_⟩:=hN.link k hl
 have c1:=(hA.cell (3+k*2)).trans l1
 unfold lk0 at c1
 simp only at c1
 have hax:=adr_some hx
 have HLK:=fun w=>Lib.hid (link_any x.b ((q:Int)-1) k hk w)
 have hb1:Below w.heap.size w ((w.alloc (.cells #[.pointer (some ⟨x.b,0,none⟩),.int .i64 ((q:Int)-1),.int .i64 k] 329)).alloc (.cells #[.string m,.int .i64 s] 117)):=((Below.refl _ _).alloc (Nat.le_refl _) _).alloc (by simp) _
 have kE:Blk ((w.alloc (.cells #[.pointer (some ⟨x.b,0,none⟩),.int .i64 ((q:Int)-1),.int .i64 k] 329)).alloc (.cells #[.string m,.int .i64 s] 117)) (w.heap.size+1) 117 #[.string m,.int .i64 s]:=by
   have:=Blk.new (w.alloc (.cells #[.pointer (some ⟨x.b,0,none⟩),.int .i64 ((q:Int)-1),.int .i64 k] 329)) 117 #[.string m,.int .i64 s];simpa using this
 have HB1:=Lib.hid hb1
 have HE:=Lib.hid kE
 have HA:=Lib.hid hA
 rw [hax]
 by_cases hlast:nxt F k q<F.length
 · obtain ⟨y,hy⟩:∃ y,F[nxt F k q]?=some y:=⟨_,List.getElem?_eq_getElem hlast⟩
   obtain ⟨B,hB,hNB⟩:=hw.node _ y hy
   have d0:=(hB.cell 0).trans hNB.m
   have d1:=(hB.cell 1).trans hNB.s
   have hv:entAt F (nxt F k q) m s=decide (y.m=m∧y.s=s):=by unfold entAt;rw [hy]
   have HV:=Lib.hid hv
   have HBB:=Lib.hid hB
   rw [adr_some hy] at c1
   clear hw hx hA hN hl l1 hb1 kE hy hB hNB hv hax
   go_enter Tryz.func222,Tryz.ntmps222
   go_wp2_with fail
   refine (HLK _).out.mono ?_
   rintro e w2 ⟨rfl,hb2⟩
   have hb3:=HB1.out.trans (hb2.mono HB1.out.size)
   have c1':=(hb3.cell (p:=⟨x.b,3+k*2,none⟩) HA.out.lt).trans c1
   have d0':=(hb3.cell (p:=⟨y.b,0,none⟩) HBB.out.lt).trans d0
   have d1':=(hb3.cell (p:=⟨y.b,1,none⟩) HBB.out.lt).trans d1
   obtain ⟨e0,e1,_,_⟩:=facts2 (HE.out.later hb2)
   have HB3:=Lib.hid hb3
   have heq:=eq_ent y.m m y.s s _ rfl
   generalize decide (y.m=m∧y.s=s)=bb at *
   clear hb2 hb3 c1 d0 d1
   go_wp2_with fail
   go_quiet (fail)
   go_wp2
   go_ret
   refine ⟨?_,HB3.out.trans ((drewB _ _).mono HB3.out.size)⟩
   rw [HV.out]
   rfl
 · have hv:entAt F (nxt F k q) m s=false:=by unfold entAt;rw [List.getElem?_eq_none (by omega)]
   have HV:=Lib.hid hv
   rw [adr_none (F:=F) (q:=nxt F k q) (by omega)] at c1
   clear hw hx hA hN hl l1 hb1 kE hv hax
   go_enter Tryz.func222,Tryz.ntmps222
   go_wp2_with fail
   refine (HLK _).out.mono ?_
   rintro e w2 ⟨rfl,hb2⟩
   have hb3:=HB1.out.trans (hb2.mono HB1.out.size)
   have c1':=(hb3.cell (p:=⟨x.b,3+k*2,none⟩) HA.out.lt).trans c1
   have HB3:=Lib.hid hb3
   clear hb2 hb3 c1
   go_wp2_with fail
   go_quiet (fail)
   go_wp2
   go_ret
   refine ⟨?_,HB3.out.trans ((drewB _ _).mono HB3.out.size)⟩
   rw [HV.out]
   rfl
theorem info148:(Tryz.prog.info? 329).map (·.size)=some 3:=by kernel_rfl
theorem index71(F:List Nd)(a:Nat)(W:World):(Instr.index 331 (.agg (wayA F a)) (.int .i64 0)).run Tryz.prog W=.ok (.agg (boxQ F 0 (last F 0 a))) W:=by
 have he:(wayA F a).extract 0 3=boxQ F 0 (last F 0 a):=by
   apply Array.ext_getElem?
   intro i
   rw [Array.getElem?_extract]
   by_cases hi:i<3
   · have:=wayA_at F a 0 i (by decide) hi
     simp at this
     simp [hi,this,wayA_size]
   · rw [if_neg (by simp [wayA_size];omega),Array.getElem?_eq_none (by simp [boxQ];omega)]
 have h69:∀ w,(isAgg 329).run Tryz.prog w=.ok true w:=fun w=>by
   unfold isAgg
   rw [Sem.run_bind,run_underlying (show Tryz.prog.underlying 329=some _ from Tryz.underlying329) w]
   rfl
 cases hq:Tryz.prog.info? 329 with
 | none=>have:=info148;simp [hq] at this
 | some i =>
   have hs:i.size=3:=by have:=info148;simpa [hq] using this
   unfold Instr.index
   simp [asIntOf,Sem.run_bind,run_underlying under71,part,h69,sizeOf,typeInfo,hq,hs,he]
variable {w:World} {F:List Nd} {ah:Nat→Value} {n:Int}
theorem lev_pos(hw:Sk w F (lk0 F) ah n)(i:Nat)(hi:i<F.length):0<lev F i:=by
 rw [lev_some (List.getElem?_eq_getElem hi)]
 exact (hw.lev i _ (List.getElem?_eq_getElem hi)).1
theorem nxt_zero(hp:∀ i,i<F.length→0<lev F i)(q:Nat)(hq:q<F.length):nxt F 0 q=q+1 :=
 nxt_unique hq (by omega) (by omega) (fun i h1 h2=>by omega) (fun h=>hp _ h)
theorem seek_any(p:Nat)(L:List Nd)(hF:F=hd p :: L)(hw:Sk w F (lk0 F) ah n)(hN:F.length≤1000000)(m:ByteArray)(s:Int)(a:Nat)(ha:a<F.length)(hq:∀ q x,0<q→F[q]?=some x→lessE x.m x.s m s=decide (q≤a)) :
   Calls Tryz.prog 334 #[.pointer (some ⟨p,0,none⟩),.agg #[.string m,.int .i64 s]] w fun e w'=>e=.returned (.tuple #[.int .i64 a,.bool (entAt F (a+1) m s)])∧Below w.heap.size w w':=by
 have hp:=lev_pos hw
 have hla:=last_zero F hp a ha
 have hnx:=nxt_zero hp a ha
 have hix:=index71 F a
 rw [hla] at hix
 have hb1:Below w.heap.size w (w.alloc (.cells #[.string m,.int .i64 s] 117)):=(Below.refl _ _).alloc (Nat.le_refl _) _
 have kE:Blk (w.alloc (.cells #[.string m,.int .i64 s] 117)) w.heap.size 117 #[.string m,.int .i64 s]:=Blk.new _ _ _
 have HT:=Lib.hid (toEntry_any p L hF (hw.later hb1) hN m s a ha hq)
 obtain ⟨x,hx⟩:∃ x,F[a]?=some x:=⟨_,List.getElem?_eq_getElem ha⟩
 have hax:=adr_some hx
 have HLD:=fun (W:World) (hb:Below w.heap.size w W)=>Lib.hid (leads_any (hw.later hb) 0 a (by decide) ha (hp a ha) m s)
 rw [hnx] at HLD
 unfold boxQ at hix
 have h00:((0:Nat):Int)=0:=rfl
 simp only [hax,h00] at HLD hix
 clear h00
 have HB1:=Lib.hid hb1
 have HE:=Lib.hid kE
 generalize wayA F a=WA at *
 generalize entAt F (a+1) m s=bb at *
 have hN2:(a:Int)≤1000000:=by omega
 clear hb1 kE hw hF hq hp hla hnx hx hax ha hN
 go_enter Tryz.func334,Tryz.ntmps334
 go_wp2_with fail
 refine HT.out.mono ?_
 rintro e w2 ⟨rfl,hb2⟩
 have e0:=(facts2 (HE.out.later hb2)).1
 have e1:=(facts2 (HE.out.later hb2)).2.1
 have hb3:=HB1.out.trans (hb2.mono HB1.out.size)
 have hlt:=(HE.out.later hb2).lt
 have kS:=Blk.new w2 329 #[.pointer (some ⟨x.b,0,none⟩),.int .i64 ((a:Int)-1),.int .i64 0]
 have hb4:Below w2.heap.size w2 (w2.alloc (.cells #[.pointer (some ⟨x.b,0,none⟩),.int .i64 ((a:Int)-1),.int .i64 0] 329)):=(Below.refl _ _).alloc (Nat.le_refl _) _
 have kE2:=(HE.out.later hb2).later hb4
 have hbw:=hb3.trans (hb4.mono hb3.size)
 have HBW:=Lib.hid hbw
 obtain ⟨w3,hw3⟩:∃ w3,w3=w2.alloc (.cells #[.pointer (some ⟨x.b,0,none⟩),.int .i64 ((a:Int)-1),.int .i64 0] 329):=⟨_,rfl⟩
 have HW3:=Lib.hid hw3
 rw [← hw3] at kS kE2 HBW
 have q0:=fun y:Ext w3=>y.cell (facts3 kS).1
 have q1:=fun y:Ext w3=>y.cell (facts3 kS).2.1
 have q2:=fun y:Ext w3=>y.cell (facts3 kS).2.2.1
 have q3:=fun y:Ext w3=>y.cell (facts2 kE2).1
 have q4:=fun y:Ext w3=>y.cell (facts2 kE2).2.1
 have HLD3:=fun y:Ext w3=>HLD y.w (HBW.out.trans (y.ok.mono HBW.out.size))
 have hne:=Ext.one w3
 clear hb2 hb3 hb4 hbw hw3 kS kE2 HLD
 go_wp2_with fail
 rw [← HW3.out]
 refine region_ext (w1:=w3) (by kernel_rfl) (by kernel_rfl) (Below.refl _ _) ?_
 iterate 8 go_big_quiet_step ((go_at_call 222;exact Ext.call _ (HLD3 _).out))
 refine wpQuiet_nil ?_
 rintro _ ⟨y,rfl⟩
 go_wp2_with fail
 go_returns
 exact ⟨rfl,HBW.out.trans (y.ok.mono HBW.out.size)⟩
structure Links (F:List Nd) (a wb k0 N:Nat) (G:Nat) (caps:Array Value) (Inv:Nat→World→Prop):Prop where
 enter:∀ args w,(callFunc G args).run Tryz.prog w=.ok (.enter G args) w
 stable:∀ k W W',Inv k W→Below W.heap.size W W'→Inv k W'
 way:∀ k W,Inv k W→Blk W wb 331 (wayA F a)
 call:∀ k W x,k0≤k→k<k0+N→Inv k W→F[last F k a]?=some x→Calls Tryz.prog G (#[.agg #[.pointer (some ⟨x.b,0,none⟩),.int .i64 ((last F k a:Int)-1),.int .i64 k]]++caps) W fun e w' =>
   ∃ nv ps u1 u2,e=.returned (.agg #[.pointer nv,.int .i64 ps])∧w'.cell? ⟨x.b,3+k*2,none⟩=some u1∧w'.cell? ⟨x.b,3+k*2+1,none⟩=some u2∧w'.frozen? ⟨x.b,3+k*2,none⟩=false∧w'.frozen? ⟨x.b,3+k*2+1,none⟩=false ∧
     Inv (k+1) ((w'.setCell ⟨x.b,3+k*2,none⟩ (.pointer nv)).setCell ⟨x.b,3+k*2+1,none⟩ (.int .i64 ps))∧W.heap.size≤w'.heap.size
theorem relink_any{F:List Nd}{a wb k0 N:Nat}{G:Nat}{caps:Array Value}{Inv:Nat→World→Prop}(h:Links F a wb k0 N G caps Inv)(hF:∀ k,k<32→last F k a<F.length)(hk:k0+N≤32)(cap:Nat)(w:World)(h0:Inv k0 w) :
   Calls Tryz.prog 248 #[.func (.func G) #[] caps,.slice (some ⟨wb,k0*3,none⟩) N cap] w fun e w'=>e=.returned (.tuple #[])∧Inv (k0+N) w':=by
 have HH:=Lib.hid h
 have HFL:=Lib.hid hF
 have henter:=h.enter
 have HLK:=fun b q k hk w=>Lib.hid (link_any b q k hk w)
 have H0:=Lib.hid h0
 clear h hF h0
 have hN32:(N:Int)≤32:=by omega
 go_enter Tryz.func248,Tryz.ntmps248
 go_wp2
 go_loopw [8] (fun i wr=>∃ (k:Nat),i=.int .i64 k∧k≤N∧Inv (k0+k) wr) (fun i _=>N-(intOf i).toNat)
 case atStart=>exact ⟨0,rfl,by omega,H0.out⟩
 case round =>
   obtain ⟨k,rfl,hkN,hI⟩:=hrel
   by_cases hlt:k<N
   · have hwy:=HH.out.way _ _ hI
     obtain ⟨c0,c1,c2⟩:=way_cells F a (k0+k) (by omega)
     have e0:=(hwy.cell _).trans c0
     have e1:=(hwy.cell _).trans c1
     have e2:=(hwy.cell _).trans c2
     obtain ⟨x,hx⟩:∃ x,F[last F (k0+k) a]?=some x:=⟨_,List.getElem?_eq_getElem (HFL.out _ (by omega))⟩
     rw [adr_some hx] at e0
     rw [show (k0+k)*3=k0*3+k*3 by omega] at e0 e1 e2
     have HI:=Lib.hid hI
     have HX:=Lib.hid hx
     clear hI hx c0 c1 c2 hwy
     have HL2:=fun w=>HLK x.b ((last F (k0+k) a:Int)-1) (k0+k) (by omega) w
     have HC:=fun (W:World) (hb:Below wr.heap.size wr W)=>Lib.hid (HH.out.call (k0+k) W x (by omega) (by omega) (HH.out.stable _ _ _ HI.out hb) HX.out)
     rw [Int.natCast_add] at HL2 HC
     have kb:=Blk.new wr 329 #[.pointer (some ⟨x.b,0,none⟩),.int .i64 ((last F (k0+k) a:Int)-1),.int .i64 ((k0:Int)+k)]
     have hbw:Below wr.heap.size wr (wr.alloc (.cells #[.pointer (some ⟨x.b,0,none⟩),.int .i64 ((last F (k0+k) a:Int)-1),.int .i64 ((k0:Int)+k)] 329)):=(Below.refl _ _).alloc (Nat.le_refl _) _
     have KB:=Lib.hid kb
     have HBW:=Lib.hid hbw
     clear kb hbw HLK
     go_wp2_with fail
     go_region_with ((first
       | (go_at_call 245
          refine (HL2 _).out.mono ?_
          rintro e w2 ⟨rfl,hb2⟩
          have hb3:=HBW.out.trans (((drewB _ 1).trans hb2).mono HBW.out.size)
          have HCC:=HC w2 hb3
          obtain ⟨f0,f1,f2,f3,f4,f5⟩:=facts3 (KB.out.later ((drewB _ 1).trans hb2))
          clear hb2)
       | (refine HCC.out.mono ?_
          rintro e w5 ⟨nv,ps,u1,u2,rfl,c1,c2,d1,d2,hI2,hz⟩
          have HI2:=Lib.hid hI2
          clear hI2)))
     all_goals (
       go_wp2
       exact ⟨⟨k+1,by go_num,hlt,HI2.out⟩,by simp [intOf];omega⟩)
   · obtain rfl:k=N:=by omega
     go_wp2
     go_returns
     exact ⟨rfl,hI⟩
theorem size58:(Tryz.prog.info? 301).map (·.size)=some 2:=by kernel_rfl
theorem loadVar58{W:World}{b:Nat}{v0 v1:Value}(h:Blk W b 301 #[v0,v1]):(loadVar 301 ⟨b,0,none⟩).run Tryz.prog W=.ok (.agg #[v0,v1]) W :=
 run_loadVar_row _ _ 301 301 #[v0,v1] (0,0) _ h Tryz.underlying301 rfl size58
theorem below_set2{w W:World}(h:Below w.heap.size w W)(b o1 o2:Nat)(v1 v2:Value)(hb:w.heap.size≤b):Below w.heap.size w ((W.setCell ⟨b,o1,none⟩ v1).setCell ⟨b,o2,none⟩ v2) :=
 ⟨h.os,h.tape,h.output,by simpa [World.setCell] using h.size,fun q hq=>(Below.heap_setCell _ _ _ _ (by show q≠b;omega)).trans ((Below.heap_setCell _ _ _ _ (by show q≠b;omega)).trans (h.block q hq))⟩
theorem pass_any(b t:Nat)(A:Array Value)(pl:Int)(k:Nat)(hk:k<32)(o:Option Addr)(ps:Int)(w:World)(hA:Blk w b t A)(h0:A[3+k*2]?=some (.pointer o))(h1:A[3+k*2+1]?=some (.int .i64 ps))(hp:-2000000≤ps∧ps≤2000000) :
   Calls Tryz.prog 247 #[.agg #[.pointer (some ⟨b,0,none⟩),.int .i64 pl,.int .i64 k]] w fun e w'=>e=.returned (.agg #[.pointer o,.int .i64 (ps+1)])∧Below w.heap.size w w':=by
 have c0:=(hA.cell _).trans h0
 have c1:=(hA.cell _).trans h1
 have HLK:=fun w=>Lib.hid (link_any b pl k hk w)
 have HA:=Lib.hid hA
 obtain ⟨p1,p2⟩:=hp
 have hb1:Below w.heap.size w ((w.alloc (.cells #[.pointer (some ⟨b,0,none⟩),.int .i64 pl,.int .i64 k] 329)).alloc (.cells #[.pointer none,.int .i64 0] 301)):=((Below.refl _ _).alloc (Nat.le_refl _) _).alloc (by simp) _
 have kR:Blk ((w.alloc (.cells #[.pointer (some ⟨b,0,none⟩),.int .i64 pl,.int .i64 k] 329)).alloc (.cells #[.pointer none,.int .i64 0] 301)) (w.heap.size+1) 301 #[.pointer none,.int .i64 0]:=by
   have:=Blk.new (w.alloc (.cells #[.pointer (some ⟨b,0,none⟩),.int .i64 pl,.int .i64 k] 329)) 301 #[.pointer none,.int .i64 0];simpa using this
 have HB1:=Lib.hid hb1
 have HR:=Lib.hid kR
 clear hb1 kR hA h0 h1
 go_enter Tryz.func247,Tryz.ntmps247
 go_wp2_with fail
 refine (HLK _).out.mono ?_
 rintro e w2 ⟨rfl,hb2⟩
 have hb3:=HB1.out.trans (hb2.mono HB1.out.size)
 have c0':=(hb3.cell (p:=⟨b,3+k*2,none⟩) HA.out.lt).trans c0
 have c1':=(hb3.cell (p:=⟨b,3+k*2+1,none⟩) HA.out.lt).trans c1
 have kR2:=HR.out.later hb2
 obtain ⟨e0,e1,e2,e3⟩:=facts2 kR2
 have z1:=kR2.lt
 have KR:=Lib.hid kR2
 have HB3:=Lib.hid hb3
 clear hb2 hb3 c0 c1 kR2
 go_wp2_with fail
 have k5:=((KR.out.set 0 (.pointer o)).set 1 (.int .i64 (ps+1))).alloc (Obj.cells #[Value.pointer o,Value.int IntKind.i64 ps] 301)
 refine bodyPost_ret (results_cell Tryz.results247 (b:=⟨w.heap.size+1,0,none⟩) rfl (loadVar58 k5)) rfl ?_
 have h3:=HB3.out
 refine ⟨rfl,Below.alloc ?_ (by simpa [World.setCell] using h3.size) _⟩
 exact below_set2 h3 _ _ _ _ _ (by omega)
abbrev SpS (b k s3 wb:Nat) (o:Option Addr) (ps pl pl0:Int) (w:World) (w':World):Prop :=
 w'.cell? ⟨b,3+k*2,none⟩=some (.pointer o)∧w'.cell? ⟨b,3+k*2+1,none⟩=some (.int .i64 ps)∧w'.cell? ⟨s3,0,none⟩=some (.pointer (some ⟨b,0,none⟩))∧w'.cell? ⟨s3,1,none⟩=some (.int .i64 pl)∧w'.cell? ⟨s3,2,none⟩=some (.int .i64 k) ∧
   w'.cell? ⟨wb,1,none⟩=some (.int .i64 pl0)∧Below w.heap.size w w'∧w.heap.size≤w'.heap.size
theorem SpS.later{b k s3 wb:Nat}{o:Option Addr}{ps pl pl0:Int}{w w' w5:World}(h:SpS b k s3 wb o ps pl pl0 w w')(hb:Below w'.heap.size w' w5):SpS b k s3 wb o ps pl pl0 w w5:=by
 obtain ⟨h1,h2,h3,h4,h5,h6,h7,h8⟩:=h
 have key:∀ {a:Addr} {v:Value},w'.cell? a=some v→w5.cell? a=some v:=fun {a v} ha=>(hb.cell (World.block_lt_of_cell? w' a ha)).trans ha
 exact ⟨key h1,key h2,key h3,key h4,key h5,key h6,h7.trans (hb.mono h8),Nat.le_trans h8 hb.size⟩
theorem far_set2{S:Nat→Prop}{w W:World}(h:Far S w W)(b o1 o2:Nat)(v1 v2:Value)(hb:S b∨w.heap.size≤b):Far S w ((W.setCell ⟨b,o1,none⟩ v1).setCell ⟨b,o2,none⟩ v2) :=
 (h.set ⟨b,o1,none⟩ v1 hb).set ⟨b,o2,none⟩ v2 hb
theorem newbox{w1 w5:World}{c0 c1:Value}(hb5:Below (w1.drew.alloc (.cells #[c0,c1] 301)).heap.size (w1.drew.alloc (.cells #[c0,c1] 301)) w5):w5.cell? ⟨w1.heap.size,0,none⟩=some c0∧w5.cell? ⟨w1.heap.size,1,none⟩=some c1∧w5.frozen? ⟨w1.heap.size,0,none⟩=false∧w5.frozen? ⟨w1.heap.size,1,none⟩=false :=
 facts2 ((Blk.new w1.drew 301 #[c0,c1]).later hb5)
theorem SpS.set2{b k s3 wb:Nat}{o:Option Addr}{ps pl pl0:Int}{w w':World}{c:Nat}(h:SpS b k s3 wb o ps pl pl0 w w')(v0 v1:Value)(h1:b≠c)(h2:s3≠c)(h3:wb≠c)(h4:w.heap.size≤c):SpS b k s3 wb o ps pl pl0 w ((w'.setCell ⟨c,0,none⟩ v0).setCell ⟨c,1,none⟩ v1):=by
 obtain ⟨t1,t2,t3,t4,t5,t6,t7,t8⟩:=h
 have key:∀ (d i:Nat) (v:Value),d≠c→w'.cell? ⟨d,i,none⟩=some v→((w'.setCell ⟨c,0,none⟩ v0).setCell ⟨c,1,none⟩ v1).cell? ⟨d,i,none⟩=some v:=fun d i v hd hv=>by
   have e:((w'.setCell ⟨c,0,none⟩ v0).setCell ⟨c,1,none⟩ v1).heap[d]?=w'.heap[d]?:=(Below.heap_setCell _ _ _ _ hd).trans (Below.heap_setCell _ _ _ _ hd)
   rw [← hv]
   unfold World.cell?
   simp only [e]
 exact ⟨key _ _ _ h1 t1,key _ _ _ h1 t2,key _ _ _ h2 t3,key _ _ _ h2 t4,key _ _ _ h2 t5,key _ _ _ h3 t6,below_set2 t7 _ _ _ _ _ h4,by simpa [World.setCell] using t8⟩
theorem split_any(b t:Nat)(A B WA:Array Value)(pl pl0:Int)(k wb b6 nb:Nat)(hk:k<32)(o:Option Addr)(ps:Int)(w:World)(hA:Blk w b t A)(h0:A[3+k*2]?=some (.pointer o))(h1:A[3+k*2+1]?=some (.int .i64 ps))(hp:-2000000≤ps∧ps≤2000000)
   (hW:Blk w wb 331 WA) (hpl:WA[1]?=some (.int .i64 pl0)) (hq:-2000000≤pl∧pl≤2000000) (hq0:-2000000≤pl0∧pl0≤2000000) (h6:Blk w b6 299 #[.pointer (some ⟨nb,0,none⟩)]) (hnb:Blk w nb 304 B) (hB:B.size=67) (_:nb≠b) :
   Calls Tryz.prog 246 #[.agg #[.pointer (some ⟨b,0,none⟩),.int .i64 pl,.int .i64 k],.pointer (some ⟨wb,0,none⟩),.pointer (some ⟨b6,0,none⟩)] w fun e w'=>e=.returned (.agg #[.pointer (some ⟨nb,0,none⟩),.int .i64 (pl0-pl)]) ∧
     Far (fun q=>q=nb) w w'∧Blk w' nb 304 ((B.setIfInBounds (3+k*2) (.pointer o)).setIfInBounds (3+k*2+1) (.int .i64 (ps-(pl0-pl)))):=by
 have HLK:=fun w=>Lib.hid (link_any b pl k hk w)
 obtain ⟨w1,hw1⟩:∃ w1,w1=(w.alloc (.cells #[.pointer (some ⟨b,0,none⟩),.int .i64 pl,.int .i64 k] 329)).alloc (.cells #[.pointer none,.int .i64 0] 301):=⟨_,rfl⟩
 have hb1:Below w.heap.size w w1:=by rw [hw1];exact ((Below.refl _ _).alloc (Nat.le_refl _) _).alloc (by simp) _
 have kS:Blk w1 w.heap.size 329 #[.pointer (some ⟨b,0,none⟩),.int .i64 pl,.int .i64 k]:=by rw [hw1];exact (Blk.new _ _ _).alloc _
 have kR:Blk w1 (w.heap.size+1) 301 #[.pointer none,.int .i64 0]:=by
   rw [hw1]
   have:=Blk.new (w.alloc (.cells #[.pointer (some ⟨b,0,none⟩),.int .i64 pl,.int .i64 k] 329)) 301 #[.pointer none,.int .i64 0];simpa using this
 have hS1:SpS b k w.heap.size wb o ps pl pl0 w w1 :=
   ⟨((hA.later hb1).cell _).trans h0,((hA.later hb1).cell _).trans h1,kS.cell 0,kS.cell 1,kS.cell 2,((hW.later hb1).cell _).trans hpl,hb1,hb1.size⟩
 obtain ⟨hp1,hp2⟩:=hp
 obtain ⟨hq1,hq2⟩:=hq
 obtain ⟨hq3,hq4⟩:=hq0
 have hwr:IntKind.i64.wrap (pl0-pl)=pl0-pl:=IntWalk.i64_in _ (by omega)
 have hwr2:IntKind.i64.wrap (ps-(pl0-pl))=ps-(pl0-pl):=IntWalk.i64_in _ (by omega)
 have HS1:=Lib.hid hS1
 have HR:=Lib.hid kR
 have HW1:=Lib.hid hw1
 have HB:=Lib.hid hb1
 have H6:=Lib.hid h6
 have HNB:=Lib.hid hnb
 have hlt1:b<w1.heap.size:=Nat.lt_of_lt_of_le hA.lt hb1.size
 have hlt2:wb<w1.heap.size:=Nat.lt_of_lt_of_le hW.lt hb1.size
 have hlt3:=kS.lt
 clear kS kR hS1 hw1 hb1 h6 hnb hA h0 h1 hW hpl
 go_enter Tryz.func246,Tryz.ntmps246
 go_wp2_with fail
 rw [← HW1.out]
 have HS1D:SpS b k w.heap.size wb o ps pl pl0 w w1.drew:=HS1.out.later (drewB _ 1)
 rename_i K1 hK1
 have HK1:=Lib.hid hK1
 clear hK1
 have hfin:∀ (d:Nat) (W6:World),SpS b k w.heap.size wb o ps pl pl0 w W6→Blk W6 d 301 #[.pointer o,.int .i64 ps]→Below w1.heap.size w1 W6→w1.heap.size≤d→K1 { tmps:=#[.agg #[.pointer (some ⟨b,0,none⟩),.int .i64 pl,.int .i64 k],.pointer (some ⟨wb,0,none⟩),.pointer (some ⟨b6,0,none⟩),.pointer (some ⟨w.heap.size,0,none⟩),.pointer (some ⟨w.heap.size+1,0,none⟩),.pointer (some ⟨d,0,none⟩),.int .i64 (pl0-pl),.agg #[.pointer (some ⟨b,0,none⟩),.int .i64 pl,.int .i64 k],.pointer (some ⟨b,3+k*2,none⟩),.pointer (some ⟨b,3+k*2,none⟩),.agg #[.pointer o,.int .i64 ps],.pointer (some ⟨wb,0,none⟩),.pointer (some ⟨wb,1,none⟩),.int .i64 pl0,.pointer (some ⟨w.heap.size,1,none⟩),.int .i64 pl,.int .i64 (pl0-pl),undef,undef,undef,undef,undef,undef,undef,undef,undef,undef,undef,undef,undef,undef,undef,undef],defers:=[] } W6:=by
   rintro d W6 ⟨s1,s2,s3,s4,s5,s6,s7,s8⟩ kd hb6 hd
   refine HK1.out _ _ ?_
   obtain ⟨d0,d1,_,_⟩:=facts2 kd
   have hbw:=HB.out.trans (hb6.mono HB.out.size)
   have k6:=H6.out.later hbw
   have e6:=(facts1 k6).1
   have kn:=HNB.out.later hbw
   have n0:=kn.cell (3+k*2)
   have n1:=kn.cell (3+k*2+1)
   rw [Array.getElem?_eq_getElem (by omega)] at n0 n1
   have n2:=kn.free (3+k*2)
   have n3:=kn.free (3+k*2+1)
   have kR:=Lib.hid (HR.out.later hb6)
   have r0:=(facts2 kR.out).1
   have r1:=(facts2 kR.out).2.1
   have r2:=(facts2 kR.out).2.2.1
   have r3:=(facts2 kR.out).2.2.2
   have hnd:nb<w.heap.size:=HNB.out.lt
   have h6d:b6<w.heap.size:=H6.out.lt
   have hws:=HB.out.size
   have HBW:=Lib.hid hbw
   have HKN:=Lib.hid (kn.set (3+k*2) (.pointer o) |>.set (3+k*2+1) (.int .i64 (ps-(pl0-pl))))
   have HF7:=Lib.hid (far_set2 (S:=fun q=>q=nb) (Far.of_below hbw) nb (3+k*2) (3+k*2+1) (.pointer o) (.int .i64 (ps-(pl0-pl))) (.inl rfl))
   have HR7:=Lib.hid (((kR.out.setOther (3+k*2) (.pointer o) (Nat.ne_of_gt (Nat.lt_of_lt_of_le hnd (Nat.le_succ _)))).setOther (3+k*2+1) (.int .i64 (ps-(pl0-pl))) (Nat.ne_of_gt (Nat.lt_of_lt_of_le hnd (Nat.le_succ _)))))
   have hsz7:((W6.setCell ⟨nb,3+k*2,none⟩ (.pointer o)).setCell ⟨nb,3+k*2+1,none⟩ (.int .i64 (ps-(pl0-pl)))).heap.size=W6.heap.size:=by simp [World.setCell]
   clear hbw kn k6 kd hb6
   go_wp2_with fail
   go_region
   generalize (W6.setCell ⟨nb,3+k * 2,none⟩ (.pointer o)).setCell ⟨nb,3+k * 2+1,none⟩ (.int .i64 (ps-(pl0-pl)))=W7 at *
   have hs7:W7.drew.heap.size=W6.heap.size:=hsz7
   have KN7:=Lib.hid (HKN.out.drew)
   have F7:=Lib.hid (HF7.out.then_below (drewB _ 1))
   have R7:=Lib.hid (HR7.out.drew)
   obtain ⟨t0,t1,t2,t3⟩:=facts2 R7.out
   have F7':Far (fun q=>q=nb) w W7.drew:=F7.out
   have F8:=Lib.hid F7'
   have e8:=(facts1 (F7'.blk H6.out (fun e=>absurd ((e ▸ H6.out:Blk w nb 299 _).ty HNB.out) (by decide)))).1
   clear F7' F7 HF7 HKN HR7 r0 r1 r2 r3 n0 n1 n2 n3 d0 d1 s1 s2 s3 s4 s5 s6 s7 s8 e6
   generalize W7.drew=W8 at *
   go_wp2_with fail
   have k9:=(R7.out.set 0 (.pointer (some ⟨nb,0,none⟩))).set 1 (.int .i64 (pl0-pl))
   refine bodyPost_ret (results_cell Tryz.results246 (b:=⟨w.heap.size+1,0,none⟩) rfl (loadVar58 k9)) rfl ?_
   exact ⟨rfl,far_set2 F8.out _ _ _ _ _ (.inr (Nat.le_succ _)),(KN7.out.setOther _ _ (by omega)).setOther _ _ (by omega)⟩
 go_region_held (fun w'=>w'.cell? ⟨b,3+k*2,none⟩=some (.pointer o)∧w'.cell? ⟨b,3+k*2+1,none⟩=some (.int .i64 ps)∧w'.cell? ⟨w.heap.size,0,none⟩=some (.pointer (some ⟨b,0,none⟩))∧w'.cell? ⟨w.heap.size,1,none⟩=some (.int .i64 pl)∧w'.cell? ⟨w.heap.size,2,none⟩=some (.int .i64 k) ∧
   w'.cell? ⟨wb,1,none⟩=some (.int .i64 pl0)∧Below w.heap.size w w'∧w.heap.size≤w'.heap.size)
   (first
     | exact HS1D
     | exact S5
     | exact SpS.later S5 ((Below.refl _ _).alloc (Nat.le_refl _) _)
     | exact SpS.later HS1D ((Below.refl _ _).alloc (Nat.le_refl _) _)
     | (refine SpS.set2 S5 _ _ ?_ ?_ ?_ ?_ <;> omega))
   (first
     | (go_at_call 245;refine (HLK _).out.mono ?_;rintro e w5 ⟨rfl,hb5⟩;first
         | have S5:=SpS.later HS1D hb5
         | (have S5:=SpS.later (SpS.later HS1D ((Below.refl _ _).alloc (Nat.le_refl _) _)) hb5;obtain ⟨z0,z1,z2,z3⟩:=newbox hb5)))
 · exact hfin _ _ (SpS.later S5 ((Below.refl _ _).alloc (Nat.le_refl _) _)) (Blk.new _ _ _) (((drewB _ 1).trans hb5).trans ((Below.refl _ _).alloc (((drewB _ 1).trans hb5).size) _)) (((drewB _ 1).trans hb5).size)
 · have kd:=(Blk.new w1.drew 301 #[.pointer none,.int .i64 0]).later hb5
   have hb6:Below w1.heap.size w1 w5:=(((drewB _ 1).alloc (Nat.le_refl _) _).trans (hb5.mono (by simp)))
   refine hfin w1.heap.size _ (SpS.set2 S5 _ _ (Nat.ne_of_lt hlt1) (Nat.ne_of_lt hlt3) (Nat.ne_of_lt hlt2) (Nat.le_of_lt hlt3)) ((kd.set 0 _).set 1 _) ?_ (Nat.le_refl _)
   exact below_set2 hb6 _ _ _ _ _ (Nat.le_refl _)
theorem over_any(b yb ty:Nat)(A WF:Array Value)(pl plf nn:Int)(k wf c:Nat)(hk:k<32)(o:Option Addr)(ps:Int)(w:World)(hA:Blk w yb ty A)(h0:A[3+k*2]?=some (.pointer o))(h1:A[3+k*2+1]?=some (.int .i64 ps))(hp:-2000000≤ps∧ps≤2000000)
   (hW:Blk w wf 331 WF) (hw0:WF[k*3]?=some (.pointer (some ⟨yb,0,none⟩))) (hw1:WF[k*3+1]?=some (.int .i64 plf)) (hw2:WF[k*3+2]?=some (.int .i64 k)) (hq:-2000000≤pl∧pl≤2000000) (hq0:-2000000≤plf∧plf≤2000000) (hc:Blk w c 3 #[.int .i64 nn]) (hn:0≤nn∧nn≤2000000) :
   Calls Tryz.prog 343 #[.agg #[.pointer (some ⟨b,0,none⟩),.int .i64 pl,.int .i64 k],.pointer (some ⟨wf,0,none⟩),.pointer (some ⟨c,0,none⟩)] w fun e w'=>e=.returned (.agg #[.pointer o,.int .i64 (plf-pl+ps-nn)])∧Below w.heap.size w w':=by
 obtain ⟨hp1,hp2⟩:=hp
 obtain ⟨hq1,hq2⟩:=hq
 obtain ⟨hq3,hq4⟩:=hq0
 obtain ⟨hn1,hn2⟩:=hn
 have HLK:=fun w=>Lib.hid (link_any yb plf k hk w)
 have hb1:Below w.heap.size w ((w.alloc (.cells #[.pointer (some ⟨b,0,none⟩),.int .i64 pl,.int .i64 k] 329)).alloc (.cells #[.pointer none,.int .i64 0] 301)):=((Below.refl _ _).alloc (Nat.le_refl _) _).alloc (by simp) _
 have kR:Blk ((w.alloc (.cells #[.pointer (some ⟨b,0,none⟩),.int .i64 pl,.int .i64 k] 329)).alloc (.cells #[.pointer none,.int .i64 0] 301)) (w.heap.size+1) 301 #[.pointer none,.int .i64 0]:=by
   have:=Blk.new (w.alloc (.cells #[.pointer (some ⟨b,0,none⟩),.int .i64 pl,.int .i64 k] 329)) 301 #[.pointer none,.int .i64 0];simpa using this
 have kS:Blk ((w.alloc (.cells #[.pointer (some ⟨b,0,none⟩),.int .i64 pl,.int .i64 k] 329)).alloc (.cells #[.pointer none,.int .i64 0] 301)) w.heap.size 329 #[.pointer (some ⟨b,0,none⟩),.int .i64 pl,.int .i64 k]:=(Blk.new _ _ _).alloc _
 have e0:=(hW.cell _).trans hw0
 have e1:=(hW.cell _).trans hw1
 have e2:=(hW.cell _).trans hw2
 have hlW:=hW.lt
 have HA:=Lib.hid hA
 have HC:=Lib.hid hc
 have HB1:=Lib.hid hb1
 have HR:=Lib.hid kR
 have HS:=Lib.hid kS
 clear hb1 kR kS hA hW hw0 hw1 hw2 hc
 go_enter Tryz.func343,Tryz.ntmps343
 go_wp2_with fail
 refine (HLK _).out.mono ?_
 rintro e w2 ⟨rfl,hb2⟩
 have hba:Below ((w.alloc (.cells #[.pointer (some ⟨b,0,none⟩),.int .i64 pl,.int .i64 k] 329)).alloc (.cells #[.pointer none,.int .i64 0] 301)).heap.size ((w.alloc (.cells #[.pointer (some ⟨b,0,none⟩),.int .i64 pl,.int .i64 k] 329)).alloc (.cells #[.pointer none,.int .i64 0] 301)) w2:=((Below.refl _ _).alloc (Nat.le_refl _) _).trans (hb2.mono (by simp))
 have hb3:=HB1.out.trans (hba.mono HB1.out.size)
 have c0:=((HA.out.later hb3).cell _).trans h0
 have c1:=((HA.out.later hb3).cell _).trans h1
 obtain ⟨g0,g1⟩:=facts1 (HC.out.later hb3)
 obtain ⟨r0,r1,r2,r3⟩:=facts2 (HR.out.later hba)
 have s1:=(facts3 (HS.out.later hba)).2.1
 have kB:=(Blk.new ((w.alloc (.cells #[.pointer (some ⟨b,0,none⟩),.int .i64 pl,.int .i64 k] 329)).alloc (.cells #[.pointer none,.int .i64 0] 301)) 329 #[.pointer (some ⟨yb,0,none⟩),.int .i64 plf,.int .i64 k]).later hb2
 simp only [World.size_alloc] at kB
 have t1:=(facts3 kB).2.1
 have z1:=kB.lt
 have z2:=(HR.out.later hba).lt
 have z3:=(HC.out.later hb3).lt
 have z0:w.heap.size<w2.heap.size:=by omega
 have KR:=Lib.hid (HR.out.later hba)
 have HB3:=Lib.hid hb3
 clear hb2 hb3 hba kB e0 e1 e2 h0 h1
 go_wp2_with fail
 have k5:=((KR.out.set 0 (.pointer o)).set 1 (.int .i64 (plf-pl+ps-nn))).alloc (Obj.cells #[Value.pointer o,Value.int IntKind.i64 ps] 301)
 refine bodyPost_ret (results_cell Tryz.results343 (b:=⟨w.heap.size+1,0,none⟩) rfl (loadVar58 k5)) rfl ?_
 have h3:=HB3.out
 refine ⟨rfl,Below.alloc ?_ (by simpa [World.setCell] using h3.size) _⟩
 exact below_set2 h3 _ _ _ _ _ (by omega)
end Go.Proofs.YtlckdfoflimahaaGreatDoor.Sk
namespace Go.Proofs.YtlckdfoflimahaaGreatDoor.Sk
open Go.RowKit Go.Shelf
def insF(F:List Nd)(a:Nat)(x:Nd):List Nd:=F.take (a+1)++x :: F.drop (a+1)
variable {F:List Nd} {a:Nat} {x:Nd}
theorem insF_len(h:a<F.length):(insF F a x).length=F.length+1:=by unfold insF;simp;omega
theorem insF_le(h:a<F.length){i:Nat}(hi:i≤a):(insF F a x)[i]?=F[i]?:=by
 unfold insF;rw [List.getElem?_append_left (by simp;omega),List.getElem?_take_of_lt (by omega)]
theorem insF_at(h:a<F.length):(insF F a x)[a+1]?=some x:=by
 unfold insF;rw [List.getElem?_append_right (by simp;omega)];simp [Nat.min_eq_left (show a+1≤F.length by omega)]
theorem insF_gt(h:a<F.length){i:Nat}(hi:a<i):(insF F a x)[i+1]?=F[i]?:=by
 unfold insF
 rw [List.getElem?_append_right (by simp;omega),List.length_take,Nat.min_eq_left (show a+1≤F.length by omega),show i+1-(a+1)=(i-(a+1))+1 by omega,List.getElem?_cons_succ,List.getElem?_drop]
 congr 1;omega
theorem lev_le(h:a<F.length){i:Nat}(hi:i≤a):lev (insF F a x) i=lev F i:=by unfold lev;rw [insF_le h hi]
theorem lev_at(h:a<F.length):lev (insF F a x) (a+1)=x.l:=by unfold lev;rw [insF_at h];rfl
theorem lev_gt(h:a<F.length){i:Nat}(hi:a<i):lev (insF F a x) (i+1)=lev F i:=by unfold lev;rw [insF_gt h hi]
theorem adr_le(h:a<F.length){i:Nat}(hi:i≤a):adr (insF F a x) i=adr F i:=by unfold adr;rw [insF_le h hi]
theorem adr_at(h:a<F.length):adr (insF F a x) (a+1)=.pointer (some ⟨x.b,0,none⟩):=by unfold adr;rw [insF_at h];rfl
theorem adr_gt(h:a<F.length){i:Nat}(hi:a<i):adr (insF F a x) (i+1)=adr F i:=by unfold adr;rw [insF_gt h hi]
theorem nxt_new(h:a<F.length){k q:Nat}(h0:k<lev F 0)(hq:q=last F k a)(hk:k<x.l):nxt (insF F a x) k q=a+1:=by
 obtain ⟨l1,l2,l3⟩:=last_spec F k h0 a
 subst hq
 refine nxt_unique (by rw [insF_len h];omega) (by omega) (by rw [insF_len h];omega) (fun i h1 h2=>?_) (fun _=>by rw [lev_at h];exact hk)
 rw [lev_le h (by omega)]
 exact l3 i h1 (by omega)
theorem nxt_last(h:a<F.length){k:Nat}(h0:k<lev F 0):a<nxt F k (last F k a):=by
 obtain ⟨l1,l2,l3⟩:=last_spec F k h0 a
 obtain ⟨n1,n2,n3,n4,_⟩:=nxt_spec F k (last F k a) (by omega)
 rcases Nat.lt_or_ge a (nxt F k (last F k a)) with e|e
 · exact e
 · have:=l3 _ n1 e
   have:=n4 (by omega)
   omega
theorem nxt_pass(h:a<F.length){k q:Nat}(h0:k<lev F 0)(hq:q=last F k a)(hk:¬ k<x.l):nxt (insF F a x) k q=nxt F k q+1:=by
 obtain ⟨l1,l2,l3⟩:=last_spec F k h0 a
 have ha:=nxt_last h h0
 subst hq
 obtain ⟨n1,n2,n3,n4,_⟩:=nxt_spec F k (last F k a) (by omega)
 refine nxt_unique (by rw [insF_len h];omega) (by omega) (by rw [insF_len h];omega) (fun i h1 h2=>?_) (fun hl=>?_)
 · by_cases e:i≤a
   · rw [lev_le h e];exact n3 i h1 (by omega)
   · by_cases e2:i=a+1
     · subst e2;rw [lev_at h];omega
     · obtain ⟨j,rfl⟩:∃ j,i=j+1:=⟨i-1,by omega⟩
       rw [lev_gt h (by omega)];exact n3 j (by omega) (by omega)
 · rw [insF_len h] at hl
   rw [lev_gt h ha]
   exact n4 (by omega)
theorem nxt_front(h:a<F.length){k q:Nat}(h0:k<lev F 0)(hq:q≤a)(hkq:k<lev F q)(hne:q≠last F k a):nxt (insF F a x) k q=nxt F k q∧nxt F k q≤a:=by
 obtain ⟨l1,l2,l3⟩:=last_spec F k h0 a
 obtain ⟨n1,n2,n3,n4,_⟩:=nxt_spec F k q (by omega)
 have hql:q<last F k a:=by
   rcases Nat.lt_trichotomy q (last F k a) with e|e|e
   · exact e
   · exact absurd e hne
   · have:=l3 q e hq;omega
 have hle:nxt F k q≤last F k a:=by
   rcases Nat.lt_or_ge (last F k a) (nxt F k q) with e|e
   · have:=n3 _ hql e;omega
   · exact e
 refine ⟨nxt_unique (by rw [insF_len h];omega) n1 (by rw [insF_len h];omega) (fun i h1 h2=>?_) (fun _=>?_),by omega⟩
 · rw [lev_le h (by omega)];exact n3 i h1 h2
 · rw [lev_le h (by omega)];exact n4 (by omega)
theorem nxt_own(h:a<F.length){k:Nat}(h0:k<lev F 0):nxt (insF F a x) k (a+1)=nxt F k (last F k a)+1:=by
 obtain ⟨l1,l2,l3⟩:=last_spec F k h0 a
 have ha:=nxt_last h h0
 obtain ⟨n1,n2,n3,n4,_⟩:=nxt_spec F k (last F k a) (by omega)
 refine nxt_unique (by rw [insF_len h];omega) (by omega) (by rw [insF_len h];omega) (fun i h1 h2=>?_) (fun hl=>?_)
 · obtain ⟨j,rfl⟩:∃ j,i=j+1:=⟨i-1,by omega⟩
   rw [lev_gt h (by omega)];exact n3 j (by omega) (by omega)
 · rw [insF_len h] at hl
   rw [lev_gt h ha]
   exact n4 (by omega)
theorem nxt_back(h:a<F.length){k q:Nat}(hq:a<q)(hql:q<F.length):nxt (insF F a x) k (q+1)=nxt F k q+1:=by
 obtain ⟨n1,n2,n3,n4,_⟩:=nxt_spec F k q hql
 refine nxt_unique (by rw [insF_len h];omega) (by omega) (by rw [insF_len h];omega) (fun i h1 h2=>?_) (fun hl=>?_)
 · obtain ⟨j,rfl⟩:∃ j,i=j+1:=⟨i-1,by omega⟩
   rw [lev_gt h (by omega)];exact n3 j (by omega) (by omega)
 · rw [insF_len h] at hl
   rw [lev_gt h (by omega)]
   exact n4 (by omega)
def lkJ(F:List Nd)(a l nb k:Nat)(q k':Nat):Value × Int :=
 if k'<k∧q=last F k' a then (if k'<l then (.pointer (some ⟨nb,0,none⟩),(a:Int)-q) else ((lk0 F q k').1,(lk0 F q k').2+1)) else lk0 F q k'
theorem lkJ_zero(F:List Nd)(a l nb q k':Nat):lkJ F a l nb 0 q k'=lk0 F q k':=by unfold lkJ;rw [if_neg (by omega)]
theorem lk_ins_le(h:a<F.length)(h32:lev F 0=32){k q:Nat}(hk:k<32)(hq:q≤a)(hkq:k<lev F q):lk0 (insF F a x) q k=lkJ F a x.l x.b 32 q k:=by
 unfold lkJ
 by_cases e:q=last F k a
 · rw [if_pos ⟨hk,e⟩]
   by_cases e2:k<x.l
   · rw [if_pos e2]
     unfold lk0
     rw [nxt_new h (by omega) e e2,adr_at h]
     refine congrArg _ ?_
     omega
   · rw [if_neg e2]
     unfold lk0
     have:=nxt_last (k:=k) h (by omega)
     rw [← e] at this
     rw [nxt_pass h (by omega) e e2,adr_gt h this]
     refine congrArg _ ?_
     show ((nxt F k q+1:Nat):Int)-q-1=_
     omega
 · rw [if_neg (fun t=>e t.2)]
   unfold lk0
   obtain ⟨e1,e2⟩:=nxt_front (x:=x) h (by omega) hq hkq e
   rw [e1,adr_le h e2]
theorem lk_ins_at(h:a<F.length)(h32:lev F 0=32){k:Nat}(hk:k<32):lk0 (insF F a x) (a+1) k=((lk0 F (last F k a) k).1,(lk0 F (last F k a) k).2-((a:Int)-last F k a)):=by
 unfold lk0
 have:=nxt_last (k:=k) h (by omega)
 rw [nxt_own h (by omega),adr_gt h this]
 refine congrArg _ ?_
 show ((nxt F k (last F k a)+1:Nat):Int)-((a+1:Nat):Int)-1=_
 omega
theorem lk_ins_gt(h:a<F.length){k q:Nat}(hq:a<q)(hql:q<F.length):lk0 (insF F a x) (q+1) k=lk0 F q k:=by
 unfold lk0
 obtain ⟨n1,_⟩:=nxt_spec F k q hql
 rw [nxt_back h hq hql,adr_gt h (by omega)]
 refine congrArg _ ?_
 show ((nxt F k q+1:Nat):Int)-((q+1:Nat):Int)-1=_
 omega
theorem lkJ_gt{l nb k q k':Nat}(hq:a<q)(h0:k'<lev F 0):lkJ F a l nb k q k'=lk0 F q k':=by
 unfold lkJ
 rw [if_neg (fun t=>by have:=(last_spec F k' h0 a).1;omega)]
variable {W:World} {lk:Nat→Nat→Value × Int} {ah:Nat→Value} {n:Int}
theorem NodeA.set{A:Array Value}{q:Nat}{x:Nd}{lk lk':Nat→Value × Int}{ah:Value}{n:Int}(h:NodeA A q x lk ah n){k:Nat}(hk:k<32)(v:Value)(u:Int)(h1:lk' k=(v,u))(h2:∀ k',k'≠k→lk' k'=lk k') :
   NodeA ((A.setIfInBounds (3+k*2) v).setIfInBounds (3+k*2+1) (.int .i64 u)) q x lk' ah n:=by
 have hs:67≤A.size:=by rw [h.size];unfold szq;split <;> decide
 have far:∀ i,i≠3+k*2→i≠3+k*2+1→((A.setIfInBounds (3+k*2) v).setIfInBounds (3+k*2+1) (.int .i64 u))[i]?=A[i]?:=fun i e1 e2=>by
   rw [Array.getElem?_setIfInBounds_ne (Ne.symm e2),Array.getElem?_setIfInBounds_ne (Ne.symm e1)]
 refine ⟨by simpa using h.size,(far 0 (by omega) (by omega)).trans h.m,(far 1 (by omega) (by omega)).trans h.s,(far 2 (by omega) (by omega)).trans h.a,fun k' hk'=>?_,fun hq=>(far 67 (by omega) (by omega)).trans (h.n hq)⟩
 by_cases e:k'=k
 · subst e
   rw [h1]
   constructor
   · rw [Array.getElem?_setIfInBounds_ne (by omega),Array.getElem?_setIfInBounds_self_of_lt (by omega)]
   · rw [Array.getElem?_setIfInBounds_self_of_lt (by simp;omega)]
 · rw [h2 k' e]
   exact ⟨(far _ (by omega) (by omega)).trans (h.link k' hk').1,(far _ (by omega) (by omega)).trans (h.link k' hk').2⟩
theorem Sk.setLink(h:Sk W F lk ah n){q k:Nat}{x:Nd}(hq:F[q]?=some x)(hk:k<32)(v:Value)(u:Int)(lk':Nat→Nat→Value × Int)(h1:lk' q k=(v,u))(h2:∀ q' k',q'≠q∨k'≠k→lk' q' k'=lk q' k') :
   Sk ((W.setCell ⟨x.b,3+k*2,none⟩ v).setCell ⟨x.b,3+k*2+1,none⟩ (.int .i64 u)) F lk' ah n:=by
 refine ⟨fun q' x' hx'=>?_,h.inj,h.lev⟩
 obtain ⟨A,hA,hN⟩:=h.node q' x' hx'
 by_cases e:q'=q
 · subst e
   rw [hq] at hx'
   cases hx'
   exact ⟨_,(hA.set _ _).set _ _,hN.set hk v u h1 (fun k' hk'=>h2 _ _ (.inr hk'))⟩
 · have hne:x'.b≠x.b:=fun e2=>e (h.inj _ _ _ _ hx' hq e2)
   refine ⟨A,(hA.setOther _ _ hne).setOther _ _ hne,?_⟩
   have:lk' q'=lk q':=funext fun k'=>h2 _ _ (.inl e)
   rw [this];exact hN
theorem NodeA.setAh{A:Array Value}{q:Nat}{x:Nd}{lk:Nat→Value × Int}{ah:Value}{n:Int}(h:NodeA A q x lk ah n)(v:Value):NodeA (A.setIfInBounds 2 v) q x lk v n:=by
 have hs:67≤A.size:=by rw [h.size];unfold szq;split <;> decide
 have far:∀ i,i≠2→(A.setIfInBounds 2 v)[i]?=A[i]?:=fun i e=>Array.getElem?_setIfInBounds_ne (Ne.symm e)
 exact ⟨by simpa using h.size,(far 0 (by omega)).trans h.m,(far 1 (by omega)).trans h.s,Array.getElem?_setIfInBounds_self_of_lt (by omega),fun k' hk'=>⟨(far _ (by omega)).trans (h.link k' hk').1,(far _ (by omega)).trans (h.link k' hk').2⟩,fun hq=>(far 67 (by omega)).trans (h.n hq)⟩
theorem Sk.setAh(h:Sk W F lk ah n){q:Nat}{x:Nd}(hq:F[q]?=some x)(v:Value)(ah':Nat→Value)(h1:ah' q=v)(h2:∀ q',q'≠q→ah' q'=ah q'):Sk (W.setCell ⟨x.b,2,none⟩ v) F lk ah' n:=by
 refine ⟨fun q' x' hx'=>?_,h.inj,h.lev⟩
 obtain ⟨A,hA,hN⟩:=h.node q' x' hx'
 by_cases e:q'=q
 · subst e
   rw [hq] at hx'
   cases hx'
   exact ⟨_,hA.set _ _,by rw [h1];exact hN.setAh v⟩
 · have hne:x'.b≠x.b:=fun e2=>e (h.inj _ _ _ _ hx' hq e2)
   exact ⟨A,hA.setOther _ _ hne,by rw [h2 _ e];exact hN⟩
theorem Sk.setN(h:Sk W F lk ah n){x:Nd}(hq:F[0]?=some x)(n':Int):Sk (W.setCell ⟨x.b,67,none⟩ (.int .i64 n')) F lk ah n':=by
 refine ⟨fun q' x' hx'=>?_,h.inj,h.lev⟩
 obtain ⟨A,hA,hN⟩:=h.node q' x' hx'
 have far:∀ i,i≠67→(A.setIfInBounds 67 (.int .i64 n'))[i]?=A[i]?:=fun i e=>Array.getElem?_setIfInBounds_ne (Ne.symm e)
 have hl:=(h.lev _ _ hx').2
 by_cases e:q'=0
 · subst e
   rw [hq] at hx'
   cases hx'
   have hs:=hN.size
   exact ⟨_,hA.set _ _,⟨by simpa using hN.size,(far 0 (by omega)).trans hN.m,(far 1 (by omega)).trans hN.s,(far 2 (by omega)).trans hN.a,fun k' hk'=>⟨(far _ (by omega)).trans (hN.link k' hk').1,(far _ (by omega)).trans (hN.link k' hk').2⟩,fun _=>Array.getElem?_setIfInBounds_self_of_lt (by rw [hs];decide)⟩⟩
 · have hne:x'.b≠x.b:=fun e2=>e (h.inj _ _ _ _ hx' hq e2)
   exact ⟨A,hA.setOther _ _ hne,⟨hN.size,hN.m,hN.s,hN.a,hN.link,fun e2=>absurd e2 e⟩⟩
theorem sk_insert(h:Sk W F lk ah n)(ha:a<F.length){B:Array Value}(hB:Blk W x.b 304 B)(hx:0<x.l∧x.l≤32)(lk':Nat→Nat→Value × Int)(ah':Nat→Value)(hN:NodeA B (a+1) x (lk' (a+1)) (ah' (a+1)) n)(hfresh:¬ isB F x.b)
   (h1:∀ q k,q≤a→k<lev F q→lk' q k=lk q k) (h2:∀ q k,a<q→q<F.length→k<lev F q→lk' (q+1) k=lk q k) (h3:∀ q,q≤a→ah' q=ah q) (h4:∀ q,a<q→q<F.length→ah' (q+1)=ah q):Sk W (insF F a x) lk' ah' n:=by
 have part:∀ (q:Nat) (y:Nd),(insF F a x)[q]?=some y→(q≤a∧F[q]?=some y)∨(q=a+1∧y=x)∨(∃ i,q=i+1∧a<i∧F[i]?=some y):=fun q y hy=>by
   rcases Nat.lt_trichotomy q (a+1) with e|e|e
   · rw [insF_le ha (by omega)] at hy;exact .inl ⟨by omega,hy⟩
   · subst e;rw [insF_at ha] at hy;cases hy;exact .inr (.inl ⟨rfl,rfl⟩)
   · obtain ⟨i,rfl⟩:∃ i,q=i+1:=⟨q-1,by omega⟩
     rw [insF_gt ha (by omega)] at hy;exact .inr (.inr ⟨i,rfl,by omega,hy⟩)
 refine ⟨fun q y hy=>?_,fun q q' y y' hy hy' hb=>?_,fun q y hy=>?_⟩
 · rcases part q y hy with ⟨e,hy'⟩|⟨rfl,rfl⟩|⟨i,rfl,e,hy'⟩
   · obtain ⟨A,hA,hNA⟩:=h.node q y hy'
     refine ⟨A,hA,hNA.size,hNA.m,hNA.s,by rw [h3 q e];exact hNA.a,fun k hk=>?_,hNA.n⟩
     rw [h1 q k e (by rw [lev_some hy'];exact hk)]
     exact hNA.link k hk
   · exact ⟨B,by unfold tyq;rw [if_neg (by omega)];exact hB,hN⟩
   · obtain ⟨A,hA,hNA⟩:=h.node i y hy'
     have hil:=(List.getElem?_eq_some_iff.1 hy').1
     refine ⟨A,by unfold tyq at hA ⊢;rw [if_neg (by omega)] at hA ⊢;exact hA,by have:=hNA.size;unfold szq at this ⊢;rw [if_neg (by omega)] at this ⊢;exact this,hNA.m,hNA.s,by rw [h4 i e hil];exact hNA.a,fun k hk=>?_,fun e2=>by omega⟩
     rw [h2 i k e hil (by rw [lev_some hy'];exact hk)]
     exact hNA.link k hk
 · rcases part q y hy with ⟨e,hz⟩|⟨rfl,rfl⟩|⟨i,rfl,e,hz⟩ <;> rcases part q' y' hy' with ⟨e',hz'⟩|⟨rfl,rfl⟩|⟨i',rfl,e',hz'⟩
   · exact h.inj _ _ _ _ hz hz' hb
   · exact absurd (hb ▸ isB_at hz) hfresh
   · have:=h.inj _ _ _ _ hz hz' hb;omega
   · exact absurd (hb ▸ isB_at hz') hfresh
   · rfl
   · exact absurd (hb ▸ isB_at hz') hfresh
   · have:=h.inj _ _ _ _ hz hz' hb;omega
   · exact absurd (hb ▸ isB_at hz) hfresh
   · have:=h.inj _ _ _ _ hz hz' hb;omega
 · rcases part q y hy with ⟨e,hz⟩|⟨rfl,rfl⟩|⟨i,rfl,e,hz⟩
   · exact h.lev _ _ hz
   · exact hx
   · exact h.lev _ _ hz
end Go.Proofs.YtlckdfoflimahaaGreatDoor.Sk
namespace Go.Proofs.YtlckdfoflimahaaGreatDoor.Sk
open Go.RowKit Go.Shelf
attribute [local go_sem] Oper.semAt_some
structure JInv (w0:World) (F:List Nd) (a l nb wb b6:Nat) (m:ByteArray) (s:Int) (ah:Nat→Value) (n:Int) (k:Nat) (W:World):Prop where
 sk:Sk W F (lkJ F a l nb k) ah n
 new:∃ B,Blk W nb 304 B∧B.size=67∧B[0]?=some (.string m)∧B[1]?=some (.int .i64 s)∧B[2]?=some (.pointer none) ∧
   ∀ k',k'<k→k'<l→B[3+k'*2]?=some (lk0 F (last F k' a) k').1∧B[3+k'*2+1]?=some (.int .i64 ((lk0 F (last F k' a) k').2-((a:Int)-last F k' a)))
 way:Blk W wb 331 (wayA F a)
 box:Blk W b6 299 #[.pointer (some ⟨nb,0,none⟩)]
 far:Far (fun q=>isB F q∨q=nb) w0 W
 fresh:¬ isB F nb
variable {w0:World} {F:List Nd} {a l nb wb b6:Nat} {m:ByteArray} {s:Int} {ah:Nat→Value} {n:Int} {k:Nat}
theorem JInv.later{W W':World}(h:JInv w0 F a l nb wb b6 m s ah n k W)(hb:Below W.heap.size W W'):JInv w0 F a l nb wb b6 m s ah n k W':=by
 obtain ⟨h1,⟨B,h2,h3⟩,h4,h5,h6,h7⟩:=h
 exact ⟨h1.later hb,⟨B,h2.later hb,h3⟩,h4.later hb,h5.later hb,h6.then_below hb,h7⟩
theorem lk0_ptr(F:List Nd)(q k:Nat):∃ o,(lk0 F q k).1=.pointer o:=⟨_,rfl⟩
theorem lk0_bound(F:List Nd)(hN:F.length≤1000000)(q k:Nat)(hq:q<F.length):-2000000≤(lk0 F q k).2∧(lk0 F q k).2≤2000000:=by
 obtain ⟨n1,n2,_⟩:=nxt_spec F k q hq
 unfold lk0
 exact ⟨by show _≤(nxt F k q:Int)-q-1;omega,by show (nxt F k q:Int)-q-1≤_;omega⟩
theorem lkJ_done(F:List Nd)(a l nb k:Nat):lkJ F a l nb k (last F k a) k=lk0 F (last F k a) k:=by unfold lkJ;rw [if_neg (by omega)]
theorem lkJ_step(F:List Nd)(a l nb k:Nat)(q' k':Nat)(h:q'≠last F k a∨k'≠k):lkJ F a l nb (k+1) q' k'=lkJ F a l nb k q' k':=by
 unfold lkJ
 by_cases e:k'<k∧q'=last F k' a
 · rw [if_pos e,if_pos ⟨by omega,e.2⟩]
 · rw [if_neg e,if_neg]
   rintro ⟨h1,h2⟩
   by_cases e2:k'=k
   · subst e2
     rcases h with h|h
     · exact h h2
     · exact h rfl
   · exact e ⟨by omega,h2⟩
theorem links_split(hF0:lev F 0=32)(hp:∀ i,i<F.length→0<lev F i)(hN:F.length≤1000000)(ha:a<F.length)(hl:l≤32):Links F a wb 0 l 246 #[.pointer (some ⟨wb,0,none⟩),.pointer (some ⟨b6,0,none⟩)] (JInv w0 F a l nb wb b6 m s ah n):=by
 refine ⟨enters_of Tryz.func246 (by kernel_rfl) rfl,fun k W W' h hb=>h.later hb,fun k W h=>h.way,fun k W x _ hk h hx=>?_⟩
 obtain ⟨A,hA,hNA⟩:=h.sk.node _ x hx
 obtain ⟨B,hB,hBs,b0,b1,b2,hBl⟩:=h.new
 obtain ⟨l1,l2,l3⟩:=last_spec F k (by omega) a
 rw [lev_some hx] at l2
 obtain ⟨k1,k2⟩:=hNA.link k l2
 rw [lkJ_done] at k1 k2
 obtain ⟨o,ho⟩:=lk0_ptr F (last F k a) k
 rw [ho] at k1
 have hlb:=lk0_bound F hN (last F k a) k (by omega)
 have hne:nb≠x.b:=fun e=>h.fresh (e ▸ isB_at hx)
 have w1:=(way_cells F a 0 (by decide)).2.1
 rw [last_zero F hp a ha] at w1
 refine (split_any x.b _ A B (wayA F a) ((last F k a:Int)-1) ((a:Int)-1) k wb b6 nb (by omega) o _ W hA k1 k2 hlb h.way w1 (by omega) (by omega) h.box hB hBs hne).mono ?_
 rintro e w' ⟨rfl,hf,hB'⟩
 have hA':=hf.blk hA (Ne.symm hne)
 have hs67:67≤A.size:=by rw [hNA.size];unfold szq;split <;> decide
 have hsk:=h.sk.far (S:=fun q=>q=nb) hf (fun q hq e=>h.fresh (e ▸ hq))
 refine ⟨_,_,A[3+k*2],A[3+k*2+1],rfl,?_,?_,hA'.free _,hA'.free _,⟨?_,?_,?_,?_,?_,h.fresh⟩,hf.size⟩
 · rw [hA'.cell];exact Array.getElem?_eq_getElem _
 · rw [hA'.cell];exact Array.getElem?_eq_getElem _
 · refine hsk.setLink hx (by omega) _ _ _ ?_ (fun q' k' hh=>lkJ_step F a l nb k q' k' hh)
   unfold lkJ
   rw [if_pos ⟨by omega,rfl⟩,if_pos (by omega)]
   refine congrArg _ ?_
   omega
 · refine ⟨_,(hB'.setOther _ _ hne).setOther _ _ hne,by simpa using hBs,?_,?_,?_,fun k' hk' hl'=>?_⟩
   · rw [Array.getElem?_setIfInBounds_ne (by omega),Array.getElem?_setIfInBounds_ne (by omega)];exact b0
   · rw [Array.getElem?_setIfInBounds_ne (by omega),Array.getElem?_setIfInBounds_ne (by omega)];exact b1
   · rw [Array.getElem?_setIfInBounds_ne (by omega),Array.getElem?_setIfInBounds_ne (by omega)];exact b2
   · by_cases e:k'=k
     · subst e
       constructor
       · rw [Array.getElem?_setIfInBounds_ne (by omega),Array.getElem?_setIfInBounds_self_of_lt (by omega),ho]
       · rw [Array.getElem?_setIfInBounds_self_of_lt (by simp;omega)]
         refine congrArg (fun z=>some (Value.int IntKind.i64 z)) ?_
         omega
     · obtain ⟨y1,y2⟩:=hBl k' (by omega) hl'
       exact ⟨by rw [Array.getElem?_setIfInBounds_ne (by omega),Array.getElem?_setIfInBounds_ne (by omega)];exact y1,by rw [Array.getElem?_setIfInBounds_ne (by omega),Array.getElem?_setIfInBounds_ne (by omega)];exact y2⟩
 · have hwx:wb≠x.b:=fun e=>absurd ((e ▸ h.way:Blk W x.b 331 _).ty hA) (fun e2=>(ty_ne _).2.2.1 e2.symm)
   have hwn:wb≠nb:=fun e=>absurd ((e ▸ h.way:Blk W nb 331 _).ty hB) (by decide)
   exact ((hf.blk h.way hwn).setOther _ _ hwx).setOther _ _ hwx
 · have hwx:b6≠x.b:=fun e=>by
     have:=(e ▸ h.box:Blk W x.b 299 _).ty hA
     unfold tyq at this;split at this <;> exact absurd this (by decide)
   have hwn:b6≠nb:=fun e=>absurd ((e ▸ h.box:Blk W nb 299 _).ty hB) (by decide)
   exact ((hf.blk h.box hwn).setOther _ _ hwx).setOther _ _ hwx
 · exact far_set2 (h.far.trans (hf.mono (S1:=fun q=>isB F q∨q=nb) (fun q e=>.inr e)) (fun q e=>.inl e)) _ _ _ _ _ (.inl (.inl (isB_at hx)))
theorem links_pass(hF0:lev F 0=32)(hN:F.length≤1000000)(ha:a<F.length)(hl:l≤32):Links F a wb l (32-l) 247 #[] (JInv w0 F a l nb wb b6 m s ah n):=by
 refine ⟨enters_of Tryz.func247 (by kernel_rfl) rfl,fun k W W' h hb=>h.later hb,fun k W h=>h.way,fun k W x hk0 hk h hx=>?_⟩
 obtain ⟨A,hA,hNA⟩:=h.sk.node _ x hx
 obtain ⟨B,hB,hBs,b0,b1,b2,hBl⟩:=h.new
 obtain ⟨l1,l2,l3⟩:=last_spec F k (by omega) a
 rw [lev_some hx] at l2
 obtain ⟨k1,k2⟩:=hNA.link k l2
 rw [lkJ_done] at k1 k2
 obtain ⟨o,ho⟩:=lk0_ptr F (last F k a) k
 rw [ho] at k1
 have hlb:=lk0_bound F hN (last F k a) k (by omega)
 have hne:nb≠x.b:=fun e=>h.fresh (e ▸ isB_at hx)
 refine (pass_any x.b _ A ((last F k a:Int)-1) k (by omega) o _ W hA k1 k2 hlb).mono ?_
 rintro e w' ⟨rfl,hb⟩
 have h':=h.later hb
 have hA':=hA.later hb
 have hB':=hB.later hb
 have hs67:67≤A.size:=by rw [hNA.size];unfold szq;split <;> decide
 refine ⟨_,_,A[3+k*2],A[3+k*2+1],rfl,?_,?_,hA'.free _,hA'.free _,⟨?_,?_,?_,?_,?_,h.fresh⟩,hb.size⟩
 · rw [hA'.cell];exact Array.getElem?_eq_getElem _
 · rw [hA'.cell];exact Array.getElem?_eq_getElem _
 · refine h'.sk.setLink hx (by omega) _ _ _ ?_ (fun q' k' hh=>lkJ_step F a l nb k q' k' hh)
   unfold lkJ
   rw [if_pos ⟨by omega,rfl⟩,if_neg (by omega),ho]
 · exact ⟨B,(hB'.setOther _ _ hne).setOther _ _ hne,hBs,b0,b1,b2,fun k' hk' hl'=>hBl k' (by omega) hl'⟩
 · have hwx:wb≠x.b:=fun e=>absurd ((e ▸ h.way:Blk W x.b 331 _).ty hA) (fun e2=>(ty_ne _).2.2.1 e2.symm)
   exact (h'.way.setOther _ _ hwx).setOther _ _ hwx
 · have hwx:b6≠x.b:=fun e=>by
     have:=(e ▸ h.box:Blk W x.b 299 _).ty hA
     unfold tyq at this;split at this <;> exact absurd this (by decide)
   exact (h'.box.setOther _ _ hwx).setOther _ _ hwx
 · exact far_set2 h'.far _ _ _ _ _ (.inl (.inl (isB_at hx)))
end Go.Proofs.YtlckdfoflimahaaGreatDoor.Sk
