/- Texts of one kind in one: SkPut, SkInsert, SkRem, SkCut, SkRowsOf. -/
import Derived.Test.YtlckdfoflimahaaGreatDoorQSkSeek05
import Derived.Deep.RegionHeld
import Derived.Laws.AppendOwn
set_option maxRecDepth 200000
set_option maxHeartbeats 8000000
namespace Go.Proofs.YtlckdfoflimahaaGreatDoor.Sk
open Go.RowKit Go.Shelf
attribute [local go_sem] Oper.semAt_some
theorem clone_any(s:ByteArray)(w:World)(hs:s.size≤281474976710656):Calls Tryz.prog 118 #[.string s] w fun e w'=>e=.returned (.string s)∧Below w.heap.size w w':=by
 have HC:=fun w=>Lib.hid (Tryz.stringslite_Clone s w hs)
 clear hs
 go_enter Tryz.func118,Tryz.ntmps118
 go_wp2_with fail
 refine (HC _).out.mono ?_
 rintro e w1 ⟨rfl,hb⟩
 have HB:=Lib.hid hb
 clear hb
 go_wp2_with fail
 go_ret
 exact ⟨rfl,HB.out⟩
def z61:Array Value:=#[.string ⟨#[]⟩,.int .i64 0,.pointer none]++((List.range 32).flatMap fun _=>[Value.pointer none,.int .i64 0]).toArray
theorem info133:(Tryz.prog.info? 304).map (fun i=>(i.zero,i.size))=some (some (.agg z61),67):=by kernel_rfl
theorem zero61(w:World):(zeroValue 304).run Tryz.prog w=.ok (.agg z61) w:=(zero_of_info info133).1 w
theorem fin_sk{W1:World}{F:List Nd}{a l nb:Nat}{m:ByteArray}{s:Int}{ah1:Nat→Value}{n:Int}{B:Array Value}(hF0:lev F 0=32)(ha:a<F.length)(hl:0<l∧l≤32)(hsk:Sk W1 F (lkJ F a l nb 32) ah1 n)(hah:∀ q,q<F.length→ah1 q=if q=a+1 then .pointer (some ⟨nb,0,none⟩) else ah0 F q)
   (hB:Blk W1 nb 304 B) (hBs:B.size=67) (b0:B[0]?=some (.string m)) (b1:B[1]?=some (.int .i64 s)) (hBl:∀ k',k'<32→k'<l→B[3+k'*2]?=some (lk0 F (last F k' a) k').1∧B[3+k'*2+1]?=some (.int .i64 ((lk0 F (last F k' a) k').2-((a:Int)-last F k' a)))) (hfr:¬ isB F nb) :
   Sk (W1.setCell ⟨nb,2,none⟩ (adr F a)) (insF F a ⟨nb,m,s,l⟩) (lk0 (insF F a ⟨nb,m,s,l⟩)) (ah0 (insF F a ⟨nb,m,s,l⟩)) n:=by
 have hle:∀ q k,q<F.length→k<lev F q→k<32:=fun q k hq hk=>by
   have:=(hsk.lev q _ (List.getElem?_eq_getElem hq)).2
   rw [lev_some (List.getElem?_eq_getElem hq)] at hk
   omega
 have far:∀ i,i≠2→(B.setIfInBounds 2 (adr F a))[i]?=B[i]?:=fun i e=>Array.getElem?_setIfInBounds_ne (Ne.symm e)
 refine sk_insert (x:=⟨nb,m,s,l⟩) (hsk.setOther nb 2 (adr F a) hfr) ha (hB.set 2 (adr F a)) hl _ _ ?_ hfr (fun q k hq hk=>?_) (fun q k hq hq2 hk=>?_) (fun q hq=>?_) (fun q hq hq2=>?_)
 · refine ⟨by simpa [szq] using hBs,(far 0 (by decide)).trans b0,(far 1 (by decide)).trans b1,?_,fun k hk=>?_,fun e=>absurd e (Nat.succ_ne_zero a)⟩
   · rw [Array.getElem?_setIfInBounds_self_of_lt (by omega)]
     unfold ah0
     rw [if_neg (Nat.succ_ne_zero a),Nat.add_sub_cancel,adr_le ha (Nat.le_refl _)]
   · have hk':k<l:=hk
     have hb:=hBl k (by omega) hk'
     rw [lk_ins_at ha hF0 (by omega)]
     exact ⟨(far _ (by omega)).trans hb.1,(far _ (by omega)).trans hb.2⟩
 · exact lk_ins_le ha hF0 (hle q k (by omega) hk) hq hk
 · rw [lk_ins_gt ha hq hq2,lkJ_gt hq (by have:=hle q k hq2 hk;omega)]
 · rw [hah q (by omega),if_neg (by omega)]
   unfold ah0
   by_cases e:q=0
   · rw [if_pos e,if_pos e]
   · rw [if_neg e,if_neg e,adr_le ha (by omega)]
 · rw [hah q hq2]
   show (if q+1=0 then _ else adr _ (q+1-1))=_
   rw [if_neg (by omega),Nat.add_sub_cancel]
   by_cases e:q=a+1
   · subst e
     rw [if_pos rfl,adr_at ha]
   · rw [if_neg e]
     obtain ⟨i,rfl⟩:∃ i,q=i+1:=⟨q-1,by omega⟩
     rw [adr_gt ha (by omega)]
     unfold ah0
     rw [if_neg (by omega),Nat.add_sub_cancel]
theorem jinv0{w W:World}{F:List Nd}{a l nb wb b6:Nat}{m:ByteArray}{s:Int}{n:Int}{B:Array Value}(hw:Sk w F (lk0 F) (ah0 F) n)(hb:Below w.heap.size w W)(hB:Blk W nb 304 B)(hBs:B.size=67)(b0:B[0]?=some (.string m))(b1:B[1]?=some (.int .i64 s))(b2:B[2]?=some (.pointer none))
   (hway:Blk W wb 331 (wayA F a)) (hbox:Blk W b6 299 #[.pointer (some ⟨nb,0,none⟩)]) (hnb:w.heap.size≤nb):JInv w F a l nb wb b6 m s (ah0 F) n 0 W:=by
 have he:lkJ F a l nb 0=lk0 F:=by funext q k;exact lkJ_zero ..
 exact ⟨by rw [he];exact hw.later hb,⟨B,hB,hBs,b0,b1,b2,fun k' h=>absurd h (Nat.not_lt_zero _)⟩,hway,hbox,Far.of_below hb,fun e=>by have:=hw.lt e;omega⟩
theorem relink_none(G:Nat)(caps:Array Value)(b:Addr)(cap:Nat)(w:World):Calls Tryz.prog 248 #[.func (.func G) #[] caps,.slice (some b) 0 cap] w fun e w'=>e=.returned (.tuple #[])∧w'=w:=by
 go_enter Tryz.func248,Tryz.ntmps248
 go_wp2
 go_loopw [8] (fun i wr=>i=.int .i64 0∧wr=w) (fun _ _=>0)
 case atStart=>exact ⟨rfl,rfl⟩
 case round =>
   obtain ⟨rfl,rfl⟩:=hrel
   go_wp2
   go_returns
   exact ⟨rfl,rfl⟩
theorem joined{w0 w3:World}{F:List Nd}{a l nb wb b6:Nat}{m:ByteArray}{s:Int}{n:Int}{x0:Nd}(hF0:lev F 0=32)(ha:a<F.length)(hl:0<l∧l≤32)(hJ:JInv w0 F a l nb wb b6 m s (ah0 F) n 32 w3)(hx0:F[a]?=some x0) :
   w3.cell? ⟨b6,0,none⟩=some (.pointer (some ⟨nb,0,none⟩))∧w3.cell? ⟨wb,0,none⟩=some (.pointer (some ⟨x0.b,0,none⟩))∧∃ w4,(Calls Tryz.prog 249 #[.pointer (some ⟨nb,0,none⟩)] w3 fun e w'=>e=.returned (.tuple #[])∧w'=w4)∧w4.cell? ⟨wb,0,none⟩=some (.pointer (some ⟨x0.b,0,none⟩)) ∧
     (Calls Tryz.prog 249 #[.pointer (some ⟨x0.b,0,none⟩)] w4 fun e w'=>e=.returned (.tuple #[])∧w'=w4.setCell ⟨nb,2,none⟩ (.pointer (some ⟨x0.b,0,none⟩))) ∧
     Far (fun q=>isB F q∨q=nb) w0 (w4.setCell ⟨nb,2,none⟩ (.pointer (some ⟨x0.b,0,none⟩)))∧Sk (w4.setCell ⟨nb,2,none⟩ (.pointer (some ⟨x0.b,0,none⟩))) (insF F a ⟨nb,m,s,l⟩) (lk0 (insF F a ⟨nb,m,s,l⟩)) (ah0 (insF F a ⟨nb,m,s,l⟩)) n:=by
 obtain ⟨hsk,⟨B,hB,hBs,b0,b1,b2,hBl⟩,hway,hbox,hfar,hfr⟩:=hJ
 have hp:∀ i,i<F.length→0<lev F i:=fun i hi=>by rw [lev_some (List.getElem?_eq_getElem hi)];exact (hsk.lev i _ (List.getElem?_eq_getElem hi)).1
 have hla:=last_zero F hp a ha
 have hnx:=nxt_zero hp a ha
 have hax:=adr_some hx0
 have w0c:=(way_cells F a 0 (by decide)).1
 rw [hla,hax] at w0c
 have hwb:∀ q (x:Nd),F[q]?=some x→wb≠x.b:=fun q x hq e=>by
   obtain ⟨A,hA,_⟩:=hsk.node q x hq
   exact absurd ((e ▸ hway:Blk w3 x.b 331 _).ty hA) (fun e2=>(ty_ne _).2.2.1 e2.symm)
 have hB3:=(hBl 0 (by decide) hl.1).1
 rw [hla] at hB3
 have hB3:B[3]?=some (adr F (a+1)):=by unfold lk0 at hB3;rw [hnx] at hB3;exact hB3
 obtain ⟨A0,hA0,hN0⟩:=hsk.node a x0 hx0
 have hA3:=(hN0.link 0 (hsk.lev _ _ hx0).1).1
 have hA3:A0[3]?=some (.pointer (some ⟨nb,0,none⟩)):=by unfold lkJ at hA3;rw [if_pos ⟨by decide,hla.symm⟩,if_pos hl.1] at hA3;exact hA3
 have hnx0:nb≠x0.b:=fun e=>hfr (e ▸ isB_at hx0)
 refine ⟨hbox.cell 0,(hway.cell _).trans w0c,?_⟩
 by_cases hlast:a+1<F.length
 · obtain ⟨y,hy⟩:∃ y,F[a+1]?=some y:=⟨_,List.getElem?_eq_getElem hlast⟩
   rw [adr_some hy] at hB3
   obtain ⟨A1,hA1,hN1⟩:=hsk.node _ y hy
   have hs1:67≤A1.size:=by rw [hN1.size];unfold szq;split <;> decide
   have hny:nb≠y.b:=fun e=>hfr (e ▸ isB_at hy)
   have hxy:x0.b≠y.b:=fun e=>absurd (hsk.inj _ _ _ _ hx0 hy e) (by omega)
   have hsk4:=hsk.setAh hy (.pointer (some ⟨nb,0,none⟩)) (fun q=>if q=a+1 then .pointer (some ⟨nb,0,none⟩) else ah0 F q) (if_pos rfl) (fun q hq=>if_neg hq)
   refine ⟨_,tie_some nb 304 y.b _ B A1 w3 hB hB3 hA1 (by omega),((hway.setOther 2 _ (hwb _ y hy)).cell _).trans w0c,tie_some x0.b _ nb 304 A0 B _ (hA0.setOther 2 _ hxy) hA3 (hB.setOther 2 _ hny) (by omega),?_,?_⟩
   · exact (hfar.set ⟨y.b,2,none⟩ _ (.inl (.inl (isB_at hy)))).set ⟨nb,2,none⟩ _ (.inl (.inr rfl))
   · have:=fin_sk hF0 ha hl hsk4 (fun q _=>rfl) (hB.setOther 2 _ hny) hBs b0 b1 hBl hfr
     rw [hax] at this
     exact this
 · rw [adr_none (by omega)] at hB3
   refine ⟨w3,tie_none nb 304 B w3 hB hB3,(hway.cell _).trans w0c,tie_some x0.b _ nb 304 A0 B _ hA0 hA3 hB (by omega),?_,?_⟩
   · exact hfar.set ⟨nb,2,none⟩ _ (.inl (.inr rfl))
   · have:=fin_sk (ah1:=ah0 F) hF0 ha hl hsk (fun q hq=>by rw [if_neg (by omega)]) hB hBs b0 b1 hBl hfr
     rw [hax] at this
     exact this
variable {F:List Nd} {ah:Nat→Value} {n:Int}
theorem join_any(p:Nat)(L:List Nd)(hF:F=hd p :: L)(w:World)(hw:Sk w F (lk0 F) (ah0 F) n)(hN:F.length≤1000000)(a:Nat)(ha:a<F.length)(m:ByteArray)(hm:m.size≤281474976710656)(s:Int)(l:Nat)(hl:0<l∧l≤32) :
   Calls Tryz.prog 223 #[.agg (wayA F a),.agg #[.string m,.int .i64 s],.int .i64 l] w fun e w'=>e=.returned (.tuple #[])∧∃ nb,w.heap.size≤nb∧Far (fun q=>isB F q∨q=nb) w w'∧Sk w' (insF F a ⟨nb,m,s,l⟩) (lk0 (insF F a ⟨nb,m,s,l⟩)) (ah0 (insF F a ⟨nb,m,s,l⟩)) n:=by
 have hz:=zero61
 have HC:=fun w=>Lib.hid (clone_any m w hm)
 have hw1:=wayA_size F a
 have HWA:=Lib.hid (rfl:wayA F a=wayA F a)
 generalize hWA:wayA F a=WA at *
 have HWA2:=Lib.hid hWA
 clear hWA HWA
 have hzs:z61.size=67:=by decide +kernel
 have hz2:z61[2]?=some (.pointer none):=by rfl
 generalize hz61:z61=zz at *
 have HZ2:=Lib.hid hz2
 clear hz2
 have HZ:=Lib.hid hz61
 have HW:=Lib.hid hw
 clear hz61 hw
 have hl1:(0:Int)<l:=by omega
 have hl2:(l:Int)≤32:=by omega
 go_enter Tryz.func223,Tryz.ntmps223
 go_wp2_with fail
 refine (HC _).out.mono ?_
 rintro e w1 ⟨rfl,hb1⟩
 have kW:=((Blk.new w 331 WA).alloc (Obj.cells #[.string m,.int .i64 s] 117)).later hb1
 have kE:=(Blk.new (w.alloc (Obj.cells WA 331)) 117 #[.string m,.int .i64 s]).later hb1
 simp only [World.size_alloc] at kE
 have hbw:Below w.heap.size w w1:=(((Below.refl _ _).alloc (Nat.le_refl _) _).alloc (by simp) _).trans (hb1.mono (by simp;omega))
 obtain ⟨e0,e1,e2,e3⟩:=facts2 kE
 have KW:=Lib.hid kW
 have KE:=Lib.hid kE
 have HBW:=Lib.hid hbw
 clear kW kE hbw hb1
 have hJ0:JInv w F a l w1.heap.size w.heap.size (w1.heap.size+1) m s (ah0 F) n 0 (((w1.setCell ⟨w.heap.size+1,0,none⟩ (.string m)).alloc (.cells ((zz.setIfInBounds 0 (.string m)).setIfInBounds 1 (.int .i64 s)) 304)).alloc (.cells #[.pointer (some ⟨w1.heap.size,0,none⟩)] 299)):=by
   have hsz:(w1.setCell ⟨w.heap.size+1,0,none⟩ (.string m)).heap.size=w1.heap.size:=by simp [World.setCell]
   have hnb:=(Blk.new (w1.setCell ⟨w.heap.size+1,0,none⟩ (.string m)) 304 ((zz.setIfInBounds 0 (.string m)).setIfInBounds 1 (.int .i64 s))).alloc (Obj.cells #[.pointer (some ⟨w1.heap.size,0,none⟩)] 299)
   have hb6:=Blk.new ((w1.setCell ⟨w.heap.size+1,0,none⟩ (.string m)).alloc (.cells ((zz.setIfInBounds 0 (.string m)).setIfInBounds 1 (.int .i64 s)) 304)) 299 #[.pointer (some ⟨w1.heap.size,0,none⟩)]
   rw [World.size_alloc,hsz] at hb6
   rw [hsz] at hnb
   have hbw:=HBW.out
   have hb':Below w.heap.size w (w1.setCell ⟨w.heap.size+1,0,none⟩ (.string m)):=⟨hbw.os,hbw.tape,hbw.output,by rw [hsz];exact hbw.size,fun q hq=>(Below.heap_setCell _ _ _ _ (by show q≠w.heap.size+1;omega)).trans (hbw.block q hq)⟩
   refine jinv0 HW.out ((hb'.alloc hb'.size _).alloc (by rw [World.size_alloc];exact Nat.le_succ_of_le hb'.size) _) hnb (by simpa using hzs) ?_ ?_ ?_ ?_ hb6 hbw.size
   · rw [Array.getElem?_setIfInBounds_ne (by decide),Array.getElem?_setIfInBounds_self_of_lt (by omega)]
   · rw [Array.getElem?_setIfInBounds_self_of_lt (by simp;omega)]
   · rw [Array.getElem?_setIfInBounds_ne (by decide),Array.getElem?_setIfInBounds_ne (by decide)];exact HZ2.out
   · rw [HWA2.out];exact ((KW.out.setOther 0 (.string m) (by omega)).alloc _).alloc _
 have hF0:lev F 0=32:=by rw [hF];rfl
 have hlast:∀ k,k<32→last F k a<F.length:=fun k hk=>by have:=(last_spec F k (by omega) a).1;omega
 have hp:=lev_pos HW.out
 have HR1:=Lib.hid (relink_any (links_split (w0:=w) (wb:=w.heap.size) (b6:=w1.heap.size+1) (nb:=w1.heap.size) (m:=m) (s:=s) (ah:=ah0 F) (n:=n) hF0 hp hN ha hl.2) hlast (by omega) 32 _ hJ0)
 have HR2:=fun W hW=>Lib.hid (relink_any (links_pass (w0:=w) (wb:=w.heap.size) (b6:=w1.heap.size+1) (nb:=w1.heap.size) (m:=m) (s:=s) (ah:=ah0 F) (n:=n) (l:=l) hF0 hN ha hl.2) hlast (by omega) (32-l) W hW)
 have hnb1:=HBW.out.size
 clear hJ0 KW KE HZ2 HC hp hlast
 go_wp2_with fail
 clear e0 e1 e2 e3 hz hzs
 refine HR1.out.mono ?_
 rintro e w2 ⟨rfl,hJ1⟩
 rw [Nat.zero_add] at hJ1
 have HR3:=Lib.hid (HR2 w2 hJ1).out
 have HN3:=Lib.hid (relink_none 247 #[] ⟨w.heap.size,0,none⟩ 0 w2)
 clear HR1 HR2
 obtain ⟨x0,hx0⟩:∃ x0,F[a]?=some x0:=⟨_,List.getElem?_eq_getElem ha⟩
 have HFIN:=fun w3 (hJ:JInv w F a l w1.heap.size w.heap.size (w1.heap.size+1) m s (ah0 F) n 32 w3)=>Lib.hid (joined hF0 ha hl hJ hx0)
 have hpath:l=32∨l<32:=by omega
 have HJ1:=Lib.hid hJ1
 clear hJ1 HW HWA2 hF hx0
 rcases hpath with rfl|hlt
 · clear HR3
   go_wp2_with fail
   refine HN3.out.mono ?_
   rintro e w3 ⟨rfl,rfl⟩
   obtain ⟨q0,q1,w4,T1,q2,q3⟩:=(HFIN _ HJ1.out).out
   have T1:=Lib.hid T1
   have q3:=Lib.hid q3
   clear HFIN HJ1 HN3
   go_wp2_with fail
   refine T1.out.mono ?_
   rintro e w5 ⟨rfl,rfl⟩
   obtain ⟨T2,hf⟩:=q3.out
   have T2:=Lib.hid T2
   have HF:=Lib.hid hf
   clear hf q3 T1
   go_wp2_with fail
   refine T2.out.mono ?_
   rintro e w6 ⟨rfl,rfl⟩
   go_wp2_with fail
   go_returns
   exact ⟨rfl,w1.heap.size,hnb1,HF.out⟩
 · clear HN3
   have hne:¬ ((l:Int)=32):=by omega
   go_wp2_with fail
   refine HR3.out.mono ?_
   rintro e w3 ⟨rfl,hJ2⟩
   rw [show l+(32-l)=32 by omega] at hJ2
   obtain ⟨q0,q1,w4,T1,q2,q3⟩:=(HFIN _ hJ2).out
   have T1:=Lib.hid T1
   have q3:=Lib.hid q3
   clear HFIN HJ1 HR3 hJ2
   go_wp2_with fail
   refine T1.out.mono ?_
   rintro e w5 ⟨rfl,rfl⟩
   obtain ⟨T2,hf⟩:=q3.out
   have T2:=Lib.hid T2
   have HF:=Lib.hid hf
   clear hf q3 T1
   go_wp2_with fail
   refine T2.out.mono ?_
   rintro e w6 ⟨rfl,rfl⟩
   go_wp2_with fail
   go_returns
   exact ⟨rfl,w1.heap.size,hnb1,HF.out⟩
theorem wp_alloc71{op:Oper}{a:Act}{w:World}{K:Act→World→Prop}{Q:Exit→Act→World→Prop}(ho:op.op=.alloc 331)(h:K (a.put op.dst (.pointer (some ⟨w.heap.size,0,none⟩))) (w.alloc (.cells zW 331))):op.wp Tryz.prog a w K Q:=by
 unfold Oper.wp execOp
 simp [ho,go_sem]
 exact h
variable {F:List Nd} {n:Int}
theorem insert_any(p:Nat)(L:List Nd)(hF:F=hd p :: L)(w:World)(hw:Sk w F (lk0 F) (ah0 F) n)(hN:F.length≤1000000)(hn:n=L.length)(a:Nat)(ha:a<F.length)(m:ByteArray)(hm:m.size≤281474976710656)(s:Int)(l:Nat)(hl:0<l∧l≤32)(hq:∀ q x,0<q→F[q]?=some x→lessE x.m x.s m s=decide (q≤a)) :
   Calls Tryz.prog 206 #[.pointer (some ⟨p,0,none⟩),.agg #[.string m,.int .i64 s],.int .i64 l] w fun e w' =>
     (entAt F (a+1) m s=true→e=.returned (.int .i64 90)∧Below w.heap.size w w') ∧
     (entAt F (a+1) m s=false→e=.returned (.int .i64 0)∧∃ nb,w.heap.size≤nb∧Far (isB F) w w'∧Sk w' (insF F a ⟨nb,m,s,l⟩) (lk0 (insF F a ⟨nb,m,s,l⟩)) (ah0 (insF F a ⟨nb,m,s,l⟩)) (n+1)):=by
 have hb1:Below w.heap.size w (w.alloc (.cells #[.string m,.int .i64 s] 117)):=(Below.refl _ _).alloc (Nat.le_refl _) _
 have kE:Blk (w.alloc (.cells #[.string m,.int .i64 s] 117)) w.heap.size 117 #[.string m,.int .i64 s]:=Blk.new _ _ _
 have HT:=Lib.hid (toEntry_any p L hF (hw.later hb1) hN m s a ha hq)
 have HB1:=Lib.hid hb1
 have HE:=Lib.hid kE
 have HW:=Lib.hid hw
 have h1:¬ (l:Int)<1:=by omega
 have h2:¬ 32<(l:Int):=by omega
 have HF:=Lib.hid hF
 have hF0:F[0]?=some (hd p):=by rw [hF];rfl
 have HF0:=Lib.hid hF0
 have hnn:n≤1000000:=by
   have:=congrArg List.length hF
   simp at this
   omega
 have hn0:0≤n:=by omega
 clear hb1 kE hw hq hF hF0 hn
 go_enter Tryz.func206,Tryz.ntmps206
 go_wp2_with fail
 rename_i Kk hKk
 refine HT.out.mono ?_
 rintro e w2 ⟨rfl,hb2⟩
 have hb3:=HB1.out.trans (hb2.mono HB1.out.size)
 have kE2:=HE.out.later hb2
 refine hKk _ _ ?_
 refine wpList_plain rfl ?_
 intro K2 hK2
 refine wp_alloc71 rfl ?_
 refine hK2 _ _ ?_
 clear hK2 K2
 refine wpList_plain rfl ?_
 intro K2 hK2
 refine wp_store71 _ _ rfl _ rfl rfl (Blk.new _ _ _) zW_size (wayA_size F a) (way_one F a) ?_
 refine hK2 _ _ ?_
 clear hK2 K2
 have kW:Blk ((w2.alloc (.cells zW 331)).setRow w2.heap.size (wayA F a)) w2.heap.size 331 (wayA F a):=(Blk.new _ _ _).setRow _
 have hb4:Below w2.heap.size w2 ((w2.alloc (.cells zW 331)).setRow w2.heap.size (wayA F a)):=⟨rfl,rfl,rfl,by rw [setRow_size];simp,fun q hq=>(setRow_other _ (Nat.ne_of_lt hq)).trans (((Below.refl w2.heap.size w2).alloc (Nat.le_refl _) _).block q hq)⟩
 have kE4:=kE2.later hb4
 have hb5:=hb3.trans (hb4.mono hb3.size)
 generalize (w2.alloc (.cells zW 331)).setRow w2.heap.size (wayA F a)=w3 at *
 generalize w2.heap.size=wb at *
 have hp:=lev_pos HW.out
 have hla:=last_zero F hp a ha
 have hnx:=nxt_zero hp a ha
 obtain ⟨x0,hx0⟩:∃ x0,F[a]?=some x0:=⟨_,List.getElem?_eq_getElem ha⟩
 have HLD:=Lib.hid (leads_any (HW.out.later hb5) 0 a (by decide) ha (hp a ha) m s)
 obtain ⟨c0,c1,c2⟩:=way_cells F a 0 (by decide)
 rw [hnx,adr_some hx0] at HLD
 rw [hla] at c0 c1
 rw [adr_some hx0] at c0
 have c0:=(kW.cell _).trans c0
 have c1:=(kW.cell _).trans c1
 have c2:=(kW.cell _).trans c2
 simp only [Nat.zero_mul,Nat.zero_add] at c0 c1 c2
 obtain ⟨e0,e1,_,_⟩:=facts2 kE4
 have KW:=Lib.hid kW
 have KE:=Lib.hid kE4
 have HB5:=Lib.hid hb5
 clear HT HE kE2 hb2 hb3 hb4 hb5 kW kE4 hp hla hnx hx0 hKk Kk
 have hws:=wayA_size F a
 have hw1:=way_one F a
 have HJN:=fun W (hb:Below w.heap.size w W)=>Lib.hid (join_any p L HF.out W (HW.out.later hb) hN a ha m hm s l hl)
 obtain ⟨A0,hA0,hN0⟩:=HW.out.node 0 (hd p) HF0.out
 have n0:=(hA0.cell 67).trans (hN0.n rfl)
 have HA0:=Lib.hid hA0
 obtain ⟨bb,hbb⟩:∃ bb,entAt F (a+1) m s=bb:=⟨_,rfl⟩
 rw [hbb] at HLD
 have HBB:=Lib.hid hbb
 clear hbb
 generalize wayA F a=WA at *
 clear hA0 hN0
 go_wp2_with fail
 rename_i K3 hK3 K2 hK2 K1 hK1
 have HK3:=Lib.hid hK3
 clear hK3
 refine HLD.out.mono ?_
 rintro e w4 ⟨rfl,hb6⟩
 have hbw:=HB5.out.trans (hb6.mono HB5.out.size)
 have kW4:=KW.out.later hb6
 have kE4:=KE.out.later hb6
 obtain ⟨e0',e1',_,_⟩:=facts2 kE4
 have HBW:=Lib.hid hbw
 have KW4:=Lib.hid kW4
 clear hb6 hbw kW4 kE4 c0 c1 c2 e0 e1
 cases bb with
 | true =>
   go_wp2_with fail
   go_returns
   refine ⟨fun _=>⟨rfl,HBW.out⟩,fun h=>?_⟩
   rw [HBB.out] at h
   cases h
 | false =>
   go_wp2_with fail
   refine HK3.out _ _ ?_
   refine wp_seq_k fun K4 hK4=>wp_region_lit ?_
   refine wpList_plain rfl ?_
   intro K5 hK5
   refine wp_load71 _ rfl _ rfl KW4.out hws ?_
   refine hK5 _ _ ?_
   clear hK5 K5
   go_wp2_with fail
   refine (HJN _ HBW.out).out.mono ?_
   rintro e w5 ⟨rfl,nb,hnb,hf,hsk⟩
   have hx0':(insF F a ⟨nb,m,s,l⟩)[0]?=some (hd p):=by rw [insF_le ha (Nat.zero_le _)];exact HF0.out
   obtain ⟨A5,hA5,hN5⟩:=hsk.node 0 (hd p) hx0'
   have n5:w5.cell? ⟨p,67,none⟩=some (.int .i64 n):=(hA5.cell 67).trans (hN5.n rfl)
   have n6:w5.frozen? ⟨p,67,none⟩=false:=hA5.free 67
   have HSK:=Lib.hid hsk
   have HFF:=Lib.hid hf
   have HX0:=Lib.hid hx0'
   clear hsk hf hA5 hN5 hx0'
   go_wp2_with fail
   go_returns
   refine ⟨fun h=>?_,fun _=>⟨rfl,nb,?_,?_,HSK.out.setN HX0.out (n+1)⟩⟩
   · rw [HBB.out] at h
     cases h
   · exact Nat.le_trans HBW.out.size hnb
   · have f1:Far (isB F) w w5:=(Far.of_below HBW.out).trans (HFF.out) (fun q hq=>by
       rcases hq with h|rfl
       · exact .inl h
       · exact .inr (Nat.le_trans HBW.out.size hnb))
     exact f1.set ⟨p,67,none⟩ _ (.inl (isB_at HF0.out))
end Go.Proofs.YtlckdfoflimahaaGreatDoor.Sk
namespace Go.Proofs.YtlckdfoflimahaaGreatDoor.Sk
open Go.RowKit Go.Shelf
def remF(F:List Nd)(f t:Nat):List Nd:=F.take (f+1)++F.drop (t+1)
variable {F:List Nd} {f t:Nat}
theorem remF_len(h:f≤t)(ht:t<F.length):(remF F f t).length+(t-f)=F.length:=by unfold remF;simp;omega
theorem remF_le(ht:t<F.length)(h:f≤t){i:Nat}(hi:i≤f):(remF F f t)[i]?=F[i]?:=by
 unfold remF;rw [List.getElem?_append_left (by simp;omega),List.getElem?_take_of_lt (by omega)]
theorem remF_gt(ht:t<F.length)(h:f≤t){i:Nat}(hi:f<i):(remF F f t)[i]?=F[i+(t-f)]?:=by
 unfold remF
 rw [List.getElem?_append_right (by simp;omega),List.length_take,Nat.min_eq_left (show f+1≤F.length by omega),List.getElem?_drop]
 congr 1;omega
theorem rlev_le(ht:t<F.length)(h:f≤t){i:Nat}(hi:i≤f):lev (remF F f t) i=lev F i:=by unfold lev;rw [remF_le ht h hi]
theorem rlev_gt(ht:t<F.length)(h:f≤t){i:Nat}(hi:f<i):lev (remF F f t) i=lev F (i+(t-f)):=by unfold lev;rw [remF_gt ht h hi]
theorem radr_le(ht:t<F.length)(h:f≤t){i:Nat}(hi:i≤f):adr (remF F f t) i=adr F i:=by unfold adr;rw [remF_le ht h hi]
theorem radr_gt(ht:t<F.length)(h:f≤t){i:Nat}(hi:f<i):adr (remF F f t) i=adr F (i+(t-f)):=by unfold adr;rw [remF_gt ht h hi]
theorem rnxt_last(ht:t<F.length)(h:f≤t){k:Nat}(h0:k<lev F 0):nxt (remF F f t) k (last F k f)+(t-f)=nxt F k (last F k t):=by
 have hl:=remF_len h ht
 obtain ⟨l1,l2,l3⟩:=last_spec F k h0 f
 obtain ⟨m1,m2,m3⟩:=last_spec F k h0 t
 have hb:=nxt_last ht h0
 obtain ⟨n1,n2,n3,n4,_⟩:=nxt_spec F k (last F k t) (by omega)
 have:nxt (remF F f t) k (last F k f)=nxt F k (last F k t)-(t-f):=by
   refine nxt_unique (by omega) (by omega) (by omega) (fun i h1 h2=>?_) (fun hx=>?_)
   · by_cases e:i≤f
     · rw [rlev_le ht h e];exact l3 i h1 e
     · rw [rlev_gt ht h (by omega)];exact n3 _ (by omega) (by omega)
   · rw [rlev_gt ht h (by omega),show nxt F k (last F k t)-(t-f)+(t-f)=nxt F k (last F k t) by omega]
     exact n4 (by omega)
 omega
theorem rnxt_front(ht:t<F.length)(h:f≤t){k q:Nat}(h0:k<lev F 0)(hq:q≤f)(hkq:k<lev F q)(hne:q≠last F k f):nxt (remF F f t) k q=nxt F k q∧nxt F k q≤f:=by
 have hl:=remF_len h ht
 obtain ⟨l1,l2,l3⟩:=last_spec F k h0 f
 obtain ⟨n1,n2,n3,n4,_⟩:=nxt_spec F k q (by omega)
 have hql:q<last F k f:=by
   rcases Nat.lt_trichotomy q (last F k f) with e|e|e
   · exact e
   · exact absurd e hne
   · have:=l3 q e hq;omega
 have hle:nxt F k q≤last F k f:=by
   rcases Nat.lt_or_ge (last F k f) (nxt F k q) with e|e
   · have:=n3 _ hql e;omega
   · exact e
 refine ⟨nxt_unique (by omega) n1 (by omega) (fun i h1 h2=>?_) (fun _=>?_),by omega⟩
 · rw [rlev_le ht h (by omega)];exact n3 i h1 h2
 · rw [rlev_le ht h (by omega)];exact n4 (by omega)
theorem rnxt_back(ht:t<F.length)(h:f≤t){k q:Nat}(hq:f<q)(hql:q<(remF F f t).length):nxt (remF F f t) k q+(t-f)=nxt F k (q+(t-f)):=by
 have hl:=remF_len h ht
 obtain ⟨n1,n2,n3,n4,_⟩:=nxt_spec F k (q+(t-f)) (by omega)
 have:nxt (remF F f t) k q=nxt F k (q+(t-f))-(t-f):=by
   refine nxt_unique hql (by omega) (by omega) (fun i h1 h2=>?_) (fun hx=>?_)
   · rw [rlev_gt ht h (by omega)];exact n3 _ (by omega) (by omega)
   · rw [rlev_gt ht h (by omega),show nxt F k (q+(t-f))-(t-f)+(t-f)=nxt F k (q+(t-f)) by omega]
     exact n4 (by omega)
 omega
def lkC(F:List Nd)(f t k:Nat)(q k':Nat):Value × Int :=
 if k'<k∧q=last F k' f then (adr F (nxt F k' (last F k' t)),(nxt F k' (last F k' t):Int)-q-1-((t:Int)-f)) else lk0 F q k'
theorem lkC_zero(F:List Nd)(f t q k':Nat):lkC F f t 0 q k'=lk0 F q k':=by unfold lkC;rw [if_neg (by omega)]
theorem lkC_at(F:List Nd)(f t k q:Nat):lkC F f t k q k=lk0 F q k:=by unfold lkC;rw [if_neg (by omega)]
theorem lkC_step(F:List Nd)(f t k:Nat)(q' k':Nat)(h:q'≠last F k f∨k'≠k):lkC F f t (k+1) q' k'=lkC F f t k q' k':=by
 unfold lkC
 by_cases e:k'<k∧q'=last F k' f
 · rw [if_pos e,if_pos ⟨by omega,e.2⟩]
 · rw [if_neg e,if_neg]
   rintro ⟨h1,h2⟩
   by_cases e2:k'=k
   · subst e2
     rcases h with h|h
     · exact h h2
     · exact h rfl
   · exact e ⟨by omega,h2⟩
theorem lk_rem_le(ht:t<F.length)(h:f≤t)(h32:lev F 0=32){k q:Nat}(hk:k<32)(hq:q≤f)(hkq:k<lev F q):lk0 (remF F f t) q k=lkC F f t 32 q k:=by
 unfold lkC
 by_cases e:q=last F k f
 · rw [if_pos ⟨hk,e⟩]
   have h1:=rnxt_last (k:=k) ht h (by omega)
   rw [← e] at h1
   have hb:=nxt_last (k:=k) ht (by omega)
   unfold lk0
   rw [radr_gt ht h (by omega),h1]
   refine congrArg _ ?_
   show ((nxt (remF F f t) k q:Nat):Int)-q-1=_
   omega
 · rw [if_neg (fun t=>e t.2)]
   unfold lk0
   obtain ⟨e1,e2⟩:=rnxt_front ht h (by omega) hq hkq e
   rw [e1,radr_le ht h e2]
theorem lk_rem_gt(ht:t<F.length)(h:f≤t)(h32:lev F 0=32){k q:Nat}(hk:k<32)(hq:f<q)(hql:q<(remF F f t).length):lk0 (remF F f t) q k=lkC F f t 32 (q+(t-f)) k:=by
 have h1:=rnxt_back (k:=k) ht h hq hql
 have hl:=remF_len h ht
 have n1:=(nxt_spec (remF F f t) k q hql).1
 have hle:=(last_spec F k (by omega) f).1
 unfold lkC
 rw [if_neg (fun t=>by omega)]
 unfold lk0
 rw [radr_gt ht h (by omega),h1]
 refine congrArg _ ?_
 show ((nxt (remF F f t) k q:Nat):Int)-q-1=(nxt F k (q+(t-f)):Int)-((q+(t-f):Nat):Int)-1
 omega
variable {W:World} {lk:Nat→Nat→Value × Int} {ah:Nat→Value} {n:Int}
theorem sk_remove(h:Sk W F lk ah n)(ht:t<F.length)(hf:f≤t)(lk':Nat→Nat→Value × Int)(ah':Nat→Value)
   (h1:∀ q k,q≤f→k<lev F q→lk' q k=lk q k) (h2:∀ q k,f<q→q<(remF F f t).length→k<lev F (q+(t-f))→lk' q k=lk (q+(t-f)) k) (h3:∀ q,q≤f→ah' q=ah q) (h4:∀ q,f<q→q<(remF F f t).length→ah' q=ah (q+(t-f))):Sk W (remF F f t) lk' ah' n:=by
 have part:∀ (q:Nat) (y:Nd),(remF F f t)[q]?=some y→(q≤f∧F[q]?=some y)∨(f<q∧q<(remF F f t).length∧F[q+(t-f)]?=some y):=fun q y hy=>by
   have hl:=(List.getElem?_eq_some_iff.1 hy).1
   rcases Nat.lt_or_ge f q with e|e
   · rw [remF_gt ht hf e] at hy;exact .inr ⟨e,hl,hy⟩
   · rw [remF_le ht hf e] at hy;exact .inl ⟨e,hy⟩
 refine ⟨fun q y hy=>?_,fun q q' y y' hy hy' hb=>?_,fun q y hy=>?_⟩
 · rcases part q y hy with ⟨e,hz⟩|⟨e,hl,hz⟩
   · obtain ⟨A,hA,hN⟩:=h.node q y hz
     refine ⟨A,hA,hN.size,hN.m,hN.s,by rw [h3 q e];exact hN.a,fun k hk=>?_,hN.n⟩
     rw [h1 q k e (by rw [lev_some hz];exact hk)]
     exact hN.link k hk
   · obtain ⟨A,hA,hN⟩:=h.node _ y hz
     refine ⟨A,by unfold tyq at hA ⊢;rw [if_neg (by omega)] at hA ⊢;exact hA,by have:=hN.size;unfold szq at this ⊢;rw [if_neg (by omega)] at this ⊢;exact this,hN.m,hN.s,by rw [h4 q e hl];exact hN.a,fun k hk=>?_,fun e2=>by omega⟩
     rw [h2 q k e hl (by rw [lev_some hz];exact hk)]
     exact hN.link k hk
 · rcases part q y hy with ⟨e,hz⟩|⟨e,hl,hz⟩ <;> rcases part q' y' hy' with ⟨e',hz'⟩|⟨e',hl',hz'⟩
   · exact h.inj _ _ _ _ hz hz' hb
   · have:=h.inj _ _ _ _ hz hz' hb;omega
   · have:=h.inj _ _ _ _ hz hz' hb;omega
   · have:=h.inj _ _ _ _ hz hz' hb;omega
 · rcases part q y hy with ⟨e,hz⟩|⟨e,hl,hz⟩
   · exact h.lev _ _ hz
   · exact h.lev _ _ hz
structure CInv (w0:World) (F:List Nd) (f t wb wf c:Nat) (n:Int) (k:Nat) (W:World):Prop where
 sk:Sk W F (lkC F f t k) (ah0 F) n
 way:Blk W wb 331 (wayA F f)
 far:Blk W wf 331 (wayA F t)
 box:Blk W c 3 #[.int .i64 ((t:Int)-f)]
 out:Far (isB F) w0 W
variable {w0:World} {wb wf c:Nat}
theorem CInv.later{k:Nat}{W W':World}(h:CInv w0 F f t wb wf c n k W)(hb:Below W.heap.size W W'):CInv w0 F f t wb wf c n k W' :=
 ⟨h.sk.later hb,h.way.later hb,h.far.later hb,h.box.later hb,h.out.then_below hb⟩
theorem links_over(hF0:lev F 0=32)(hN:F.length≤1000000)(ht:t<F.length)(hft:f≤t):Links F f wb 0 32 343 #[.pointer (some ⟨wf,0,none⟩),.pointer (some ⟨c,0,none⟩)] (CInv w0 F f t wb wf c n):=by
 refine ⟨enters_of Tryz.func343 (by kernel_rfl) rfl,fun k W W' h hb=>h.later hb,fun k W h=>h.way,fun k W x _ hk h hx=>?_⟩
 obtain ⟨A,hA,hNA⟩:=h.sk.node _ x hx
 obtain ⟨l1,l2,l3⟩:=last_spec F k (by omega) f
 obtain ⟨m1,m2,m3⟩:=last_spec F k (by omega) t
 obtain ⟨y,hy⟩:∃ y,F[last F k t]?=some y:=⟨_,List.getElem?_eq_getElem (by omega)⟩
 obtain ⟨B,hB,hNB⟩:=h.sk.node _ y hy
 rw [lev_some hy] at m2
 obtain ⟨k1,k2⟩:=hNB.link k m2
 rw [lkC_at] at k1 k2
 obtain ⟨o,ho⟩:=lk0_ptr F (last F k t) k
 rw [ho] at k1
 have hlb:=lk0_bound F hN (last F k t) k (by omega)
 obtain ⟨w1,w2,w3⟩:=way_cells F t k (by omega)
 rw [adr_some hy] at w1
 refine (over_any x.b y.b _ B (wayA F t) ((last F k f:Int)-1) ((last F k t:Int)-1) ((t:Int)-f) k wf c (by omega) o _ W hB k1 k2 hlb h.far w1 w2 w3 (by omega) (by omega) h.box (by omega)).mono ?_
 rintro e w' ⟨rfl,hb⟩
 have h':=h.later hb
 have hA':=hA.later hb
 have hs67:67≤A.size:=by rw [hNA.size];unfold szq;split <;> decide
 have hwx:∀ {b':Nat} {A':Array Value},Blk W b' 331 A'→b'≠x.b:=fun hh e=>absurd ((e ▸ hh:Blk W x.b 331 _).ty hA) (fun e2=>(ty_ne _).2.2.1 e2.symm)
 have hcx:c≠x.b:=fun e=>by
   have:=(e ▸ h.box:Blk W x.b 3 _).ty hA
   unfold tyq at this;split at this <;> exact absurd this (by decide)
 refine ⟨_,_,A[3+k*2],A[3+k*2+1],rfl,?_,?_,hA'.free _,hA'.free _,⟨?_,(h'.way.setOther _ _ (hwx h.way)).setOther _ _ (hwx h.way),(h'.far.setOther _ _ (hwx h.far)).setOther _ _ (hwx h.far),(h'.box.setOther _ _ hcx).setOther _ _ hcx,far_set2 h'.out _ _ _ _ _ (.inl (isB_at hx))⟩,hb.size⟩
 · rw [hA'.cell];exact Array.getElem?_eq_getElem _
 · rw [hA'.cell];exact Array.getElem?_eq_getElem _
 · refine h'.sk.setLink hx (by omega) _ _ _ ?_ (fun q' k' hh=>lkC_step F f t k q' k' hh)
   unfold lkC
   rw [if_pos ⟨by omega,rfl⟩]
   have ho2:adr F (nxt F k (last F k t))=.pointer o:=ho
   rw [ho2]
   refine congrArg _ ?_
   have:(lk0 F (last F k t) k).2=(nxt F k (last F k t):Int)-last F k t-1:=rfl
   omega
theorem cinv0{w W:World}(hw:Sk w F (lk0 F) (ah0 F) n)(hb:Below w.heap.size w W)(h1:Blk W wb 331 (wayA F f))(h2:Blk W wf 331 (wayA F t))(h3:Blk W c 3 #[.int .i64 ((t:Int)-f)]):CInv w F f t wb wf c n 0 W:=by
 have he:lkC F f t 0=lk0 F:=by funext q k;exact lkC_zero ..
 exact ⟨by rw [he];exact hw.later hb,h1,h2,h3,Far.of_below hb⟩
theorem left{w3:World}{x0:Nd}(hF0:lev F 0=32)(ht:t<F.length)(hft:f≤t)(hJ:CInv w0 F f t wb wf c n 32 w3)(hx0:F[f]?=some x0) :
   w3.cell? ⟨wb,0,none⟩=some (.pointer (some ⟨x0.b,0,none⟩))∧∃ w4,(Calls Tryz.prog 249 #[.pointer (some ⟨x0.b,0,none⟩)] w3 fun e w'=>e=.returned (.tuple #[])∧w'=w4) ∧
     Far (isB F) w0 w4∧Sk w4 (remF F f t) (lk0 (remF F f t)) (ah0 (remF F f t)) n:=by
 obtain ⟨hsk,hway,hfar,hbox,hout⟩:=hJ
 have hl:=remF_len hft ht
 have hp:∀ i,i<F.length→0<lev F i:=fun i hi=>by rw [lev_some (List.getElem?_eq_getElem hi)];exact (hsk.lev i _ (List.getElem?_eq_getElem hi)).1
 have hle:∀ q k,q<F.length→k<lev F q→k<32:=fun q k hq hk=>by
   have:=(hsk.lev q _ (List.getElem?_eq_getElem hq)).2
   rw [lev_some (List.getElem?_eq_getElem hq)] at hk
   omega
 have hlf:=last_zero F hp f (by omega)
 have hlt:=last_zero F hp t ht
 have hnt:=nxt_zero hp t ht
 have w0c:=(way_cells F f 0 (by decide)).1
 rw [hlf,adr_some hx0] at w0c
 obtain ⟨A0,hA0,hN0⟩:=hsk.node f x0 hx0
 have hA3:=(hN0.link 0 (hsk.lev _ _ hx0).1).1
 have hA3:A0[3]?=some (adr F (t+1)):=by unfold lkC at hA3;rw [if_pos ⟨by decide,hlf.symm⟩,hlt,hnt] at hA3;exact hA3
 refine ⟨(hway.cell _).trans w0c,?_⟩
 by_cases hlast:t+1<F.length
 · obtain ⟨y,hy⟩:∃ y,F[t+1]?=some y:=⟨_,List.getElem?_eq_getElem hlast⟩
   rw [adr_some hy] at hA3
   obtain ⟨A1,hA1,hN1⟩:=hsk.node _ y hy
   have hs1:67≤A1.size:=by rw [hN1.size];unfold szq;split <;> decide
   have hsk4:=hsk.setAh hy (.pointer (some ⟨x0.b,0,none⟩)) (fun q=>if q=t+1 then .pointer (some ⟨x0.b,0,none⟩) else ah0 F q) (if_pos rfl) (fun q hq=>if_neg hq)
   refine ⟨_,tie_some x0.b _ y.b _ A0 A1 w3 hA0 hA3 hA1 (by omega),hout.set ⟨y.b,2,none⟩ _ (.inl (isB_at hy)),?_⟩
   refine sk_remove hsk4 ht hft _ _ (fun q k hq hk=>lk_rem_le ht hft hF0 (hle q k (by omega) hk) hq hk) (fun q k hq hq2 hk=>lk_rem_gt ht hft hF0 (hle _ k (by omega) hk) hq hq2) (fun q hq=>?_) (fun q hq hq2=>?_)
   · rw [if_neg (by omega)]
     unfold ah0
     by_cases e:q=0
     · rw [if_pos e,if_pos e]
     · rw [if_neg e,if_neg e,radr_le ht hft (by omega)]
   · unfold ah0
     rw [if_neg (show ¬ q=0 by omega)]
     by_cases e:q=f+1
     · subst e
       rw [if_pos (by omega),show f+1-1=f by omega,radr_le ht hft (Nat.le_refl _),adr_some hx0]
     · rw [if_neg (by omega),if_neg (by omega),radr_gt ht hft (by omega)]
       congr 1;omega
 · rw [adr_none (by omega)] at hA3
   refine ⟨w3,tie_none x0.b _ A0 w3 hA0 hA3,hout,?_⟩
   refine sk_remove hsk ht hft _ _ (fun q k hq hk=>lk_rem_le ht hft hF0 (hle q k (by omega) hk) hq hk) (fun q k hq hq2 hk=>lk_rem_gt ht hft hF0 (hle _ k (by omega) hk) hq hq2) (fun q hq=>?_) (fun q hq hq2=>?_)
   · unfold ah0
     by_cases e:q=0
     · rw [if_pos e,if_pos e]
     · rw [if_neg e,if_neg e,radr_le ht hft (by omega)]
   · omega
end Go.Proofs.YtlckdfoflimahaaGreatDoor.Sk
namespace Go.Proofs.YtlckdfoflimahaaGreatDoor.Sk
open Go.RowKit Go.Shelf
attribute [local go_sem] Oper.semAt_some
variable {F:List Nd} {n:Int}
theorem leave_any(p:Nat)(L:List Nd)(hF:F=hd p :: L)(w:World)(hw:Sk w F (lk0 F) (ah0 F) n)(hN:F.length≤1000000)(f t:Nat)(ht:t<F.length)(hft:f≤t) :
   Calls Tryz.prog 341 #[.agg (wayA F f),.agg (wayA F t),.int .i64 ((t:Int)-f)] w fun e w'=>e=.returned (.tuple #[])∧Far (isB F) w w'∧Sk w' (remF F f t) (lk0 (remF F f t)) (ah0 (remF F f t)) n:=by
 have hF0:lev F 0=32:=by rw [hF];rfl
 obtain ⟨x0,hx0⟩:∃ x0,F[f]?=some x0:=⟨_,List.getElem?_eq_getElem (by omega)⟩
 have hlast:∀ k,k<32→last F k f<F.length:=fun k hk=>by have:=(last_spec F k (by omega) f).1;omega
 have hb1:Below w.heap.size w (((w.alloc (.cells (wayA F f) 331)).alloc (.cells (wayA F t) 331)).alloc (.cells #[.int .i64 ((t:Int)-f)] 3)):=(((Below.refl _ _).alloc (Nat.le_refl _) _).alloc (by simp) _).alloc (by simp;omega) _
 have k1:Blk (((w.alloc (.cells (wayA F f) 331)).alloc (.cells (wayA F t) 331)).alloc (.cells #[.int .i64 ((t:Int)-f)] 3)) w.heap.size 331 (wayA F f):=((Blk.new _ _ _).alloc _).alloc _
 have k2:Blk (((w.alloc (.cells (wayA F f) 331)).alloc (.cells (wayA F t) 331)).alloc (.cells #[.int .i64 ((t:Int)-f)] 3)) (w.heap.size+1) 331 (wayA F t):=by
   have:=(Blk.new (w.alloc (.cells (wayA F f) 331)) 331 (wayA F t)).alloc (Obj.cells #[.int .i64 ((t:Int)-f)] 3);simpa using this
 have k3:Blk (((w.alloc (.cells (wayA F f) 331)).alloc (.cells (wayA F t) 331)).alloc (.cells #[.int .i64 ((t:Int)-f)] 3)) (w.heap.size+1+1) 3 #[.int .i64 ((t:Int)-f)]:=by
   have:=Blk.new ((w.alloc (.cells (wayA F f) 331)).alloc (.cells (wayA F t) 331)) 3 #[.int .i64 ((t:Int)-f)];simpa using this
 have HR:=Lib.hid (relink_any (links_over (w0:=w) (wb:=w.heap.size) (wf:=w.heap.size+1) (c:=w.heap.size+1+1) (n:=n) hF0 hN ht hft) hlast (by omega) 32 _ (cinv0 hw hb1 k1 k2 k3))
 have HL:=fun w3 (hJ:CInv w F f t w.heap.size (w.heap.size+1) (w.heap.size+1+1) n 32 w3)=>Lib.hid (left hF0 ht hft hJ hx0)
 have hs1:=wayA_size F f
 have hs2:=wayA_size F t
 generalize wayA F f=WA at *
 generalize wayA F t=WB at *
 clear hb1 k1 k2 k3 hw hF hx0 hlast
 generalize hd':(t:Int)-f=d at *
 clear hd'
 go_enter Tryz.func341,Tryz.ntmps341
 go_wp2_with fail
 refine HR.out.mono ?_
 rintro e w2 ⟨rfl,hJ⟩
 obtain ⟨q0,w4,T1,hf,hsk⟩:=(HL w2 hJ).out
 have T1:=Lib.hid T1
 have HFF:=Lib.hid hf
 have HSK:=Lib.hid hsk
 clear HR HL hJ hf hsk
 go_wp2_with fail
 refine T1.out.mono ?_
 rintro e w6 ⟨rfl,rfl⟩
 go_wp2_with fail
 go_returns
 exact ⟨rfl,HFF.out,HSK.out⟩
theorem range71{W:World}{b:Nat}{cl:List Value}(h:Blk W b 331 cl.toArray):W.rangeAt b 0 cl:=fun j v hv=>by
 rw [Nat.zero_add,h.cell];simpa using hv
theorem cut_none(p:Nat)(L:List Nd)(hF:F=hd p :: L)(w:World)(hw:Sk w F (lk0 F) (ah0 F) n)(f t:Int)(h:min t n≤max f 0):Calls Tryz.prog 333 #[.pointer (some ⟨p,0,none⟩),.int .i64 f,.int .i64 t] w fun e w'=>e=.returned (.int .i64 0)∧w'=w:=by
 have HP:=Lib.hid (part_any p L hF hw f t)
 generalize max f 0=a at *
 generalize min t n=b at *
 clear hw hF
 go_enter Tryz.func333,Tryz.ntmps333
 go_wp2_with fail
 refine HP.out.mono ?_
 rintro e w1 ⟨rfl,rfl⟩
 go_wp2
 go_returns
 exact ⟨rfl,rfl⟩
theorem cut_any(p:Nat)(L:List Nd)(hF:F=hd p :: L)(w:World)(hw:Sk w F (lk0 F) (ah0 F) n)(hN:F.length≤1000000)(hn:n=L.length)(f t:Int)(a b:Nat)(ha:(a:Int)=max f 0)(hb:(b:Int)=min t n)(hab:a<b) :
   Calls Tryz.prog 333 #[.pointer (some ⟨p,0,none⟩),.int .i64 f,.int .i64 t] w fun e w'=>e=.returned (.int .i64 ((b:Int)-a))∧Far (isB F) w w'∧Sk w' (remF F a b) (lk0 (remF F a b)) (ah0 (remF F a b)) (n-((b:Int)-a)):=by
 have HP:=Lib.hid (part_any p L hF hw f t)
 rw [← ha,← hb] at HP
 have hFl:F.length=L.length+1:=by rw [hF];rfl
 have hbF:b<F.length:=by omega
 have HT1:=Lib.hid (toPlace_any p L hF hw hN a (by omega))
 have HT2:=fun W (hb1:Below w.heap.size w W)=>Lib.hid (toPlace_any p L hF (hw.later hb1) hN b hbF)
 have HLV:=fun W (hb1:Below w.heap.size w W)=>Lib.hid (leave_any p L hF W (hw.later hb1) hN a b hbF (by omega))
 have hF0:F[0]?=some (hd p):=by rw [hF];rfl
 have HF0:=Lib.hid hF0
 have HW:=Lib.hid hw
 have hnn:n≤1000000:=by omega
 have hn0:0≤n:=by omega
 have hbn:(b:Int)≤n:=by omega
 have hab':¬ (b:Int)≤a:=by omega
 have hsA:=wayA_size F a
 have hsB:=wayA_size F b
 have hoA:=way_one F a
 clear hw hF hF0 ha hb hn hFl
 generalize wayA F a=WA at *
 generalize wayA F b=WB at *
 obtain ⟨cl⟩:=WA
 go_enter Tryz.func333,Tryz.ntmps333
 go_wp2_with fail
 refine HP.out.mono ?_
 rintro e w1 ⟨rfl,rfl⟩
 go_wp2_with fail
 rename_i Kk hKk
 refine HT1.out.mono ?_
 rintro e w2 ⟨rfl,hb2⟩
 refine hKk _ _ ?_
 refine wpList_plain rfl ?_
 intro K2 hK2
 refine wp_alloc71 rfl ?_
 refine hK2 _ _ ?_
 clear hK2 K2
 refine wpList_plain rfl ?_
 intro K2 hK2
 refine wp_store71 _ _ rfl _ rfl rfl (Blk.new _ _ _) zW_size hsA hoA ?_
 refine hK2 _ _ ?_
 clear hK2 K2
 have kW:Blk ((w2.alloc (.cells zW 331)).setRow w2.heap.size cl.toArray) w2.heap.size 331 cl.toArray:=(Blk.new _ _ _).setRow _
 have hb4:Below w2.heap.size w2 ((w2.alloc (.cells zW 331)).setRow w2.heap.size cl.toArray):=⟨rfl,rfl,rfl,by rw [setRow_size];simp,fun q hq=>(setRow_other _ (Nat.ne_of_lt hq)).trans (((Below.refl w2.heap.size w2).alloc (Nat.le_refl _) _).block q hq)⟩
 have hb5:=hb2.trans (hb4.mono hb2.size)
 generalize (w2.alloc (.cells zW 331)).setRow w2.heap.size cl.toArray=w3 at *
 generalize w2.heap.size=wb at *
 have KW:=Lib.hid kW
 have HB5:=Lib.hid hb5
 clear kW hb4 hb5 hb2 hKk Kk
 have hi71:(Tryz.prog.info? 331).map (·.size)=some cl.length:=by rw [size71];simpa using hsA.symm
 have hu71:=under71
 have hR0:w3.drew.rangeAt wb 0 cl:=range71 KW.out.drew
 have hBD:Below w1.heap.size w1 w3.drew:=HB5.out.drew
 have hwbF:¬ isB F wb:=(HW.out.later HB5.out).not_ty KW.out (fun q=>(ty_ne q).2.2.1)
 have HT3:=HT2 _ hBD
 clear HT2
 have hwr:IntKind.i64.wrap ((b:Int)-a)=(b:Int)-a:=IntWalk.i64_in _ (by omega)
 go_wp2_with fail
 change Code.wp _ _ _ { tmps:=#[.pointer (some ⟨p,0,none⟩),.int .i64 a,.int .i64 b,undef,undef,undef,.int .i64 0,.pointer (some ⟨wb,0,none⟩),.tuple #[.int .i64 a,.int .i64 b],.pointer (some ⟨p,0,none⟩),.int .i64 f,.int .i64 t,.tuple #[.int .i64 a,.int .i64 b],.int .i64 a,.int .i64 b,.int .i64 a,.int .i64 b,.bool (decide (b≤a)),.pointer (some ⟨p,0,none⟩),.int .i64 a,.agg cl.toArray,undef,undef,undef,undef,undef,undef,undef,undef,undef,undef,undef,undef,undef,undef,undef,undef,undef,undef,undef,undef,undef],defers:=[] } w3
 go_region_held (fun w'=>w'.rangeAt wb 0 cl)
   (first|exact hR0|exact hR5|exact hR6)
   (first
     | (go_at_call 331;refine HT3.out.mono ?_;rintro e w5 ⟨rfl,hb6⟩;have hbw5:=hBD.trans (hb6.mono hBD.size);have hK5:=Lib.hid (KW.out.drew.later hb6);have hR5:=range71 hK5.out;have HLV5:=HLV _ hbw5)
     | (go_at_call 341;refine HLV5.out.mono ?_;rintro e w6 ⟨rfl,hf6,hsk6⟩;have hR6:=range71 (hf6.blk hK5.out hwbF)))
 have hx0':(remF F a b)[0]?=some (hd p):=by rw [remF_le hbF (by omega) (Nat.zero_le _)];exact HF0.out
 obtain ⟨A5,hA5,hN5⟩:=hsk6.node 0 (hd p) hx0'
 have n5:w6.cell? ⟨p,67,none⟩=some (.int .i64 n):=(hA5.cell 67).trans (hN5.n rfl)
 have n6:w6.frozen? ⟨p,67,none⟩=false:=hA5.free 67
 have HSK:=Lib.hid hsk6
 have HFF:=Lib.hid hf6
 have HX0:=Lib.hid hx0'
 have HBW:=Lib.hid hbw5
 clear hsk6 hf6 hA5 hN5 hx0' hR6 hR5 hR0 hbw5 hb6 HLV5 HLV HT3 hi71 hu71 hK5 hwbF
 go_wp2_with fail
 go_returns
 refine ⟨rfl,?_,HSK.out.setN HX0.out _⟩
 exact ((Far.of_below HBW.out).trans HFF.out (fun q hq=>.inl hq)).set ⟨p,67,none⟩ _ (.inl (isB_at HF0.out))
theorem delete_any(p:Nat)(L:List Nd)(hF:F=hd p :: L)(w:World)(hw:Sk w F (lk0 F) (ah0 F) n)(hN:F.length≤1000000)(hn:n=L.length)(a:Nat)(ha:a<F.length)(m:ByteArray)(s:Int)(hq:∀ q x,0<q→F[q]?=some x→lessE x.m x.s m s=decide (q≤a)) :
   Calls Tryz.prog 324 #[.pointer (some ⟨p,0,none⟩),.agg #[.string m,.int .i64 s]] w fun e w' =>
     (entAt F (a+1) m s=false→e=.returned (.bool false)∧Below w.heap.size w w') ∧
     (entAt F (a+1) m s=true→e=.returned (.bool true)∧Far (isB F) w w'∧Sk w' (remF F a (a+1)) (lk0 (remF F a (a+1))) (ah0 (remF F a (a+1))) (n-1)):=by
 have hb1:Below w.heap.size w (w.alloc (.cells #[.string m,.int .i64 s] 117)):=(Below.refl _ _).alloc (Nat.le_refl _) _
 have kE:Blk (w.alloc (.cells #[.string m,.int .i64 s] 117)) w.heap.size 117 #[.string m,.int .i64 s]:=Blk.new _ _ _
 obtain ⟨e0,e1,_,_⟩:=facts2 kE
 have HS:=Lib.hid (seek_any p L hF (hw.later hb1) hN m s a ha hq)
 have hFl:F.length=L.length+1:=by rw [hF];rfl
 have HC:=fun W (hb:Below w.heap.size w W) (hh:entAt F (a+1) m s=true)=>Lib.hid (cut_any p L hF W (hw.later hb) hN hn a ((a:Int)+1) a (a+1) (by omega) (by
   unfold entAt at hh
   split at hh
   · rename_i x hx
     have:=(List.getElem?_eq_some_iff.1 hx).1
     omega
   · cases hh) (by omega))
 obtain ⟨bb,hbb⟩:∃ bb,entAt F (a+1) m s=bb:=⟨_,rfl⟩
 rw [hbb] at HS HC
 have HBB:=Lib.hid hbb
 have HB1:=Lib.hid hb1
 have ha2:(a:Int)≤1000000:=by omega
 clear hb1 kE hw hF hq hbb hn hFl ha hN
 go_enter Tryz.func324,Tryz.ntmps324
 go_wp2_with fail
 refine HS.out.mono ?_
 rintro e w1 ⟨rfl,hb⟩
 have hbw:=HB1.out.trans (hb.mono HB1.out.size)
 have HBW:=Lib.hid hbw
 clear hb hbw
 cases bb with
 | false =>
   clear HC
   go_wp2_with fail
   go_returns
   refine ⟨fun _=>⟨rfl,HBW.out⟩,fun h=>?_⟩
   rw [HBB.out] at h
   cases h
 | true =>
   have HC2:=HC w1 HBW.out rfl
   rw [show ((a+1:Nat):Int)-a=1 by omega] at HC2
   clear HC
   go_wp2_with fail
   refine HC2.out.mono ?_
   rintro e w2 ⟨rfl,hf,hsk⟩
   have HFF:=Lib.hid hf
   have HSK:=Lib.hid hsk
   clear hf hsk
   go_wp2_with fail
   go_returns
   refine ⟨fun h=>?_,fun _=>⟨rfl,(Far.of_below HBW.out).trans HFF.out (fun q hq=>.inl hq),HSK.out⟩⟩
   rw [HBB.out] at h
   cases h
abbrev Ent:=ByteArray × Int
def cellsE(l:List Ent):List Value:=l.flatMap fun e=>[.string e.1,.int .i64 e.2]
theorem cellsE_append(a b:List Ent):cellsE (a++b)=cellsE a++cellsE b:=by simp [cellsE]
def Own32(W:World)(n0:Nat)(v:Value)(l:List Ent):Prop:=W.ownsRow n0 117 2 v l.length (cellsE l)
section
variable {e:TypeId} {sz:Nat}
theorem own_gen{β:Type}(B n0:Nat)(v:Value)(k:β→Nat)(xs:β→List Value):OwnFrom B (fun s W=>W.ownsRow n0 e sz v (k s) (xs s)):=fun s X Y row hs hg hr =>
 World.ownsRow.kept hs hg (by
   rcases hs.2 with ⟨rfl,_⟩|⟨g,cap,cur,rfl,_,hgb,_⟩
   · exact .inl rfl
   · refine .inr (fun e=>?_)
     obtain ⟨_,o,ho,hc⟩:=hr g e.symm
     rw [hgb] at ho;cases ho;cases hc)
theorem own_later{W W6:World}{n0 k:Nat}{r:Value}{xs:List Value}(h:W.ownsRow n0 e sz r k xs)(hb:Below W.heap.size W W6):W6.ownsRow n0 e sz r k xs:=World.ownsRow.kept h (below_grown hb) (by
 rcases h.2 with ⟨rfl,_⟩|⟨g,cap,cur,rfl,_⟩
 · exact .inl rfl
 · exact .inr (by simp [Value.ownBlock]))
theorem own_set{W:World}{n0 k:Nat}{r:Value}{xs:List Value}(h:W.ownsRow n0 e sz r k xs)(b o:Nat)(v:Value)(hb:b<n0):(W.setCell ⟨b,o,none⟩ v).ownsRow n0 e sz r k xs:=by
 refine ⟨h.1,?_⟩
 rcases h.2 with hn|⟨g,cap,cur,rfl,h1,h2,h3⟩
 · exact .inl hn
 · exact .inr ⟨g,cap,cur,rfl,h1,(Below.heap_setCell _ _ _ _ (by show g≠b;omega)).trans h2,h3⟩
theorem own_mono{w:World}{base base':Nat}{v:Value}{n:Nat}{xs:List Value}(h:w.ownsRow base e sz v n xs)(hb:base'≤base):w.ownsRow base' e sz v n xs:=by
 refine ⟨h.1,?_⟩
 rcases h.2 with hn|⟨g,cap,cur,rfl,hb',rest⟩
 · exact .inl hn
 · exact .inr ⟨g,cap,cur,rfl,Nat.le_trans hb hb',rest⟩
theorem own_aside{W W':World}{n0 k N:Nat}{r:Value}{xs:List Value}(h:W.ownsRow n0 e sz r k xs)(ha:Aside N W W')(he:e≠329):W'.ownsRow n0 e sz r k xs:=by
 refine ⟨h.1,?_⟩
 rcases h.2 with hn|⟨g,cap,cur,rfl,h1,h2,h3⟩
 · exact .inl hn
 · exact .inr ⟨g,cap,cur,rfl,h1,ha.block _ _ h2 (.inr fun c e2=>by simp at e2;exact he e2.2),h3⟩
theorem Blk.grown{W W7:World}{b n0 k:Nat}{t:TypeId}{c:Array Value}{r:Value}{xs:List Value}{o:Obj}(h:Blk W b t c)(hg:(W.alloc o).grownBy W7 r.ownBlock)(ho:W.ownsRow n0 e sz r k xs)(ht:t≠e):Blk W7 b t c :=
 (hg.block b (h.alloc o).lt (fun e2=>by
   rcases ho.2 with ⟨rfl,_⟩|⟨g,cap,cur,rfl,_,hgb,_⟩
   · simp [Value.ownBlock] at e2
   · simp [Value.ownBlock] at e2
     subst e2
     have:=(show W.heap[b]?=_ from h).symm.trans hgb
     simp at this
     exact ht this.2)).trans (h.alloc o)
theorem app_end{w0 W W6 W7:World}{o:Obj}{b n0 t k k':Nat}{r v':Value}{l l':List Value}(h:Blk W b t #[r])(ho:W.ownsRow n0 e sz r k l)(hb6:Below W.heap.size W W6)(hgrow:(W6.alloc o).grownBy W7 r.ownBlock)(ho7:W7.ownsRow n0 e sz v' k' l')(hbn:b<n0)
   (hB:Below w0.heap.size w0 W) (hw:w0.heap.size≤b) (ht:t≠e) (het:¬ itT e) (htt:¬ itT t) (B:Nat) (L:List Nat) :
   KeepsFrom B W (W7.setCell ⟨b,0,none⟩ v')∧KeepC L W (W7.setCell ⟨b,0,none⟩ v')∧Below w0.heap.size w0 (W7.setCell ⟨b,0,none⟩ v')∧Blk (W7.setCell ⟨b,0,none⟩ v') b t #[v']∧(W7.setCell ⟨b,0,none⟩ v').ownsRow n0 e sz v' k' l':=by
 have h7:=(h.later hb6).grown hgrow (own_later ho hb6) ht
 have hs6:=hb6.size
 have hsw:=hB.size
 refine ⟨?_,?_,?_,h7.set 0 v',?_⟩
 · refine (((KeepsFrom.of_grownBy (row:=none) (below_grown hb6) (fun _ h=>by cases h)).trans ((KeepsOthers.alloc _ _).from _)).trans ((KeepsOthers.of_grownBy hgrow fun j o ej hj=>?_).from B)).trans ((KeepsOthers.setCell _ _ _).from _)
   rcases (World.ownsRow.alloc (own_later ho hb6) _).2 with ⟨rfl,_⟩|⟨g,cap,cur,rfl,_,hgb,_⟩
   · simp [Value.ownBlock] at ej
   · obtain rfl:g=j:=by simpa [Value.ownBlock] using ej
     rw [hgb] at hj;cases hj;rfl
 · refine (((KeepC.of_below hb6).trans (KeepC.of_below ((Below.refl _ _).alloc (Nat.le_refl _) _))).trans (KeepC.of_grownBy hgrow fun k c t ek hk=>?_)).trans (KeepC.of_grownBy (row:=some b) (grownBy_setCell' _ _ _) fun k c t ek hk=>?_)
   · rcases (World.ownsRow.alloc (own_later ho hb6) o).2 with ⟨rfl,_⟩|⟨g,cap,cur,rfl,_,hgb,_⟩
     · simp [Value.ownBlock] at ek
     · obtain rfl:g=k:=by simpa [Value.ownBlock] using ek
       rw [hgb] at hk;cases hk
       exact het
   · cases ek
     rw [show W7.heap[b]?=_ from h7] at hk;cases hk
     exact htt
 · refine (((hB.trans (hb6.mono hsw)).alloc (by omega) o).grown hgrow (by simp;omega) fun k ek=>?_).setCell (p:=⟨b,0,none⟩) hw v'
   have:=(World.ownsRow.lt ho k ek).1
   omega
 · exact own_set ho7 b 0 v' hbn
end
theorem info48:(Tryz.prog.info? 117).map (fun i=>(i.zero,i.size,i.bytes))=some (some (.agg #[.string ⟨#[]⟩,.int .i64 0]),2,24):=by kernel_rfl
theorem app_ent{W W6:World}{n0:Nat}{r:Value}{l:List Ent}(hown:Own32 W n0 r l)(hb:Below W.heap.size W W6)(e:Ent)(hl:l.length≤1000000000)(hn:n0≤W6.heap.size) :
   ∃ g cap W7,(Builtin.append_ #[55,55] 55 #[r,.slice (some ⟨W6.heap.size,0,none⟩) 1 1]).run Tryz.prog (W6.alloc (.cells #[.string e.1,.int .i64 e.2] 117))=.ok (.slice (some ⟨g,0,none⟩) (l.length+1) cap) W7 ∧
     Own32 W7 n0 (.slice (some ⟨g,0,none⟩) (l.length+1) cap) (l++[e])∧(W6.alloc (.cells #[.string e.1,.int .i64 e.2] 117)).grownBy W7 r.ownBlock:=by
 obtain ⟨i0,hi0,hz0,hz1,hz2⟩:=info_parts info48
 obtain ⟨v',w',hrun,r1,r2,r3⟩:=run_append_own (P:=Tryz.prog) (W6.alloc (.cells #[.string e.1,.int .i64 e.2] 117)) n0 55 55 117 i0 _ 2 24 Tryz.underlying55 hi0 hz0 hz1 hz2 rfl (by decide) r _ _ (World.ownsRow.alloc (own_later hown hb) _) ⟨W6.heap.size,0,none⟩ 1 1 [.string e.1,.int .i64 e.2] rfl
   (fun j u hj=>by
     have hB:=Blk.new W6 117 #[.string e.1,.int .i64 e.2]
     match j,hj with
     | 0,hj=>simp at hj;subst hj;exact hB.cell 0
     | 1,hj=>simp at hj;subst hj;simp [Addr.add]
     | j+2,hj=>simp at hj)
   (by simp [Value.oneCell']) (by unfold maxLen;omega) (by omega) (by simp;omega)
 have r1':Own32 w' n0 v' (l++[e]):=by
   unfold Own32
   rw [cellsE_append,List.length_append]
   exact r1
 rcases r1.2 with ⟨rfl,h0⟩|⟨g,cap,cur,rfl,_⟩
 · omega
 · exact ⟨g,cap,w',hrun,r1',r2⟩
theorem stepIn_append{F:Fence}{n:Nat}{P:Program}{ops:Array Oper}{o:Oper}{a:Act}{w w':World}{K:Act→World→Prop}{Q:Exit→Act→World→Prop}{E:Prop}{v xv v':Value}(hgd:o.guard=none)(s x:Operand)(t u:TypeId)
   (ho:o.op=Op.call { callee:=Callee.builtin Builtin.append,args:=#[s,x],argTypes:=#[t,u] }) (hs:a.eval s=v) (hx:a.eval x=xv) (hrun:(Builtin.append_ #[t,u] o.type #[v,xv]).run P w=.ok v' w')
   (h:K (a.put o.dst v') w'):if Region.wanted o (yielded ops a.tmps)=true then Oper.wpIn F n P o a w K Q else E:=by
 have hw:Region.wanted o (yielded ops a.tmps)=true:=by simp [Region.wanted,hgd]
 rw [if_pos hw]
 unfold Oper.wpIn
 refine ⟨?_,?_⟩
 · simp [Oper.about,ho,resolve,Target.leads,Sem.run_pure]
 · rw [Oper.semAt_plain F _ _ (by rw [ho];intro c hc';cases hc')]
   simp [execOp,ho,resolve,invoke,builtin,hs,hx,hrun,Result.andThen]
   exact h
end Go.Proofs.YtlckdfoflimahaaGreatDoor.Sk
