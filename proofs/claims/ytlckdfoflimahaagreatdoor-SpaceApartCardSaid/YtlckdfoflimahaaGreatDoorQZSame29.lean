/- Texts of one kind in one: ZSame, PkRefIns, SkRefLess, ZRef, ZRefOps, ZRefAdd, ZRefOne. -/
import Derived.Test.YtlckdfoflimahaaGreatDoorQZAdd19
import Derived.BigQuiet
import Derived.Test.YtlckdfoflimahaaGreatDoorQPkBack11
import Derived.Deep.RegionLaw
import Derived.Test.YtlckdfoflimahaaGreatDoorQDcPut14
import Derived.Deep.DrawnRows
import Derived.Test.YtlckdfoflimahaaGreatDoorQSkLs07
set_option maxRecDepth 200000
set_option maxHeartbeats 8000000
namespace Go.Proofs.YtlckdfoflimahaaGreatDoor
open Go.RowKit Go.Shelf Sk
attribute [local go_sem] Oper.semAt_some
theorem neq_same(m:ByteArray)(s:Int)(W:World):(binOp .neq 117 (.agg #[.string m,.int .i64 s]) (.agg #[.string m,.int .i64 s])).run Tryz.prog W=.ok (.bool false) W:=by simp [go_sem]
theorem same_rows{n0 n1:Nat}(v1 v2:Value)(l:List En)(hl:l.length≤1000000)(w:World)(h1:Row w n0 v1 l)(h2:Row w n1 v2 l):Calls Tryz.prog 28 #[v1,v2] w fun e w'=>e=.returned (.bool true)∧Below w.heap.size w w':=by
 obtain ⟨a1,c1,rfl⟩:=h1.form
 obtain ⟨a2,c2,rfl⟩:=h2.form
 have H1:=Lib.hid (fun W (hb:Below w.heap.size w W)=>h1.later hb)
 have H2:=Lib.hid (fun W (hb:Below w.heap.size w W)=>h2.later hb)
 clear h1 h2
 go_enter Tryz.func28,Tryz.ntmps28
 go_wp2
 go_loopw [5] (fun i wr=>∃ (k:Nat),i=.int .i64 k∧k≤l.length∧Below w.heap.size w wr) (fun i _=>l.length-(intOf i).toNat)
 case atStart=>exact ⟨0,rfl,by omega,Below.refl _ _⟩
 case round =>
   obtain ⟨k,rfl,hk,hbr⟩:=hrel
   by_cases hlt:k<l.length
   · have hx:l[k]?=some l[k]:=List.getElem?_eq_getElem hlt
     generalize l[k]=x at *
     obtain ⟨b1,o1,c1',e1,p1,q1⟩:=row_cells (H1.out wr hbr) hx
     obtain ⟨b2,o2,c2',e2,p2,q2⟩:=row_cells (H2.out wr hbr) hx
     injection e1 with e1 _ f1
     injection e2 with e2 _ f2
     subst e1 f1 e2 f2
     have hk2:(k:Int)<l.length:=by omega
     have hne:=neq_same x.1 x.2
     have HBR:=Lib.hid hbr
     clear hx hbr H1 H2
     go_wp2_with fail
     go_quiet (fail)
     go_wp2_with fail
     exact ⟨⟨k+1,by go_num,hlt,HBR.out.trans ((drewB wr _).mono HBR.out.size)⟩,by simp [intOf];omega⟩
   · obtain rfl:k=l.length:=by omega
     go_wp2
     go_returns
     exact ⟨rfl,hbr⟩
end Go.Proofs.YtlckdfoflimahaaGreatDoor
namespace Go.Proofs.YtlckdfoflimahaaGreatDoor.Pk
open Go.RowKit Go.Shelf
attribute [local go_sem] Oper.semAt_some
theorem cellsE_nth(xs:List Ent):∀ (j:Nat) (u:Value),(cellsE xs)[j]?=some u→∃ i,∃ h:i<xs.length,(j=i*2∧u=.string xs[i].1)∨(j=i*2+1∧u=.int .i64 xs[i].2):=by
 induction xs with
 | nil=>intro j u h;simp [cellsE] at h
 | cons e xs ih =>
   intro j u h
   rw [show cellsE (e :: xs)=.string e.1 :: .int .i64 e.2 :: cellsE xs from rfl] at h
   match j,h with
   | 0,h=>exact ⟨0,by simp,.inl ⟨rfl,by simpa using h.symm⟩⟩
   | 1,h=>exact ⟨0,by simp,.inr ⟨rfl,by simpa using h.symm⟩⟩
   | j+2,h =>
     obtain ⟨i,hi,hx⟩:=ih j u (by simpa using h)
     refine ⟨i+1,by simp;omega,?_⟩
     simp only [List.getElem_cons_succ]
     rcases hx with ⟨h1,h2⟩|⟨h1,h2⟩
     · exact .inl ⟨by omega,h2⟩
     · exact .inr ⟨by omega,h2⟩
theorem cellsE_one(xs:List Ent):∀ u∈cellsE xs,u.oneCell'=true:=by
 intro u hu
 obtain ⟨e,_,he⟩:=List.mem_flatMap.1 hu
 simp at he
 rcases he with rfl|rfl <;> rfl
theorem app_list{W:World}{n0:Nat}{r:Value}{l xs:List Ent}{a:Option Addr}(hown:Own35 W n0 r l)(hE:Ents W a xs)(cap:Nat)(hl:l.length≤1000000)(hx:xs.length≤1000000)(hn:n0≤W.heap.size) :
   ∃ v' W',(Builtin.append_ #[55,55] 55 #[r,.slice a xs.length cap]).run Tryz.prog W=.ok v' W'∧Own35 W' n0 v' (l++xs)∧W.grownBy W' r.ownBlock:=by
 obtain ⟨i0,hi0,hz0,hz1,hz2⟩:=info_parts info48
 have hlen:(l++xs).length=l.length+xs.length:=List.length_append
 cases a with
 | none =>
   have h0:xs=[]:=by
     cases xs with
     | nil=>rfl
     | cons e xs=>obtain ⟨b,off,h,_⟩:=hE 0 (by simp);cases h
   subst h0
   refine ⟨r,W,?_,by rw [List.append_nil];exact hown,World.grownBy.refl W _⟩
   rcases hown.2 with ⟨rfl,hl0⟩|⟨g,c,cur,rfl,_,_,hc,_⟩
   · simp [Builtin.append_,run_underlying Tryz.underlying55,sizeOf,typeInfo,hi0,Builtin.lenOf,Builtin.firstCells]
   · simp [Builtin.append_,run_underlying Tryz.underlying55,sizeOf,typeInfo,hi0,Builtin.lenOf,Builtin.firstCells,hc,storeCells]
 | some ad =>
   obtain ⟨v',W',h1,h2,h3,_⟩:=run_append_own (P:=Tryz.prog) W n0 55 55 117 i0 _ 2 24 Tryz.underlying55 hi0 hz0 hz1 hz2 rfl (by decide) r _ _ hown ad xs.length cap (cellsE xs) (cellsE_length xs)
     (fun j u hu=>by
       obtain ⟨i,hi,hx⟩:=cellsE_nth xs j u hu
       obtain ⟨b,off,h,c0,c1⟩:=hE i hi
       cases h
       rcases hx with ⟨rfl,rfl⟩|⟨rfl,rfl⟩
       · rw [Addr.add_lit];exact c0
       · rw [Addr.add_lit,← Nat.add_assoc];exact c1)
     (cellsE_one xs) (by unfold maxLen;omega) (by omega) hn
   refine ⟨v',W',h1,?_,h3⟩
   unfold Own35
   rw [hlen,cellsE_append]
   exact h2
theorem Ents.take{W:World}{a:Option Addr}{l:List Ent}(h:Ents W a l)(k:Nat):Ents W a (l.take k):=fun i hi=>by
 have h2:i<l.length:=by simp at hi;omega
 simp only [List.getElem_take]
 exact h i h2
theorem Ents.drop{W:World}{a:Option Addr}{l:List Ent}(h:Ents W a l)(k cap:Nat)(hc:l.length≤cap):Ents W (if cap=k then a else a.map (·.add (k*2))) (l.drop k):=fun i hi=>by
 have h2:k+i<l.length:=by simp at hi;omega
 obtain ⟨b,off,rfl,c0,c1⟩:=h (k+i) h2
 rw [if_neg (by omega)]
 refine ⟨b,off+k*2,by simp [Addr.add_lit],?_,?_⟩
 · simp only [List.getElem_drop]
   rw [show off+k*2+i*2=off+(k+i)*2 by omega];exact c0
 · simp only [List.getElem_drop]
   rw [show off+k*2+i*2+1=off+(k+i)*2+1 by omega];exact c1
theorem step_app_list{ops:Array Oper}{o:Oper}{a:Act}{W:World}{K:Act→World→Prop}{Q:Exit→Act→World→Prop}{E:Prop}(hgd:o.guard=none)(s x:Operand)
   (ho:o.op=Op.call { callee:=Callee.builtin Builtin.append,args:=#[s,x],argTypes:=#[55,55] }) (hty:o.type=55)
   {n0:Nat} {r:Value} {l xs:List Ent} {ad:Option Addr} {m cap:Nat} (hs:a.eval s=r) (hx:a.eval x=.slice ad m cap) (hm:m=xs.length)
   (hown:Own35 W n0 r l) (hE:Ents W ad xs) (hl:l.length≤1000000) (hxl:xs.length≤1000000) (hn:n0≤W.heap.size)
   (h:∀ v' W',Own35 W' n0 v' (l++xs)→W.grownBy W' r.ownBlock→K (a.put o.dst v') W'):if Region.wanted o (yielded ops a.tmps)=true then Oper.wp Tryz.prog o a W K Q else E:=by
 subst hm
 obtain ⟨v',W',hrun,h2,h3⟩:=app_list hown hE cap hl hxl hn
 exact Dc.step_append_ran hgd s x 55 55 ho hs hx (by rw [hty];exact hrun) (h v' W' h2 h3)
theorem wpList_app_list{ops:Array Oper}{rest:List Oper}{o:Oper}{a:Act}{W:World}{Q:Exit→Act→World→Prop}(hgd:o.guard=none)(s x:Operand)
   (ho:o.op=Op.call { callee:=Callee.builtin Builtin.append,args:=#[s,x],argTypes:=#[55,55] }) (hty:o.type=55)
   {n0:Nat} {r:Value} {l xs:List Ent} {ad:Option Addr} {m cap:Nat} (hs:a.eval s=r) (hx:a.eval x=.slice ad m cap) (hm:m=xs.length)
   (hown:Own35 W n0 r l) (hE:Ents W ad xs) (hl:l.length≤1000000) (hxl:xs.length≤1000000) (hn:n0≤W.heap.size)
   (h:∀ v' W',Own35 W' n0 v' (l++xs)→W.grownBy W' r.ownBlock→wpList Tryz.prog ops Q rest (a.put o.dst v') W'):wpList Tryz.prog ops Q (o :: rest) a W:=by
 subst hm
 obtain ⟨v',W',hrun,h2,h3⟩:=app_list hown hE cap hl hxl hn
 refine wpList_plain hgd fun K hK=>?_
 unfold Oper.wp
 simp [execOp,ho,resolve,invoke,builtin,hs,hx,hty,hrun,Result.andThen]
 exact hK _ _ (h v' W' h2 h3)
theorem refDelete_any(a:Option Addr)(cap:Nat)(l:List Ent)(hl:l.length≤1000)(hc:l.length≤cap)(k:Nat)(hk:k<l.length)(w:World)(hE:Ents w a l) :
   Calls Tryz.prog 97 #[.slice a l.length cap,.int .i64 k] w fun e w'=>∃ r,e=.returned r∧Own35 w' w.heap.size r (l.take k++l.drop (k+1))∧Below w.heap.size w w':=by
 have hk0:(0:Int)≤k:=by omega
 have hk1:(k:Int)≤cap:=by omega
 have hk2:(k:Int)<l.length:=by omega
 have hk3:(k:Int)≤1000:=by omega
 have ho0:Own35 w w.heap.size (.slice none 0 0) []:=World.ownsRow_nil _ _ _ _
 have HE:=Lib.hid hE
 have hd:=HE.out.drop (k+1) cap hc
 have hg1:IntKind.i64.wrap ((k:Int)+1)=(k:Int)+1:=IntWalk.i64_in _ (by omega)
 have ht:(l.take k).length=k:=by simp;omega
 have hdl:(l.drop (k+1)).length=l.length-(k+1):=List.length_drop
 have HT:=Lib.hid ht
 have HD:=Lib.hid hd
 have HDL:=Lib.hid hdl
 clear ht hd hdl hE
 go_enter Tryz.func97,Tryz.ntmps97
 go_wp2_with (first
   | (at_builtin
      refine wpList_app_list rfl (.tmp 6) (.tmp 9) rfl rfl (n0:=w.heap.size) (r:=.slice none 0 0) (l:=[]) (xs:=l.take k) (ad:=a) (m:=k) rfl rfl HT.out.symm ho0 (HE.out.take k) (by simp) (by rw [HT.out];omega) (Nat.le_refl _) ?_
      rintro v1 w1 ho1 hg1
      have hb1:Below w.heap.size w w1:=(Below.refl _ _).grown hg1 (Nat.le_refl _) (by simp [Value.ownBlock])
      have HB1:=Lib.hid hb1
      have HO1:=Lib.hid ho1
      clear hb1 ho1 hg1)
   | (at_builtin
      refine wpList_app_list rfl (.tmp 11) (.tmp 15) rfl rfl (n0:=w.heap.size) (r:=v1) (l:=[]++l.take k) (xs:=l.drop (k+1)) (ad:=if cap=k+1 then a else a.map (fun x=>x.add ((k+1)*2))) (m:=l.length-(k+1)) rfl rfl HDL.out.symm HO1.out (HD.out.below HB1.out) (by simp;omega) (by rw [HDL.out];omega) HB1.out.size ?_
      rintro v2 w2 ho2 hg2
      have hb2:Below w.heap.size w w2:=HB1.out.grown hg2 HB1.out.size (fun k e=>(World.ownsRow.lt HO1.out k e).1)
      have HB2:=Lib.hid hb2
      have HO2:=Lib.hid ho2
      clear hb2 ho2 hg2))
 all_goals (
   go_ret
   exact ⟨_,rfl,HO2.out,HB2.out⟩)
theorem box_keep{W w1:World}{b:Nat}{v u:Value}{t:TypeId}(hk:Blk W b t #[v,u])(hg:W.grownBy w1 none):w1.cell? ⟨b,0,none⟩=some v∧w1.cell? ⟨b,1,none⟩=some u∧b<w1.heap.size :=
 have hb:Below W.heap.size W w1:=(Below.refl _ _).grown hg (Nat.le_refl _) (fun _ h=>nomatch h)
 have hl:=hk.later hb
 ⟨hl.cell 0,hl.cell 1,hl.lt⟩
theorem ents_keep{W w1:World}{x:Ent}{v u:Value}(hg:((W.alloc (.cells #[v,u] 117)).alloc (.cells #[.string x.1,.int .i64 x.2] 117)).grownBy w1 none):Ents w1 (some ⟨W.heap.size+1,0,none⟩) [x]:=by
 have hb:Below ((W.alloc (.cells #[v,u] 117)).alloc (.cells #[.string x.1,.int .i64 x.2] 117)).heap.size ((W.alloc (.cells #[v,u] 117)).alloc (.cells #[.string x.1,.int .i64 x.2] 117)) w1:=(Below.refl _ _).grown hg (Nat.le_refl _) (fun _ h=>nomatch h)
 have:=(ents_one (W.alloc (.cells #[v,u] 117)) x).below hb
 simpa using this
theorem grown_drew{W w1:World}{r:Option Nat}(hg:W.drew.grownBy w1 r):W.grownBy w1 r:=⟨hg.os,hg.tape,hg.output,hg.size,hg.block⟩
theorem refInsert_any(a:Option Addr)(cap:Nat)(l:List Ent)(hl:l.length≤1000)(hc:l.length≤cap)(k:Nat)(hk:k≤l.length)(x:Ent)(w:World)(hE:Ents w a l) :
   Calls Tryz.prog 138 #[.slice a l.length cap,.int .i64 k,.agg #[.string x.1,.int .i64 x.2]] w fun e w'=>∃ r,e=.returned r∧Own35 w' w.heap.size r (l.take k++[x]++l.drop k)∧Below w.heap.size w w':=by
 have hk0:(0:Int)≤k:=by omega
 have hk1:(k:Int)≤cap:=by omega
 have hk2:(k:Int)≤l.length:=by omega
 have hk3:(k:Int)≤1000:=by omega
 have HE:=Lib.hid hE
 have ht:(l.take k).length=k:=by simp;omega
 have hdl:(l.drop k).length=l.length-k:=List.length_drop
 have HT:=Lib.hid ht
 have HD:=Lib.hid (HE.out.drop k cap hc)
 have HDL:=Lib.hid hdl
 clear ht hdl hE
 have hb0:=(Below.refl w.heap.size w).alloc (Nat.le_refl _) (Obj.cells #[Value.string x.1,Value.int IntKind.i64 x.2] 117)
 have B0:=Blk.new w 117 #[Value.string x.1,Value.int IntKind.i64 x.2]
 obtain ⟨f0,f1,f2,f3⟩:=facts2 B0
 have HB0:=Lib.hid hb0
 have HK0:=Lib.hid B0
 have hs0:w.heap.size≤(w.alloc (Obj.cells #[Value.string x.1,Value.int IntKind.i64 x.2] 117)).heap.size:=hb0.size
 clear hb0 B0
 go_enter Tryz.func138,Tryz.ntmps138
 go_wp2
 go_region_law (first
   | (refine step_app_list rfl (.tmp 8) (.tmp 11) rfl rfl (n0:=w.heap.size) (r:=.slice none 0 0) (l:=[]) (xs:=l.take k) (ad:=a) (m:=k) (by simp [Act.eval,Act.put]) (by simp [Act.eval,Act.put];rfl) HT.out.symm (World.ownsRow_nil _ _ _ _) (by first|exact (HE.out.take k).below HB0.out.drew|exact (HE.out.take k).below (HB0.out.alloc HB0.out.size _).drew) (by simp) (by rw [HT.out];omega) (by first|exact HB0.out.size|exact (HB0.out.alloc HB0.out.size _).size) ?_
      rintro v1 w1 ho1 hg1
      first
        | (obtain ⟨g0,g1,g2⟩:=box_keep HK0.out (grown_drew hg1)
           have HB1:=Lib.hid (HB0.out.grown (grown_drew hg1) HB0.out.size (fun _ h=>nomatch h)))
        | (obtain ⟨g0,g1,g2⟩:=box_keep (HK0.out.alloc _) (grown_drew hg1)
           have HX1:=Lib.hid (ents_keep (grown_drew hg1))
           have HB1:=Lib.hid ((HB0.out.alloc HB0.out.size _).grown (grown_drew hg1) (HB0.out.alloc HB0.out.size _).size (fun _ h=>nomatch h)))
      have HO1:=Lib.hid ho1
      clear ho1 hg1)
   | (refine step_app_list rfl (.tmp 12) (.tmp 14) rfl rfl (n0:=w.heap.size) (r:=v1) (l:=[]++l.take k) (xs:=[x]) (m:=1) (ad:=some ⟨w1.heap.size,0,none⟩) (cap:=1) rfl rfl rfl (World.ownsRow.alloc HO1.out _) (ents_one _ x) (by simp;omega) (by simp) (HB1.out.alloc HB1.out.size _).size ?_
      rintro v2 w2 ho2 hg2
      have HO2:=Lib.hid ho2
      have HB2:=Lib.hid ((HB1.out.alloc HB1.out.size _).grown hg2 (HB1.out.alloc HB1.out.size _).size (fun k e=>(World.ownsRow.lt HO1.out k e).1))
      clear ho2 hg2)
   | (refine step_app_list rfl (.tmp 12) (.tmp 14) rfl rfl (n0:=w.heap.size) (r:=v1) (l:=[]++l.take k) (xs:=[x]) (m:=1) (ad:=some ⟨w.heap.size+1,0,none⟩) (cap:=1) rfl rfl rfl HO1.out HX1.out (by simp;omega) (by simp) HB1.out.size ?_
      rintro v2 w2 ho2 hg2
      have HO2:=Lib.hid ho2
      have HB2:=Lib.hid (HB1.out.grown hg2 HB1.out.size (fun k e=>(World.ownsRow.lt HO1.out k e).1))
      clear ho2 hg2))
 all_goals (
   go_wp2_with (
     at_builtin
     refine wpList_app_list rfl (.tmp 16) (.tmp 19) rfl rfl (n0:=w.heap.size) (r:=v2) (l:=[]++l.take k++[x]) (xs:=l.drop k) (ad:=if cap=k then a else a.map (fun x=>x.add (k*2))) (m:=l.length-k) rfl rfl HDL.out.symm HO2.out (HD.out.below HB2.out) (by simp;omega) (by rw [HDL.out];omega) HB2.out.size ?_
     rintro v3 w3 ho3 hg3
     have hb3:Below w.heap.size w w3:=HB2.out.grown hg3 HB2.out.size (fun k e=>(World.ownsRow.lt HO2.out k e).1)
     have HB3:=Lib.hid hb3
     have HO3:=Lib.hid ho3
     clear hb3 ho3 hg3)
   all_goals (
     go_ret
     have hfin:=HO3.out
     rw [List.nil_append,List.append_assoc] at hfin
     exact ⟨_,rfl,hfin,HB3.out⟩))
end Go.Proofs.YtlckdfoflimahaaGreatDoor.Pk
namespace Go.Proofs.YtlckdfoflimahaaGreatDoor.Sk
open Go.RowKit Go.Shelf
attribute [local go_sem] Oper.semAt_some
theorem lt_step{x y:List UInt8}{i:Nat}(hx:i<x.length)(hy:i<y.length):(x.drop i<y.drop i)↔(x[i]<y[i]∨x[i]=y[i]∧x.drop (i+1)<y.drop (i+1)):=by
 rw [List.drop_eq_getElem_cons hx,List.drop_eq_getElem_cons hy,List.cons_lt_cons_iff]
theorem lt_end{x y:List UInt8}{i:Nat}(hx:i≤x.length)(hy:i≤y.length)(h:i=x.length∨i=y.length):(x.drop i<y.drop i)↔x.length<y.length:=by
 rcases h with rfl|rfl
 · rw [List.drop_length]
   cases hd:y.drop x.length with
   | nil =>
     have:=List.drop_eq_nil_iff.1 hd
     simp;omega
   | cons u v =>
     have:x.length<y.length:=by
       have h1:(y.drop x.length).length=v.length+1:=by rw [hd];rfl
       rw [List.length_drop] at h1
       omega
     simp [this]
 · rw [List.drop_length]
   simp;omega
theorem refText_any(a b:ByteArray)(ha:a.size≤281474976710656)(hb:b.size≤281474976710656)(w:World):Calls Tryz.prog 131 #[.string a,.string b] w fun e w'=>e=.returned (.bool (decide (a.data.toList<b.data.toList)))∧Below w.heap.size w w':=by
 obtain ⟨bv,hbv⟩:∃ bv,bv=decide (a.data.toList<b.data.toList):=⟨_,rfl⟩
 have HBV:=Lib.hid hbv
 rw [← hbv]
 clear hbv
 go_enter Tryz.func131,Tryz.ntmps131
 go_wp2
 go_loopw [5] (fun i wr=>∃ j:Nat,i=.int .i64 j∧j≤a.size∧j≤b.size∧Hid ((a.data.toList.drop j<b.data.toList.drop j)↔(a.data.toList<b.data.toList))∧Below w.heap.size w wr) (fun i _=>a.size-(intOf i).toNat)
 case atStart=>exact ⟨0,rfl,by omega,by omega,Lib.hid (by rw [List.drop_zero,List.drop_zero]),Below.refl _ _⟩
 case round =>
   obtain ⟨j,rfl,hja,hjb,HI,hbel⟩:=hrel
   have HW:=Lib.hid hbel
   clear hbel
   by_cases hlt:j<a.size∧j<b.size
   · obtain ⟨h1,h2⟩:=hlt
     have hst:=lt_step (x:=a.data.toList) (y:=b.data.toList) (i:=j) (by simpa using h1) (by simpa using h2)
     have HST:=Lib.hid hst
     clear hst
     by_cases he:a[j]=b[j]
     · have he2:((a[j].toNat:Int)==(b[j].toNat:Int))=true:=by rw [he];simp
       have HE:=Lib.hid he
       clear he
       go_wp2
       go_quiet (fail)
       go_wp2
       refine ⟨⟨j+1,by go_num,by omega,by omega,Lib.hid ?_,HW.out.trans ⟨rfl,rfl,rfl,Nat.le_refl _,fun _ _=>rfl⟩⟩,by simp [intOf];omega⟩
       rw [← HI.out,HST.out]
       have h1:a.data.toList[j]'(by simpa using h1)=b.data.toList[j]'(by simpa using h2):=HE.out
       simp [h1]
     · have he2:((a[j].toNat:Int)==(b[j].toNat:Int))=false:=by
         rw [beq_eq_false_iff_ne]
         intro e
         exact he (UInt8.toNat_inj.1 (by omega))
       have HE:=Lib.hid he
       clear he
       go_wp2
       go_quiet (fail)
       go_wp2
       go_quiet (fail)
       go_wp2
       go_returns
       refine ⟨?_,HW.out.trans ⟨rfl,rfl,rfl,Nat.le_refl _,fun _ _=>rfl⟩⟩
       have hv:decide (a[j].toNat<b[j].toNat)=bv:=by
         rw [HBV.out,decide_eq_decide,← HI.out,HST.out]
         have hne:¬ a.data.toList[j]'(by simpa using h1)=b.data.toList[j]'(by simpa using h2):=HE.out
         simp only [hne,false_and,or_false]
         exact UInt8.lt_iff_toNat_lt.symm
       rw [← hv]
       rfl
   · have hex:(a.size:Int)≤j∨((j:Int)<a.size∧(b.size:Int)≤j):=by omega
     have HX:=Lib.hid (show decide (a.size<b.size)=bv by
       have h:=lt_end (x:=a.data.toList) (y:=b.data.toList) (i:=j) (by simpa using hja) (by simpa using hjb) (by simp;omega)
       rw [HBV.out,decide_eq_decide,← HI.out,h]
       simp)
     clear hlt
     rcases hex with hex|⟨hex,hex2⟩
     all_goals (
       go_wp2
       go_returns
       refine ⟨?_,HW.out⟩
       rw [← HX.out]
       rfl)
theorem refLess_any(m m':ByteArray)(hm:m.size≤281474976710656)(hm':m'.size≤281474976710656)(s s':Int)(w:World):Calls Tryz.prog 137 #[.agg #[.string m,.int .i64 s],.agg #[.string m',.int .i64 s']] w fun e w'=>e=.returned (.bool (lessE m s m' s'))∧Below w.heap.size w w':=by
 have hb:Below w.heap.size w ((w.alloc (.cells #[.string m,.int .i64 s] 117)).alloc (.cells #[.string m',.int .i64 s'] 117)):=((Below.refl _ _).alloc (Nat.le_refl _) _).alloc (by simp) _
 have HB:=Lib.hid hb
 clear hb
 have HL:=fun w=>refText_any m m' hm hm' w
 clear hm hm'
 have HL:=fun w=>Lib.hid (HL w)
 by_cases h1:s<s'
 · go_enter Tryz.func137,Tryz.ntmps137
   go_wp2
   go_ret
   refine ⟨congrArg (fun b=>Ending.returned (.bool b)) ?_,HB.out⟩
   simp [lessE,h1]
 · by_cases h:s=s'
   · have e1:(s==s')=true:=by simpa using h
     have H:=Lib.hid h
     clear h
     go_enter Tryz.func137,Tryz.ntmps137
     go_wp2_with fail
     refine (HL _).out.mono ?_
     rintro e w5 ⟨rfl,hb5⟩
     have hb6:=Lib.hid (HB.out.trans (hb5.mono HB.out.size))
     clear hb5
     go_wp2_with fail
     go_ret
     refine ⟨congrArg (fun b=>Ending.returned (.bool b)) ?_,hb6.out⟩
     have:=H.out
     subst this
     simp [lessE]
   · have e1:(s==s')=false:=by simpa using h
     go_enter Tryz.func137,Tryz.ntmps137
     go_wp2
     go_ret
     refine ⟨congrArg (fun b=>Ending.returned (.bool b)) ?_,HB.out⟩
     simp [lessE,h1,h]
end Go.Proofs.YtlckdfoflimahaaGreatDoor.Sk
namespace Go.Proofs.YtlckdfoflimahaaGreatDoor
open Go.RowKit Go.Shelf Sk
attribute [local go_sem] Oper.semAt_some
theorem row_ents{W:World}{n0:Nat}{a:Option Addr}{c:Nat}{E:List En}(h:Row W n0 (.slice a E.length c) E):Pk.Ents W a E:=fun i hi=>by
 obtain ⟨b,off,c',h1,h2,h3⟩:=row_cells h (List.getElem?_eq_getElem hi)
 injection h1 with h1
 exact ⟨b,off,h1,h2,h3⟩
theorem ref_find{n0:Nat}(a:Option Addr)(c:Nat)(E:List En)(hE:E.length≤100000)(m:ByteArray)(w:World)(hr:Row w n0 (.slice a E.length c) E) :
   Calls Tryz.prog 96 #[.slice a E.length c,.string m] w fun e w'=>e=.returned (.int .i64 (Pk.whereS E m))∧w'=w:=by
 have HR:=Lib.hid hr
 clear hr
 go_enter Tryz.func96,Tryz.ntmps96
 go_wp2
 go_loopw [5] (fun i wr=>∃ (k:Nat),i=.int .i64 k∧k≤E.length∧wr=w∧∀ j x,j<k→E[j]?=some x→x.1≠m) (fun i _=>E.length-(intOf i).toNat)
 case atStart=>exact ⟨0,rfl,by omega,rfl,fun j x hj=>by omega⟩
 case round =>
   obtain ⟨k,rfl,hk,rfl,hno⟩:=hrel
   by_cases hlt:k<E.length
   · have hx:E[k]?=some E[k]:=List.getElem?_eq_getElem hlt
     generalize E[k]=x at *
     obtain ⟨b,off,c',e1,g0,g1⟩:=row_cells HR.out hx
     injection e1 with e1 _ e2
     subst e1
     subst e2
     have hk2:(k:Int)<E.length:=by omega
     by_cases he:x.1=m
     · have hw:Pk.whereS E m=k:=by
         unfold Pk.whereS
         rw [List.findIdx?_eq_some_iff_getElem.2 ⟨hlt,by rw [(List.getElem?_eq_some_iff.1 hx).2];simpa using he,fun j hj=>by
           have:=hno j E[j] hj (List.getElem?_eq_getElem (by omega))
           simpa using this⟩]
       have hbeq:(x.1.toList==m.toList)=true:=by rw [he];simp
       have HW:=Lib.hid hw
       clear hno hx hw he
       go_wp2_with fail
       go_returns
       exact ⟨by rw [HW.out];rfl,rfl⟩
     · have hbeq:(x.1.toList==m.toList)=false:=by
         rw [Bool.eq_false_iff]
         intro h
         exact he (beq_toList (by simpa using h))
       have HNO:=Lib.hid (show ∀ j y,j<k+1→E[j]?=some y→y.1≠m from fun j y hj hy=>by
         by_cases e:j=k
         · subst e;rw [hx] at hy;cases hy;exact he
         · exact hno j y (by omega) hy)
       clear hno hx he
       go_wp2_with fail
       exact ⟨⟨k+1,by go_num,hlt,trivial,HNO.out⟩,by simp [intOf];omega⟩
   · obtain rfl:k=E.length:=by omega
     have hw:Pk.whereS E m=-1:=by
       unfold Pk.whereS
       rw [List.findIdx?_eq_none_iff.2 fun x hx=>by
         obtain ⟨j,hj⟩:=List.mem_iff_getElem?.1 hx
         simpa using hno j x (List.getElem?_eq_some_iff.1 hj).1 hj]
     have HW:=Lib.hid hw
     clear hno hw
     go_wp2
     go_returns
     exact ⟨by rw [HW.out];rfl,rfl⟩
theorem ref_sorted{n0:Nat}(a:Option Addr)(c:Nat)(E:List En)(hE:E.length≤1000)(hc:E.length≤c)(hs:SrtE E)(hz:∀ x∈E,x.1.size≤281474976710656)(m:ByteArray)(hm:m.size≤281474976710656)(s:Int)(w:World)(hr:Row w n0 (.slice a E.length c) E) :
   Calls Tryz.prog 98 #[.slice a E.length c,.agg #[.string m,.int .i64 s]] w fun e w'=>∃ v,e=.returned v∧Own48 w' w.heap.size v (putE E m s)∧Below w.heap.size w w':=by
 have hb0:=alloc_below w (.cells #[.string m,.int .i64 s] 117)
 have HR:=Lib.hid (fun W (hb:Below (w.alloc (.cells #[.string m,.int .i64 s] 117)).heap.size (w.alloc (.cells #[.string m,.int .i64 s] 117)) W)=>(hr.later hb0).later hb)
 have kE:=Blk.new w 117 #[.string m,.int .i64 s]
 have HK:=Lib.hid (fun W (hb:Below (w.alloc (.cells #[.string m,.int .i64 s] 117)).heap.size (w.alloc (.cells #[.string m,.int .i64 s] 117)) W)=>kE.later hb)
 have hple:=posE_le E m s
 have HSP:=Lib.hid (posE_spec hs m s)
 have HZ:=Lib.hid hz
 have HB0:=Lib.hid hb0
 have HI:=fun W (hb:Below (w.alloc (.cells #[.string m,.int .i64 s] 117)).heap.size (w.alloc (.cells #[.string m,.int .i64 s] 117)) W)=>Lib.hid (Pk.refInsert_any a c E hE hc (posE E m s) hple (m,s) W (row_ents (HR.out W hb)))
 have HPE:=Lib.hid (show E.take (posE E m s)++[(m,s)]++E.drop (posE E m s)=putE E m s by unfold putE;rw [List.append_assoc];rfl)
 clear hr hs hz hb0 kE
 generalize posE E m s=P at *
 go_enter Tryz.func98,Tryz.ntmps98
 go_wp2
 go_loopw [5] (fun i wr=>∃ (k:Nat),i=.int .i64 k∧k≤P∧Below (w.alloc (.cells #[.string m,.int .i64 s] 117)).heap.size (w.alloc (.cells #[.string m,.int .i64 s] 117)) wr) (fun i _=>P-(intOf i).toNat)
 case atStart=>exact ⟨0,rfl,by omega,Below.refl _ _⟩
 case round =>
   obtain ⟨k,rfl,hk,hbr⟩:=hrel
   have kR:=HK.out wr hbr
   have q1:=fun y:Ext wr=>y.cell (facts2 kR).1
   have q2:=fun y:Ext wr=>y.cell (facts2 kR).2.1
   have hne:=Ext.one wr
   by_cases hlt:k<E.length
   · have hx:E[k]?=some E[k]:=List.getElem?_eq_getElem hlt
     have hzx:=HZ.out _ (List.getElem_mem hlt)
     generalize E[k]=x at *
     obtain ⟨b,off,c',e1,g0,g1⟩:=row_cells (HR.out wr hbr) hx
     injection e1 with e1 _ e2
     subst e1
     subst e2
     have q3:=fun y:Ext wr=>y.cell g0
     have q4:=fun y:Ext wr=>y.cell g1
     have hk2:(k:Int)<E.length:=by omega
     have HL:=fun W=>Lib.hid (refLess_any x.1 m hzx hm x.2 s W)
     have hle:Sk.lessE x.1 x.2 m s=decide (k<P):=HSP.out k x hx
     rw [hle] at HL
     have HBR:=Lib.hid hbr
     clear hx hzx hle hbr kR g0 g1
     go_wp2_with fail
     by_cases hkp:k<P
     · rw [decide_eq_true hkp] at HL
       refine region_ext (w1:=wr) (by kernel_rfl) (by kernel_rfl) (Below.refl _ _) ?_
       repeat go_big_quiet_step ((go_at_call 137;exact Ext.call _ (HL _).out))
       refine wpQuiet_nil ?_
       rintro _ ⟨y,rfl⟩
       have HY:=Lib.hid (HBR.out.trans (y.ok.mono HBR.out.size))
       clear q1 q2 q3 q4 hne HL
       go_wp2_with fail
       exact ⟨⟨k+1,by go_num,hkp,HY.out⟩,by simp [intOf];omega⟩
     · obtain rfl:k=P:=by omega
       rw [decide_eq_false hkp] at HL
       refine region_ext (w1:=wr) (by kernel_rfl) (by kernel_rfl) (Below.refl _ _) ?_
       repeat go_big_quiet_step ((go_at_call 137;exact Ext.call _ (HL _).out))
       refine wpQuiet_nil ?_
       rintro _ ⟨y,rfl⟩
       have hy:=HBR.out.trans (y.ok.mono HBR.out.size)
       have HIY:=HI y.w hy
       have HY:=Lib.hid hy
       obtain ⟨e0,e1,_,_⟩:=facts2 (HK.out y.w hy)
       clear q1 q2 q3 q4 hne HL hy HI
       go_wp2_with fail
       refine HIY.out.mono ?_
       rintro e w3 ⟨v,rfl,ho,hb3⟩
       have HO:=Lib.hid (show Own48 w3 w.heap.size v (putE E m s) from by
         have:=ho
         rw [HPE.out] at this
         exact own_mono this (Nat.le_trans HB0.out.size HY.out.size))
       have HB3:=Lib.hid ((HB0.out.trans (HY.out.mono HB0.out.size)).trans (hb3.mono (Nat.le_trans HB0.out.size HY.out.size)))
       clear ho hb3 HIY
       go_wp2_with fail
       go_returns
       exact ⟨_,rfl,HO.out,HB3.out⟩
   · obtain rfl:k=P:=by omega
     have hk2:¬ (k:Int)<E.length:=by omega
     have HBR:=Lib.hid hbr
     clear hbr kR
     go_wp2_with fail
     refine region_ext (w1:=wr) (by kernel_rfl) (by kernel_rfl) (Below.refl _ _) ?_
     repeat go_big_quiet_step (fail)
     refine wpQuiet_nil ?_
     rintro _ ⟨y,rfl⟩
     have hy:=HBR.out.trans (y.ok.mono HBR.out.size)
     have HIY:=HI y.w hy
     have HY:=Lib.hid hy
     obtain ⟨e0,e1,_,_⟩:=facts2 (HK.out y.w hy)
     clear q1 q2 hne hy HI
     go_wp2_with fail
     refine HIY.out.mono ?_
     rintro e w3 ⟨v,rfl,ho,hb3⟩
     have HO:=Lib.hid (show Own48 w3 w.heap.size v (putE E m s) from by
       have:=ho
       rw [HPE.out] at this
       exact own_mono this (Nat.le_trans HB0.out.size HY.out.size))
     have HB3:=Lib.hid ((HB0.out.trans (HY.out.mono HB0.out.size)).trans (hb3.mono (Nat.le_trans HB0.out.size HY.out.size)))
     clear ho hb3 HIY
     go_wp2_with fail
     go_returns
     exact ⟨_,rfl,HO.out,HB3.out⟩
structure RefC (W:World) (r:Nat) (E:List En) (le lm:Int) (isL:Bool):Prop where
 ex:∃ a c,Blk W r 58 #[.slice a E.length c,.int .i64 le,.int .i64 lm,.bool isL]∧E.length≤c∧Row W 0 (.slice a E.length c) E
theorem RefC.far{S:Nat→Prop}{W W':World}{r:Nat}{E:List En}{le lm:Int}{isL:Bool}(h:RefC W r E le lm isL)(hf:Far S W W')(hr:¬ S r)(h48:∀ k cur,Blk W k 117 cur→¬ S k):RefC W' r E le lm isL:=by
 obtain ⟨a,c,h1,h2,h3⟩:=h.ex
 exact ⟨a,c,hf.blk h1 hr,h2,h3.far hf fun k cur _ hk=>h48 k cur hk⟩
theorem RefC.later{W W':World}{r:Nat}{E:List En}{le lm:Int}{isL:Bool}(h:RefC W r E le lm isL)(hb:Below W.heap.size W W'):RefC W' r E le lm isL:=h.far (S:=fun _=>False) (Far.of_below hb) (fun h=>h) (fun _ _ _ h=>h)
theorem RefC.put{W w0:World}{r n0:Nat}{v x:Value}{E:List En}{le lm:Int}{isL:Bool}(hk:Blk W r 58 #[x,.int .i64 le,.int .i64 lm,.bool isL])(ho:Own48 W n0 v E)(hf:Far (fun k=>k=r) w0 W) :
   RefC (W.setCell ⟨r,0,none⟩ v) r E le lm isL∧Far (fun k=>k=r) w0 (W.setCell ⟨r,0,none⟩ v):=by
 obtain ⟨a,c,rfl,hc⟩:=own_slice ho
 refine ⟨⟨a,c,?_,hc,?_⟩,hf.set _ _ (.inl rfl)⟩
 · have:=hk.set 0 (.slice a E.length c)
   simpa using this
 · refine ((own_row ho).mono (Nat.zero_le _)).far (far_set (S:=fun k=>k=r) W r 0 _ rfl) fun k cur _ h e=>?_
   subst e
   exact absurd (h.ty hk) (by decide)
theorem where_none{E:List En}{m:ByteArray}(h:whE E m=none):Pk.whereS E m=-1:=by
 unfold Pk.whereS
 rw [List.findIdx?_eq_none_iff.2 fun x hx=>by simpa using whE_none h x hx]
theorem where_some{E:List En}(hd:Dist E){m:ByteArray}{i:Nat}(h:whE E m=some i):Pk.whereS E m=i∧i<E.length∧rmE E m=E.take i++E.drop (i+1):=by
 obtain ⟨s,hx⟩:=whE_some h
 obtain ⟨hi,he⟩:=List.getElem?_eq_some_iff.1 hx
 refine ⟨?_,hi,rmE_at hd hx⟩
 unfold Pk.whereS
 rw [List.findIdx?_eq_some_iff_getElem.2 ⟨hi,by rw [he];simp,fun j hj=>by
   have hne:E[j].1≠m:=fun e=>by
     have:=whE_at hd (List.getElem?_eq_getElem (show j<E.length by omega))
     rw [e,h] at this
     injection this with this
     omega
   simpa using hne⟩]
theorem ref_remove{w:World}{r:Nat}{E:List En}{le lm:Int}{isL:Bool}(h:RefC w r E le lm isL)(hd:Dist E)(hE:E.length≤1000)(m:ByteArray) :
   Calls Tryz.prog 57 #[.pointer (some ⟨r,0,none⟩),.string m] w fun e w'=>e=.returned (.bool (hasE E m))∧RefC w' r (rmE E m) le lm isL∧Far (fun k=>k=r) w w':=by
 obtain ⟨a,c,hk,hc,hr⟩:=h.ex
 have HF:=Lib.hid (ref_find a c E (by omega) m w hr)
 obtain ⟨⟨c0,c1,c2,c3⟩,f0⟩:=facts4 hk
 have HH:=Lib.hid h
 have hhas:=hasE_wh E m
 cases hw:whE E m with
 | none =>
   rw [where_none hw] at HF
   rw [hw] at hhas
   have HN:=Lib.hid (rmE_none (whE_none hw))
   clear hk hr hw h
   go_enter Tryz.func57,Tryz.ntmps57
   go_wp2_with fail
   refine HF.out.mono ?_
   rintro e w1 ⟨rfl,rfl⟩
   clear HF
   go_wp2_with fail
   go_returns
   exact ⟨by rw [hhas];rfl,by rw [HN.out];exact HH.out,Far.refl _ _⟩
 | some i =>
   obtain ⟨e1,hi,e2⟩:=where_some hd hw
   rw [e1] at HF
   rw [hw] at hhas
   have HD:=Lib.hid (Pk.refDelete_any a c E hE hc i hi w (row_ents hr))
   rw [← e2] at HD
   have HK:=Lib.hid hk
   clear hk hr hw h e1 e2
   go_enter Tryz.func57,Tryz.ntmps57
   go_wp2_with fail
   refine HF.out.mono ?_
   rintro e w1 ⟨rfl,rfl⟩
   clear HF
   go_wp2_with fail
   refine HD.out.mono ?_
   rintro e w2 ⟨v,rfl,ho,hb⟩
   have k2:=HK.out.later hb
   have HR2:=Lib.hid (RefC.put (x:=.slice a E.length c) (w0:=w1) k2 (show Own48 w2 w1.heap.size v (rmE E m) from ho) (Far.of_below hb))
   obtain ⟨⟨d0,_,_,_⟩,g0⟩:=facts4 k2
   obtain ⟨a',c',rfl,_⟩:=own_slice (l:=rmE E m) ho
   clear c0 c1 c2 c3 f0 ho hb k2 HD HK HH
   go_wp2_with fail
   go_returns
   exact ⟨by rw [hhas];rfl,HR2.out.1,HR2.out.2⟩
theorem RefC.sorted{W:World}{r:Nat}{E:List En}{le lm:Int}{isL:Bool}(h:RefC W r E le lm isL)(hE:E.length≤1000)(hs:SrtE E)(hz:∀ x∈E,x.1.size≤64)(m:ByteArray)(hm:m.size≤64)(s:Int) :
   ∃ a c,Blk W r 58 #[.slice a E.length c,.int .i64 le,.int .i64 lm,.bool isL]∧Calls Tryz.prog 98 #[.slice a E.length c,.agg #[.string m,.int .i64 s]] W fun e w'=>∃ v,e=.returned v∧Own48 w' W.heap.size v (putE E m s)∧Below W.heap.size W w':=by
 obtain ⟨a,c,h1,h2,h3⟩:=h.ex
 exact ⟨a,c,h1,ref_sorted a c E hE h2 hs (fun x hx=>Nat.le_trans (hz x hx) (by omega)) m (by omega) s W h3⟩
theorem RefC.flag{W w0:World}{r:Nat}{E:List En}{le lm:Int}{isL:Bool}(h:RefC W r E le lm isL)(hf:Far (fun k=>k=r) w0 W) :
   RefC (W.setCell ⟨r,3,none⟩ (.bool true)) r E le lm true∧Far (fun k=>k=r) w0 (W.setCell ⟨r,3,none⟩ (.bool true)):=by
 obtain ⟨a,c,hk,hc,hr⟩:=h.ex
 refine ⟨⟨a,c,?_,hc,?_⟩,hf.set _ _ (.inl rfl)⟩
 · have:=hk.set 3 (.bool true)
   simpa using this
 · refine hr.far (far_set (S:=fun k=>k=r) W r 3 _ rfl) fun k cur _ g e=>?_
   rw [e] at g
   exact absurd (g.ty hk) (by decide)
theorem RefC.cells{W:World}{r:Nat}{E:List En}{le lm:Int}{isL:Bool}(h:RefC W r E le lm isL):∃ a c,Blk W r 58 #[.slice a E.length c,.int .i64 le,.int .i64 lm,.bool isL]:=by
 obtain ⟨a,c,hk,_⟩:=h.ex
 exact ⟨a,c,hk⟩
theorem refadd_arg(p:Value)(m:ByteArray)(s lv:Int)(h:64<m.size∨lv<1∨32<lv)(hm:m.size≤281474976710656)(w:World) :
   Calls Tryz.prog 52 #[p,.string m,.int .i64 s,.int .i64 lv] w fun e w'=>e=.returned (.tuple #[.bool false,.int .i64 2])∧w'=w:=by
 by_cases h1:64<m.size
 · have hb:(64:Int)<m.size:=by omega
   clear h
   go_enter Tryz.func52,Tryz.ntmps52
   go_wp2_with fail
   go_returns
   exact ⟨rfl,rfl⟩
 · have hb:¬ (64:Int)<m.size:=by omega
   by_cases h2:lv<1
   · clear h
     go_enter Tryz.func52,Tryz.ntmps52
     go_wp2_with fail
     go_returns
     exact ⟨rfl,rfl⟩
   · have h3:32<lv:=by omega
     clear h
     go_enter Tryz.func52,Tryz.ntmps52
     go_wp2_with fail
     go_returns
     exact ⟨rfl,rfl⟩
theorem refadd_in{w:World}{r:Nat}{E:List En}{le lm:Int}{isL:Bool}(h:RefC w r E le lm isL)(hs:SrtE E)(hd:Dist E)(hz:∀ x∈E,x.1.size≤64)(h4:E.length<400)(m:ByteArray)(s lv:Int)(hm:m.size≤64)(hv1:1≤lv)(hv2:lv≤32) :
   Calls Tryz.prog 52 #[.pointer (some ⟨r,0,none⟩),.string m,.int .i64 s,.int .i64 lv] w fun e w'=>e=.returned (.tuple #[.bool (!hasE E m),.int .i64 0])∧RefC w' r (addE E m s) le lm (isL || (decide (le<(addE E m s).length) || decide (lm<m.size)))∧Far (fun k=>k=r) w w':=by
 have g1:¬ (64:Int)<m.size:=by omega
 have g2:¬ lv<1:=by omega
 have g3:¬ 32<lv:=by omega
 have g4:¬ (E.length:Int) ≥ 400:=by omega
 obtain ⟨a,c,hk,hc,hr⟩:=h.ex
 have HF:=Lib.hid (ref_find a c E (by omega) m w hr)
 obtain ⟨⟨c0,c1,c2,c3⟩,f0⟩:=facts4 hk
 obtain ⟨IL,hIL⟩:∃ b,(isL || (decide (le<((addE E m s).length:Int)) || decide (lm<(m.size:Int))))=b:=⟨_,rfl⟩
 obtain ⟨H,hH⟩:∃ b,hasE E m=b:=⟨_,rfl⟩
 rw [hIL,hH]
 have hhas:=hasE_wh E m
 rw [hH] at hhas
 have HIL:=Lib.hid hIL
 clear hH hIL
 cases hw:whE E m with
 | none =>
   rw [where_none hw] at HF
   rw [hw] at hhas
   have HV:=Lib.hid (show (!H)=true by rw [hhas];rfl)
   clear hhas
   have HN:=Lib.hid (rmE_none (whE_none hw))
   have hso:=ref_sorted a c E (by omega) hc hs (fun x hx=>Nat.le_trans (hz x hx) (by omega)) m (by omega) s w hr
   rw [show putE E m s=addE E m s by unfold addE;rw [HN.out]] at hso
   have HSO:=Lib.hid hso
   have HK2:=Lib.hid hk
   have HF2:=Lib.hid (Far.refl (fun k=>k=r) w)
   clear hk hr hw h hso hs hz
   go_enter Tryz.func52,Tryz.ntmps52
   go_wp2_with fail
   refine HF.out.mono ?_
   rintro e w1 ⟨rfl,rfl⟩
   clear HF
   go_wp2_with fail
   refine HSO.out.mono ?_
   rintro e w3 ⟨v,rfl,ho,hb⟩
   have k3:=HK2.out.later hb
   have hR3:=RefC.put (w0:=w1) k3 ho (HF2.out.then_below hb)
   obtain ⟨⟨e0,_,_,_⟩,q0⟩:=facts4 k3
   obtain ⟨a',c',rfl,_⟩:=own_slice (l:=addE E m s) ho
   have HR3:=Lib.hid hR3
   clear ho hb k3 HSO HK2 HF2 hR3 c0 c1 c2 c3 f0
   go_wp2_with fail
   obtain ⟨a4,c4,k4⟩:=HR3.out.1.cells
   generalize w3.setCell _ _=wr at *
   obtain ⟨⟨x0,x1,x2,_⟩,_⟩:=facts4 k4
   have q1:=fun y:Ext wr=>y.cell x0
   have q2:=fun y:Ext wr=>y.cell x1
   have q3:=fun y:Ext wr=>y.cell x2
   have hne:=Ext.one wr
   have HR4:=Lib.hid HR3.out
   clear HR3 k4 x0 x1 x2 e0 q0
   by_cases hA:le<((addE E m s).length:Int)
   · have HI:=Lib.hid (show IL=true by rw [← HIL.out,decide_eq_true hA];simp)
     refine region_ext (w1:=wr) (by kernel_rfl) (by kernel_rfl) (Below.refl _ _) ?_
     repeat go_big_quiet_step (fail)
     refine wpQuiet_nil ?_
     rintro _ ⟨y,rfl⟩
     have hr5:=HR4.out.1.later y.ok
     have hf5:=HR4.out.2.then_below y.ok
     obtain ⟨a5,c5,k5⟩:=hr5.cells
     have y3:=(facts4 k5).1.2.2.2
     have z3:=k5.free 3
     have HFL:=Lib.hid (hr5.flag hf5)
     clear q1 q2 q3 hne hr5 hf5 k5 HR4
     go_wp2_with fail
     go_returns
     exact ⟨by rw [HV.out];first|rfl|simp,by rw [HI.out];exact HFL.out.1,HFL.out.2⟩
   · by_cases hB:lm<(m.size:Int)
     · have HI:=Lib.hid (show IL=true by rw [← HIL.out,decide_eq_true hB];simp)
       refine region_ext (w1:=wr) (by kernel_rfl) (by kernel_rfl) (Below.refl _ _) ?_
       repeat go_big_quiet_step (fail)
       refine wpQuiet_nil ?_
       rintro _ ⟨y,rfl⟩
       have hr5:=HR4.out.1.later y.ok
       have hf5:=HR4.out.2.then_below y.ok
       obtain ⟨a5,c5,k5⟩:=hr5.cells
       have y3:=(facts4 k5).1.2.2.2
       have z3:=k5.free 3
       have HFL:=Lib.hid (hr5.flag hf5)
       clear q1 q2 q3 hne hr5 hf5 k5 HR4
       go_wp2_with fail
       go_returns
       exact ⟨by rw [HV.out];first|rfl|simp,by rw [HI.out];exact HFL.out.1,HFL.out.2⟩
     · have HI:=Lib.hid (show IL=isL by rw [← HIL.out,decide_eq_false hA,decide_eq_false hB];simp)
       refine region_ext (w1:=wr) (by kernel_rfl) (by kernel_rfl) (Below.refl _ _) ?_
       repeat go_big_quiet_step (fail)
       refine wpQuiet_nil ?_
       rintro _ ⟨y,rfl⟩
       have hr5:=HR4.out.1.later y.ok
       have hf5:=HR4.out.2.then_below y.ok
       obtain ⟨a5,c5,k5⟩:=hr5.cells
       have y3:=(facts4 k5).1.2.2.2
       have z3:=k5.free 3
       have HFL:=Lib.hid (And.intro hr5 hf5)
       clear q1 q2 q3 hne hr5 hf5 k5 HR4
       go_wp2_with fail
       go_returns
       exact ⟨by rw [HV.out];first|rfl|simp,by rw [HI.out];exact HFL.out.1,HFL.out.2⟩
 | some i =>
   obtain ⟨e1,hi,e2⟩:=where_some hd hw
   rw [e1] at HF
   rw [hw] at hhas
   have HV:=Lib.hid (show (!H)=false by rw [hhas];rfl)
   clear hhas
   have HD:=Lib.hid (Pk.refDelete_any a c E (by omega) hc i hi w (row_ents hr))
   rw [← e2] at HD
   have HK:=Lib.hid hk
   have HS:=Lib.hid (srt_rmE hs m)
   have HZ:=Lib.hid (fun x (hx:x∈rmE E m)=>hz x (mem_rmE.1 hx).1)
   have HLE:=Lib.hid (show (rmE E m).length≤1000 from Nat.le_trans (List.length_filter_le _ _) (by omega))
   clear hk hr hw h e1 e2 hs hz
   go_enter Tryz.func52,Tryz.ntmps52
   go_wp2_with fail
   refine HF.out.mono ?_
   rintro e w1 ⟨rfl,rfl⟩
   clear HF
   go_wp2_with fail
   refine HD.out.mono ?_
   rintro e w2 ⟨v,rfl,ho,hb⟩
   have k2:=HK.out.later hb
   have hR2:=RefC.put (x:=.slice a E.length c) (w0:=w1) k2 (show Own48 w2 w1.heap.size v (rmE E m) from ho) (Far.of_below hb)
   obtain ⟨⟨e0,_,_,_⟩,q0⟩:=facts4 k2
   obtain ⟨a',c',rfl,_⟩:=own_slice (l:=rmE E m) ho
   obtain ⟨a2,k3,hk2,hso⟩:=hR2.1.sorted HLE.out HS.out HZ.out m hm s
   rw [show putE (rmE E m) m s=addE E m s from rfl] at hso
   have HSO:=Lib.hid hso
   have HK2:=Lib.hid hk2
   obtain ⟨⟨d0,_,_,_⟩,g0⟩:=facts4 hk2
   have HF2:=Lib.hid hR2.2
   clear c0 c1 c2 c3 f0 ho hb k2 HD HK hR2 hk2 hso HS HZ
   go_wp2_with fail
   refine HSO.out.mono ?_
   rintro e w3 ⟨v,rfl,ho,hb⟩
   have k3:=HK2.out.later hb
   have hR3:=RefC.put (w0:=w1) k3 ho (HF2.out.then_below hb)
   obtain ⟨⟨e5,_,_,_⟩,q5⟩:=facts4 k3
   obtain ⟨a',c',rfl,_⟩:=own_slice (l:=addE E m s) ho
   have HR3:=Lib.hid hR3
   clear ho hb k3 HSO HK2 HF2 hR3 d0 g0
   go_wp2_with fail
   obtain ⟨a4,c4,k4⟩:=HR3.out.1.cells
   generalize w3.setCell _ _=wr at *
   obtain ⟨⟨x0,x1,x2,_⟩,_⟩:=facts4 k4
   have q1:=fun y:Ext wr=>y.cell x0
   have q2:=fun y:Ext wr=>y.cell x1
   have q3:=fun y:Ext wr=>y.cell x2
   have hne:=Ext.one wr
   have HR4:=Lib.hid HR3.out
   clear HR3 k4 x0 x1 x2 e5 q5
   by_cases hA:le<((addE E m s).length:Int)
   · have HI:=Lib.hid (show IL=true by rw [← HIL.out,decide_eq_true hA];simp)
     refine region_ext (w1:=wr) (by kernel_rfl) (by kernel_rfl) (Below.refl _ _) ?_
     repeat go_big_quiet_step (fail)
     refine wpQuiet_nil ?_
     rintro _ ⟨y,rfl⟩
     have hr5:=HR4.out.1.later y.ok
     have hf5:=HR4.out.2.then_below y.ok
     obtain ⟨a5,c5,k5⟩:=hr5.cells
     have y3:=(facts4 k5).1.2.2.2
     have z3:=k5.free 3
     have HFL:=Lib.hid (hr5.flag hf5)
     clear q1 q2 q3 hne hr5 hf5 k5 HR4
     go_wp2_with fail
     go_returns
     exact ⟨by rw [HV.out];first|rfl|simp,by rw [HI.out];exact HFL.out.1,HFL.out.2⟩
   · by_cases hB:lm<(m.size:Int)
     · have HI:=Lib.hid (show IL=true by rw [← HIL.out,decide_eq_true hB];simp)
       refine region_ext (w1:=wr) (by kernel_rfl) (by kernel_rfl) (Below.refl _ _) ?_
       repeat go_big_quiet_step (fail)
       refine wpQuiet_nil ?_
       rintro _ ⟨y,rfl⟩
       have hr5:=HR4.out.1.later y.ok
       have hf5:=HR4.out.2.then_below y.ok
       obtain ⟨a5,c5,k5⟩:=hr5.cells
       have y3:=(facts4 k5).1.2.2.2
       have z3:=k5.free 3
       have HFL:=Lib.hid (hr5.flag hf5)
       clear q1 q2 q3 hne hr5 hf5 k5 HR4
       go_wp2_with fail
       go_returns
       exact ⟨by rw [HV.out];first|rfl|simp,by rw [HI.out];exact HFL.out.1,HFL.out.2⟩
     · have HI:=Lib.hid (show IL=isL by rw [← HIL.out,decide_eq_false hA,decide_eq_false hB];simp)
       refine region_ext (w1:=wr) (by kernel_rfl) (by kernel_rfl) (Below.refl _ _) ?_
       repeat go_big_quiet_step (fail)
       refine wpQuiet_nil ?_
       rintro _ ⟨y,rfl⟩
       have hr5:=HR4.out.1.later y.ok
       have hf5:=HR4.out.2.then_below y.ok
       obtain ⟨a5,c5,k5⟩:=hr5.cells
       have y3:=(facts4 k5).1.2.2.2
       have z3:=k5.free 3
       have HFL:=Lib.hid (And.intro hr5 hf5)
       clear q1 q2 q3 hne hr5 hf5 k5 HR4
       go_wp2_with fail
       go_returns
       exact ⟨by rw [HV.out];first|rfl|simp,by rw [HI.out];exact HFL.out.1,HFL.out.2⟩
def FitE(isL:Bool)(le lm:Int)(E:List En):Prop:=isL=false→(E.length:Int)≤le∧∀ e∈E,(e.1.size:Int)≤lm
theorem fit_nil(isL:Bool){le lm:Int}(h:0≤le):FitE isL le lm []:=fun _=>⟨by simpa using h,fun e he=>by cases he⟩
theorem FitE.sub{isL:Bool}{le lm:Int}{E E1:List En}(h:FitE isL le lm E)(hl:E1.length≤E.length)(hm:∀ e∈E1,e∈E):FitE isL le lm E1:=fun hi=>⟨by have:=(h hi).1;omega,fun e he=>(h hi).2 e (hm e he)⟩
theorem addL_eq{isL:Bool}{le lm:Int}{E:List En}(h:FitE isL le lm E)(hd:Dist E){m:ByteArray}{s lv:Int}(hb:badB m lv=false) :
   (isL || (decide (le<((addE E m s).length:Int)) || decide (lm<(m.size:Int))))=addL le lm isL E m lv:=by
 unfold addL
 rw [hb,addE_len hd]
 cases isL with
 | true=>simp
 | false =>
   obtain ⟨h1,h2⟩:=h rfl
   cases hh:hasE E m with
   | true =>
     obtain ⟨s',hs'⟩:=hasE_iff.1 hh
     have h3:=h2 _ hs'
     simp only [if_true,Bool.not_false,Bool.true_and,Bool.not_true,Bool.false_and,Bool.false_or]
     rw [decide_eq_false (by omega),decide_eq_false (by simp only at h3;omega)]
     rfl
   | false =>
     simp only [Bool.false_eq_true,if_false,Bool.not_false,Bool.true_and,Bool.false_or]
     congr 1
     apply decide_eq_decide.2
     push_cast
     omega
theorem fit_add{isL:Bool}{le lm:Int}{E:List En}(h:FitE isL le lm E)(hd:Dist E)(m:ByteArray)(s lv:Int):FitE (addL le lm isL E m lv) le lm (addS E m s lv):=by
 unfold addS
 cases hb:badB m lv with
 | true =>
   unfold addL
   rw [hb]
   simpa using h
 | false =>
   rw [← addL_eq (s:=s) h hd hb]
   simp only [Bool.false_eq_true,if_false]
   intro hi
   simp only [Bool.or_eq_false_iff,decide_eq_false_iff_not] at hi
   obtain ⟨h0,h1,h2⟩:=hi
   refine ⟨by omega,fun e he=>?_⟩
   rcases mem_addE.1 he with rfl|⟨h3,_⟩
   · simp only;omega
   · exact (h h0).2 e h3
theorem ref_add{w:World}{r:Nat}{E:List En}{le lm:Int}{isL:Bool}(h:RefC w r E le lm isL)(hf:FitE isL le lm E)(hs:SrtE E)(hd:Dist E)(hz:∀ x∈E,x.1.size≤64)(h4:E.length<400)(m:ByteArray)(hm:m.size≤281474976710656)(s lv:Int) :
   Calls Tryz.prog 52 #[.pointer (some ⟨r,0,none⟩),.string m,.int .i64 s,.int .i64 lv] w fun e w'=>e=.returned (.tuple #[.bool (addA E m lv),.int .i64 (addN m lv)])∧RefC w' r (addS E m s lv) le lm (addL le lm isL E m lv)∧Far (fun k=>k=r) w w':=by
 by_cases hb:64<m.size∨lv<1∨32<lv
 · have hb2:badB m lv=true:=decide_eq_true hb
   refine (refadd_arg _ m s lv hb hm w).mono ?_
   rintro e w' ⟨rfl,rfl⟩
   unfold addA addN addS addL
   rw [hb2]
   simp only [if_true,Bool.not_true,Bool.false_and,Bool.or_false]
   exact ⟨trivial,h,Far.refl _ _⟩
 · have hb2:badB m lv=false:=decide_eq_false hb
   refine (refadd_in h hs hd hz h4 m s lv (by omega) (by omega) (by omega)).mono ?_
   rintro e w' ⟨rfl,h1,h2⟩
   rw [addL_eq hf hd hb2] at h1
   unfold addA addN addS
   rw [hb2]
   exact ⟨rfl,h1,h2⟩
theorem ref_new(en mn le lm:Int)(hle:min (max en 0) 200=le)(hlm:min (max mn 0) 64=lm)(w:World) :
   Calls Tryz.prog 92 #[.agg #[.int .i64 en,.int .i64 mn]] w fun e w'=>∃ r,e=.returned (.pointer (some ⟨r,0,none⟩))∧w.heap.size≤r∧RefC w' r [] le lm false∧Below w.heap.size w w':=by
 have e1:max 0 (min 200 en)=le:=by omega
 have e2:max 0 (min 64 mn)=lm:=by omega
 have hb1:=alloc_below w (.cells #[.int .i64 en,.int .i64 mn] 23)
 have k1:=Blk.new w 23 #[.int .i64 en,.int .i64 mn]
 obtain ⟨c0,c1,_,_⟩:=facts2 k1
 have k2:=Blk.new (w.alloc (.cells #[.int .i64 en,.int .i64 mn] 23)) 58 #[.slice none 0 0,.int .i64 le,.int .i64 lm,.bool false]
 have HB:=Lib.hid (hb1.alloc hb1.size (.cells #[.slice none 0 0,.int .i64 le,.int .i64 lm,.bool false] 58))
 have hsz:(w.alloc (.cells #[.int .i64 en,.int .i64 mn] 23)).heap.size=w.heap.size+1:=Array.size_push _
 rw [hsz] at k2
 have HR:=Lib.hid (show RefC ((w.alloc (.cells #[.int .i64 en,.int .i64 mn] 23)).alloc (.cells #[.slice none 0 0,.int .i64 le,.int .i64 lm,.bool false] 58)) (w.heap.size+1) [] le lm false from ⟨none,0,k2,Nat.le_refl _,Row.nil _ _⟩)
 clear hle hlm k1 k2 hb1 hsz
 go_enter Tryz.func92,Tryz.ntmps92
 go_wp2_with fail
 go_returns
 exact ⟨_,rfl,by omega,HR.out,HB.out⟩
end Go.Proofs.YtlckdfoflimahaaGreatDoor
