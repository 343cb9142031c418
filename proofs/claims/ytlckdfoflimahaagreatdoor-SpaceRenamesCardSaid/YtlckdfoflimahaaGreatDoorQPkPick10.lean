/- Texts of one kind in one: PkPick, PkWrite, PkReplace, PkBytes. -/
import Derived.Test.YtlckdfoflimahaaGreatDoorQPkRight09
import Derived.Lib.AppendStr
import Derived.Laws.IdiomStrings
import Derived.Test.YtlckdfoflimahaaGreatDoorQPkBase08
import Derived.ArgAppend
import Derived.Lib.BufferRead
set_option maxRecDepth 200000
set_option maxHeartbeats 8000000
namespace Go.Proofs.YtlckdfoflimahaaGreatDoor.Pk
open Go.RowKit Go.Shelf
attribute [local go_sem] Oper.semAt_some
def packOf(p:ByteArray):List Cut:=(entriesS p).getD []
def entsOf(p:ByteArray):List Ent:=(packOf p).map Cut.ent
structure IsPack (p:ByteArray) (cs:List Cut):Prop where
 go:goS p cs.length 2=some cs
 count:countS p=cs.length
 many:cs.length≤200
 chain:Chain (nextF p) (begunS p 2) cs
 each:∀ c∈cs,2≤c.fr∧2≤c.to∧c.to≤p.size∧c.fr≤p.size∧endedS p c.to=some c
 ends:endOf cs cs.length=p.size
 two:2≤p.size
 short:∀ c∈cs,c.m.size≤64
theorem begun_of_mem{p:ByteArray}{cs:List Cut}(hc:Chain (nextF p) (begunS p 2) cs){c:Cut}(h:c∈cs):begunS p c.fr=some c:=by
 obtain ⟨i,hi,rfl⟩:=List.mem_iff_getElem.1 h
 have hx:cs[i]?=some cs[i]:=List.getElem?_eq_getElem hi
 have hb:=(chain_at hc i (by omega)).trans hx
 rw [(begunS_some hb).2.1]
 exact hb
theorem isPack_of{p:ByteArray}(h:rightB p=true):IsPack p (packOf p):=by
 unfold rightB at h
 obtain ⟨cs,hcs⟩:=Option.isSome_iff_exists.1 h
 have hp:packOf p=cs:=by unfold packOf;rw [hcs];rfl
 rw [hp]
 unfold entriesS at hcs
 have hr:=countS_range p
 split at hcs
 · next hn =>
   obtain ⟨h1,h2,h3,h4,h5⟩:=goS_some _ _ _ hcs
   have htwo:2≤p.size:=by
     rcases Nat.lt_or_ge p.size 2 with h|h
     · unfold countS at hn;rw [if_pos h] at hn;omega
     · exact h
   have hc:Chain (nextF p) (begunS p 2) cs:=⟨h2,h3,fun c hc=>(h4 c hc).1,by omega⟩
   refine ⟨by rw [h1];exact hcs,by omega,by omega,hc,h4,?_,htwo,fun c hm=>?_⟩
   · cases cs with
     | nil=>simpa [endOf] using h5
     | cons c l =>
       rw [List.getLast?_eq_getElem?] at h5
       simp only [List.length_cons,Nat.add_sub_cancel] at h5
       unfold endOf
       simp only [List.length_cons]
       have hx:(c :: l)[l.length]?=some ((c :: l)[l.length]'(by simp)):=List.getElem?_eq_getElem (by simp)
       rw [hx] at h5 ⊢
       exact h5
   · obtain ⟨_,_,_,_,h64,_,hm2,_⟩:=begunS_some (begun_of_mem hc hm)
     omega
 · cases hcs
theorem packOf_wrong{p:ByteArray}(h:rightB p=false):packOf p=[]:=by
 unfold rightB at h
 unfold packOf
 cases he:entriesS p with
 | none=>rfl
 | some cs=>rw [he] at h;simp at h
theorem fr_at{p:ByteArray}{cs:List Cut}(h:IsPack p cs)(i:Nat)(c:Cut)(hx:cs[i]?=some c):c.fr=endOf cs i:=by
 have hi:i<cs.length:=(List.getElem?_eq_some_iff.1 hx).1
 exact (begunS_some ((chain_at h.chain i (by omega)).trans hx)).2.1
theorem entriesF_any(p:ByteArray)(hp:p.size≤281474976710656)(w:World) :
   Calls Tryz.prog 186 #[.string p] w fun e w'=>∃ r,e=.returned (.tuple #[r,.int .i64 (if rightB p then 0 else 50)])∧Own35 w' w.heap.size r (entsOf p)∧Below w.heap.size w w':=by
 have HR:=Lib.hid (right_any p hp w)
 cases hr:rightB p with
 | false =>
   rw [hr] at HR
   rw [show entsOf p=[] by unfold entsOf;rw [packOf_wrong hr];rfl]
   go_enter Tryz.func186,Tryz.ntmps186
   go_wp2_with fail
   refine HR.out.mono ?_
   rintro e w1 ⟨rfl,hb1⟩
   have HB:=Lib.hid hb1
   clear hb1
   go_wp2
   go_ret2
   exact ⟨_,rfl,World.ownsRow_nil _ _ _ _,HB.out⟩
 | true =>
   rw [hr] at HR
   have hk:=isPack_of hr
   have HF:=fun w=>Lib.hid (forth_any p hp (packOf p) hk.chain (fun c hc=>(hk.each c hc).2.2.1) w)
   go_enter Tryz.func186,Tryz.ntmps186
   go_wp2_with fail
   refine HR.out.mono ?_
   rintro e w1 ⟨rfl,hb1⟩
   have HB:=Lib.hid hb1
   clear hb1
   go_wp2_with fail
   refine (HF _).out.mono ?_
   rintro e w2 ⟨v,rfl,hG,hb2⟩
   have HE:=Lib.hid (entries_any v (packOf p) _ w2 hG (fun c hc=>by have:=hk.short c hc;omega) (by have:=hk.many;omega) w2 (Below.refl _ _))
   have HB2:=Lib.hid hb2
   clear hb2 hG
   go_wp2_with fail
   refine HE.out.mono ?_
   rintro e w3 ⟨r,rfl,ho,hb3⟩
   have HO:=Lib.hid ho
   have HB3:=Lib.hid hb3
   clear ho hb3
   go_wp2
   go_ret2
   have s1:=HB.out.size
   have s2:=HB2.out.size
   exact ⟨_,rfl,ownsRow_mono HO.out (by omega),HB.out.trans ((HB2.out.mono s1).trans (HB3.out.mono (by omega)))⟩
def whereS(l:List Ent)(m:ByteArray):Int:=match l.findIdx? (fun e=>decide (e.1=m)) with
 | none=>-1
 | some i=>i
theorem findS_ents(xs:List Cut)(m:ByteArray):findS xs m=whereS (xs.map Cut.ent) m:=by
 unfold findS whereS
 rw [List.findIdx?_map]
 rfl
theorem find_any(p mem:ByteArray)(hp:p.size≤281474976710656)(w:World) :
   Calls Tryz.prog 309 #[.string p,.string mem] w fun e w'=>e=.returned (.int .i64 (whereS (entsOf p) mem))∧Below w.heap.size w w':=by
 cases hr:rightB p with
 | false =>
   obtain ⟨xs,hc,hx⟩:=chain_exists p hp
   have:=find_walk p mem hp false (fun w=>Lib.hid (by rw [← hr];exact right_any p hp w)) xs hc (fun c h=>(hx c h).2) w
   rw [show entsOf p=[] by unfold entsOf;rw [packOf_wrong hr];rfl]
   exact this
 | true =>
   have hk:=isPack_of hr
   have:=find_walk p mem hp true (fun w=>Lib.hid (by rw [← hr];exact right_any p hp w)) (packOf p) hk.chain (fun c hc=>(hk.each c hc).2.2.1) w
   rw [if_pos rfl,findS_ents] at this
   exact this
def pickS(p:ByteArray)(at_:Int):Option Cut × Int :=
 if rightB p then (if at_<0∨(packOf p).length≤at_ then (none,2) else ((packOf p)[at_.toNat]?,0)) else (none,50)
theorem ret4t{fn:Func}{R:Ending→World→Prop}{a:Act}{W:World}{b k j:Nat}{v0 v3 v1 v2 x:Value}(hr:fn.results=#[.cell k 343,.tmp j])(hk:a.tmps.getD k undef=.pointer (some ⟨b,0,none⟩))(hj:a.tmps.getD j undef=x)(hB:Blk W b 343 #[v0,v1,v2,v3])(hd:a.defers=[])
   (hR:R (.returned (.tuple #[.agg #[v0,v1,v2,v3],x])) W):bodyPost Tryz.prog fn R .ret a W:=by
 obtain ⟨e0,e1,e2,e3,f0,f1,f2,f3⟩:=facts4 hB
 refine bodyPost_ret ?_ hd hR
 have hk2:a.tmps[k]?.getD undef=.pointer (some ⟨b,0,none⟩):=by rw [← Array.getD_eq_getD_getElem?];exact hk
 have hj2:a.tmps[j]?.getD undef=x:=by rw [← Array.getD_eq_getD_getElem?];exact hj
 simp [results,hr,hk2,hj2,go_sem,e0,e1,e2,e3]
theorem ret2t{fn:Func}{R:Ending→World→Prop}{a:Act}{W:World}{b k j:Nat}{v0 v1 x:Value}(hr:fn.results=#[.cell k 117,.tmp j])(hk:a.tmps.getD k undef=.pointer (some ⟨b,0,none⟩))(hj:a.tmps.getD j undef=x)(hB:Blk W b 117 #[v0,v1])(hd:a.defers=[])
   (hR:R (.returned (.tuple #[.agg #[v0,v1],x])) W):bodyPost Tryz.prog fn R .ret a W:=by
 obtain ⟨e0,e1,f0,f1⟩:=facts2 hB
 refine bodyPost_ret ?_ hd hR
 have hk2:a.tmps[k]?.getD undef=.pointer (some ⟨b,0,none⟩):=by rw [← Array.getD_eq_getD_getElem?];exact hk
 have hj2:a.tmps[j]?.getD undef=x:=by rw [← Array.getD_eq_getD_getElem?];exact hj
 simp [results,hr,hk2,hj2,go_sem,e0,e1]
theorem pick_any(p:ByteArray)(hp:p.size≤281474976710656)(at_:Int)(w:World) :
   Calls Tryz.prog 314 #[.string p,.int .i64 at_] w fun e w'=>e=.returned (.tuple #[cutV (pickS p at_).1,.int .i64 (pickS p at_).2])∧Below w.heap.size w w':=by
 have HR:=fun w=>Lib.hid (right_any p hp w)
 have HC:=fun w=>Lib.hid (count_any p hp w)
 have hB0:=(Below.refl w.heap.size w).alloc (Nat.le_refl _) (Obj.cells #[Value.string { data:=#[] },Value.int IntKind.i64 0,Value.int IntKind.i64 0,Value.int IntKind.i64 0] 343)
 unfold pickS
 cases hr:rightB p with
 | false =>
   rw [hr] at HR
   simp only [Bool.false_eq_true,if_false]
   unfold cutV noCut
   go_enter Tryz.func314,Tryz.ntmps314
   go_wp2_with fail
   refine (HR _).out.mono ?_
   rintro e w1 ⟨rfl,hb1⟩
   have k1:=(Blk.new w 343 #[Value.string { data:=#[] },Value.int IntKind.i64 0,Value.int IntKind.i64 0,Value.int IntKind.i64 0]).later hb1
   have K1:=Lib.hid k1
   obtain ⟨e0,e1,e2,e3,f0,f1,f2,f3⟩:=facts4 k1
   have HB:=Lib.hid (hB0.trans (hb1.mono hB0.size))
   clear hb1 k1 hB0
   go_wp2
   obtain ⟨g1,g2,g3⟩:=set4 (.string ⟨#[]⟩) (.int .i64 0) (.int .i64 0) (.int .i64 0) K1.out
   exact ret4t Tryz.results314 rfl rfl g1 rfl ⟨rfl,HB.out.trans (g3 _ (Nat.le_refl _))⟩
 | true =>
   rw [hr] at HR
   have hk:=isPack_of hr
   simp only [if_true]
   rw [hk.count] at HC
   have hmany:=hk.many
   by_cases hat:at_<0∨((packOf p).length:Int)≤at_
   · rw [if_pos hat]
     simp only []
     unfold cutV noCut
     generalize hlen:(packOf p).length=len at *
     go_enter Tryz.func314,Tryz.ntmps314
     go_wp2_with fail
     refine (HR _).out.mono ?_
     rintro e w1 ⟨rfl,hb1⟩
     have k1:=(Blk.new w 343 #[Value.string { data:=#[] },Value.int IntKind.i64 0,Value.int IntKind.i64 0,Value.int IntKind.i64 0]).later hb1
     have hB1:=hB0.trans (hb1.mono hB0.size)
     clear hb1
     by_cases h0:at_<0
     · have K1:=Lib.hid k1
       obtain ⟨e0,e1,e2,e3,f0,f1,f2,f3⟩:=facts4 k1
       have HB:=Lib.hid hB1
       clear k1 hB0 hB1
       go_wp2_with fail
       obtain ⟨g1,g2,g3⟩:=set4 (.string ⟨#[]⟩) (.int .i64 0) (.int .i64 0) (.int .i64 0) K1.out
       exact ret4t Tryz.results314 rfl rfl g1 rfl ⟨rfl,HB.out.trans (g3 _ (Nat.le_refl _))⟩
     · go_wp2_with fail
       refine (HC _).out.mono ?_
       rintro e w2 ⟨rfl,hb2⟩
       have k2:=k1.later hb2
       have K1:=Lib.hid k2
       obtain ⟨e0,e1,e2,e3,f0,f1,f2,f3⟩:=facts4 k2
       have HB:=Lib.hid (hB1.trans (hb2.mono hB1.size))
       have hge:(len:Int)≤at_:=by omega
       clear k1 k2 hB0 hB1 hb2
       go_wp2
       obtain ⟨g1,g2,g3⟩:=set4 (.string ⟨#[]⟩) (.int .i64 0) (.int .i64 0) (.int .i64 0) K1.out
       exact ret4t Tryz.results314 rfl rfl g1 rfl ⟨rfl,HB.out.trans (g3 _ (Nat.le_refl _))⟩
   · rw [if_neg hat]
     simp only []
     obtain ⟨k,rfl⟩:∃ k:Nat,at_=(k:Int):=⟨at_.toNat,by omega⟩
     have hkl:k<(packOf p).length:=by omega
     have hx:(packOf p)[k]?=some ((packOf p)[k]'hkl):=List.getElem?_eq_getElem hkl
     rw [Int.toNat_natCast,hx]
     have HN:=fun w=>Lib.hid (nth_walk p hp (packOf p) hk.chain (fun c hc=>(hk.each c hc).2.2.1) k (by omega) _ (fun c hc=>by rw [hx] at hc;cases hc;rfl) (fun hc=>by rw [hx] at hc;cases hc) w)
     generalize (packOf p)[k]'hkl=c at *
     generalize hlen:(packOf p).length=len at *
     unfold cutV Cut.val at *
     have hk9:(k:Int)<len:=by omega
     have hk8:(0:Int)≤k:=by omega
     clear hat hx
     go_enter Tryz.func314,Tryz.ntmps314
     go_wp2_with fail
     refine (HR _).out.mono ?_
     rintro e w1 ⟨rfl,hb1⟩
     have k1:=(Blk.new w 343 #[Value.string { data:=#[] },Value.int IntKind.i64 0,Value.int IntKind.i64 0,Value.int IntKind.i64 0]).later hb1
     have hB1:=hB0.trans (hb1.mono hB0.size)
     clear hb1
     go_wp2_with fail
     refine (HC _).out.mono ?_
     rintro e w2 ⟨rfl,hb2⟩
     have k2:=k1.later hb2
     have hB2:=hB1.trans (hb2.mono hB1.size)
     clear hb2
     go_wp2_with fail
     refine (HN _).out.mono ?_
     rintro e w3 ⟨rfl,hb3⟩
     have k3:=k2.later hb3
     have K1:=Lib.hid k3
     obtain ⟨e0,e1,e2,e3,f0,f1,f2,f3⟩:=facts4 k3
     have HB:=Lib.hid (hB2.trans (hb3.mono hB2.size))
     clear k1 k2 k3 hB0 hB1 hB2 hb3
     go_wp2
     obtain ⟨g1,g2,g3⟩:=set4 (.string c.m) (.int .i64 c.s) (.int .i64 c.fr) (.int .i64 c.to) K1.out
     exact ret4t Tryz.results314 rfl rfl g1 rfl ⟨rfl,HB.out.trans (g3 _ (Nat.le_refl _))⟩
def getS(p:ByteArray)(at_:Int):Ent × Int :=
 if rightB p then (if at_<0∨(entsOf p).length≤at_ then ((⟨#[]⟩,0),2) else ((entsOf p).getD at_.toNat (⟨#[]⟩,0),0)) else ((⟨#[]⟩,0),50)
theorem get_pick(p:ByteArray)(at_:Int):∃ c:Cut,cutV (pickS p at_).1=c.val∧c.ent=(getS p at_).1∧(pickS p at_).2=(getS p at_).2∧c.m.size≤64:=by
 have hno:cutV none=(⟨⟨#[]⟩,0,0,0⟩:Cut).val:=rfl
 unfold pickS getS
 cases hr:rightB p with
 | false=>exact ⟨_,hno,rfl,rfl,by decide⟩
 | true =>
   have hk:=isPack_of hr
   simp only [if_true]
   rw [show (entsOf p).length=(packOf p).length by simp [entsOf]]
   split
   · exact ⟨_,hno,rfl,rfl,by decide⟩
   · next hat =>
     have hkl:at_.toNat<(packOf p).length:=by omega
     have hx:(packOf p)[at_.toNat]?=some ((packOf p)[at_.toNat]'hkl):=List.getElem?_eq_getElem hkl
     refine ⟨(packOf p)[at_.toNat]'hkl,by rw [hx];rfl,?_,rfl,hk.short _ (List.getElem_mem _)⟩
     unfold entsOf
     simp [List.getD_eq_getElem?_getD,hx]
theorem get_any(p:ByteArray)(hp:p.size≤281474976710656)(at_:Int)(w:World) :
   Calls Tryz.prog 313 #[.string p,.int .i64 at_] w fun e w'=>e=.returned (.tuple #[.agg #[.string (getS p at_).1.1,.int .i64 (getS p at_).1.2],.int .i64 (getS p at_).2])∧Below w.heap.size w w':=by
 have HP:=Lib.hid (pick_any p hp at_)
 obtain ⟨c,h1,h2,h3,h4⟩:=get_pick p at_
 rw [h1,h3] at HP
 rw [← h2]
 generalize (getS p at_).2=er at *
 have HE:=fun w=>Lib.hid (entry_any c (by omega) w)
 clear h1 h2 h3 h4
 unfold Cut.val at *
 unfold Cut.ent
 simp only []
 go_enter Tryz.func313,Tryz.ntmps313
 go_wp2_with fail
 refine (HP.out _).mono ?_
 rintro e w1 ⟨rfl,hb1⟩
 have k1:=(Blk.new w 117 #[Value.string { data:=#[] },Value.int IntKind.i64 0]).later hb1
 have hB0:=(Below.refl w.heap.size w).alloc (Nat.le_refl _) (Obj.cells #[Value.string { data:=#[] },Value.int IntKind.i64 0] 117)
 have hB1:=hB0.trans (hb1.mono hB0.size)
 clear hb1
 go_wp2_with fail
 refine (HE _).out.mono ?_
 rintro e w2 ⟨rfl,hb2⟩
 have k2:=(k1.alloc (Obj.cells #[Value.string c.m,Value.int IntKind.i64 c.s,Value.int IntKind.i64 c.fr,Value.int IntKind.i64 c.to] 343)).later hb2
 have K2:=Lib.hid k2
 obtain ⟨e0,e1,f0,f1⟩:=facts2 k2
 have HB:=Lib.hid ((hB1.alloc hB1.size (Obj.cells #[Value.string c.m,Value.int IntKind.i64 c.s,Value.int IntKind.i64 c.fr,Value.int IntKind.i64 c.to] 343)).trans (hb2.mono (by have:=hB1.size;simp;omega)))
 clear k1 k2 hB0 hB1 hb2
 go_wp2
 obtain ⟨g1,g2,g3⟩:=set2 (.string c.m) (.int .i64 c.s) K2.out
 exact ret2t Tryz.results313 rfl rfl g1 rfl ⟨rfl,HB.out.trans (g3 _ (Nat.le_refl _))⟩
def Ents(W:World)(a:Option Addr)(l:List Ent):Prop:=∀ (i:Nat) (h:i<l.length),∃ b off,a=some ⟨b,off,none⟩∧W.cell? ⟨b,off+i*2,none⟩=some (.string l[i].1)∧W.cell? ⟨b,off+i*2+1,none⟩=some (.int .i64 l[i].2)
theorem Ents.below{w W:World}{a:Option Addr}{l:List Ent}(h:Ents w a l)(hb:Below w.heap.size w W):Ents W a l:=fun i hi=>by
 obtain ⟨b,off,ha,h0,h1⟩:=h i hi
 have hlt:b<w.heap.size:=World.block_lt_of_cell? w ⟨b,off+i*2,none⟩ h0
 exact ⟨b,off,ha,(hb.cell (p:=⟨b,_,none⟩) hlt).trans h0,(hb.cell (p:=⟨b,_,none⟩) hlt).trans h1⟩
def fitS(l:List Ent):Bool:=l.all fun e=>decide (e.1.size≤64)
theorem fit_any(a:Option Addr)(cap:Nat)(l:List Ent)(hl:l.length≤9223372036854775807)(hz:∀ e∈l,e.1.size≤9223372036854775807)(w:World)(hE:Ents w a l) :
   Calls Tryz.prog 318 #[.slice a l.length cap] w fun e w'=>e=.returned (.bool (fitS l))∧Below w.heap.size w w':=by
 go_enter Tryz.func318,Tryz.ntmps318
 go_wp2
 go_loopw [7] (fun i wr=>∃ (k:Nat),i=.int .i64 k∧k≤l.length∧Below w.heap.size w wr∧fitS (l.take k)=true)
   (fun i _=>l.length-(intOf i).toNat)
 case atStart=>exact ⟨0,rfl,by omega,Below.refl _ _,rfl⟩
 case round =>
   obtain ⟨k,rfl,hk,hb,hf⟩:=hrel
   by_cases hlt:k<l.length
   · obtain ⟨b,off,rfl,c0,c1⟩:=(hE.below hb) k hlt
     have hm:=hz _ (List.getElem_mem hlt)
     have hfs:fitS (l.take (k+1))=(fitS (l.take k)&&decide (l[k].1.size≤64)):=by
       unfold fitS;rw [List.take_succ_eq_append_getElem hlt,List.all_append];simp
     have HF:=Lib.hid hfs
     have HFk:=Lib.hid hf
     have HE:=Lib.hid hE
     have hrest:(¬ l[k].1.size≤64)→fitS l=false:=fun h=>by
       unfold fitS
       rw [List.all_eq_false]
       exact ⟨l[k],List.getElem_mem hlt,by simpa using h⟩
     have HR:=Lib.hid hrest
     generalize l[k].1=m at *
     generalize l[k].2=s at *
     clear hfs hf hE hrest
     go_wp2
     · go_ret
       rw [HR.out (by omega)]
       exact ⟨rfl,hb.alloc hb.size _⟩
     · refine ⟨⟨k+1,by go_num,hlt,hb.alloc hb.size _,?_⟩,by simp [intOf];omega⟩
       rw [HF.out,HFk.out]
       simp
       omega
   · obtain rfl:k=l.length:=by omega
     rw [List.take_length] at hf
     go_wp2
     go_ret
     rw [hf]
     exact ⟨rfl,hb⟩
def scoreB(s:Int)(k:Nat):UInt8:=UInt8.ofNat ((s / 2 ^ (8*k)) % 256).toNat
def score8(s:Int):List UInt8:=(List.range 8).map fun i=>scoreB s (7-i)
def entB(e:Ent):List UInt8:=UInt8.ofNat e.1.size :: (e.1.data.toList++score8 e.2++[UInt8.ofNat (e.1.size+9)])
theorem entB_length(e:Ent):(entB e).length=e.1.size+10:=by
 simp [entB,score8,Array.length_toList]
theorem scoreB_val(s:Int)(k:Nat):((scoreB s k).toNat:Int)=s / 2 ^ (8*k) % 256:=by
 unfold scoreB
 have h1:=Int.emod_nonneg (s / 2 ^ (8*k)) (show (256:Int)≠0 by decide)
 have h2:=Int.emod_lt_of_pos (s / 2 ^ (8*k)) (show (0:Int)<256 by decide)
 rw [UInt8.toNat_ofNat']
 omega
theorem score8_length(s:Int):(score8 s).length=8:=by simp [score8]
theorem score8_take(s:Int)(j:Nat)(h:j<8):(score8 s).take (j+1)=(score8 s).take j++[scoreB s (7-j)]:=by
 rw [List.take_succ_eq_append_getElem (by rw [score8_length];exact h)]
 simp [score8]
def Own5(W:World)(n0:Nat)(v:Value)(bs:List UInt8):Prop:=W.ownsRow n0 5 1 v bs.length (Lib.byteCells bs)
theorem info5:(Tryz.prog.info? 5).map (fun i=>(i.zero,i.size,i.bytes))=some (some (.int .u8 0),1,1):=by kernel_rfl
theorem own5_form{W:World}{n0:Nat}{v:Value}{bs:List UInt8}(h:Own5 W n0 v bs):∃ a cap,v=.slice a bs.length cap:=by
 rcases h.2 with ⟨rfl,h0⟩|⟨g,cap,cur,rfl,_⟩
 · exact ⟨none,0,by rw [h0]⟩
 · exact ⟨_,_,rfl⟩
theorem Blk.row5{W W7:World}{b n0:Nat}{t:TypeId}{c:Array Value}{r:Value}{l:List UInt8}(h:Blk W b t c)(hg:W.grownBy W7 r.ownBlock)(ho:Own5 W n0 r l)(ht:t≠5:=by decide):Blk W7 b t c :=
 (hg.block b h.lt (fun e=>by
   rcases ho.2 with ⟨rfl,_⟩|⟨g,cap,cur,rfl,_,hgb,_⟩
   · simp [Value.ownBlock] at e
   · simp [Value.ownBlock] at e
     subst e
     have:=(show W.heap[b]?=_ from h).symm.trans hgb
     simp at this
     exact ht this.2)).trans h
theorem Below.row5{w W W7:World}{n0:Nat}{r:Value}{l:List UInt8}(h:Below w.heap.size w W)(hg:W.grownBy W7 r.ownBlock)(ho:Own5 W n0 r l)(hn:w.heap.size≤n0):Below w.heap.size w W7 :=
 h.grown hg h.size (fun k e=>Nat.le_trans hn (World.ownsRow.lt ho k e).1)
theorem own5_snoc{W:World}{n0:Nat}{v:Value}{bs:List UInt8}{n:Int}(b:UInt8)(hb:(b.toNat:Int)=n)(h:W.ownsRow n0 5 1 v (bs.length+1) (Lib.byteCells bs++[Value.int .u8 n])):Own5 W n0 v (bs++[b]):=by
 unfold Own5
 rw [Lib.byteCells_append,List.length_append]
 subst hb
 exact h
theorem own5_str{W:World}{n0:Nat}{v:Value}{bs:List UInt8}{s:ByteArray}(h:W.ownsRow n0 5 1 v (bs.length+s.size) (Lib.byteCells bs++Lib.strCells s)):Own5 W n0 v (bs++s.data.toList):=by
 unfold Own5
 rw [Lib.byteCells_append,List.length_append,Array.length_toList]
 exact h
theorem written_any(a:Option Addr)(cap:Nat)(l:List Ent)(hl:l.length≤1000000)(hz:∀ e∈l,e.1.size≤64)(w:World)(hE:Ents w a l) :
   Calls Tryz.prog 320 #[.slice a l.length cap] w fun e w'=>∃ v,e=.returned v∧Own5 w' w.heap.size v (l.flatMap entB)∧Below w.heap.size w w':=by
 obtain ⟨i0,hi0,hz0,hz1,hz2⟩:=info_parts info5
 have hlen:∀ k,k≤l.length→((l.take k).flatMap entB).length≤74*k:=fun k hk=>by
   induction k with
   | zero=>simp
   | succ k ih =>
     have:=ih (by omega)
     rw [List.take_succ_eq_append_getElem (by omega),List.flatMap_append,List.length_append]
     have h1:=hz _ (List.getElem_mem (show k<l.length by omega))
     have h2:=entB_length (l[k]'(by omega))
     simp only [List.flatMap_cons,List.flatMap_nil,List.append_nil]
     omega
 go_enter Tryz.func320,Tryz.ntmps320
 go_wp2
 go_loopw [3,10] (fun v i wr=>∃ (k:Nat) (ac:Option Addr) (cp:Nat),i=.int .i64 k∧k≤l.length∧Below w.heap.size w wr∧v=.slice ac ((l.take k).flatMap entB).length cp∧Own5 wr w.heap.size (.slice ac ((l.take k).flatMap entB).length cp) ((l.take k).flatMap entB))
   (fun _ i _=>l.length-(intOf i).toNat)
 case atStart=>exact ⟨0,none,0,rfl,by omega,Below.refl _ _,rfl,World.ownsRow_nil _ _ _ _⟩
 case round =>
   obtain ⟨k,ac,cp,rfl,hk,hb,rfl,hown⟩:=hrel
   by_cases hlt:k<l.length
   · obtain ⟨b,off,rfl,c0,c1⟩:=(hE.below hb) k hlt
     have hm:=hz _ (List.getElem_mem hlt)
     have hbl:=hlen k hk
     have hnx:(l.take (k+1)).flatMap entB=(l.take k).flatMap entB++entB l[k]:=by
       rw [List.take_succ_eq_append_getElem hlt,List.flatMap_append];simp
     have HN:=Lib.hid hnx
     have HE:=Lib.hid hE
     have HL:=Lib.hid hlen
     generalize hent:l[k]=e at *
     obtain ⟨m,s⟩:=e
     simp only at c0 c1 hm
     generalize (l.take k).flatMap entB=bs at *
     clear hnx hE hlen hent
     have hmb:((UInt8.ofNat m.size).toNat:Int)=m.size:=by simp;omega
     have hbk:=hb.size
     have hm9:(m.size:Int)≤64:=by omega
     have hm8:(0:Int)≤m.size:=by omega
     go_wp2_with (first
       | (at_builtin;refine wpList_append_own _ rfl _ _ 67 rfl w.heap.size 5 i0 _ 1 1 Tryz.underlying67 hi0 hz0 hz1 hz2 rfl (by decide) _ _ _ rfl ((World.ownsRow.alloc hown _).alloc _) ⟨wr.heap.size+1,0,none⟩ 1 1 [.int .u8 m.size] rfl rfl (by have:=cell_one_new (wr.alloc (Obj.cells #[Value.string m,Value.int IntKind.i64 s] 117)) (.int .u8 (m.size:Int)) 5;rw [World.size_alloc] at this;exact this) (by simp [Value.oneCell']) (by unfold maxLen;omega) (by omega) (by simp;omega) ?_;intro v1 w2 hown2 hgrow2 _;have hg2:((wr.alloc (Obj.cells #[Value.string m,Value.int IntKind.i64 s] 117)).alloc (Obj.cells #[Value.int IntKind.u8 m.size] 5)).grownBy w2 (Value.slice ac bs.length cp).ownBlock:=hgrow2;clear hgrow2;have ho1:Own5 ((wr.alloc (Obj.cells #[Value.string m,Value.int IntKind.i64 s] 117)).alloc (Obj.cells #[Value.int IntKind.u8 m.size] 5)) w.heap.size (Value.slice ac bs.length cp) bs:=(World.ownsRow.alloc hown _).alloc _;have k2:=((Blk.new wr 117 #[Value.string m,Value.int IntKind.i64 s]).alloc (Obj.cells #[Value.int IntKind.u8 m.size] 5)).row5 hg2 ho1;have hb2:Below w.heap.size w w2:=Below.row5 ((hb.alloc hb.size _).alloc (by simp;omega) _) hg2 ho1 (Nat.le_refl _);have o2:=own5_snoc _ hmb hown2;have hb2s:=hb2.size;obtain ⟨e20,e21,_⟩:=facts2 k2;clear hown ho1 hown2)
       | (at_builtin;refine Lib.wpList_append_own_string _ rfl _ _ 67 9 rfl w.heap.size 5 i0 Tryz.underlying67 Tryz.underlying9 hi0 hz0 hz1 hz2 _ _ _ rfl o2 m rfl (by unfold maxLen;simp;omega) (by simp;omega) (by omega) ?_;intro v2 w3 hown3 hgrow3 _;have hg3:w2.grownBy w3 v1.ownBlock:=hgrow3;clear hgrow3;have k3:=k2.row5 hg3 o2;have hb3:Below w.heap.size w w3:=Below.row5 hb2 hg3 o2 (Nat.le_refl _);have o3:=own5_str hown3;obtain ⟨e30,e31,_⟩:=facts2 k3;clear hown3))
     have hb1l:(bs++[UInt8.ofNat m.size]++m.data.toList).length=bs.length+1+m.size:=by simp [Array.length_toList];show _+(m.data.size+1)=_;rw [show m.data.size=m.size from rfl];omega
     have hfin:bs++entB (m,s)=(bs++[UInt8.ofNat m.size]++m.data.toList)++score8 s++[UInt8.ofNat (m.size+9)]:=by simp [entB]
     rw [hfin] at HN
     clear hfin
     generalize bs++[UInt8.ofNat m.size]++m.data.toList=bs1 at *
     have HB3:=Lib.hid hb3
     clear hg2 hg3 k2 e20 e21 e30 e31 o2 hb2 hb hb3
     generalize wr.heap.size=P at *
     go_loopw [3,27] (fun v i wr2=>∃ (j:Nat),i=.int .i64 j∧j≤8∧Below w.heap.size w wr2∧Blk wr2 P 117 #[.string m,.int .i64 s]∧Own5 wr2 w.heap.size v (bs1++(score8 s).take j))
       (fun _ i _=>8-(intOf i).toNat)
     case atStart=>exact ⟨0,rfl,by omega,HB3.out,k3,by simpa using o3⟩
     case round =>
       clear k3 o3
       obtain ⟨j,rfl,hj,hb4,k4,o4⟩:=hrel
       obtain ⟨e40,e41,_⟩:=facts2 k4
       by_cases hj8:j<8
       · have hj9:(j:Int)<8:=by omega
         have hj0:(0:Int)≤j:=by omega
         have hsx:=scoreB_val s (7-j)
         have HX:=Lib.hid hsx
         have HT:=Lib.hid (score8_take s j hj8)
         have hlj:(bs1++(score8 s).take j).length≤100000000:=by
           have:=List.length_take_le j (score8 s)
           rw [List.length_append]
           omega
         generalize hbs2:bs1++(score8 s).take j=bs2 at *
         have HBS:=Lib.hid hbs2
         clear hbs2
         have HB4:=Lib.hid hb4
         have hb4s:=hb4.size
         clear hsx hb4
         go_wp2_with (at_builtin;refine wpList_append_own _ rfl _ _ 67 rfl w.heap.size 5 i0 _ 1 1 Tryz.underlying67 hi0 hz0 hz1 hz2 rfl (by decide) _ _ _ rfl (World.ownsRow.alloc o4 _) ⟨wr.heap.size,0,none⟩ 1 1 [.int .u8 (s / 2 ^ (8*(7-j)) % 256)] rfl rfl (cell_one_new _ _ _) (by simp [Value.oneCell']) (by unfold maxLen;omega) (by omega) (by simp;omega) ?_;intro v1 w2 hown2 hgrow2 _)
         have ho4:=World.ownsRow.alloc o4 (Obj.cells #[Value.int IntKind.u8 (s / 2 ^ (8*(7-j)) % 256)] 5)
         refine ⟨⟨j+1,by go_num,by omega,Below.row5 (HB4.out.alloc HB4.out.size _) hgrow2 ho4 (Nat.le_refl _),Blk.row5 (k4.alloc _) hgrow2 ho4,?_⟩,by simp [intOf];omega⟩
         rw [HT.out,← List.append_assoc,HBS.out]
         exact own5_snoc _ HX.out hown2
       · obtain rfl:j=8:=by omega
         rw [List.take_of_length_le (by rw [score8_length];exact Nat.le_refl _)] at o4
         have hl2:(bs1++score8 s).length=bs.length+m.size+9:=by rw [List.length_append,score8_length];omega
         rw [show bs1++score8 s++[UInt8.ofNat (m.size+9)]=(bs1++score8 s)++[UInt8.ofNat (m.size+9)] from rfl] at HN
         generalize bs1++score8 s=bs2 at *
         obtain ⟨ac4,cp4,rfl⟩:=own5_form o4
         have hsub:(bs.length:Int)+m.size+9-bs.length=(m.size:Int)+9:=by omega
         have hbs9:bs2.length≤1000000000:=by omega
         have HB4:=Lib.hid hb4
         have hb4s:=hb4.size
         have hnine:((UInt8.ofNat (m.size+9)).toNat:Int)=(m.size:Int)+9:=by simp;omega
         clear hb4
         go_wp2_with (at_builtin;refine wpList_append_own _ rfl _ _ 67 rfl w.heap.size 5 i0 _ 1 1 Tryz.underlying67 hi0 hz0 hz1 hz2 rfl (by decide) _ _ _ rfl (World.ownsRow.alloc o4 _) ⟨wr.heap.size,0,none⟩ 1 1 [.int .u8 ((m.size:Int)+9)] rfl rfl (cell_one_new _ _ _) (by simp [Value.oneCell']) (by unfold maxLen;omega) (by omega) (by simp;omega) ?_;intro v1 w2 hown2 hgrow2 _)
         have ho4:=World.ownsRow.alloc o4 (Obj.cells #[Value.int IntKind.u8 ((m.size:Int)+9)] 5)
         have o5:=own5_snoc _ hnine hown2
         rw [← HN.out] at o5
         obtain ⟨a5,c5,rfl⟩:=own5_form o5
         exact ⟨⟨k+1,a5,c5,by go_num,hlt,Below.row5 (HB4.out.alloc HB4.out.size _) hgrow2 ho4 (Nat.le_refl _),rfl,o5⟩,by simp [intOf];omega⟩
   · obtain rfl:k=l.length:=by omega
     rw [List.take_length] at hown
     go_wp2
     go_ret
     rw [List.take_length]
     exact ⟨_,rfl,hown,hb⟩
def BytesAt(W:World)(g off:Nat)(l:List UInt8):Prop:=∀ (j:Nat) (u:UInt8),l[j]?=some u→W.cell? ⟨g,off+j,none⟩=some (.int .u8 (u.toNat:Int))
theorem BytesAt.below{w W:World}{g off:Nat}{l:List UInt8}(h:BytesAt w g off l)(hb:Below w.heap.size w W):BytesAt W g off l:=fun j u hj =>
 (hb.cell (p:=⟨g,off+j,none⟩) (World.block_lt_of_cell? w ⟨g,off+j,none⟩ (h j u hj))).trans (h j u hj)
theorem BytesAt.cells{W:World}{g off:Nat}{l:List UInt8}(h:BytesAt W g off l):∀ j u,(Lib.byteCells l)[j]?=some u→W.cell? ((⟨g,off,none⟩:Addr).add j)=some u:=fun j u hj=>by
 unfold Lib.byteCells at hj
 rw [List.getElem?_map] at hj
 obtain ⟨x,hx,rfl⟩:=Option.map_eq_some_iff.1 hj
 rw [Addr.add_lit]
 exact h j x hx
theorem one_byteCells(l:List UInt8):∀ u∈Lib.byteCells l,u.oneCell'=true:=fun u hu=>by
 unfold Lib.byteCells at hu
 obtain ⟨b,_,rfl⟩:=List.mem_map.1 hu
 rfl
inductive BytesV (W:World):Value→List UInt8→Prop where
 | none (cap:Nat):BytesV W (.slice none 0 cap) []
 | some (g off cap:Nat) (l:List UInt8) (h:BytesAt W g off l):BytesV W (.slice (some ⟨g,off,none⟩) l.length cap) l
theorem BytesV.below{w W:World}{v:Value}{l:List UInt8}(h:BytesV w v l)(hb:Below w.heap.size w W):BytesV W v l:=by
 cases h with
 | none cap=>exact .none cap
 | some g off cap l h=>exact .some g off cap l (h.below hb)
theorem own5_bytes{W:World}{n0:Nat}{v:Value}{l:List UInt8}(h:Own5 W n0 v l):BytesV W v l:=by
 have hc:=fun g (hg:v.ownBlock=some g)=>World.ownsRow.cells h hg
 rcases h.2 with ⟨rfl,h0⟩|⟨g,cap,cur,rfl,_⟩
 · rw [List.length_eq_zero_iff.1 h0];exact .none 0
 · refine .some g 0 cap l fun j u hj=>?_
   have:=hc g rfl j (.int .u8 (u.toNat:Int)) (by unfold Lib.byteCells;rw [List.getElem?_map,hj];rfl)
   rwa [Addr.add_lit] at this
theorem run_firstCells_zero{W:World}{v:Value}{l:List UInt8}(h:BytesV W v l)(h0:l=[]):(Builtin.firstCells 1 0 v).run Tryz.prog W=.ok #[] W:=by
 cases h with
 | none cap=>exact run_firstCells_none (P:=Tryz.prog) W 1 0 0 cap
 | some g off cap l h =>
   subst h0
   exact run_firstCells_some (P:=Tryz.prog) W 1 0 ⟨g,off,none⟩ 0 cap [] (by simp) (fun j v hj=>by simp at hj)
theorem app_nothing{i0:TypeInfo}(hi0:Tryz.prog.info? 5=some i0)(hz1:i0.size=1){W:World}{y:Value}(hy:BytesV W y [])(g n c:Nat)(hnc:n≤c) :
   (Builtin.append_ #[67,67] 67 #[.slice (some ⟨g,0,none⟩) n c,y]).run Tryz.prog W=.ok (.slice (some ⟨g,0,none⟩) n c) W:=by
 have hf:=run_firstCells_zero hy rfl
 cases hy with
 | none cap=>simp [Builtin.append_,run_underlying Tryz.underlying67,sizeOf,typeInfo,hi0,hz1,Builtin.lenOf,hnc,hf,Addr.add_lit,storeCells]
 | some g' off cap l h =>
   simp only [List.length_nil] at hf ⊢
   simp [Builtin.append_,run_underlying Tryz.underlying67,sizeOf,typeInfo,hi0,hz1,Builtin.lenOf,hnc,hf,Addr.add_lit,storeCells]
inductive Dest (W:World) (n0:Nat):Value→List UInt8→Prop where
 | full (g:Nat) (l:List UInt8) (h:BytesAt W g 0 l):Dest W n0 (.slice (some ⟨g,0,none⟩) l.length l.length) l
 | own (v:Value) (l:List UInt8) (h:Own5 W n0 v l):Dest W n0 v l
theorem app_dest{i0:TypeInfo}(hi0:Tryz.prog.info? 5=some i0)(hz0:i0.zero=some (.int .u8 0))(hz1:i0.size=1)(hz2:i0.bytes=1){W:World}{n0:Nat}{v y:Value}{l m:List UInt8}(hd:Dest W n0 v l)(hy:BytesV W y m)(hl:l.length≤100000000)(hm:m.length≤100000000)(hn:n0≤W.heap.size)(hl0:l≠[]) :
   ∃ v' W',(Builtin.append_ #[67,67] 67 #[v,y]).run Tryz.prog W=.ok v' W'∧Dest W' n0 v' (l++m)∧Below n0 W W':=by
 have room (g c:Nat) (hlc:l.length≤c) (hy:BytesV W y m) (hm0:m=[]):=app_nothing hi0 hz1 (show BytesV W y [] by rw [← hm0];exact hy) g l.length c hlc
 by_cases hm0:m=[]
 · subst hm0
   rw [List.append_nil]
   cases hd with
   | full g l h=>exact ⟨_,_,room g _ (Nat.le_refl _) hy rfl,.full g l h,Below.refl _ _⟩
   | own v l h =>
     rcases h.2 with ⟨rfl,h0⟩|⟨g,cap,cur,rfl,_,_,hc,_⟩
     · exact absurd (List.length_eq_zero_iff.1 h0) hl0
     · exact ⟨_,_,room g _ hc hy rfl,.own _ l h,Below.refl _ _⟩
 · cases hy with
   | none cap=>exact absurd rfl hm0
   | some ga off cap m ha =>
     have hml:0<m.length:=List.length_pos_iff.2 hm0
     cases hd with
     | full g l h =>
       obtain ⟨v',W',hrun,r1,r2⟩:=run_append_arg_grows (P:=Tryz.prog) W 67 67 5 i0 _ 1 1 Tryz.underlying67 hi0 hz0 hz1 hz2 rfl (by decide) ⟨g,0,none⟩ l.length l.length (Lib.byteCells l) (by rw [Lib.byteCells_length];omega) (fun j u hj=>by have:=h.cells j u hj;exact this) ⟨ga,off,none⟩ m.length cap (Lib.byteCells m) (by rw [Lib.byteCells_length];omega) (fun j u hj=>ha.cells j u hj) (by omega) (by unfold maxLen;omega) (by omega)
       have hb:Below W.heap.size W W':=⟨r2.os,r2.tape,r2.output,r2.size,fun k hk=>r2.block k hk (by simp)⟩
       refine ⟨v',W',hrun,.own _ _ ?_,hb.mono hn⟩
       unfold Own5
       rw [Lib.byteCells_append,List.length_append]
       exact ownsRow_mono r1 hn
     | own v l h =>
       obtain ⟨v',W',hrun,r1,r2,_⟩:=run_append_own (P:=Tryz.prog) W n0 67 67 5 i0 _ 1 1 Tryz.underlying67 hi0 hz0 hz1 hz2 rfl (by decide) v _ _ h ⟨ga,off,none⟩ m.length cap (Lib.byteCells m) (by rw [Lib.byteCells_length];omega) (fun j u hj=>ha.cells j u hj) (one_byteCells m) (by unfold maxLen;omega) (by omega) hn
       refine ⟨v',W',hrun,.own _ _ ?_,⟨r2.os,r2.tape,r2.output,r2.size,fun k hk=>r2.block k (by omega) (fun e=>?_)⟩⟩
       · unfold Own5
         rw [Lib.byteCells_append,List.length_append]
         exact r1
       · have:=(World.ownsRow.lt h k e.symm).1;omega
theorem app_full{i0:TypeInfo}(hi0:Tryz.prog.info? 5=some i0)(hz0:i0.zero=some (.int .u8 0))(hz1:i0.size=1)(hz2:i0.bytes=1){W:World}{g:Nat}{y:Value}{l m:List UInt8}(hd:BytesAt W g 0 l)(hy:BytesV W y m)(hl:l.length≤100000000)(hm:m.length≤100000000)(hl0:l≠[]) :
   ∃ v' W',(Builtin.append_ #[67,67] 67 #[.slice (some ⟨g,0,none⟩) l.length l.length,y]).run Tryz.prog W=.ok v' W'∧Dest W' W.heap.size v' (l++m)∧Below W.heap.size W W' :=
 app_dest hi0 hz0 hz1 hz2 (.full g l hd) hy hl hm (Nat.le_refl _) hl0
theorem Dest.bytes{W:World}{n0:Nat}{v:Value}{l:List UInt8}(h:Dest W n0 v l):BytesV W v l:=by
 cases h with
 | full g l h=>exact .some g 0 _ l h
 | own v l h=>exact own5_bytes h
theorem run_back(W:World)(v:Value)(l:List UInt8)(h:BytesV W v l):(convert 67 9 v).run Tryz.prog W=.ok (.string ⟨l.toArray⟩) W:=by
 cases h with
 | none cap=>exact Lib.run_convert_nil_bytes (P:=Tryz.prog) W 67 9 5 cap Tryz.underlying67 Tryz.underlying5 Tryz.underlying9
 | some g off cap l h =>
   refine run_convert_bytes_back (P:=Tryz.prog) W 67 9 5 ⟨g,off,none⟩ cap l Tryz.underlying67 Tryz.underlying5 Tryz.underlying9 fun j hj=>?_
   rw [Addr.add_lit]
   exact h j _ (List.getElem?_eq_getElem hj)
theorem row_bytes(w:World)(p:ByteArray)(C:Nat)(hC:p.size≤C) :
   BytesAt (w.drew.alloc (.cells (bytesRow p C) 5 ((bytesRow p C).size,(bytesRow p C).size+1))) w.heap.size 0 p.data.toList ∧
   ∀ j,j<p.size→(w.drew.alloc (.cells (bytesRow p C) 5 ((bytesRow p C).size,(bytesRow p C).size+1))).frozen? ⟨w.heap.size,j,none⟩=false:=by
 refine ⟨fun j u hj=>?_,fun j hj=>?_⟩
 · obtain ⟨hl,rfl⟩:=List.getElem?_eq_some_iff.1 hj
   have:=World.cell?_alloc_mark w.drew (bytesRow p C) 5 ((bytesRow p C).size,(bytesRow p C).size+1) j
   rw [show w.drew.heap.size=w.heap.size from rfl] at this
   rw [Nat.zero_add,this,bytesRow_at p C j (by simpa using hl)]
   simp
 · have:=World.frozen?_alloc_mark w.drew (bytesRow p C) 5 (bytesRow p C).size ((bytesRow p C).size+1) j
   rw [show w.drew.heap.size=w.heap.size from rfl] at this
   rw [this]
   have hs:(bytesRow p C).size=C:=by
     unfold bytesRow
     have:p.data.size=p.size:=rfl
     simp
     omega
   rw [hs]
   simp
   omega
theorem put_head(w1:World)(g:Nat)(q:List UInt8)(hq:2≤q.length)(hR:BytesAt w1 g 0 q)(hf:∀ j,j<q.length→w1.frozen? ⟨g,j,none⟩=false)(x y:UInt8)(vx vy:Int)(hx:(x.toNat:Int)=vx)(hy:(y.toNat:Int)=vy)(C:Nat) :
   ∃ W2,(Builtin.copy_ #[67,67] 3 #[.slice (some ⟨g,0,none⟩) q.length C,.slice (some ⟨w1.heap.size,0,none⟩) 2 2]).run Tryz.prog (w1.alloc (.cells #[.int .u8 vx,.int .u8 vy] 5))=.ok (goInt 2) W2 ∧
     BytesAt W2 g 0 (x :: y :: q.drop 2)∧∀ n,n≤g→n≤w1.heap.size→Below n w1 W2:=by
 obtain ⟨i0,hi0,hz0,hz1,hz2⟩:=info_parts info5
 have hB:=Blk.new w1 5 #[.int .u8 vx,.int .u8 vy]
 have hb:=(Below.refl w1.heap.size w1).alloc (Nat.le_refl _) (Obj.cells #[.int .u8 vx,.int .u8 vy] 5)
 have hg:g<w1.heap.size:=World.block_lt_of_cell? w1 ⟨g,0+0,none⟩ (hR 0 q[0] (List.getElem?_eq_getElem _))
 have hrun:=run_copy_cells (P:=Tryz.prog) (w1.alloc (.cells #[.int .u8 vx,.int .u8 vy] 5)) 67 67 3 5 g 0 q.length C ⟨w1.heap.size,0,none⟩ 2 2 [.int .u8 vx,.int .u8 vy] Tryz.underlying67 (by rw [hi0];simp [hz1]) (by simp [Nat.min_def];omega)
   (fun j v hj=>by
     match j,hj with
     | 0,hj=>simp at hj;subst hj;exact hB.cell 0
     | 1,hj=>simp at hj;subst hj;rw [Addr.add_lit];exact hB.cell 1
     | j+2,hj=>simp at hj)
   (fun j hj=>by
     have hj2:j<q.length:=by simp at hj;omega
     rw [(hR.below hb) j q[j] (List.getElem?_eq_getElem hj2)];rfl)
   (fun j hj=>by
     have hj2:j<q.length:=by simp at hj;omega
     rw [Nat.zero_add]
     exact (hb.frozen (p:=⟨g,j,none⟩) hg).trans (hf j hj2))
   (by simp [Value.oneCell'])
 refine ⟨_,hrun,fun j u hj=>?_,fun n hn hn1=>?_⟩
 · match j,hj with
   | 0,hj =>
     simp at hj;subst hj
     have:=World.cell?_setCells_in g [.int .u8 vx,.int .u8 vy] 0 (w1.alloc (.cells #[.int .u8 vx,.int .u8 vy] 5)) (fun i hi=>by
       have hj2:i<q.length:=by simp at hi;omega
       rw [(hR.below hb) i q[i] (List.getElem?_eq_getElem hj2)];rfl) 0 (by simp)
     rw [this,hx];rfl
   | 1,hj =>
     simp at hj;subst hj
     have:=World.cell?_setCells_in g [.int .u8 vx,.int .u8 vy] 0 (w1.alloc (.cells #[.int .u8 vx,.int .u8 vy] 5)) (fun i hi=>by
       have hj2:i<q.length:=by simp at hi;omega
       rw [(hR.below hb) i q[i] (List.getElem?_eq_getElem hj2)];rfl) 1 (by simp)
     rw [this,hy];rfl
   | j+2,hj =>
     rw [World.cell?_setCells_out g _ 0 _ ⟨g,0+(j+2),none⟩ (fun _ _=>.inr (by simp))]
     refine (hR.below hb) (j+2) u ?_
     simp only [List.getElem?_cons_succ,List.getElem?_drop] at hj
     rwa [Nat.add_comm] at hj
 · have h1:=((Below.refl n w1).alloc hn1 (Obj.cells #[.int .u8 vx,.int .u8 vy] 5))
   exact (h1.setCell (p:=⟨g,0,none⟩) hn _).setCell (p:=⟨g,0+1,none⟩) hn _
def putS(p:ByteArray)(N fr to:Nat)(bs:List UInt8):List UInt8:=(UInt8.ofNat (N / 256) :: UInt8.ofNat N :: p.data.toList.drop 2).take fr++bs++p.data.toList.drop to
theorem wpList_append_ran{P:Program}{w:World}{ops:Array Oper}{rest:List Oper}{o:Oper}{a:Act}{Q:Exit→Act→World→Prop}{v xv v':Value}{w':World}(hgd:o.guard=none)(s x:Operand)(t u:TypeId)
   (ho:o.op=Op.call { callee:=Callee.builtin Builtin.append,args:=#[s,x],argTypes:=#[t,u] }) (hs:a.eval s=v) (hx:a.eval x=xv) (hrun:(Builtin.append_ #[t,u] o.type #[v,xv]).run P w=.ok v' w')
   (h:wpList P ops Q rest (a.put o.dst v') w'):wpList P ops Q (o :: rest) a w:=by
 refine wpList_plain hgd fun K hK=>?_
 unfold Oper.wp
 simp [execOp,ho,resolve,invoke,builtin,hs,hx,hrun,Result.andThen]
 exact hK _ _ h
theorem replaced_any(p:ByteArray)(h2:2≤p.size)(hp:p.size≤1000000)(more:Int)(N:Nat)(hN:countS p+more=N)(hN2:N≤60000)(fr to:Nat)(hf:2≤fr)(hft:fr≤to)(hto:to≤p.size)(y:Value)(bs:List UInt8)(hbs:bs.length≤1000000)(w:World)(hy:BytesV w y bs) :
   Calls Tryz.prog 315 #[.string p,.int .i64 more,.int .i64 fr,.int .i64 to,y] w fun e w'=>e=.returned (.string ⟨(putS p N fr to bs).toArray⟩)∧Below w.heap.size w w':=by
 obtain ⟨i0,hi0,hz0,hz1,hz2⟩:=info_parts info5
 have hcv:=run_bytes_of_string (P:=Tryz.prog) w 9 67 5 p Tryz.underlying9 Tryz.underlying67 Tryz.underlying5
 have hge:=grownCap_ge w p.size 0 5
 have hgm:=grownCap_le_maxLen w p.size 0 5 (by unfold maxLen;omega)
 obtain ⟨r1,r2⟩:=row_bytes w p (grownCap w p.size 0 5) hge
 generalize grownCap w p.size 0 5=C at *
 have HC:=fun w=>Lib.hid (count_any p (by omega) w)
 have hb0:Below w.heap.size w (w.drew.alloc (.cells (bytesRow p C) 5 ((bytesRow p C).size,(bytesRow p C).size+1))):=(Below.refl w.heap.size w).drew.alloc (Nat.le_refl _) _
 have hsz0:(w.drew.alloc (.cells (bytesRow p C) 5 ((bytesRow p C).size,(bytesRow p C).size+1))).heap.size=w.heap.size+1:=by simp
 generalize w.drew.alloc (.cells (bytesRow p C) 5 ((bytesRow p C).size,(bytesRow p C).size+1))=w0 at *
 have hfrz:∀ (W:World),Below w0.heap.size w0 W→∀ j,j<p.size→W.frozen? ⟨w.heap.size,j,none⟩=false:=fun W hW j hj=>(hW.frozen (p:=⟨w.heap.size,j,none⟩) (by simp;omega)).trans (r2 j hj)
 have HF:=Lib.hid hfrz
 have HY:=Lib.hid hy
 have HR:=Lib.hid r1
 have HP:=Lib.hid (show putS p N fr to bs=_ from rfl)
 generalize hps:putS p N fr to bs=out at *
 have hlen:p.data.toList.length=p.size:=size_list p
 clear r1 r2 hfrz hy
 unfold maxLen at hgm
 go_enter Tryz.func315,Tryz.ntmps315
 go_wp2_with fail
 refine (HC _).out.mono ?_
 rintro e w1 ⟨rfl,hb1⟩
 have hx:((UInt8.ofNat (N / 256)).toNat:Int)=(N:Int) / 256:=by simp;omega
 have hyy:((UInt8.ofNat N).toNat:Int)=(N:Int) % 256:=by simp
 obtain ⟨W2,hcopy,hW2,hbW2⟩:=put_head w1 w.heap.size p.data.toList (by omega) (HR.out.below hb1) (fun j hj=>HF.out w1 hb1 j (by omega)) _ _ _ _ hx hyy C
 rw [hlen] at hcopy
 have hb1s:=hb1.size
 have hbW:Below w.heap.size w W2:=(hb0.trans (hb1.mono (by omega))).trans (hbW2 _ (Nat.le_refl _) (by omega))
 have hyW:BytesV W2 y bs:=HY.out.below hbW
 have HBW:=Lib.hid hbW
 have HYW:=Lib.hid hyW
 have HW2:=Lib.hid hW2
 have hN9:(N:Int)≤60000:=by omega
 have hN8:(0:Int)≤N:=by omega
 clear hb1 hbW2 hbW hyW hW2 hx hyy
 have f1:(fr:Int)≤C:=by omega
 have f2:(to:Int)≤p.size:=by omega
 have f3:(p.size:Int)≤C:=by omega
 have f4:(0:Int)≤fr:=by omega
 have f5:(0:Int)≤to:=by omega
 have f6:(to:Int)≤C:=by omega
 go_wp2
 go_quiet (fail)
 have hhead:∀ j,to≤j→(UInt8.ofNat (N / 256) :: UInt8.ofNat N :: List.drop 2 p.data.toList)[j]?=p.data.toList[j]?:=fun j hj=>by
   obtain ⟨i,rfl⟩:∃ i,j=i+2:=⟨j-2,by omega⟩
   simp only [List.getElem?_cons_succ,List.getElem?_drop]
   rw [Nat.add_comm]
 have hheadl:(UInt8.ofNat (N / 256) :: UInt8.ofNat N :: List.drop 2 p.data.toList).length=p.size:=by
   simp only [List.length_cons,List.length_drop,hlen];omega
 have hW3:BytesAt (W2.drewN nq) w.heap.size 0 (UInt8.ofNat (N / 256) :: UInt8.ofNat N :: List.drop 2 p.data.toList):=HW2.out
 have hY3:BytesV (W2.drewN nq) y bs:=HYW.out.below ⟨rfl,rfl,rfl,Nat.le_refl _,fun _ _=>rfl⟩
 have hB3:Below w.heap.size w (W2.drewN nq):=HBW.out.trans ⟨rfl,rfl,rfl,Nat.le_refl _,fun _ _=>rfl⟩
 generalize W2.drewN nq=W3 at *
 have hbeh:BytesV W3 (.slice (if C=to then some { block:=w.heap.size,off:=0 } else some { block:=w.heap.size,off:=to }) (p.size-to) (C-to)) (p.data.toList.drop to):=by
   have hl:(p.data.toList.drop to).length=p.size-to:=by rw [List.length_drop,hlen]
   rw [← hl]
   split
   · refine .some _ 0 _ _ fun j u hj=>?_
     have:=(List.getElem?_eq_some_iff.1 hj).1
     omega
   · refine .some _ to _ _ fun j u hj=>?_
     rw [List.getElem?_drop] at hj
     have:=hW3 (to+j) u (by rw [hhead _ (by omega)];exact hj)
     rwa [Nat.zero_add] at this
 generalize (if C=to then some ({ block:=w.heap.size,off:=0 }:Addr) else some { block:=w.heap.size,off:=to })=ba at *
 have hfl:((UInt8.ofNat (N / 256) :: UInt8.ofNat N :: List.drop 2 p.data.toList).take fr).length=fr:=by rw [List.length_take,hheadl];omega
 have hfull:BytesAt W3 w.heap.size 0 ((UInt8.ofNat (N / 256) :: UInt8.ofNat N :: List.drop 2 p.data.toList).take fr):=fun j u hj=>by
   have hjl:=(List.getElem?_eq_some_iff.1 hj).1
   rw [List.getElem?_take,if_pos (by omega)] at hj
   exact hW3 j u hj
 have houtd:out=(UInt8.ofNat (N / 256) :: UInt8.ofNat N :: List.drop 2 p.data.toList).take fr++bs++p.data.toList.drop to:=by rw [← hps];rfl
 generalize (UInt8.ofNat (N / 256) :: UInt8.ofNat N :: List.drop 2 p.data.toList).take fr=hd at *
 obtain ⟨v4,W4,hrun4,hd4,hb4⟩:=app_full hi0 hz0 hz1 hz2 hfull hY3 (by omega) (by omega) (fun e=>by rw [e] at hfl;simp at hfl;omega)
 obtain ⟨v5,W5,hrun5,hd5,hb5⟩:=app_dest hi0 hz0 hz1 hz2 hd4 (hbeh.below hb4) (by rw [List.length_append];omega) (by rw [List.length_drop,hlen];omega) hb4.size (fun e=>by
   have:=congrArg List.length e
   rw [List.length_append] at this
   simp at this
   have h1:=this.1
   rw [h1] at hfl
   simp at hfl
   omega)
 rw [hfl] at hrun4
 have hback:=run_back W5 v5 _ hd5.bytes
 rw [← houtd] at hback
 have HO:=Lib.hid (hB3.trans ((hb4.mono hB3.size).trans (hb5.mono hB3.size)))
 clear hfull hbeh hW3 hY3 hB3 hhead hd4 hd5 hb4 hb5 hps houtd hfl hheadl
 go_wp2_with (first|(at_builtin;refine wpList_append_ran rfl _ _ 67 67 rfl rfl rfl hrun4 ?_;clear hrun4)|(at_builtin;refine wpList_append_ran rfl _ _ 67 67 rfl rfl rfl hrun5 ?_))
 go_ret
 exact ⟨rfl,HO.out⟩
end Go.Proofs.YtlckdfoflimahaaGreatDoor.Pk
namespace Go.Proofs.YtlckdfoflimahaaGreatDoor.Pk
open Go.RowKit Go.Shelf
theorem wrap_shift(n t:Int):wrap64 (n+18446744073709551616*t)=wrap64 n:=by
 unfold wrap64
 rw [show n+18446744073709551616*t+9223372036854775808=(n+9223372036854775808)+18446744073709551616*t by omega,Int.add_mul_emod_self_left]
theorem wrap_some(n:Int):∃ t,wrap64 n=n+18446744073709551616*t:=by
 refine ⟨-((n+9223372036854775808) / 18446744073709551616),?_⟩
 unfold wrap64
 have:=Int.emod_add_mul_ediv (n+9223372036854775808) 18446744073709551616
 omega
theorem wrap_step(a b:Int):wrap64 (wrap64 a*256+b)=wrap64 (a*256+b):=by
 obtain ⟨t,ht⟩:=wrap_some a
 rw [ht,show (a+18446744073709551616*t)*256+b=(a*256+b)+18446744073709551616*(t*256) by omega,wrap_shift]
theorem wrap_in{n:Int}(h:-9223372036854775808≤n∧n≤9223372036854775807):wrap64 n=n:=IntWalk.wrap64_in n h
def stepS(m:Int)(b:UInt8):Int:=wrap64 (m*256+b.toNat)
theorem stepS_zero(b:UInt8):stepS 0 b=wrap64 (b.toNat:Int):=by unfold stepS;rw [Int.zero_mul,Int.zero_add]
theorem stepS_wrap(a:Int)(b:UInt8):stepS (wrap64 a) b=wrap64 (a*256+b.toNat):=wrap_step a (b.toNat:Int)
theorem scoreL_fold(l:List UInt8):scoreL l=l.foldl stepS 0:=rfl
theorem fold_wrap:∀ (l:List UInt8) (a:Int),l.foldl stepS (wrap64 a)=wrap64 (l.foldl (fun m b=>m*256+(b.toNat:Int)) a)
 | [],_=>rfl
 | b :: l,a=>by rw [List.foldl_cons,stepS_wrap,fold_wrap l,List.foldl_cons]
theorem scoreL_eight(a b c d e f g h:UInt8):scoreL [a,b,c,d,e,f,g,h]=wrap64 (((((((((a.toNat:Int)*256+b.toNat)*256+c.toNat)*256+d.toNat)*256+e.toNat)*256+f.toNat)*256+g.toNat)*256+h.toNat)):=by
 rw [scoreL_fold,List.foldl_cons,stepS_zero,fold_wrap]
 congr 1
theorem div_step(s:Int)(k:Nat):s / 2 ^ (8*(k+1))=s / 2 ^ (8*k) / 256:=by
 rw [Int.ediv_ediv_of_nonneg (Int.le_of_lt (Int.pow_pos (by decide))),show 8*(k+1)=8*k+8 by omega,Int.pow_add]
 rfl
theorem scoreL_score8(s:Int)(h:-9223372036854775808≤s∧s≤9223372036854775807):scoreL (score8 s)=s:=by
 have hs:score8 s=[scoreB s 7,scoreB s 6,scoreB s 5,scoreB s 4,scoreB s 3,scoreB s 2,scoreB s 1,scoreB s 0]:=rfl
 rw [hs,scoreL_eight]
 simp only [scoreB_val]
 have h0:s / 2 ^ (8*0)=s:=by simp
 have h1:=div_step s 0
 have h2:=div_step s 1
 have h3:=div_step s 2
 have h4:=div_step s 3
 have h5:=div_step s 4
 have h6:=div_step s 5
 have h7:=div_step s 6
 simp only [Nat.reduceAdd] at h1 h2 h3 h4 h5 h6 h7
 rw [h0] at h1 ⊢
 generalize s / 2 ^ (8 * 1)=d1 at *
 generalize s / 2 ^ (8 * 2)=d2 at *
 generalize s / 2 ^ (8 * 3)=d3 at *
 generalize s / 2 ^ (8 * 4)=d4 at *
 generalize s / 2 ^ (8 * 5)=d5 at *
 generalize s / 2 ^ (8 * 6)=d6 at *
 generalize s / 2 ^ (8 * 7)=d7 at *
 have e0:=Int.emod_add_mul_ediv s 256
 have e1:=Int.emod_add_mul_ediv d1 256
 have e2:=Int.emod_add_mul_ediv d2 256
 have e3:=Int.emod_add_mul_ediv d3 256
 have e4:=Int.emod_add_mul_ediv d4 256
 have e5:=Int.emod_add_mul_ediv d5 256
 have e6:=Int.emod_add_mul_ediv d6 256
 have e7:=Int.emod_add_mul_ediv d7 256
 rw [← h1] at e0
 rw [← h2] at e1
 rw [← h3] at e2
 rw [← h4] at e3
 rw [← h5] at e4
 rw [← h6] at e5
 rw [← h7] at e6
 generalize d7 / 256=t at *
 generalize s % 256=r0 at *
 generalize d1 % 256=r1 at *
 generalize d2 % 256=r2 at *
 generalize d3 % 256=r3 at *
 generalize d4 % 256=r4 at *
 generalize d5 % 256=r5 at *
 generalize d6 % 256=r6 at *
 generalize d7 % 256=r7 at *
 clear h1 h2 h3 h4 h5 h6 h7 hs h0
 rw [show (((((((r7*256+r6)*256+r5)*256+r4)*256+r3)*256+r2)*256+r1)*256+r0)=s+18446744073709551616*(-t) by omega,wrap_shift,wrap_in h]
theorem byte_range(b:UInt8):0≤(b.toNat:Int)∧(b.toNat:Int)<256:=by have:=UInt8.toNat_lt b;omega
theorem scoreB_of{s:Int}{k:Nat}{b:UInt8}(h:s / 2 ^ (8*k) % 256=b.toNat):scoreB s k=b:=by
 apply UInt8.toNat_inj.1
 have:=scoreB_val s k
 omega
theorem score8_scoreL(l:List UInt8)(h:l.length=8):score8 (scoreL l)=l:=by
 match l,h with
 | [a,b,c,d,e,f,g,i],_ =>
   rw [scoreL_eight]
   have ha:=byte_range a
   have hb:=byte_range b
   have hc:=byte_range c
   have hd:=byte_range d
   have he:=byte_range e
   have hf:=byte_range f
   have hg:=byte_range g
   have hi:=byte_range i
   generalize hV:(((((((a.toNat:Int)*256+b.toNat)*256+c.toNat)*256+d.toNat)*256+e.toNat)*256+f.toNat)*256+g.toNat)*256+i.toNat=V
   obtain ⟨t,ht⟩:=wrap_some V
   rw [ht]
   generalize hS:V+18446744073709551616*t=S
   have h0:S / 2 ^ (8*0)=S:=by simp
   have h1:=div_step S 0
   have h2:=div_step S 1
   have h3:=div_step S 2
   have h4:=div_step S 3
   have h5:=div_step S 4
   have h6:=div_step S 5
   have h7:=div_step S 6
   simp only [Nat.reduceAdd] at h1 h2 h3 h4 h5 h6 h7
   rw [h0] at h1
   have q1:S / 2 ^ (8*1)=((((((a.toNat:Int)*256+b.toNat)*256+c.toNat)*256+d.toNat)*256+e.toNat)*256+f.toNat)*256+g.toNat+72057594037927936*t:=by rw [h1];omega
   have q2:S / 2 ^ (8*2)=(((((a.toNat:Int)*256+b.toNat)*256+c.toNat)*256+d.toNat)*256+e.toNat)*256+f.toNat+281474976710656*t:=by rw [h2,q1];omega
   have q3:S / 2 ^ (8*3)=((((a.toNat:Int)*256+b.toNat)*256+c.toNat)*256+d.toNat)*256+e.toNat+1099511627776*t:=by rw [h3,q2];omega
   have q4:S / 2 ^ (8*4)=(((a.toNat:Int)*256+b.toNat)*256+c.toNat)*256+d.toNat+4294967296*t:=by rw [h4,q3];omega
   have q5:S / 2 ^ (8*5)=((a.toNat:Int)*256+b.toNat)*256+c.toNat+16777216*t:=by rw [h5,q4];omega
   have q6:S / 2 ^ (8*6)=(a.toNat:Int)*256+b.toNat+65536*t:=by rw [h6,q5];omega
   have q7:S / 2 ^ (8*7)=(a.toNat:Int)+256*t:=by rw [h7,q6];omega
   show [scoreB S 7,scoreB S 6,scoreB S 5,scoreB S 4,scoreB S 3,scoreB S 2,scoreB S 1,scoreB S 0]=_
   rw [scoreB_of (b:=a) (k:=7) (by rw [q7];omega),scoreB_of (b:=b) (k:=6) (by rw [q6];omega),scoreB_of (b:=c) (k:=5) (by rw [q5];omega),scoreB_of (b:=d) (k:=4) (by rw [q4];omega),
     scoreB_of (b:=e) (k:=3) (by rw [q3];omega),scoreB_of (b:=f) (k:=2) (by rw [q2];omega),scoreB_of (b:=g) (k:=1) (by rw [q1];omega),scoreB_of (b:=i) (k:=0) (by rw [h0];omega)]
def packS(l:List Ent):List UInt8:=UInt8.ofNat (l.length / 256) :: UInt8.ofNat l.length :: l.flatMap entB
def packB(l:List Ent):ByteArray:=⟨(packS l).toArray⟩
theorem packB_list(l:List Ent):(packB l).data.toList=packS l:=rfl
theorem byte_get(p:ByteArray)(k:Nat)(h:k<p.data.toList.length):p.data.toList[k]=UInt8.ofNat (byte p k):=by
 unfold byte
 rw [List.getD_eq_getElem?_getD,List.getElem?_eq_getElem h]
 simp
theorem split_at(l:List UInt8)(a n:Nat):l.drop a=(l.drop a).take n++l.drop (a+n):=by
 rw [← List.drop_drop,List.take_append_drop]
theorem begun_bytes{p:ByteArray}{k:Nat}{c:Cut}(h:begunS p k=some c)(hb:byte p (c.to-1)=c.m.size+9):p.data.toList.drop k=entB c.ent++p.data.toList.drop c.to:=by
 obtain ⟨h2,hf,ht,hs,h64,hm,hms,hsc⟩:=begunS_some h
 generalize hn:byte p k=n at *
 have hl:=size_list p
 have d1:p.data.toList.drop k=UInt8.ofNat n :: p.data.toList.drop (k+1):=by
   rw [List.drop_eq_getElem_cons (show k<p.data.toList.length by omega),byte_get,hn]
 have d2:p.data.toList.drop (k+1)=c.m.data.toList++p.data.toList.drop (k+1+n):=by
   rw [hm,ext_list]
   exact split_at _ _ _
 have d3:p.data.toList.drop (k+1+n)=score8 c.s++p.data.toList.drop (k+1+n+8):=by
   rw [hsc,score8_scoreL _ (by rw [List.length_take,List.length_drop];omega)]
   exact split_at _ _ _
 have d4:p.data.toList.drop (k+1+n+8)=UInt8.ofNat (c.m.size+9) :: p.data.toList.drop c.to:=by
   have hk:k+1+n+8=c.to-1:=by omega
   rw [hk,List.drop_eq_getElem_cons (show c.to-1<p.data.toList.length by omega),show c.to-1+1=c.to by omega,byte_get,hb]
 rw [d1,d2,d3,d4]
 unfold entB Cut.ent
 simp [hms]
theorem drop_ends{p:ByteArray}{cs:List Cut}(h:IsPack p cs):∀ (m i:Nat),i+m=cs.length→p.data.toList.drop (endOf cs i)=((cs.drop i).map Cut.ent).flatMap entB
 | 0,i,hi=>by
   rw [show i=cs.length by omega,h.ends,List.drop_length,List.drop_of_length_le (by rw [size_list];exact Nat.le_refl _)]
   rfl
 | m+1,i,hi=>by
   have hx:cs[i]?=some (cs[i]'(by omega)):=List.getElem?_eq_getElem (by omega)
   have hb:=(chain_at h.chain i (by omega)).trans hx
   have he:=(ended_iff hb).1 (h.each _ (List.getElem_mem _)).2.2.2.2
   rw [begun_bytes hb he,List.drop_eq_getElem_cons (show i<cs.length by omega),List.map_cons,List.flatMap_cons,← drop_ends h m (i+1) (by omega),show endOf cs (i+1)=(cs[i]'(by omega)).to by simp [endOf,hx]]
theorem two_bytes{p:ByteArray}{n:Nat}(h:countS p=n):p.data.toList.take 2=[UInt8.ofNat (n / 256),UInt8.ofNat n]:=by
 unfold countS at h
 split at h
 · omega
 · next h2 =>
   split at h
   · omega
   · have hl:=size_list p
     have l0:=byte_lt p 0
     have l1:=byte_lt p 1
     have hn:n=byte p 0*256+byte p 1:=by omega
     obtain ⟨l,hl2⟩:∃ l,l=p.data.toList:=⟨_,rfl⟩
     have b0:byte p 0=(l.getD 0 0).toNat:=by rw [hl2];rfl
     have b1:byte p 1=(l.getD 1 0).toNat:=by rw [hl2];rfl
     rw [← hl2] at hl ⊢
     match l,hl with
     | a :: b :: r,_ =>
       simp at b0 b1
       have ha:=UInt8.toNat_lt a
       have hb:=UInt8.toNat_lt b
       simp only [List.take_succ_cons,List.take_zero]
       rw [show UInt8.ofNat (n / 256)=a by apply UInt8.toNat_inj.1;simp;omega,show UInt8.ofNat n=b by apply UInt8.toNat_inj.1;simp;omega]
     | [a],hl=>simp at hl;omega
     | [],hl=>simp at hl;omega
theorem pack_ents{p:ByteArray}{cs:List Cut}(h:IsPack p cs):p=packB (cs.map Cut.ent):=by
 apply ba_ext
 rw [packB_list,← List.take_append_drop 2 p.data.toList,two_bytes h.count]
 have:=drop_ends h cs.length 0 (by omega)
 rw [show endOf cs 0=2 from rfl] at this
 rw [this]
 simp [packS]
theorem take_ends{p:ByteArray}{cs:List Cut}(h:IsPack p cs)(i:Nat)(hi:i≤cs.length):(p.data.toList.take (endOf cs i))=UInt8.ofNat (cs.length / 256) :: UInt8.ofNat cs.length :: ((cs.take i).map Cut.ent).flatMap entB:=by
 have h1:=drop_ends h (cs.length-i) i (by omega)
 have h2:=List.take_append_drop (endOf cs i) p.data.toList
 have h3:p.data.toList=packS (cs.map Cut.ent):=by rw [← packB_list,← pack_ents h]
 rw [h1] at h2
 refine List.append_cancel_right (bs:=((cs.drop i).map Cut.ent).flatMap entB) ?_
 rw [h2,h3]
 simp only [packS,List.length_map,List.cons_append]
 rw [← List.flatMap_append,← List.map_append,List.take_append_drop]
theorem put_ents{p:ByteArray}{cs:List Cut}(h:IsPack p cs)(i j:Nat)(hij:i≤j)(hj:j≤cs.length)(N:Nat)(l:List Ent)(hN:N=(cs.take i).length+l.length+(cs.drop j).length) :
   putS p N (endOf cs i) (endOf cs j) (l.flatMap entB)=packS ((cs.take i).map Cut.ent++l++(cs.drop j).map Cut.ent):=by
 have h2:2≤endOf cs i:=by
   cases i with
   | zero=>exact Nat.le_refl _
   | succ i =>
     have hx:cs[i]?=some (cs[i]'(by omega)):=List.getElem?_eq_getElem (by omega)
     rw [show endOf cs (i+1)=(cs[i]'(by omega)).to by simp [endOf,hx]]
     exact (h.each _ (List.getElem_mem _)).2.1
 have ht:=take_ends h i (by omega)
 have hd:=drop_ends h (cs.length-j) j (by omega)
 unfold putS
 rw [hd]
 obtain ⟨e,he⟩:∃ e,endOf cs i=e+2:=⟨endOf cs i-2,by omega⟩
 rw [he] at ht ⊢
 have hl:=size_list p
 have h2p:=h.two
 have ht2:(p.data.toList.drop 2).take e=((cs.take i).map Cut.ent).flatMap entB:=by
   have:=congrArg (List.drop 2) ht
   rw [List.drop_take] at this
   simpa using this
 simp only [List.take_succ_cons,ht2]
 unfold packS
 have hlen:((cs.take i).map Cut.ent++l++(cs.drop j).map Cut.ent).length=N:=by simp only [List.length_append,List.length_map];omega
 rw [hlen]
 simp [List.flatMap_append]
end Go.Proofs.YtlckdfoflimahaaGreatDoor.Pk
