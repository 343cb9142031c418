/- Texts of one kind in one: PkBack, PkMake. -/
import Derived.Test.YtlckdfoflimahaaGreatDoorQPkPick10
set_option maxRecDepth 200000
set_option maxHeartbeats 8000000
namespace Go.Proofs.YtlckdfoflimahaaGreatDoor.Pk
open Go.RowKit Go.Shelf
def scoreOk(s:Int):Prop:=-9223372036854775808≤s∧s≤9223372036854775807
theorem drop_of{l a b:List UInt8}{k:Nat}(h:l.drop k=a++b)(n:Nat)(hn:a.length=n):l.drop (k+n)=b:=by
 rw [← List.drop_drop,h,← hn,List.drop_left]
theorem begun_at{p:ByteArray}{k:Nat}{e:Ent}{rest:List UInt8}(hk:2≤k)(hd:p.data.toList.drop k=entB e++rest)(h64:e.1.size≤64)(hs:scoreOk e.2) :
   begunS p k=some ⟨e.1,e.2,k,k+e.1.size+10⟩∧byte p (k+e.1.size+9)=e.1.size+9∧p.data.toList.drop (k+e.1.size+10)=rest:=by
 obtain ⟨m,s⟩:=e
 simp only at h64 hs ⊢
 have hl:=size_list p
 have hml:=size_list m
 have hlen:=congrArg List.length hd
 rw [List.length_drop,List.length_append,entB_length] at hlen
 have hrest:p.data.toList.drop (k+(m.size+10))=rest:=drop_of hd _ (entB_length _)
 have hkl:k<p.data.toList.length:=by simp only at hlen;omega
 have hb:byte p k=m.size:=by
   have h1:=hd
   rw [List.drop_eq_getElem_cons hkl,byte_get] at h1
   unfold entB at h1
   simp only [List.cons_append,List.cons.injEq] at h1
   have h2:=congrArg UInt8.toNat h1.1
   have:=byte_lt p k
   simp at h2
   omega
 have d1:p.data.toList.drop (k+1)=m.data.toList++(score8 s++(UInt8.ofNat (m.size+9) :: rest)):=by
   refine drop_of (a:=[UInt8.ofNat m.size]) ?_ 1 rfl
   rw [hd]
   simp [entB]
 have d2:p.data.toList.drop (k+1+m.size)=score8 s++(UInt8.ofNat (m.size+9) :: rest):=drop_of d1 _ hml
 have d3:p.data.toList.drop (k+1+m.size+8)=UInt8.ofNat (m.size+9) :: rest:=drop_of d2 _ (score8_length s)
 refine ⟨?_,?_,by rw [← hrest];congr 1⟩
 · unfold begunS
   rw [if_neg (by omega),hb,if_neg (by simp only at hlen;omega)]
   have e1:p.extract (k+1) (k+1+m.size)=m:=by
     apply ba_ext
     rw [ext_list,d1,← hml,List.take_left]
   have e2:scoreL ((p.data.toList.drop (k+1+m.size)).take 8)=s:=by
     rw [d2,← score8_length s,List.take_left,scoreL_score8 s hs]
   rw [e1,e2]
 · have hk9:k+m.size+9<p.data.toList.length:=by simp only at hlen;omega
   rw [show k+1+m.size+8=k+m.size+9 by omega,List.drop_eq_getElem_cons hk9,byte_get] at d3
   simp only [List.cons.injEq] at d3
   have h2:=congrArg UInt8.toNat d3.1
   have:=byte_lt p (k+m.size+9)
   simp at h2
   omega
theorem goS_pack(p:ByteArray):∀ (l:List Ent) (k:Nat),2≤k→k≤p.size→p.data.toList.drop k=l.flatMap entB→(∀ e∈l,e.1.size≤64∧scoreOk e.2)→∃ cs,goS p l.length k=some cs∧cs.map Cut.ent=l
 | [],k,_,hk2,hd,_=>by
   have hl:=size_list p
   have:=congrArg List.length hd
   simp only [List.length_drop,List.flatMap_nil,List.length_nil] at this
   refine ⟨[],?_,rfl⟩
   unfold goS
   simp only [List.length_nil]
   rw [if_pos (by omega)]
 | e :: l,k,hk,hk2,hd,hv=>by
   rw [List.flatMap_cons] at hd
   obtain ⟨h64,hs⟩:=hv e (List.mem_cons_self ..)
   obtain ⟨h1,h2,h3⟩:=begun_at hk hd h64 hs
   have hl:=size_list p
   have hlen:=congrArg List.length hd
   rw [List.length_drop,List.length_append,entB_length] at hlen
   obtain ⟨cs,hcs,hm⟩:=goS_pack p l (k+e.1.size+10) (by omega) (by omega) h3 (fun e he=>hv e (List.mem_cons_of_mem _ he))
   refine ⟨⟨e.1,e.2,k,k+e.1.size+10⟩ :: cs,?_,by rw [List.map_cons,hm];rfl⟩
   rw [List.length_cons,goS.eq_def]
   simp only [h1]
   rw [show k+e.1.size+10-1=k+e.1.size+9 by omega,if_pos h2,hcs]
   rfl
structure Valid (l:List Ent):Prop where
 many:l.length≤200
 each:∀ e∈l,e.1.size≤64∧scoreOk e.2
theorem packB_size(l:List Ent):(packB l).size=2+(l.flatMap entB).length:=by
 rw [← size_list,packB_list,packS];simp;omega
theorem count_packB{l:List Ent}(h:l.length≤200):countS (packB l)=l.length:=by
 have h0:byte (packB l) 0=(UInt8.ofNat (l.length / 256)).toNat:=rfl
 have h1:byte (packB l) 1=(UInt8.ofNat l.length).toNat:=rfl
 unfold countS
 rw [if_neg (by rw [packB_size];omega),h0,h1]
 have e0:(UInt8.ofNat (l.length / 256)).toNat=0:=by simp;omega
 have e1:(UInt8.ofNat l.length).toNat=l.length:=by simp;omega
 rw [e0,e1,if_neg (by omega)]
 simp
theorem entriesS_packB{l:List Ent}(h:Valid l):∃ cs,entriesS (packB l)=some cs∧cs.map Cut.ent=l:=by
 obtain ⟨cs,hcs,hm⟩:=goS_pack (packB l) l 2 (Nat.le_refl _) (by rw [packB_size];omega) (by rw [packB_list];rfl) h.each
 refine ⟨cs,?_,hm⟩
 unfold entriesS
 rw [count_packB h.many,if_pos (by omega)]
 exact hcs
theorem right_packB{l:List Ent}(h:Valid l):rightB (packB l)=true:=by
 obtain ⟨cs,hcs,_⟩:=entriesS_packB h
 unfold rightB
 rw [hcs];rfl
theorem ents_packB{l:List Ent}(h:Valid l):entsOf (packB l)=l:=by
 obtain ⟨cs,hcs,hm⟩:=entriesS_packB h
 unfold entsOf packOf
 rw [hcs]
 exact hm
theorem scoreL_ok(l:List UInt8):scoreOk (scoreL l):=by
 unfold scoreOk
 have:∀ n,-9223372036854775808≤wrap64 n∧wrap64 n≤9223372036854775807:=fun n=>by unfold wrap64;omega
 rcases List.eq_nil_or_concat l with rfl|⟨l,b,rfl⟩
 · exact ⟨by decide,by decide⟩
 · rw [List.concat_eq_append,scoreL_fold,List.foldl_append,List.foldl_cons,List.foldl_nil]
   exact this _
theorem valid_of{p:ByteArray}(h:rightB p=true):Valid (entsOf p):=by
 have hk:=isPack_of h
 refine ⟨by unfold entsOf;rw [List.length_map];exact hk.many,fun e he=>?_⟩
 obtain ⟨c,hc,rfl⟩:=List.mem_map.1 he
 refine ⟨hk.short c hc,?_⟩
 rw [show c.ent.2=c.s from rfl,(begunS_some (begun_of_mem hk.chain hc)).2.2.2.2.2.2.2]
 exact scoreL_ok _
theorem pack_of_right{p:ByteArray}(h:rightB p=true):p=packB (entsOf p):=pack_ents (isPack_of h)
end Go.Proofs.YtlckdfoflimahaaGreatDoor.Pk
namespace Go.Proofs.YtlckdfoflimahaaGreatDoor.Pk
open Go.RowKit Go.Shelf
attribute [local go_sem] Oper.semAt_some
theorem new_any(w:World):Calls Tryz.prog 110 #[] w fun e w'=>e=.returned (.string (packB []))∧w'=w:=by
 go_enter Tryz.func110,Tryz.ntmps110
 go_wp2
 go_ret
 exact ⟨rfl,rfl⟩
theorem flat_length{l:List Ent}(h:∀ e∈l,e.1.size≤64):(l.flatMap entB).length≤74*l.length:=by
 induction l with
 | nil=>simp
 | cons e l ih =>
   have:=ih (fun e he=>h e (List.mem_cons_of_mem _ he))
   have h1:=h e (List.mem_cons_self ..)
   have h2:=entB_length e
   rw [List.flatMap_cons,List.length_append,List.length_cons]
   omega
theorem field_from(a b c d:Value)(W:World):(Instr.field 343 (.agg #[a,b,c,d]) 1).run Tryz.prog W=.ok c W:=by
 simp [Instr.field,go_sem,asAgg]
def insR(p:ByteArray)(at_:Int)(x:Ent):ByteArray × Int :=
 if rightB p then
   if (entsOf p).length=200 then (⟨#[]⟩,51)
   else if at_<0∨(entsOf p).length<at_∨64<x.1.size then (⟨#[]⟩,2)
   else (packB ((entsOf p).take at_.toNat++[x]++(entsOf p).drop at_.toNat),0)
 else (⟨#[]⟩,50)
theorem ents_one(W:World)(x:Ent):Ents (W.alloc (.cells #[.string x.1,.int .i64 x.2] 117)) (some ⟨W.heap.size,0,none⟩) [x]:=fun i hi=>by
 have hB:=Blk.new W 117 #[.string x.1,.int .i64 x.2]
 obtain rfl:i=0:=by simpa using hi
 exact ⟨_,_,rfl,hB.cell 0,hB.cell 1⟩
theorem size_packB{l:List Ent}(h:∀ e∈l,e.1.size≤64)(hl:l.length≤1000):(packB l).size≤100000:=by
 rw [packB_size]
 have:=flat_length h
 omega
theorem insert_any(p:ByteArray)(hp:p.size≤281474976710656)(at_:Int)(hat:-9223372036854775808≤at_∧at_≤9223372036854775807)(x:Ent)(hx:x.1.size≤9223372036854775807)(w:World) :
   Calls Tryz.prog 312 #[.string p,.int .i64 at_,.agg #[.string x.1,.int .i64 x.2]] w fun e w'=>e=.returned (.tuple #[.string (insR p at_ x).1,.int .i64 (insR p at_ x).2])∧Below w.heap.size w w':=by
 have HR:=fun w=>Lib.hid (right_any p hp w)
 have HC:=fun w=>Lib.hid (count_any p hp w)
 have hB0:=(Below.refl w.heap.size w).alloc (Nat.le_refl _) (Obj.cells #[Value.string x.1,Value.int IntKind.i64 x.2] 117)
 have k0:=Blk.new w 117 #[Value.string x.1,Value.int IntKind.i64 x.2]
 unfold insR
 cases hr:rightB p with
 | false =>
   rw [hr] at HR
   simp only [Bool.false_eq_true,if_false]
   go_enter Tryz.func312,Tryz.ntmps312
   go_wp2_with fail
   refine (HR _).out.mono ?_
   rintro e w1 ⟨rfl,hb1⟩
   have HB:=Lib.hid (hB0.trans (hb1.mono hB0.size))
   clear hb1 hB0
   go_wp2_with fail
   go_ret2
   exact ⟨rfl,HB.out⟩
 | true =>
   rw [hr] at HR
   simp only [if_true]
   have hk:=isPack_of hr
   rw [hk.count] at HC
   have hlen:(entsOf p).length=(packOf p).length:=by simp [entsOf]
   have hmany:=hk.many
   have hps:p.size≤100000:=by rw [pack_of_right hr];exact size_packB (fun e he=>((valid_of hr).each e he).1) (by rw [hlen];omega)
   rw [hlen]
   by_cases h200:(packOf p).length=200
   · rw [if_pos h200]
     have h9:((packOf p).length:Int)=200:=by omega
     generalize (packOf p).length=n at *
     go_enter Tryz.func312,Tryz.ntmps312
     go_wp2_with fail
     refine (HR _).out.mono ?_
     rintro e w1 ⟨rfl,hb1⟩
     have hB1:=hB0.trans (hb1.mono hB0.size)
     clear hb1 hB0
     go_wp2_with fail
     refine (HC _).out.mono ?_
     rintro e w2 ⟨rfl,hb2⟩
     have HB:=Lib.hid (hB1.trans (hb2.mono hB1.size))
     clear hb2 hB1
     go_wp2_with fail
     go_ret2
     exact ⟨rfl,HB.out⟩
   · rw [if_neg h200]
     have h9:¬ ((packOf p).length:Int)=200:=by omega
     have HFT:=fun w=>Lib.hid (fit_any (some ⟨World.heap w |>.size,0,none⟩) 1 [x] (by simp) (by simpa using hx) (w.alloc (.cells #[.string x.1,.int .i64 x.2] 117)) (ents_one w x))
     have hfx:fitS [x]=decide (x.1.size≤64):=by simp [fitS]
     rw [hfx] at HFT
     by_cases hbad:at_<0∨((packOf p).length:Int)<at_∨64<x.1.size
     · rw [if_pos hbad]
       generalize (packOf p).length=n at *
       go_enter Tryz.func312,Tryz.ntmps312
       go_wp2_with fail
       refine (HR _).out.mono ?_
       rintro e w1 ⟨rfl,hb1⟩
       have hB1:=hB0.trans (hb1.mono hB0.size)
       have k1:=k0.later hb1
       clear hb1
       go_wp2_with fail
       refine (HC _).out.mono ?_
       rintro e w2 ⟨rfl,hb2⟩
       have hB2:=hB1.trans (hb2.mono hB1.size)
       have k2:=k1.later hb2
       clear hb2
       by_cases h0:at_<0
       · have HB:=Lib.hid hB2
         clear hB0 hB1 hB2
         go_wp2_with fail
         go_ret2
         exact ⟨rfl,HB.out⟩
       · go_wp2_with fail
         refine (HC _).out.mono ?_
         rintro e w3 ⟨rfl,hb3⟩
         have hB3:=hB2.trans (hb3.mono hB2.size)
         have k3:=k2.later hb3
         clear hb3
         by_cases hgt:(n:Int)<at_
         · have HB:=Lib.hid hB3
           clear hB0 hB1 hB2 hB3
           go_wp2_with fail
           go_ret2
           exact ⟨rfl,HB.out⟩
         · have hm64:decide (x.1.size≤64)=false:=by simp;omega
           rw [hm64] at HFT
           obtain ⟨e0,e1,_⟩:=facts2 k3
           go_wp2_with fail
           refine (HFT w3).out.mono ?_
           rintro e w4 ⟨rfl,hb4⟩
           have HB:=Lib.hid (hB3.trans (((Below.refl w3.heap.size w3).alloc (Nat.le_refl _) (Obj.cells #[Value.string x.1,Value.int IntKind.i64 x.2] 117)).trans (hb4.mono (by simp)) |>.mono hB3.size))
           clear hB0 hB1 hB2 hB3 hb4
           go_wp2_with fail
           go_ret2
           exact ⟨rfl,HB.out⟩
     · rw [if_neg hbad]
       obtain ⟨k,rfl⟩:∃ k:Nat,at_=(k:Int):=⟨at_.toNat,by omega⟩
       have hkl:k≤(packOf p).length:=by omega
       have hk0:¬ ((k:Int)<0):=by omega
       have hk1:¬ ((packOf p).length:Int)<(k:Int):=by omega
       have hm64:decide (x.1.size≤64)=true:=by simp;omega
       rw [hm64] at HFT
       obtain ⟨nm,ns,nt,hnth⟩:∃ (nm:ByteArray) (ns nt:Int),∀ w,Hid (Calls Tryz.prog 319 #[.string p,.int .i64 (k:Int)] w fun e w'=>e=.returned (.agg #[.string nm,.int .i64 ns,.int .i64 (endOf (packOf p) k:Int),.int .i64 nt])∧Below w.heap.size w w'):=by
         by_cases hlt:k<(packOf p).length
         · have hxk:(packOf p)[k]?=some ((packOf p)[k]'hlt):=List.getElem?_eq_getElem hlt
           refine ⟨((packOf p)[k]'hlt).m,((packOf p)[k]'hlt).s,(((packOf p)[k]'hlt).to:Int),fun w=>Lib.hid (nth_walk p hp (packOf p) hk.chain (fun c hc=>(hk.each c hc).2.2.1) k (by omega) _ (fun c hc=>?_) (fun hc=>by rw [hxk] at hc;cases hc) w)⟩
           rw [hxk] at hc
           cases hc
           rw [← fr_at hk k _ hxk]
           rfl
         · obtain rfl:k=(packOf p).length:=by omega
           refine ⟨⟨#[]⟩,0,(p.size:Int),fun w=>Lib.hid (nth_walk p hp (packOf p) hk.chain (fun c hc=>(hk.each c hc).2.2.1) (packOf p).length (by omega) _ (fun c hc=>by simp at hc) (fun hc=>?_) w)⟩
           rw [hk.ends]
           rfl
       have hput:=put_ents hk k k (Nat.le_refl _) hkl ((packOf p).length+1) [x] (by simp;omega)
       rw [List.flatMap_cons,List.flatMap_nil,List.append_nil,List.map_take,List.map_drop] at hput
       have he2:2≤endOf (packOf p) k:=by
         by_cases h0:k=0
         · subst h0;exact Nat.le_refl _
         · obtain ⟨i,rfl⟩:∃ i,k=i+1:=⟨k-1,by omega⟩
           have hxk:(packOf p)[i]?=some ((packOf p)[i]'(by omega)):=List.getElem?_eq_getElem (by omega)
           rw [show endOf (packOf p) (i+1)=((packOf p)[i]'(by omega)).to by simp [endOf,hxk]]
           exact (hk.each _ (List.getElem_mem _)).2.1
       have hes:endOf (packOf p) k≤p.size:=by
         by_cases h0:k=0
         · subst h0;exact hk.two
         · obtain ⟨i,rfl⟩:∃ i,k=i+1:=⟨k-1,by omega⟩
           have hxk:(packOf p)[i]?=some ((packOf p)[i]'(by omega)):=List.getElem?_eq_getElem (by omega)
           rw [show endOf (packOf p) (i+1)=((packOf p)[i]'(by omega)).to by simp [endOf,hxk]]
           exact (hk.each _ (List.getElem_mem _)).2.2.1
       have HW:=fun w=>Lib.hid (written_any (some ⟨World.heap w |>.size,0,none⟩) 1 [x] (by simp) (by simp;omega) (w.alloc (.cells #[.string x.1,.int .i64 x.2] 117)) (ents_one w x))
       have HRP:=fun v w hy=>Lib.hid (replaced_any p hk.two (by omega) 1 ((packOf p).length+1) (by rw [hk.count];simp) (by omega) (endOf (packOf p) k) (endOf (packOf p) k) he2 (Nat.le_refl _) hes v (entB x) (by have:=entB_length x;omega) w hy)
       rw [hput] at HRP
       rw [Int.toNat_natCast]
       rw [show (packOf p).map Cut.ent=entsOf p from rfl] at HRP
       generalize (entsOf p).take k++[x]++(entsOf p).drop k=out at *
       generalize endOf (packOf p) k=en at *
       generalize (packOf p).length=n at *
       clear hput hbad
       go_enter Tryz.func312,Tryz.ntmps312
       go_wp2_with fail
       refine (HR _).out.mono ?_
       rintro e w1 ⟨rfl,hb1⟩
       have hB1:=hB0.trans (hb1.mono hB0.size)
       have k1:=k0.later hb1
       clear hb1
       go_wp2_with fail
       refine (HC _).out.mono ?_
       rintro e w2 ⟨rfl,hb2⟩
       have hB2:=hB1.trans (hb2.mono hB1.size)
       have k2:=k1.later hb2
       clear hb2
       go_wp2_with fail
       refine (HC _).out.mono ?_
       rintro e w3 ⟨rfl,hb3⟩
       have hB3:=hB2.trans (hb3.mono hB2.size)
       have k3:=k2.later hb3
       clear hb3
       obtain ⟨e0,e1,_⟩:=facts2 k3
       go_wp2_with fail
       refine (HFT w3).out.mono ?_
       rintro e w4 ⟨rfl,hb4⟩
       have hB4:=hB3.trans (((Below.refl w3.heap.size w3).alloc (Nat.le_refl _) (Obj.cells #[Value.string x.1,Value.int IntKind.i64 x.2] 117)).trans (hb4.mono (by simp)) |>.mono hB3.size)
       have k4:=(k3.alloc (Obj.cells #[Value.string x.1,Value.int IntKind.i64 x.2] 117)).later hb4
       clear e0 e1 hb4
       go_wp2_with fail
       refine (hnth _).out.mono ?_
       rintro e w5 ⟨rfl,hb5⟩
       have hB5:=hB4.trans (hb5.mono hB4.size)
       have k5:=k4.later hb5
       clear hb5
       obtain ⟨e0,e1,_⟩:=facts2 k5
       have hff:=field_from
       go_wp2_with fail
       refine (HW w5).out.mono ?_
       rintro e w6 ⟨v,rfl,ho,hb6⟩
       have hB6:=hB5.trans (((Below.refl w5.heap.size w5).alloc (Nat.le_refl _) (Obj.cells #[Value.string x.1,Value.int IntKind.i64 x.2] 117)).trans (hb6.mono (by simp)) |>.mono hB5.size)
       have hbv:BytesV w6 v (entB x):=by have:=own5_bytes ho;simpa using this
       have HB6:=Lib.hid hB6
       have HV:=Lib.hid hbv
       clear e0 e1 hb6 ho hbv hB0 hB1 hB2 hB3 hB4 hB5 hB6 k0 k1 k2 k3 k4 k5
       go_wp2_with fail
       refine (HRP v w6 HV.out).out.mono ?_
       rintro e w7 ⟨rfl,hb7⟩
       have HB7:=Lib.hid (HB6.out.trans (hb7.mono HB6.out.size))
       clear hb7
       go_wp2_with fail
       go_ret2
       exact ⟨rfl,HB7.out⟩
def delR(p:ByteArray)(at_:Int):ByteArray × Int :=
 if rightB p then
   if at_<0∨(entsOf p).length≤at_ then (⟨#[]⟩,2)
   else (packB ((entsOf p).take at_.toNat++(entsOf p).drop (at_.toNat+1)),0)
 else (⟨#[]⟩,50)
theorem delete_any(p:ByteArray)(hp:p.size≤281474976710656)(at_:Int)(w:World) :
   Calls Tryz.prog 308 #[.string p,.int .i64 at_] w fun e w'=>e=.returned (.tuple #[.string (delR p at_).1,.int .i64 (delR p at_).2])∧Below w.heap.size w w':=by
 have HP:=Lib.hid (pick_any p hp at_ w)
 unfold delR
 have hlen:(entsOf p).length=(packOf p).length:=by simp [entsOf]
 by_cases hok:rightB p=true∧¬ (at_<0∨((packOf p).length:Int)≤at_)
 · obtain ⟨hr,hat⟩:=hok
   have hk:=isPack_of hr
   have hmany:=hk.many
   have hps:p.size≤100000:=by rw [pack_of_right hr];exact size_packB (fun e he=>((valid_of hr).each e he).1) (by rw [hlen];omega)
   obtain ⟨k,rfl⟩:∃ k:Nat,at_=(k:Int):=⟨at_.toNat,by omega⟩
   have hkl:k<(packOf p).length:=by omega
   have hx:(packOf p)[k]?=some ((packOf p)[k]'hkl):=List.getElem?_eq_getElem hkl
   have hpk:pickS p (k:Int)=(some ((packOf p)[k]'hkl),0):=by
     unfold pickS
     rw [if_pos hr,if_neg hat,Int.toNat_natCast,hx]
   rw [hpk] at HP
   rw [if_pos hr,hlen,if_neg hat,Int.toNat_natCast]
   have hfr:=fr_at hk k _ hx
   have hto:((packOf p)[k]'hkl).to=endOf (packOf p) (k+1):=by simp [endOf,hx]
   have hput:=put_ents hk k (k+1) (by omega) (by omega) ((packOf p).length-1) [] (by simp;omega)
   rw [List.flatMap_nil,List.append_nil,List.map_take,List.map_drop,← hfr,← hto] at hput
   have heach:=hk.each _ (List.getElem_mem hkl)
   have h2:=begunS_some (begun_of_mem hk.chain (List.getElem_mem hkl))
   generalize hc:(packOf p)[k]'hkl=c at *
   have HRP:=fun w=>Lib.hid (replaced_any p hk.two (by omega) (-1) ((packOf p).length-1) (by rw [hk.count];omega) (by omega) c.fr c.to (by omega) (by omega) (by omega) (.slice none 0 0) [] (by simp) w (.none 0))
   rw [hput] at HRP
   rw [show (packOf p).map Cut.ent=entsOf p from rfl] at HRP
   generalize (entsOf p).take k++(entsOf p).drop (k+1)=out at *
   unfold cutV Cut.val at HP
   clear hput hx hat hpk hfr hto h2
   go_enter Tryz.func308,Tryz.ntmps308
   go_wp2_with fail
   refine HP.out.mono ?_
   clear HP
   rintro e w1 ⟨rfl,hb1⟩
   have k1:=Blk.new w1 343 #[Value.string c.m,Value.int IntKind.i64 c.s,Value.int IntKind.i64 c.fr,Value.int IntKind.i64 c.to]
   have hB1:=Lib.hid (hb1.alloc hb1.size (Obj.cells #[Value.string c.m,Value.int IntKind.i64 c.s,Value.int IntKind.i64 c.fr,Value.int IntKind.i64 c.to] 343))
   clear hb1
   go_wp2_with fail
   refine (HRP _).out.mono ?_
   rintro e w2 ⟨rfl,hb2⟩
   have HB2:=Lib.hid (hB1.out.trans (hb2.mono hB1.out.size))
   clear hb2
   go_wp2_with fail
   go_ret2
   exact ⟨rfl,HB2.out⟩
 · obtain ⟨er,her,hpk⟩:∃ er:Int,(er=2∨er=50)∧pickS p at_=(none,er)∧(if rightB p=true then if at_<0∨((entsOf p).length:Int)≤at_ then ((⟨#[]⟩:ByteArray),(2:Int)) else (packB ((entsOf p).take at_.toNat++(entsOf p).drop (at_.toNat+1)),0) else (⟨#[]⟩,50))=(⟨#[]⟩,er):=by
     unfold pickS
     rw [hlen]
     cases hr:rightB p with
     | false=>exact ⟨50,.inr rfl,by simp,by simp⟩
     | true =>
       have hat:at_<0∨((packOf p).length:Int)≤at_:=Decidable.byContradiction fun h=>hok ⟨hr,h⟩
       exact ⟨2,.inl rfl,by simp [hat],by simp [hat]⟩
   obtain ⟨hpk,hans⟩:=hpk
   rw [hpk] at HP
   rw [hans]
   have h0:er≠0:=by omega
   have h1:¬ er=0:=h0
   unfold cutV noCut at HP
   clear hpk hans hok
   go_enter Tryz.func308,Tryz.ntmps308
   go_wp2_with fail
   refine HP.out.mono ?_
   clear HP
   rintro e w1 ⟨rfl,hb1⟩
   have HB1:=Lib.hid (hb1.alloc hb1.size (Obj.cells #[Value.string { data:=#[] },Value.int IntKind.i64 0,Value.int IntKind.i64 0,Value.int IntKind.i64 0] 343))
   clear hb1
   go_wp2_with fail
   go_ret2
   exact ⟨rfl,HB1.out⟩
end Go.Proofs.YtlckdfoflimahaaGreatDoor.Pk
