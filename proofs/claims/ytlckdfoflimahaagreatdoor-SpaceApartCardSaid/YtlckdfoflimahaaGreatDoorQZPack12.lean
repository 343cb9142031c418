/- Texts of one kind in one: ZPack, ZLead, ZPut, ZPCut. -/
import Derived.Test.YtlckdfoflimahaaGreatDoorQZMath03
import Derived.Test.YtlckdfoflimahaaGreatDoorQSkLs07
import Derived.Test.YtlckdfoflimahaaGreatDoorQPkBack11
import Derived.Lib.MinMaxS
import Derived.Handy
import Derived.Deep.RegionHeld
set_option maxRecDepth 200000
set_option maxHeartbeats 8000000
namespace Go.Proofs.YtlckdfoflimahaaGreatDoor
open Go.RowKit Go.Shelf Sk
attribute [local go_sem] Oper.semAt_some
theorem alloc_below(w:World)(o:Obj):Below w.heap.size w (w.alloc o):=(Below.refl _ _).alloc (Nat.le_refl _) _
abbrev Own48 (W:World) (n0:Nat) (v:Value) (l:List En):Prop:=Pk.Own35 W n0 v l
abbrev ValidE (E:List En):Prop:=Pk.Valid E
theorem valid_size{E:List En}(h:ValidE E):(Pk.packB E).size≤281474976710656:=by
 have:=Pk.size_packB (fun e he=>(h.each e he).1) (by have:=h.many;omega)
 omega
theorem at_valid{E:List En}(h:ValidE E)(i:Int):Pk.getS (Pk.packB E) i=(if i<0∨(E.length:Int)≤i then ((⟨#[]⟩,0),2) else (E.getD i.toNat (⟨#[]⟩,0),0)):=by
 unfold Pk.getS
 rw [Pk.right_packB h,Pk.ents_packB h]
 rfl
structure PackAt (W:World) (b:Nat) (E:List En):Prop where
 blk:Blk W b 186 #[.string (Pk.packB E)]
 ok:ValidE E
theorem PackAt.far{W W':World}{b:Nat}{E:List En}{S:Nat→Prop}(h:PackAt W b E)(hf:Far S W W')(hn:¬ S b):PackAt W' b E:=⟨hf.blk h.blk hn,h.ok⟩
theorem PackAt.later{W W':World}{b:Nat}{E:List En}(h:PackAt W b E)(hb:Below W.heap.size W W'):PackAt W' b E:=⟨h.blk.later hb,h.ok⟩
theorem own_slice{W:World}{n0:Nat}{v:Value}{l:List En}(h:Own48 W n0 v l):∃ a c,v=.slice a l.length c∧l.length≤c:=by
 rcases h.2 with ⟨rfl,h0⟩|⟨g,cap,cur,rfl,h1,h2,h3⟩
 · have hl:l=[]:=List.eq_nil_of_length_eq_zero h0
   subst hl
   exact ⟨none,0,rfl,Nat.le_refl _⟩
 · exact ⟨_,cap,rfl,h3.1⟩
structure Row (W:World) (n0:Nat) (v:Value) (l:List En):Prop where
 form:∃ a c,v=.slice a l.length c
 at':∀ i e,l[i]?=some e→∃ b off c cur,v=.slice (some ⟨b,off,none⟩) l.length c∧n0≤b∧Blk W b 117 cur∧W.cell? ⟨b,off+i*2,none⟩=some (.string e.1)∧W.cell? ⟨b,off+i*2+1,none⟩=some (.int .i64 e.2)
theorem Row.far{W W':World}{n0:Nat}{v:Value}{l:List En}{S:Nat→Prop}(h:Row W n0 v l)(hf:Far S W W')(hS:∀ k cur,n0≤k→Blk W k 117 cur→¬ S k):Row W' n0 v l :=
 ⟨h.form,fun i e he=>by
   obtain ⟨b,off,c,cur,h1,h2,h3,h4,h5⟩:=h.at' i e he
   have h6:=hf.blk h3 (hS b cur h2 h3)
   refine ⟨b,off,c,cur,h1,h2,h6,?_,?_⟩
   · rw [h6.cell,← h3.cell];exact h4
   · rw [h6.cell,← h3.cell];exact h5⟩
theorem Row.later{W W':World}{n0:Nat}{v:Value}{l:List En}(h:Row W n0 v l)(hb:Below W.heap.size W W'):Row W' n0 v l:=h.far (S:=fun _=>False) (Far.of_below hb) (fun _ _ _ _ h=>h)
theorem Row.mono{W:World}{n0 n1:Nat}{v:Value}{l:List En}(h:Row W n0 v l)(hn:n1≤n0):Row W n1 v l :=
 ⟨h.form,fun i e he=>by
   obtain ⟨b,off,c,cur,h1,h2,h3⟩:=h.at' i e he
   exact ⟨b,off,c,cur,h1,Nat.le_trans hn h2,h3⟩⟩
theorem Row.nil(W:World)(n0:Nat):Row W n0 (.slice none 0 0) []:=⟨⟨none,0,rfl⟩,fun i e h=>by simp at h⟩
theorem cells48_at:∀ (l:List En) (i:Nat) (e:En),l[i]?=some e→(Pk.cellsE l)[i*2]?=some (.string e.1)∧(Pk.cellsE l)[i*2+1]?=some (.int .i64 e.2)
 | [],i,e,h=>by simp at h
 | x :: l,0,e,h=>by
   simp at h;subst h;exact ⟨rfl,rfl⟩
 | x :: l,i+1,e,h=>by
   have:=cells48_at l i e (by simpa using h)
   rw [show (i+1)*2=i*2+1+1 by omega]
   exact this
theorem cells48_len:∀ l:List En,(Pk.cellsE l).length=l.length*2
 | []=>rfl
 | x :: l=>by
   have:=cells48_len l
   show (Pk.cellsE l).length+1+1=_
   rw [this,List.length_cons];omega
theorem own_row{W:World}{n0:Nat}{v:Value}{l:List En}(h:Own48 W n0 v l):Row W n0 v l:=by
 refine ⟨?_,fun i e he=>?_⟩
 · obtain ⟨a,c,h1,_⟩:=own_slice h
   exact ⟨a,c,h1⟩
 · obtain ⟨q1,q2⟩:=cells48_at l i e he
   have hi:=(List.getElem?_eq_some_iff.1 he).1
   have hcl:=cells48_len l
   rcases h.2 with ⟨rfl,h0⟩|⟨g,cap,cur,rfl,h1,h2,h3⟩
   · omega
   · refine ⟨g,0,cap,cur,rfl,h1,h2,?_,?_⟩
     · rw [Nat.zero_add,h.cellAt (i*2) (by omega)];exact q1
     · rw [Nat.zero_add,h.cellAt (i*2+1) (by omega)];exact q2
theorem row_part{W:World}{n0 g cap:Nat}{l:List En}(h:Own48 W n0 (.slice (some ⟨g,0,none⟩) l.length cap) l)(a k:Nat)(hk:a+k≤l.length)(hk0:0<k)(c:Nat) :
   Row W n0 (.slice (some ⟨g,a*2,none⟩) k c) ((l.drop a).take k):=by
 have hlen:((l.drop a).take k).length=k:=by simp;omega
 refine ⟨⟨_,c,by rw [hlen]⟩,fun i e he=>?_⟩
 have hi:=(List.getElem?_eq_some_iff.1 he).1
 rw [hlen] at hi
 rw [List.getElem?_take_of_lt hi,List.getElem?_drop] at he
 obtain ⟨b,off,c2,cur,e1,e2,e3,e4,e5⟩:=(own_row h).at' (a+i) e he
 injection e1 with e1 _ _
 injection e1 with e1
 injection e1 with e1 e6 _
 subst e1
 subst e6
 refine ⟨g,a*2,c,cur,by rw [hlen],e2,e3,?_,?_⟩
 · rw [← e4];congr 2;omega
 · rw [← e5];congr 2;omega
section
variable {w:World} {b:Nat} {E:List En}
theorem p_entries(h:PackAt w b E):Calls Tryz.prog 136 #[.pointer (some ⟨b,0,none⟩)] w fun e w'=>∃ r,e=.returned r∧Own48 w' w.heap.size r E∧Below w.heap.size w w':=by
 have HE:=Lib.hid (Pk.entriesF_any (Pk.packB E) (valid_size h.ok) w)
 rw [Pk.ents_packB h.ok,Pk.right_packB h.ok] at HE
 simp only [if_true] at HE
 obtain ⟨c0,_⟩:=facts1 h.blk
 clear h
 go_enter Tryz.func136,Tryz.ntmps136
 go_wp2_with (go_at_call 186;refine HE.out.mono ?_;rintro e w1 ⟨r,rfl,ho,hb⟩)
 go_ret
 exact ⟨_,rfl,ho,hb⟩
theorem p_len(h:PackAt w b E):Calls Tryz.prog 134 #[.pointer (some ⟨b,0,none⟩)] w fun e w'=>e=.returned (.int .i64 E.length)∧Below w.heap.size w w':=by
 have HE:=Lib.hid (p_entries h)
 clear h
 go_enter Tryz.func134,Tryz.ntmps134
 go_wp2_with (go_at_call 136;refine HE.out.mono ?_;rintro e w1 ⟨r,rfl,ho,hb⟩;obtain ⟨a,c,rfl,_⟩:=own_slice ho)
 go_ret
 exact ⟨rfl,hb⟩
theorem p_at(h:PackAt w b E)(i:Int):Calls Tryz.prog 299 #[.pointer (some ⟨b,0,none⟩),.int .i64 i] w fun e w' =>
   e=.returned (.tuple #[.agg #[.string (Pk.getS (Pk.packB E) i).1.1,.int .i64 (Pk.getS (Pk.packB E) i).1.2],.bool ((Pk.getS (Pk.packB E) i).2==0)])∧Below w.heap.size w w':=by
 have hb0:=alloc_below w (.cells #[.string ⟨#[]⟩,.int .i64 0] 117)
 have HE:=Lib.hid (Pk.get_any (Pk.packB E) (valid_size h.ok) i (w.alloc (.cells #[.string ⟨#[]⟩,.int .i64 0] 117)))
 obtain ⟨c0,_⟩:=facts1 (h.later hb0).blk
 have HB:=Lib.hid hb0
 have kR:=Blk.new w 117 #[.string ⟨#[]⟩,.int .i64 0]
 generalize (Pk.getS (Pk.packB E) i)=g at *
 obtain ⟨⟨gm,gs⟩,er⟩:=g
 simp only at *
 clear h hb0
 go_enter Tryz.func299,Tryz.ntmps299
 go_wp2_with fail
 refine HE.out.mono ?_
 rintro e w1 ⟨rfl,hb⟩
 have k1:=kR.later hb
 have K2:=Lib.hid (k1.alloc (Obj.cells #[.string gm,.int .i64 gs] 117))
 have kN:=Blk.new w1 117 #[.string gm,.int .i64 gs]
 obtain ⟨e0,e1,f0,f1⟩:=facts2 kN
 obtain ⟨e2,e3,f2,f3⟩:=facts2 K2.out
 have hb2:=HB.out.trans (hb.mono HB.out.size)
 have HB2:=Lib.hid (hb2.trans ((alloc_below w1 (Obj.cells #[.string gm,.int .i64 gs] 117)).mono hb2.size))
 clear hb hb2 k1 kN kR HE
 go_wp2_with fail
 obtain ⟨g1,g2,g3⟩:=Pk.set2 (.string gm) (.int .i64 gs) K2.out
 exact Pk.ret2t Tryz.results299 rfl rfl g1 rfl ⟨rfl,HB2.out.trans (g3 _ (Nat.le_refl _))⟩
theorem p_range(h:PackAt w b E)(f t:Int):Calls Tryz.prog 302 #[.pointer (some ⟨b,0,none⟩),.int .i64 f,.int .i64 t] w fun e w'=>∃ r,e=.returned r∧Row w' w.heap.size r (subE E f t)∧Below w.heap.size w w':=by
 have HE:=Lib.hid (p_entries h)
 have hF:max f 0=(f0 f:Int):=by unfold f0;omega
 clear h
 by_cases hlt:f0 f<t0 t E.length
 · have hT:min t (E.length:Int)=(t0 t E.length:Int):=by unfold t0 f0 at *;omega
   have hTl:t0 t E.length≤E.length:=by unfold t0;omega
   unfold subE
   generalize f0 f=F at *
   generalize t0 t E.length=T at *
   have h1:(0:Int)≤F:=by omega
   have h2:(F:Int)≤T:=by omega
   have h4:¬ (F:Int) ≥ T:=by omega
   have h5:(F:Int)<T:=by omega
   go_enter Tryz.func302,Tryz.ntmps302
   go_wp2_with fail
   refine HE.out.mono ?_
   rintro e w1 ⟨r,rfl,ho,hb⟩
   have ho2:=ho.2
   rcases ho2 with ⟨rfl,h0⟩|⟨g,cap,cur,rfl,q1,q2,q3⟩
   · omega
   · have h3:(T:Int)≤cap:=by have:=q3.1;omega
     have h6:¬ cap=F:=by have:=q3.1;omega
     have HR:=Lib.hid (row_part ho F (T-F) (by omega) (by omega))
     clear q1 q2 q3 ho
     go_wp2_with fail
     all_goals (
       go_ret
       exact ⟨_,rfl,by simpa using HR.out _,hb⟩)
 · have h0:subE E f t=[]:=List.eq_nil_of_length_eq_zero (by rw [subE_len];omega)
   rw [h0]
   have h6:min t (E.length:Int)≤(f0 f:Int):=by unfold t0 f0 at *;omega
   generalize f0 f=F at *
   clear hlt h0
   go_enter Tryz.func302,Tryz.ntmps302
   go_wp2_with fail
   refine HE.out.mono ?_
   rintro e w1 ⟨r,rfl,ho,hb⟩
   obtain ⟨a,c,rfl,_⟩:=own_slice ho
   go_wp2_with fail
   all_goals (
     go_ret
     exact ⟨_,rfl,Row.nil _ _,hb⟩)
theorem p_bytes(h:PackAt w b E):Calls Tryz.prog 303 #[.pointer (some ⟨b,0,none⟩)] w fun e w'=>e=.returned (.int .i64 (Pk.packB E).size)∧w'=w:=by
 obtain ⟨c0,_⟩:=facts1 h.blk
 clear h
 go_enter Tryz.func303,Tryz.ntmps303
 go_wp2
 go_ret
 exact ⟨rfl,rfl⟩
theorem where_wh(E:List En)(m:ByteArray):Pk.whereS E m=(match whE E m with|none=>-1|some i=>(i:Int)):=rfl
theorem p_rank(h:PackAt w b E)(m:ByteArray):Calls Tryz.prog 305 #[.pointer (some ⟨b,0,none⟩),.string m] w fun e w' =>
   e=.returned (.tuple #[.int .i64 ((whE E m).getD 0),.bool (whE E m).isSome])∧Below w.heap.size w w':=by
 have HE:=Lib.hid (Pk.find_any (Pk.packB E) m (valid_size h.ok) w)
 rw [Pk.ents_packB h.ok,where_wh] at HE
 obtain ⟨c0,_⟩:=facts1 h.blk
 clear h
 generalize whE E m=q at *
 cases q with
 | none =>
   go_enter Tryz.func305,Tryz.ntmps305
   go_wp2_with (go_at_call 309;refine HE.out.mono ?_;rintro e w1 ⟨rfl,hb⟩)
   go_ret2
   exact ⟨rfl,hb⟩
 | some i =>
   have h1:(0:Int)≤i:=by omega
   have h2:max (i:Int) 0=i:=by omega
   have h3:(i:Int) ≥ 0:=by omega
   go_enter Tryz.func305,Tryz.ntmps305
   go_wp2_with (go_at_call 309;refine HE.out.mono ?_;rintro e w1 ⟨rfl,hb⟩)
   go_ret2
   exact ⟨by simp,hb⟩
theorem p_score(h:PackAt w b E)(m:ByteArray):Calls Tryz.prog 307 #[.pointer (some ⟨b,0,none⟩),.string m] w fun e w' =>
   e=.returned (.tuple #[.int .i64 (Pk.getS (Pk.packB E) (Pk.whereS E m)).1.2,.bool ((Pk.getS (Pk.packB E) (Pk.whereS E m)).2==0)])∧Below w.heap.size w w':=by
 have HE:=Lib.hid (Pk.find_any (Pk.packB E) m (valid_size h.ok) w)
 rw [Pk.ents_packB h.ok] at HE
 have HA:=fun W (hb:Below w.heap.size w W)=>Lib.hid (p_at (h.later hb) (Pk.whereS E m))
 obtain ⟨c0,_⟩:=facts1 h.blk
 clear h
 generalize Pk.getS (Pk.packB E) (Pk.whereS E m)=g at *
 generalize Pk.whereS E m=q at *
 go_enter Tryz.func307,Tryz.ntmps307
 go_wp2_with fail
 refine HE.out.mono ?_
 rintro e w1 ⟨rfl,hb⟩
 have HA1:=HA w1 hb
 have HB:=Lib.hid hb
 clear HA HE hb
 go_wp2_with fail
 refine HA1.out.mono ?_
 rintro e w2 ⟨rfl,hb2⟩
 have HB2:=Lib.hid (HB.out.trans (hb2.mono HB.out.size))
 have kN:=Blk.new w2 117 #[.string g.1.1,.int .i64 g.1.2]
 obtain ⟨e0,e1,_,_⟩:=facts2 kN
 clear hb2 HB kN
 go_wp2_with fail
 go_ret2
 exact ⟨rfl,HB2.out.trans ((alloc_below w2 _).mono HB2.out.size)⟩
end
theorem drewB(W:World)(n:Nat):Below W.heap.size W (W.drewN n):=⟨rfl,rfl,rfl,Nat.le_refl _,fun _ _=>rfl⟩
theorem search_any(c0 c1:Value)(n k:Nat)(hk:k≤n)(hn:n≤1000000)(w:World)
   (H:∀ W,Below w.heap.size w W→∀ i:Nat,i<n→Calls Tryz.prog 317 #[.int .i64 i,c0,c1] W fun e w'=>e=.returned (.bool (decide (k≤i)))∧Below W.heap.size W w') :
   Calls Tryz.prog 316 #[.int .i64 n,.func (.func 317) #[] #[c0,c1]] w fun e w'=>e=.returned (.int .i64 k)∧Below w.heap.size w w':=by
 have HF:=Lib.hid H
 clear H
 go_enter Tryz.func316,Tryz.ntmps316
 go_wp2
 go_loopg [5,6] n (fun kx s5 s6 wr=>∃ (lo hi:Nat),s5=.int .i64 lo∧s6=.int .i64 hi∧lo≤k∧k≤hi∧hi≤n∧hi-lo≤kx∧Hid (Below w.heap.size w wr))
 case atStart=>exact ⟨0,n,rfl,rfl,Nat.zero_le _,hk,Nat.le_refl _,by omega,Below.refl _ _⟩
 case round =>
   obtain ⟨lo,hi,rfl,rfl,hlk,hkh,hin,hg,I⟩:=hrel
   by_cases hlt:lo<hi
   · have hc:=HF.out _ I.out ((lo+hi) / 2) (by omega)
     rw [show (((lo+hi) / 2:Nat):Int)=((lo:Int)+(hi:Int)) / 2 by omega] at hc
     by_cases hp:k≤(lo+hi) / 2
     · rw [decide_eq_true hp] at hc
       go_wp2_with (go_at_call 317;refine hc.mono ?_;rintro e w' ⟨rfl,hb⟩)
       go_roundg ((lo+hi) / 2-lo)
       case measure=>omega
       case rel=>exact ⟨lo,(lo+hi) / 2,rfl,by rw [show ((lo:Int)+(hi:Int)) / 2=(((lo+hi) / 2:Nat):Int) by omega],hlk,hp,by omega,Nat.le_refl _,I.out.trans (hb.mono I.out.size)⟩
     · rw [decide_eq_false hp] at hc
       go_wp2_with (go_at_call 317;refine hc.mono ?_;rintro e w' ⟨rfl,hb⟩)
       go_roundg (hi-((lo+hi) / 2+1))
       case measure=>omega
       case rel=>exact ⟨(lo+hi) / 2+1,hi,by rw [show ((lo:Int)+(hi:Int)) / 2+1=(((lo+hi) / 2+1:Nat):Int) by omega],rfl,by omega,hkh,hin,Nat.le_refl _,I.out.trans (hb.mono I.out.size)⟩
   · obtain rfl:lo=k:=by omega
     go_wp2
     go_ret
     exact ⟨rfl,I.out⟩
structure Ask (w:World) (A:Nat) (cb:Array Value) (E:List En) (k:Nat):Prop where
 enter:∀ args w,(callFunc A args).run Tryz.prog w=.ok (.enter A args) w
 le:k≤E.length
 call:∀ W,Below w.heap.size w W→∀ (i:Nat) (x:En),E[i]?=some x→Calls Tryz.prog A (#[.agg #[.string x.1,.int .i64 x.2]]++cb) W fun e w'=>e=.returned (.bool (decide (i<k)))∧Below W.heap.size W w'
theorem Ask.later{w w':World}{A:Nat}{cb:Array Value}{E:List En}{k:Nat}(h:Ask w A cb E k)(hb:Below w.heap.size w w'):Ask w' A cb E k:=⟨h.enter,h.le,fun W hW=>h.call W (hb.trans (hW.mono hb.size))⟩
theorem not_le(i k:Nat):(!decide (i<k))=decide (k≤i):=by
 by_cases h:i<k
 · rw [decide_eq_true h,decide_eq_false (by omega)];rfl
 · rw [decide_eq_false h,decide_eq_true (by omega)];rfl
variable {w:World} {b:Nat} {E:List En}
theorem p_ask(h:PackAt w b E){A:Nat}{cb:Array Value}{k:Nat}(ha:Ask w A cb E k){q0 q1:Nat}(k0:Blk w q0 119 #[.iface 183 (.pointer (some ⟨b,0,none⟩))])(k1:Blk w q1 155 #[.func (.func A) #[] cb])(i:Nat)(hi:i<E.length) :
   Calls Tryz.prog 317 #[.int .i64 i,.pointer (some ⟨q0,0,none⟩),.pointer (some ⟨q1,0,none⟩)] w fun e w'=>e=.returned (.bool (decide (k≤i)))∧Below w.heap.size w w':=by
 rw [← not_le]
 have HA:=Lib.hid (p_at h i)
 rw [at_valid h.ok] at HA
 have hx:E[i]?=some E[i]:=List.getElem?_eq_getElem hi
 have h1:¬ ((i:Int)<0∨(E.length:Int)≤i):=by omega
 rw [if_neg h1,Int.toNat_natCast,List.getD_eq_getElem?_getD,hx] at HA
 simp only [Option.getD_some] at HA
 generalize E[i]=x at *
 have HC:=Lib.hid ha.call
 have eg:=ha.enter
 have HX:=Lib.hid hx
 have K1:=Lib.hid k1
 obtain ⟨e0,_⟩:=facts1 k0
 clear h ha hx h1 k0 k1
 go_enter Tryz.func317,Tryz.ntmps317
 go_wp2_with fail
 refine HA.out.mono ?_
 rintro e w1 ⟨rfl,hb⟩
 have kN:=Blk.new w1 117 #[.string x.1,.int .i64 x.2]
 have hb2:=hb.trans ((alloc_below w1 (Obj.cells #[.string x.1,.int .i64 x.2] 117)).mono hb.size)
 have HQ:=Lib.hid (HC.out _ hb2 i x HX.out)
 obtain ⟨e1,_⟩:=facts1 (K1.out.later hb2)
 obtain ⟨e2,e3,_,_⟩:=facts2 kN
 have HB2:=Lib.hid hb2
 clear hb hb2 HC HX K1 kN HA
 go_wp2_with (go_at_fn A;refine HQ.out.mono ?_;rintro e w2 ⟨rfl,hb3⟩)
 go_ret
 exact ⟨rfl,HB2.out.trans (hb3.mono HB2.out.size)⟩
theorem p_lead(h:PackAt w b E){A:Nat}{cb:Array Value}{k:Nat}(ha:Ask w A cb E k) :
   Calls Tryz.prog 310 #[.iface 183 (.pointer (some ⟨b,0,none⟩)),.func (.func A) #[] cb] w fun e w'=>e=.returned (.int .i64 k)∧Below w.heap.size w w':=by
 obtain ⟨w1,hw1⟩:∃ w1,w1=(w.alloc (.cells #[.iface 183 (.pointer (some ⟨b,0,none⟩))] 119)).alloc (.cells #[.func (.func A) #[] cb] 155):=⟨_,rfl⟩
 have hb1:Below w.heap.size w w1:=by rw [hw1];exact (alloc_below _ _).trans ((alloc_below _ _).mono (by simp))
 have k0:Blk w1 w.heap.size 119 #[.iface 183 (.pointer (some ⟨b,0,none⟩))]:=by rw [hw1];exact (Blk.new _ _ _).alloc _
 have k1:Blk w1 (w.heap.size+1) 155 #[.func (.func A) #[] cb]:=by
   rw [hw1]
   have:=Blk.new (w.alloc (.cells #[.iface 183 (.pointer (some ⟨b,0,none⟩))] 119)) 155 #[.func (.func A) #[] cb]
   simpa using this
 have HL:=Lib.hid (p_len (h.later hb1))
 have hmany:=h.ok.many
 have HS:=fun W (hb:Below w1.heap.size w1 W)=>Lib.hid (search_any (.pointer (some ⟨w.heap.size,0,none⟩)) (.pointer (some ⟨w.heap.size+1,0,none⟩)) E.length k ha.le (by omega) W
   (fun W' hb' i hi=>p_ask ((h.later hb1).later (hb.trans (hb'.mono hb.size))) ((ha.later hb1).later (hb.trans (hb'.mono hb.size))) (k0.later (hb.trans (hb'.mono hb.size))) (k1.later (hb.trans (hb'.mono hb.size))) i hi))
 obtain ⟨e0,_⟩:=facts1 k0
 have HB1:=Lib.hid hb1
 have HW:=Lib.hid hw1
 clear h ha k0 k1 hb1 hmany
 rw [hw1] at HL e0
 clear hw1
 go_enter Tryz.func310,Tryz.ntmps310
 go_wp2_with fail
 refine HL.out.mono ?_
 rintro e w2 ⟨rfl,hb2⟩
 rw [← HW.out] at hb2
 have HS2:=HS w2 hb2
 have HB2:=Lib.hid (HB1.out.trans (hb2.mono HB1.out.size))
 clear hb2 HS HL
 go_wp2_with (go_at_call 316;refine HS2.out.mono ?_;rintro e w3 ⟨rfl,hb3⟩)
 go_ret
 exact ⟨rfl,HB2.out.trans (hb3.mono HB2.out.size)⟩
theorem valid_sub{E E':List En}(h:ValidE E)(hs:E'.Sublist E):ValidE E':=⟨Nat.le_trans hs.length_le h.many,fun e he=>h.each e (hs.subset he)⟩
theorem valid_rm{E:List En}(h:ValidE E)(m:ByteArray):ValidE (rmE E m):=valid_sub h List.filter_sublist
theorem valid_put{E:List En}(h:ValidE E)(m:ByteArray)(s:Int)(hl:E.length<200)(hm:m.size≤64)(hs:Pk.scoreOk s):ValidE (putE E m s) :=
 ⟨by rw [putE_len];omega,fun e he=>by
   rcases mem_putE.1 he with rfl|he
   · exact ⟨hm,hs⟩
   · exact h.each e he⟩
theorem PackAt.write{W:World}{b:Nat}{E E':List En}(h:PackAt W b E)(ho:ValidE E'):PackAt (W.setCell ⟨b,0,none⟩ (.string (Pk.packB E'))) b E' :=
 ⟨h.blk.set 0 _,ho⟩
theorem far_set{S:Nat→Prop}(W:World)(b o:Nat)(v:Value)(hb:S b):Far S W (W.setCell ⟨b,o,none⟩ v):=(Far.refl S W).set ⟨b,o,none⟩ v (.inl hb)
variable {w:World} {b:Nat} {E:List En}
theorem p_delete(h:PackAt w b E)(hd:Dist E)(m:ByteArray)(s:Int):Calls Tryz.prog 301 #[.pointer (some ⟨b,0,none⟩),.agg #[.string m,.int .i64 s]] w fun e w' =>
   e=.returned (.bool (hasE E m))∧PackAt w' b (rmE E m)∧Far (fun k=>k=b) w w':=by
 have hb0:=alloc_below w (.cells #[.string m,.int .i64 s] 117)
 have hF:=fun W=>Pk.find_any (Pk.packB E) m (valid_size h.ok) W
 have hD:=fun W=>Pk.delete_any (Pk.packB E) (valid_size h.ok) (Pk.whereS E m) W
 rw [hasE_wh]
 have hfo:=(h.later hb0)
 have hv:=valid_rm h.ok m
 rw [Pk.ents_packB h.ok] at hF
 unfold Pk.delR at hD
 rw [Pk.right_packB h.ok,Pk.ents_packB h.ok] at hD
 rw [where_wh] at hF hD
 have kE:=Blk.new w 117 #[.string m,.int .i64 s]
 have HP:=fun W (hb:Below (w.alloc (.cells #[.string m,.int .i64 s] 117)).heap.size (w.alloc (.cells #[.string m,.int .i64 s] 117)) W)=>Lib.hid (hfo.later hb)
 have HSW:=Lib.hid (fun W (hb:Below (w.alloc (.cells #[.string m,.int .i64 s] 117)).heap.size (w.alloc (.cells #[.string m,.int .i64 s] 117)) W) =>
   show W.cell? ⟨b,0,none⟩=some (.string (Pk.packB E))∧W.cell? ⟨w.heap.size,0,none⟩=some (.string m) from ⟨(facts1 (hfo.later hb).blk).1,(facts2 (kE.later hb)).1⟩)
 have HB0:=Lib.hid hb0
 cases hq:whE E m with
 | none =>
   rw [rmE_none (whE_none hq)]
   rw [hq] at hF hD
   simp only [show ((-1:Int)<0)=True by simp,true_or,if_true] at hD
   have HF:=fun W=>Lib.hid (hF W)
   have HD:=fun W=>Lib.hid (hD W)
   obtain ⟨e0,_⟩:=facts1 hfo.blk
   clear hF hD hfo h hb0 hq hv kE e0
   go_enter Tryz.func301,Tryz.ntmps301
   go_wp2_with fail
   have hb1:=drewB (w.alloc (.cells #[.string m,.int .i64 s] 117)) 1
   have S0:=HSW.out _ hb1
   have HB1:=Lib.hid hb1
   clear hb1
   go_region_held (fun W=>W.cell? ⟨b,0,none⟩=some (.string (Pk.packB E))∧W.cell? ⟨w.heap.size,0,none⟩=some (.string m)) (first|exact S0|exact S1|exact S2)
     (first
       | (go_at_call 309;refine (HF _).out.mono ?_;rintro e w1 ⟨rfl,hb⟩
          have HB2:=Lib.hid (HB1.out.trans (hb.mono HB1.out.size))
          have S1:=HSW.out _ HB2.out
          clear hb HF)
       | (go_at_call 308;refine (HD _).out.mono ?_;rintro e w2 ⟨rfl,hb⟩
          have HB3:=Lib.hid (HB2.out.trans (hb.mono HB2.out.size))
          have S2:=HSW.out _ HB3.out
          clear hb HD))
   all_goals (
     go_wp2_with fail
     go_ret
     exact ⟨rfl,(HP _ HB3.out).out,(Far.of_below HB0.out).then_below HB3.out⟩)
 | some i =>
   obtain ⟨s0,hs0⟩:=whE_some hq
   have hi:=(List.getElem?_eq_some_iff.1 hs0).1
   rw [hq] at hF hD
   have h9:¬ ((i:Int)<0∨(E.length:Int)≤i):=by omega
   have hrm:=rmE_at hd hs0
   simp only at hrm
   simp only [if_true,if_neg h9,Int.toNat_natCast,← hrm] at hD
   have HF:=fun W=>Lib.hid (hF W)
   have HD:=fun W=>Lib.hid (hD W)
   have HV:=Lib.hid hv
   have hbb:=hfo.blk.lt
   clear hF hD hfo h hb0 hq hv kE hs0 hi h9 hrm
   generalize rmE E m=E' at *
   go_enter Tryz.func301,Tryz.ntmps301
   go_wp2_with fail
   have hb1:=drewB (w.alloc (.cells #[.string m,.int .i64 s] 117)) 1
   have S0:=HSW.out _ hb1
   have HB1:=Lib.hid hb1
   clear hb1
   go_region_held (fun W=>W.cell? ⟨b,0,none⟩=some (.string (Pk.packB E))∧W.cell? ⟨w.heap.size,0,none⟩=some (.string m)) (first|exact S0|exact S1|exact S2)
     (first
       | (go_at_call 309;refine (HF _).out.mono ?_;rintro e w1 ⟨rfl,hb⟩
          have HB2:=Lib.hid (HB1.out.trans (hb.mono HB1.out.size))
          have S1:=HSW.out _ HB2.out
          clear hb HF)
       | (go_at_call 308;refine (HD _).out.mono ?_;rintro e w2 ⟨rfl,hb⟩
          have HB3:=Lib.hid (HB2.out.trans (hb.mono HB2.out.size))
          have S2:=HSW.out _ HB3.out
          clear hb HD))
   all_goals (
     have HP3:=HP _ HB3.out
     obtain ⟨e0,f0⟩:=facts1 HP3.out.blk
     go_wp2_with fail
     go_ret
     exact ⟨rfl,HP3.out.write HV.out,((Far.of_below HB0.out).then_below HB3.out).trans (far_set (S:=fun k=>k=b) _ b 0 _ rfl) (fun k hk=>.inl hk)⟩)
theorem put_less(m:ByteArray)(s:Int)(q:Nat)(hs:SrtE E)(kq:Blk w q 117 #[.string m,.int .i64 s]):Ask w 311 #[.pointer (some ⟨q,0,none⟩)] E (posE E m s):=by
 refine ⟨enters_of Tryz.func311 (by kernel_rfl) rfl,posE_le _ _ _,fun W hb i x hx=>?_⟩
 have hl:=posE_spec hs m s i x hx
 have HL:=fun W=>Lib.hid (less_any x.1 m x.2 s W)
 have hle:Sk.lessE x.1 x.2 m s=decide (i<posE E m s):=hl
 rw [hle] at HL
 obtain ⟨g0,g1,_,_⟩:=facts2 ((kq.later hb).alloc (.cells #[.string x.1,.int .i64 x.2] 117))
 obtain ⟨e0,e1,_,_⟩:=facts2 (Blk.new W 117 #[.string x.1,.int .i64 x.2])
 have HB:=Lib.hid (alloc_below W (.cells #[.string x.1,.int .i64 x.2] 117))
 clear hl hle hx hs kq hb
 generalize decide (i<posE E m s)=bb at *
 show Calls Tryz.prog 311 #[.agg #[.string x.1,.int .i64 x.2],.pointer (some ⟨q,0,none⟩)] W _
 go_enter Tryz.func311,Tryz.ntmps311
 go_wp2_with (go_at_call 244;refine (HL _).out.mono ?_;rintro e w1 ⟨rfl,hb1⟩)
 go_ret
 exact ⟨rfl,HB.out.trans (hb1.mono HB.out.size)⟩
theorem p_put(h:PackAt w b E)(hsE:SrtE E)(hl:E.length<200)(lv:Int)(v:Value)(m:ByteArray)(hm:m.size≤64)(s:Int)(hs:Pk.scoreOk s)(hr:Row w 0 v [(m,s)])(hx:∀ k cur,Blk w k 117 cur→k≠b) :
   Calls Tryz.prog 304 #[.pointer (some ⟨b,0,none⟩),.int .i64 lv,v] w fun e w'=>e=.returned (.tuple #[])∧PackAt w' b (putE E m s)∧Far (fun k=>k=b) w w':=by
 have hcell:∀ W,Far (fun k=>k=b) w W→∃ q off c,v=.slice (some ⟨q,off,none⟩) 1 c∧W.cell? ⟨q,off,none⟩=some (.string m)∧W.cell? ⟨q,off+1,none⟩=some (.int .i64 s):=fun W hf=>by
   obtain ⟨q,off,c,cur,h1,_,kq,c0,c1⟩:=(hr.far hf (fun k cur _ hk e=>hx k cur hk e)).at' 0 (m,s) rfl
   exact ⟨q,off,c,h1,by simpa using c0,by simpa using c1⟩
 obtain ⟨q,off,c,rfl,_,_⟩:=hcell w (Far.refl _ _)
 have HC:=fun W hf=>Lib.hid (hcell W hf)
 have HS:=Lib.hid hsE
 have HH:=Lib.hid h
 have HPUT:=Lib.hid (valid_put h.ok m s hl hm hs)
 have hins:Pk.insR (Pk.packB E) (posE E m s) (m,s)=(Pk.packB (putE E m s),0):=by
   unfold Pk.insR
   have h1:¬ E.length=200:=by omega
   have h2:=posE_le E m s
   have h3:¬ ((posE E m s:Int)<0∨(E.length:Int)<(posE E m s:Int)∨64<m.size):=by omega
   rw [Pk.right_packB h.ok,Pk.ents_packB h.ok,if_pos rfl,if_neg h1,if_neg h3,Int.toNat_natCast]
   unfold putE
   rw [List.append_assoc]
   rfl
 have hple:=posE_le E m s
 have HI:=fun W=>Lib.hid (Pk.insert_any (Pk.packB E) (valid_size h.ok) (posE E m s) (by omega) (m,s) (by simp;omega) W)
 rw [hins] at HI
 simp only at HI
 clear hcell hsE h hins hr hx hs hple
 go_enter Tryz.func304,Tryz.ntmps304
 go_wp2
 go_loopw [11] (fun i wr=>∃ (k:Nat),i=.int .i64 k∧k≤1∧PackAt wr b (if k=0 then E else putE E m s)∧Far (fun k=>k=b) w wr) (fun i _=>1-(intOf i).toNat)
 case atStart=>exact ⟨0,rfl,by omega,HH.out,Far.refl _ _⟩
 case round =>
   obtain ⟨k,rfl,hk,hp,hf⟩:=hrel
   by_cases h0:k=0
   · subst h0
     rw [if_pos rfl] at hp
     obtain ⟨q',off',c',e1,g0,g1⟩:=(HC wr hf).out
     injection e1 with e1 _ e2
     injection e1 with e1
     injection e1 with e1 e3 _
     subst e1;subst e2;subst e3
     have hb1:=alloc_below wr (.cells #[.string m,.int .i64 s] 117)
     have kE:=Blk.new wr 117 #[.string m,.int .i64 s]
     have HL:=Lib.hid (p_lead (hp.later hb1) (put_less m s wr.heap.size HS.out kE))
     have HSW:=Lib.hid (fun W (hb:Below (wr.alloc (.cells #[.string m,.int .i64 s] 117)).heap.size (wr.alloc (.cells #[.string m,.int .i64 s] 117)) W) =>
       show W.cell? ⟨b,0,none⟩=some (.string (Pk.packB E))∧W.cell? ⟨wr.heap.size,0,none⟩=some (.string m)∧W.cell? ⟨wr.heap.size,1,none⟩=some (.int .i64 s) from ⟨(facts1 ((hp.later hb1).later hb).blk).1,(facts2 (kE.later hb)).1,(facts2 (kE.later hb)).2.1⟩)
     have HP:=fun W (hb:Below (wr.alloc (.cells #[.string m,.int .i64 s] 117)).heap.size (wr.alloc (.cells #[.string m,.int .i64 s] 117)) W)=>Lib.hid ((hp.later hb1).later hb)
     have HF:=Lib.hid (hf.then_below hb1)
     clear hp hf hb1 kE hk HC
     go_wp2_with fail
     refine HL.out.mono ?_
     rintro e w1 ⟨rfl,hb⟩
     have HB1:=Lib.hid (show Below (wr.alloc (.cells #[.string m,.int .i64 s] 117)).heap.size (wr.alloc (.cells #[.string m,.int .i64 s] 117)) w1.drew from hb.trans ((drewB w1 1).mono hb.size))
     obtain ⟨a0,S0⟩:=HSW.out w1.drew HB1.out
     clear hb HL g0 g1
     go_wp2_with fail
     obtain ⟨a1,a2⟩:=S0
     go_region_with (first
       | (go_at_call 312;refine (HI _).out.mono ?_;rintro e w2 ⟨rfl,hb⟩
          have HB2:=Lib.hid (HB1.out.trans (hb.mono HB1.out.size))
          have HP2:=HP _ HB2.out
          obtain ⟨g0,g1⟩:=facts1 HP2.out.blk
          clear hb HI a1 a2 a0))
     all_goals (
       go_wp2_with fail
       refine ⟨⟨1,by go_num,by omega,HP2.out.write HPUT.out,(HF.out.then_below HB2.out).trans (far_set (S:=fun k=>k=b) _ b 0 _ rfl) (fun k hk=>.inl hk)⟩,by simp [intOf]⟩)
   · have h1:k=1:=by omega
     subst h1
     have HPF:=Lib.hid (And.intro hp hf)
     clear hp hf
     go_wp2_with fail
     go_returns
     exact ⟨rfl,HPF.out⟩
theorem rmAll_snoc(E l:List En)(k:Nat)(x:En)(h:l[k]?=some x):rmAll E (l.take (k+1))=rmE (rmAll E (l.take k)) x.1:=by
 obtain ⟨hk,rfl⟩:=List.getElem?_eq_some_iff.1 h
 unfold rmAll
 rw [List.take_succ_eq_append_getElem hk,List.foldl_append]
 rfl
theorem dist_rmAll{l:List En}:∀ {E:List En},Dist E→Dist (rmAll E l):=by
 induction l with
 | nil=>intro E h;exact h
 | cons x l ih=>intro E h;exact ih (dist_rmE h x.1)
theorem row_cells{W:World}{n0:Nat}{v:Value}{l:List En}(h:Row W n0 v l){k:Nat}{x:En}(hx:l[k]?=some x):∃ b off c,v=.slice (some ⟨b,off,none⟩) l.length c∧W.cell? ⟨b,off+k*2,none⟩=some (.string x.1)∧W.cell? ⟨b,off+k*2+1,none⟩=some (.int .i64 x.2):=by
 obtain ⟨b,off,c,cur,h1,_,_,h2,h3⟩:=h.at' k x hx
 exact ⟨b,off,c,h1,h2,h3⟩
variable {w:World} {b:Nat} {E:List En}
theorem p_cut(h:PackAt w b E)(hd:Dist E)(f t:Int):Calls Tryz.prog 300 #[.pointer (some ⟨b,0,none⟩),.int .i64 f,.int .i64 t] w fun e w' =>
   e=.returned (.int .i64 (subE E f t).length)∧PackAt w' b (cutE E f t)∧Far (fun k=>k=b) w w':=by
 have HR:=Lib.hid (p_range h f t)
 have hN:(subE E f t).length≤200:=by rw [subE_len];have:=h.ok.many;unfold t0;omega
 have HCUT:=Lib.hid (rmAll_cut hd f t)
 have HH:=Lib.hid h
 have HD:=Lib.hid hd
 clear h hd
 generalize subE E f t=l at *
 go_enter Tryz.func300,Tryz.ntmps300
 go_wp2_with fail
 refine HR.out.mono ?_
 rintro e w1 ⟨r,rfl,hr,hb⟩
 obtain ⟨a,c,rfl⟩:=hr.form
 have hp1:=HH.out.later hb
 have HF1:=Lib.hid (show Far (fun k=>k=b) w w1 from Far.of_below hb)
 have HP1:=Lib.hid hp1
 have HROW:=Lib.hid (fun W (hf:Far (fun k=>k=b) w1 W)=>hr.far hf (fun k cur _ hk e=>by subst e;exact absurd (hk.ty hp1.blk) (by decide)))
 clear hb hp1 hr HR HH
 go_wp2_with fail
 go_loopw [16] (fun i wr=>∃ (k:Nat),i=.int .i64 k∧k≤l.length∧PackAt wr b (rmAll E (l.take k))∧Far (fun k=>k=b) w1 wr) (fun i _=>l.length-(intOf i).toNat)
 case atStart=>exact ⟨0,rfl,by omega,HP1.out,Far.refl _ _⟩
 case round =>
   obtain ⟨k,rfl,hk,hp,hf⟩:=hrel
   by_cases hlt:k<l.length
   · have hx:l[k]?=some l[k]:=List.getElem?_eq_getElem hlt
     generalize l[k]=x at *
     obtain ⟨q,off,c',e1,g0,g1⟩:=row_cells (HROW.out wr hf) hx
     injection e1 with e1 _ e2
     subst e1
     have HSN:=Lib.hid (rmAll_snoc E l k x hx)
     have hb1:=alloc_below wr (.cells #[.string x.1,.int .i64 x.2] 117)
     have HDL:=Lib.hid (p_delete (hp.later hb1) (dist_rmAll HD.out) x.1 x.2)
     have HF:=Lib.hid (hf.then_below hb1)
     have hk2:(k:Int)<l.length:=by omega
     clear hp hf hb1 hx e2
     go_wp2_with fail
     refine HDL.out.mono ?_
     rintro e w2 ⟨rfl,hp2,hf2⟩
     have HP2:=Lib.hid hp2
     have HF2:=Lib.hid (HF.out.trans hf2 (fun k hk=>.inl hk))
     clear hp2 hf2 HDL g0 g1
     go_wp2_with fail
     exact ⟨⟨k+1,by go_num,hlt,HSN.out ▸ HP2.out,HF2.out⟩,by simp [intOf];omega⟩
   · obtain rfl:k=l.length:=by omega
     rw [List.take_length,HCUT.out] at hp
     have HP2:=Lib.hid hp
     have HF2:=Lib.hid (HF1.out.trans hf (fun k hk=>.inl hk))
     clear hp hf
     go_wp2_with fail
     go_ret
     exact ⟨rfl,HP2.out,HF2.out⟩
end Go.Proofs.YtlckdfoflimahaaGreatDoor
