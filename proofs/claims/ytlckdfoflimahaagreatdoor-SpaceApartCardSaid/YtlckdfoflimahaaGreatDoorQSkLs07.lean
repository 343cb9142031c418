/- Texts of one kind in one: SkLs, SkRange2. -/
import Derived.Test.YtlckdfoflimahaaGreatDoorQSkPut06
set_option maxRecDepth 200000
set_option maxHeartbeats 8000000
namespace Go.Proofs.YtlckdfoflimahaaGreatDoor.Sk
open Go.RowKit Go.Shelf
attribute [local go_sem] Oper.semAt_some
theorem less_irr(a:ByteArray)(s:Int):lessE a s a s=false:=by
 simp only [lessE,decide_eq_false_iff_not]
 rintro (h|⟨_,h⟩)
 · omega
 · exact List.lt_irrefl _ h
theorem less_tr{a b c:ByteArray}{s t u:Int}(h:lessE a s b t=true)(g:lessE b t c u=true):lessE a s c u=true:=by
 simp only [lessE,decide_eq_true_eq] at *
 rcases h with h|⟨h,h'⟩ <;> rcases g with g|⟨g,g'⟩
 · exact .inl (by omega)
 · exact .inl (by omega)
 · exact .inl (by omega)
 · exact .inr ⟨by omega,List.lt_trans h' g'⟩
theorem less_or(a b:ByteArray)(s t:Int)(h:lessE a s b t=false)(hn:¬ (a=b∧s=t)):lessE b t a s=true:=by
 simp only [lessE,decide_eq_false_iff_not,decide_eq_true_eq] at *
 by_cases e:s=t
 · right
   refine ⟨e.symm,?_⟩
   have h1:¬ a.data.toList<b.data.toList:=fun h2=>h (.inr ⟨e,h2⟩)
   have h2:a.data.toList≠b.data.toList:=fun h2=>hn ⟨by cases a;cases b;simp at h2;rw [h2],e⟩
   rcases Std.le_total (a:=a.data.toList) (b:=b.data.toList) with h3|h3
   · exact absurd (Std.lt_of_le_of_ne h3 h2) h1
   · exact Std.lt_of_le_of_ne h3 (Ne.symm h2)
 · left
   have:¬ s<t:=fun h2=>h (.inl h2)
   omega
def Srt(L:List Nd):Prop:=L.Pairwise fun x y=>lessE x.m x.s y.m y.s=true
def pos(L:List Nd)(m:ByteArray)(s:Int):Nat:=(L.takeWhile fun x=>lessE x.m x.s m s).length
theorem pos_le(L:List Nd)(m:ByteArray)(s:Int):pos L m s≤L.length:=by
 unfold pos;exact (List.takeWhile_sublist _).length_le
theorem pos_spec{L:List Nd}(hs:Srt L)(m:ByteArray)(s:Int):∀ (i:Nat) (x:Nd),L[i]?=some x→lessE x.m x.s m s=decide (i<pos L m s):=by
 induction L with
 | nil=>intro i x h;simp at h
 | cons y L ih =>
   intro i x h
   have hs':Srt L:=(List.pairwise_cons.1 hs).2
   by_cases hy:lessE y.m y.s m s=true
   · have hp:pos (y :: L) m s=pos L m s+1:=by simp [pos,hy]
     rw [hp]
     cases i with
     | zero=>simp at h;subst h;simpa using hy
     | succ i =>
       rw [ih hs' i x (by simpa using h)]
       simp
   · have hp:pos (y :: L) m s=0:=by simp [pos,hy]
     rw [hp]
     have hy':lessE y.m y.s m s=false:=by simpa using hy
     cases i with
     | zero=>simp at h;subst h;simpa using hy'
     | succ i =>
       have hx:x∈L:=List.mem_of_getElem? (by simpa using h:L[i]?=some x)
       have:=(List.pairwise_cons.1 hs).1 x hx
       cases hxe:lessE x.m x.s m s with
       | false=>simp
       | true=>exact absurd (less_tr this hxe) hy
theorem hq_of{L:List Nd}(hs:Srt L)(p:Nat)(m:ByteArray)(s:Int):∀ q x,0<q→(hd p :: L)[q]?=some x→lessE x.m x.s m s=decide (q≤pos L m s):=by
 intro q x h0 hx
 obtain ⟨i,rfl⟩:∃ i,q=i+1:=⟨q-1,by omega⟩
 rw [pos_spec hs m s i x (by simpa using hx),decide_eq_decide]
 omega
def has(L:List Nd)(m:ByteArray)(s:Int):Bool:=match L[pos L m s]? with
 | some x=>decide (x.m=m∧x.s=s)
 | none=>false
theorem has_at(p:Nat)(L:List Nd)(m:ByteArray)(s:Int):entAt (hd p :: L) (pos L m s+1) m s=has L m s:=by
 unfold entAt has
 rw [List.getElem?_cons_succ]
 rfl
theorem srt_put{L:List Nd}(hs:Srt L)(x:Nd)(hn:has L x.m x.s=false):Srt (L.take (pos L x.m x.s)++x :: L.drop (pos L x.m x.s)):=by
 have hsp:=pos_spec hs x.m x.s
 refine List.pairwise_append.2 ⟨hs.sublist (List.take_sublist _ _),List.pairwise_cons.2 ⟨fun y hy=>?_,hs.sublist (List.drop_sublist _ _)⟩,fun y hy z hz=>?_⟩
 · obtain ⟨i,hi⟩:=List.mem_iff_getElem?.1 hy
   rw [List.getElem?_drop] at hi
   have h1:=hsp _ y hi
   rw [show decide (pos L x.m x.s+i<pos L x.m x.s)=false by simp] at h1
   refine less_or _ _ _ _ h1 (fun e=>?_)
   cases i with
   | zero =>
     unfold has at hn
     rw [Nat.add_zero] at hi
     rw [hi] at hn
     simp [e] at hn
   | succ i =>
     have hl:=(List.getElem?_eq_some_iff.1 hi).1
     have h2:L[pos L x.m x.s]?=some L[pos L x.m x.s]:=List.getElem?_eq_getElem (by omega)
     have h3:=hsp _ _ h2
     rw [show decide (pos L x.m x.s<pos L x.m x.s)=false by simp] at h3
     have h4:=List.pairwise_iff_getElem.1 hs (pos L x.m x.s) (pos L x.m x.s+(i+1)) (by omega) hl (by omega)
     rw [(List.getElem?_eq_some_iff.1 hi).2,e.1,e.2] at h4
     rw [h4] at h3
     cases h3
 · have hy1:lessE y.m y.s x.m x.s=true:=by
     obtain ⟨i,hi⟩:=List.mem_iff_getElem?.1 hy
     have hil:=(List.getElem?_eq_some_iff.1 hi).1
     rw [List.length_take] at hil
     rw [List.getElem?_take_of_lt (by omega)] at hi
     rw [hsp i y hi]
     simp;omega
   rcases List.mem_cons.1 hz with rfl|hz
   · exact hy1
   · obtain ⟨i,hi⟩:=List.mem_iff_getElem?.1 hy
     obtain ⟨j,hj⟩:=List.mem_iff_getElem?.1 hz
     have hil:=(List.getElem?_eq_some_iff.1 hi).1
     rw [List.length_take] at hil
     rw [List.getElem?_take_of_lt (by omega)] at hi
     rw [List.getElem?_drop] at hj
     obtain ⟨hi1,hi2⟩:=List.getElem?_eq_some_iff.1 hi
     obtain ⟨hj1,hj2⟩:=List.getElem?_eq_some_iff.1 hj
     have:=List.pairwise_iff_getElem.1 hs i _ hi1 hj1 (by omega)
     rw [hi2,hj2] at this
     exact this
theorem srt_cut{L:List Nd}(hs:Srt L){a b:Nat}(h:a≤b):Srt (L.take a++L.drop b):=by
 refine hs.sublist ?_
 have h1:(L.take a++L.drop b).Sublist (L.take a++L.drop a):=(List.Sublist.refl _).append (by
   rw [show b=a+(b-a) by omega,← List.drop_drop]
   exact List.drop_sublist _ _)
 rwa [List.take_append_drop] at h1
structure Ls (W:World) (p:Nat) (L:List Nd):Prop where
 sk:Sk W (hd p :: L) (lk0 (hd p :: L)) (ah0 (hd p :: L)) L.length
 srt:Srt L
variable {w:World} {p:Nat} {L:List Nd}
theorem Ls.far{w':World}{S:Nat→Prop}(h:Ls w p L)(hf:Far S w w')(hS:∀ k,isB (hd p :: L) k→¬ S k):Ls w' p L:=⟨h.sk.far hf hS,h.srt⟩
theorem Ls.later{w':World}(h:Ls w p L)(hb:Below w.heap.size w w'):Ls w' p L:=⟨h.sk.later hb,h.srt⟩
theorem ins_eq(p:Nat)(L:List Nd)(a:Nat)(x:Nd):insF (hd p :: L) a x=hd p :: (L.take a++x :: L.drop a):=by unfold insF;rw [List.take_succ_cons,List.drop_succ_cons];rfl
theorem rem_eq(p:Nat)(L:List Nd)(a b:Nat):remF (hd p :: L) a b=hd p :: (L.take a++L.drop b):=by unfold remF;rw [List.take_succ_cons,List.drop_succ_cons];rfl
theorem seek_ls(h:Ls w p L)(hN:L.length≤100000)(m:ByteArray)(s:Int):Calls Tryz.prog 334 #[.pointer (some ⟨p,0,none⟩),.agg #[.string m,.int .i64 s]] w fun e w'=>e=.returned (.tuple #[.int .i64 (pos L m s),.bool (has L m s)])∧Below w.heap.size w w':=by
 have:=seek_any p L rfl h.sk (by simp;omega) m s (pos L m s) (by have:=pos_le L m s;simp;omega) (hq_of h.srt p m s)
 rwa [has_at] at this
def putL(L:List Nd)(x:Nd):List Nd:=L.take (pos L x.m x.s)++x :: L.drop (pos L x.m x.s)
theorem insert_ls(h:Ls w p L)(hN:L.length≤100000)(m:ByteArray)(hm:m.size≤281474976710656)(s:Int)(l:Nat)(hl:0<l∧l≤32) :
   Calls Tryz.prog 206 #[.pointer (some ⟨p,0,none⟩),.agg #[.string m,.int .i64 s],.int .i64 l] w fun e w' =>
     (has L m s=true→e=.returned (.int .i64 90)∧Below w.heap.size w w') ∧
     (has L m s=false→e=.returned (.int .i64 0)∧∃ nb,w.heap.size≤nb∧Far (isB (hd p :: L)) w w'∧Ls w' p (putL L ⟨nb,m,s,l⟩)):=by
 have:=insert_any p L rfl w h.sk (by simp;omega) rfl (pos L m s) (by have:=pos_le L m s;simp;omega) m hm s l hl (hq_of h.srt p m s)
 rw [has_at] at this
 refine this.mono ?_
 rintro e w' ⟨h1,h2⟩
 refine ⟨h1,fun hh=>?_⟩
 obtain ⟨he,nb,hn,hf,hsk⟩:=h2 hh
 refine ⟨he,nb,hn,hf,?_,srt_put h.srt ⟨nb,m,s,l⟩ hh⟩
 rw [ins_eq] at hsk
 have hlen:((L.take (pos L m s)++(⟨nb,m,s,l⟩:Nd) :: L.drop (pos L m s)).length:Int)=(L.length:Int)+1:=by
   have:=pos_le L m s
   simp;omega
 unfold putL
 rw [← hlen] at hsk
 exact hsk
theorem cut_ls(h:Ls w p L)(hN:L.length≤100000)(f t:Int)(a b:Nat)(ha:(a:Int)=max f 0)(hb:(b:Int)=min t L.length)(hab:a<b) :
   Calls Tryz.prog 333 #[.pointer (some ⟨p,0,none⟩),.int .i64 f,.int .i64 t] w fun e w'=>e=.returned (.int .i64 ((b:Int)-a))∧Far (isB (hd p :: L)) w w'∧Ls w' p (L.take a++L.drop b):=by
 refine (cut_any p L rfl w h.sk (by simp;omega) rfl f t a b ha hb hab).mono ?_
 rintro e w' ⟨he,hf,hsk⟩
 refine ⟨he,hf,?_,srt_cut h.srt (by omega)⟩
 rw [rem_eq] at hsk
 have hlen:((L.take a++L.drop b).length:Int)=(L.length:Int)-((b:Int)-a):=by simp;omega
 rw [← hlen] at hsk
 exact hsk
theorem delete_ls(h:Ls w p L)(hN:L.length≤100000)(m:ByteArray)(s:Int):Calls Tryz.prog 324 #[.pointer (some ⟨p,0,none⟩),.agg #[.string m,.int .i64 s]] w fun e w' =>
     (has L m s=false→e=.returned (.bool false)∧Below w.heap.size w w') ∧
     (has L m s=true→e=.returned (.bool true)∧Far (isB (hd p :: L)) w w'∧Ls w' p (L.take (pos L m s)++L.drop (pos L m s+1))):=by
 have:=delete_any p L rfl w h.sk (by simp;omega) rfl (pos L m s) (by have:=pos_le L m s;simp;omega) m s (hq_of h.srt p m s)
 rw [has_at] at this
 refine this.mono ?_
 rintro e w' ⟨h1,h2⟩
 refine ⟨h1,fun hh=>?_⟩
 obtain ⟨he,hf,hsk⟩:=h2 hh
 refine ⟨he,hf,?_,srt_cut h.srt (by omega)⟩
 rw [rem_eq] at hsk
 have hlt:pos L m s<L.length:=by
   unfold has at hh
   split at hh
   · rename_i x hx;exact (List.getElem?_eq_some_iff.1 hx).1
   · cases hh
 have hlen:((L.take (pos L m s)++L.drop (pos L m s+1)).length:Int)=(L.length:Int)-1:=by simp;omega
 rw [← hlen] at hsk
 exact hsk
def z63:Array Value:=z61++#[.int .i64 0]
theorem info135:(Tryz.prog.info? 306).map (fun i=>(i.zero,i.size))=some (some (.agg z63),68):=by kernel_rfl
theorem zero63(w:World):(zeroValue 306).run Tryz.prog w=.ok (.agg z63) w:=(zero_of_info info135).1 w
theorem z63_facts:z63.size=68∧z63[0]?=some (.string ⟨#[]⟩)∧z63[1]?=some (.int .i64 0)∧z63[2]?=some (.pointer none)∧z63[67]?=some (.int .i64 0):=⟨by decide +kernel,rfl,rfl,rfl,rfl⟩
theorem z63_link:∀ k:Fin 32,z63[3+k.val*2]?=some (.pointer none)∧z63[3+k.val*2+1]?=some (.int .i64 0):=by
 intro k
 match k with
 | ⟨k,hk⟩ =>
   have:k=0∨k=1∨k=2∨k=3∨k=4∨k=5∨k=6∨k=7∨k=8∨k=9∨k=10∨k=11∨k=12∨k=13∨k=14∨k=15∨k=16∨k=17∨k=18∨k=19∨k=20∨k=21∨k=22∨k=23∨k=24∨k=25∨k=26∨k=27∨k=28∨k=29∨k=30∨k=31:=by omega
   rcases this with rfl|rfl|rfl|rfl|rfl|rfl|rfl|rfl|rfl|rfl|rfl|rfl|rfl|rfl|rfl|rfl|rfl|rfl|rfl|rfl|rfl|rfl|rfl|rfl|rfl|rfl|rfl|rfl|rfl|rfl|rfl|rfl <;> exact ⟨rfl,rfl⟩
theorem new_any(w:World):Calls Tryz.prog 183 #[] w fun e w'=>e=.returned (.pointer (some ⟨w.heap.size,0,none⟩))∧Below w.heap.size w w'∧Ls w' w.heap.size []:=by
 have hz:=zero63
 obtain ⟨f0,f1,f2,f3,f4⟩:=z63_facts
 have hl:=z63_link
 generalize z63=zz at *
 have HL:=Lib.hid hl
 have HF:=Lib.hid (And.intro f1 (And.intro f2 (And.intro f3 f4)))
 clear hl f1 f2 f3 f4
 go_enter Tryz.func183,Tryz.ntmps183
 go_wp2_with fail
 go_returns
 obtain ⟨f1,f2,f3,f4⟩:=HF.out
 refine ⟨rfl,(Below.refl _ _).alloc (Nat.le_refl _) _,⟨fun q x hx=>?_,fun q q' x x' hx hx' _=>?_,fun q x hx=>?_⟩,List.Pairwise.nil⟩
 · cases q with
   | succ q=>simp at hx
   | zero =>
     simp at hx
     subst hx
     refine ⟨zz,Blk.new _ _ _,by rw [f0];rfl,f1,f2,f3,fun k hk=>?_,fun _=>f4⟩
     have hn:nxt [hd w.heap.size] k 0=1:=nxt_unique (by simp) (by omega) (by simp) (fun i h1 h2=>by omega) (fun h=>by simp at h)
     unfold lk0
     rw [hn]
     have:=HL.out ⟨k,hk⟩
     exact this
 · cases q <;> cases q' <;> simp at hx hx' <;> rfl
 · cases q with
   | succ q=>simp at hx
   | zero=>simp at hx;subst hx;exact ⟨(by decide:0<32),Nat.le_refl 32⟩
def entsF(F:List Nd)(l:List Nat):List Ent:=l.map fun q=>match F[q]? with|some x=>(x.m,x.s)|none=>(⟨#[]⟩,0)
theorem steps_zero{F:List Nd}(hp:∀ i,i<F.length→0<lev F i)(q:Nat):steps F 0 q=List.range' (q+1) (F.length-(q+1)):=by
 unfold steps
 refine List.filter_eq_self.2 fun i hi=>?_
 rw [List.mem_range'_1] at hi
 simpa using hp i (by omega)
variable {F:List Nd} {ah:Nat→Value} {n:Int}
theorem range_none(p:Nat)(L:List Nd)(hF:F=hd p :: L)(w:World)(hw:Sk w F (lk0 F) ah n)(f t:Int)(h:min t n≤max f 0):Calls Tryz.prog 326 #[.pointer (some ⟨p,0,none⟩),.int .i64 f,.int .i64 t] w fun e w'=>e=.returned (.slice none 0 0)∧Below w.heap.size w w':=by
 have HP:=Lib.hid (part_any p L hF (hw.later ((Below.refl _ _).alloc (Nat.le_refl _) (Obj.cells #[.int .i64 t] 3))) f t)
 generalize max f 0=a at *
 generalize min t n=b at *
 clear hw hF
 go_enter Tryz.func326,Tryz.ntmps326
 go_wp2_with fail
 refine wp_scope_straight ?_
 go_wp2_with fail
 refine HP.out.mono ?_
 rintro e w1 ⟨rfl,rfl⟩
 go_wp2
 rw [Exit.noGoto_ret]
 go_returns
 exact ⟨rfl,(Below.refl _ _).alloc (Nat.le_refl _) _⟩
theorem range_any(p:Nat)(L:List Nd)(hF:F=hd p :: L)(w:World)(hw:Sk w F (lk0 F) ah n)(hN:F.length≤1000000)(hn:n=L.length)(f t:Int)(a b:Nat)(ha:(a:Int)=max f 0)(hb:(b:Int)=min t n)(hab:a<b) :
   Calls Tryz.prog 326 #[.pointer (some ⟨p,0,none⟩),.int .i64 f,.int .i64 t] w fun e w'=>∃ r,e=.returned r∧Own32 w' w.heap.size r (entsF F (List.range' (a+1) (b-a)))∧Below w.heap.size w w':=by
 have hFl:F.length=L.length+1:=by rw [hF];rfl
 have hbF:b<F.length:=by omega
 have hp:=lev_pos hw
 have hla:=last_zero F hp a (by omega)
 have hix:=index71 F a
 rw [hla] at hix
 obtain ⟨x0,hx0⟩:∃ x0,F[a]?=some x0:=⟨_,List.getElem?_eq_getElem (by omega)⟩
 have hax:=adr_some hx0
 unfold boxQ at hix
 have h00:((0:Nat):Int)=0:=rfl
 simp only [hax,h00] at hix
 clear h00
 have hbx:Below w.heap.size w (w.alloc (.cells #[.int .i64 t] 3)):=(Below.refl _ _).alloc (Nat.le_refl _) _
 have HP:=Lib.hid (part_any p L hF (hw.later hbx) f t)
 rw [← ha,← hb] at HP
 have HT:=fun W (hb1:Below w.heap.size w W)=>Lib.hid (toPlace_any p L hF (hw.later hb1) hN a (by omega))
 have hxs:=steps_zero hp a
 have hsl:F.length-(a+1)≤F.length:=Nat.sub_le _ _
 have HW:=Lib.hid hw
 have hab2:¬ (b:Int)≤a:=by omega
 have hlv:=hp a (by omega)
 rw [lev_some hx0] at hlv
 generalize wayA F a=WA at *
 refine (callsIn_wide (n:=6)).1 (callsIn_of_wp_marks Tryz.func326 rfl trivial ?_ rfl)
 refine wpIn_wide.2 ?_
 simp only [Tryz.ntmps326,List.size_toArray,List.length_cons,List.length_nil,Nat.reduceAdd,Nat.reduceSub,Array.replicate_succ,Array.replicate_zero,List.push_toArray,List.append_toArray,List.nil_append,List.cons_append]
 have hFa:F[0]?=some (hd p):=by rw [hF];rfl
 clear hw hF ha hb hn hFl
 go_wp2_with fail
 refine wp_scope_straight ?_
 go_wp2_with fail
 refine HP.out.mono ?_
 rintro e w1 ⟨rfl,rfl⟩
 have HBX:=Lib.hid hbx
 go_wp2_with fail
 refine wp_label ?_
 have hb1:Below w.heap.size w ((w.alloc (.cells #[.int .i64 b] 3)).alloc (.cells #[.slice none 0 0] 55)):=((Below.refl _ _).alloc (Nat.le_refl _) _).alloc (by simp) _
 have HT1:=HT _ hb1
 have k3:=(Blk.new w 3 #[.int .i64 b]).alloc (Obj.cells #[.slice none 0 0] 55)
 have kR:=Blk.new (w.alloc (.cells #[.int .i64 b] 3)) 55 #[.slice none 0 0]
 simp only [World.size_alloc] at kR
 have HB1:=Lib.hid hb1
 have H3:=Lib.hid k3
 have HR:=Lib.hid kR
 clear HT hb1 k3 kR HP hbx HBX
 go_wp2_with fail
 refine HT1.out.mono ?_
 rintro e w2 ⟨rfl,hb2⟩
 have k3:=H3.out.later hb2
 have kR:=HR.out.later hb2
 have hB2:=HB1.out.trans (hb2.mono HB1.out.size)
 clear hb2 HT1 H3 HR HB1
 have HK3:=Lib.hid k3
 have HKR:=Lib.hid kR
 have HB2:=Lib.hid hB2
 clear k3 kR hB2
 go_wp2_with fail
 have hz1:=HB2.out.size
 have hzr:=HKR.out.lt
 have hS2:=HW.out.later HB2.out
 have hseq:=forth_any F ah n w2 0 a x0 (by decide) hx0 hlv hN [] hS2 (by simp) (by simp)
 unfold stp at hseq
 rw [hax,hxs] at hseq
 generalize hxn:F.length-(a+1)=xn at *
 have hxat:∀ i x,(List.range' (a+1) xn)[i]?=some x→x=a+1+i∧x<F.length∧i<xn:=fun i x h=>by
   obtain ⟨h1,h2⟩:=List.getElem?_eq_some_iff.1 h
   simp at h1 h2
   omega
 refine (wpIn_wide (n:=6)).1 (range_f (gf:=266) (encs:=encQ F 0) (xs:=List.range' (a+1) xn) (L:=[]) rfl (enters_of Tryz.func266 (by kernel_rfl) rfl) hseq (fun _ _=>rfl)
   (fun i V=>∃ r,(i≤b-a∧Blk V w.heap.size 3 #[.int .i64 b]∧Blk V (w.heap.size+1) 55 #[r])∧Own32 V (w.heap.size+2) r (entsF F (List.range' (a+1) i))∧Below w.heap.size w V)
   (fun c _ V=>match c with
     | .exit id=>∃ r,(id=0∧Blk V (w.heap.size+1) 55 #[r])∧Own32 V (w.heap.size+2) r (entsF F (List.range' (a+1) (b-a)))∧Below w.heap.size w V
     | _=>False)
   ?hI ?hIx ?hIa ?hIxa ?h0 (fun _ x a' V=>∃ c,(True∧a'={ tmps:=#[.pointer (some ⟨p,0,none⟩),.int .i64 a,.int .i64 t,undef,undef,.pointer (some ⟨w.heap.size,0,none⟩),.slice none 0 0,.pointer (some ⟨w.heap.size+1,0,none⟩),.pointer (some ⟨c,0,none⟩),.tuple #[.int .i64 a,.int .i64 b],.pointer (some ⟨p,0,none⟩),.int .i64 f,.int .i64 t,.tuple #[.int .i64 a,.int .i64 b],.int .i64 a,.int .i64 b,.int .i64 a,.int .i64 b,.bool false,.pointer (some ⟨p,0,none⟩),.int .i64 a,.agg WA,.agg #[.pointer (some ⟨x0.b,0,none⟩),.int .i64 ((a:Int)-1),.int .i64 0],.func (.func 266) #[.agg #[.pointer (some ⟨x0.b,0,none⟩),.int .i64 ((a:Int)-1),.int .i64 0]] #[],stp F 0 x,undef,undef,undef,undef,undef,undef,undef,undef,undef,undef,undef,undef,undef],defers:=[] })∧Blk V c 329 (boxQ F 0 x)) ?hAx ?assign ?body ?done ?stop)
 case hI=>exact own_ex fun r=>((own_pure _ _).and ((own_blk _ _ _ _).and (own_blk _ _ _ _))).and ((own_gen _ _ _ _ _).and (own_below _ w hz1))
 case hIx =>
   intro c
   cases c with
   | exit id=>exact own_ex fun r=>((own_pure _ _).and (own_blk _ _ _ _)).and ((own_gen _ _ _ _ _).and (own_below _ w hz1))
   | _=>exact own_pure _ _
 case hIa =>
   rintro N hN2 i A B ⟨r,⟨h1,h2,h3⟩,h4,h5⟩ hab
   exact ⟨r,⟨h1,h2.aside hab (by omega),h3.aside hab (by omega)⟩,own_aside h4 hab (by decide),((Far.of_below (S:=fun _=>False) h5).aside hab (by omega)).below (fun _ h=>h.elim) (Nat.le_refl _)⟩
 case hIxa =>
   rintro c N hN2 i A B h hab
   cases c with
   | exit id =>
     obtain ⟨r,⟨h1,h3⟩,h4,h5⟩:=h
     exact ⟨r,⟨h1,h3.aside hab (by omega)⟩,own_aside h4 hab (by decide),((Far.of_below (S:=fun _=>False) h5).aside hab (by omega)).below (fun _ h=>h.elim) (Nat.le_refl _)⟩
   | _=>exact h
 case h0=>exact ⟨_,⟨Nat.zero_le _,HK3.out,HKR.out⟩,World.ownsRow_nil _ _ _ _,HB2.out⟩
 case hAx=>exact fun i x a'=>own_ex fun c=>(own_pure _ _).and (own_blk _ _ _ _)
 case assign =>
   rintro l i x V K' hx' ⟨r,⟨h1,h2,h3⟩,h4,h5⟩ hK
   obtain ⟨y,hy⟩:∃ y,F[x]?=some y:=⟨_,List.getElem?_eq_getElem (hxat i x hx').2.1⟩
   have hay:=adr_some hy
   have HK3':=Lib.hid hK
   have HI:=Lib.hid (And.intro h1 (And.intro h2 (And.intro h3 (And.intro h4 h5))))
   have hsz2:w.heap.size+2≤V.heap.size:=h3.lt
   have HKP:=Lib.hid hx'
   clear hK h1 h2 h3 h4 h5 hseq hx' hxat hS2
   unfold encQ stp
   rw [hay]
   gi_wp2
   have hbV:=(Below.refl V.heap.size V).alloc (Nat.le_refl _) (Obj.cells #[Value.pointer (some ⟨y.b,0,none⟩),Value.int IntKind.i64 ((x:Int)-1),Value.int IntKind.i64 0] 329)
   obtain ⟨h1,h2,h3,h4,h5⟩:=HI.out
   refine HK3'.out _ _ (keeps_below hbV) (KeepC.of_below hbV) ⟨r,⟨h1,h2.later hbV,h3.later hbV⟩,own_later h4 hbV,h5.trans (hbV.mono h5.size)⟩ ⟨V.heap.size,⟨?_,?_⟩,?_⟩
   · trivial
   · unfold stp;rw [hay];rfl
   · unfold boxQ;rw [hay];exact Blk.new _ _ _
 case body =>
   rintro l i x a' V hx' ⟨r,⟨h1,h2,h3⟩,h4,h5⟩ ⟨c,⟨_,rfl⟩,kc⟩
   obtain ⟨hxe,hxl,hin⟩:=hxat i x hx'
   obtain ⟨y,hy⟩:∃ y,F[x]?=some y:=⟨_,List.getElem?_eq_getElem hxl⟩
   have hay:=adr_some hy
   have hSV:=HW.out.later h5
   obtain ⟨A,hA,hNA⟩:=hSV.node x y hy
   have a0:=(hA.cell 0).trans hNA.m
   have a1:=(hA.cell 1).trans hNA.s
   unfold boxQ at kc
   rw [hay] at kc
   obtain ⟨f0,f1,f2,_,_,_⟩:=facts3 kc
   obtain ⟨d0,d1⟩:=facts1 h2
   obtain ⟨e0,e1⟩:=facts1 h3
   by_cases hib:i=b-a
   · have hge:(b:Int)≤(x:Int)-1:=by omega
     have HH:=Lib.hid (And.intro h3 (And.intro h4 h5))
     clear h1 h2 h3 h4 h5 hseq hx' hxat hS2 hSV hA hNA hy a0 a1
     gi_wp2
     obtain ⟨g3,g4,g5⟩:=HH.out
     exact ⟨KeepsFrom.refl _ _,r,⟨rfl,g3⟩,hib ▸ g4,g5⟩
   · have hge:¬ (b:Int)≤(x:Int)-1:=by omega
     have hlt3:=h3.lt
     have hmix:Tryz.prog.follows .mixedOrders=true:=by kernel_rfl
     have hel:(entsF F (List.range' (a+1) i)).length=i:=by unfold entsF;simp
     obtain ⟨g,cap,W7,hrun,hown7,hgrow⟩:=app_ent h4 (drewB V 1) (y.m,y.s) (by rw [hel];omega) (by have:=h3.lt;show w.heap.size+2≤V.heap.size;omega)
     rw [hel] at hrun hown7
     have hR7:=(h3.later (drewB V 1)).grown hgrow (own_later h4 (drewB V 1)) (by decide)
     have h37:=(h2.later (drewB V 1)).grown hgrow (own_later h4 (drewB V 1)) (by decide)
     obtain ⟨t0,t1⟩:=facts1 hR7
     have HH:=Lib.hid (And.intro h2 (And.intro h3 (And.intro h4 h5)))
     have HO:=Lib.hid hown7
     have HG:=Lib.hid hgrow
     have H37:=Lib.hid h37
     have HY:=Lib.hid hy
     clear h1 h2 h3 h4 h5 hseq hx' hxat hS2 hSV hA hNA hy kc hown7 hgrow hR7 h37
     gi_wp2
     refine wpIn_region_any hmix ?_
     change wpAnyIn _ _ _ _ _ _ _ _ _ (World.drew _)
     all_goals (first|refine wpAnyIn_ready (rs:=[0,1]) (by decide +kernel) (by simp) (AllReadyIn.cons rfl (fun K hK=>?_) (AllReadyIn.cons rfl (fun K hK=>?_) AllReadyIn.nil))|refine wpAnyIn_ready (rs:=[0,2]) (by decide +kernel) (by simp) (AllReadyIn.cons rfl (fun K hK=>?_) (AllReadyIn.cons rfl (fun K hK=>?_) AllReadyIn.nil))|refine wpAnyIn_ready (rs:=[0,3]) (by decide +kernel) (by simp) (AllReadyIn.cons rfl (fun K hK=>?_) (AllReadyIn.cons rfl (fun K hK=>?_) AllReadyIn.nil))|refine wpAnyIn_ready (rs:=[0,4]) (by decide +kernel) (by simp) (AllReadyIn.cons rfl (fun K hK=>?_) (AllReadyIn.cons rfl (fun K hK=>?_) AllReadyIn.nil))|refine wpAnyIn_ready (rs:=[0,5]) (by decide +kernel) (by simp) (AllReadyIn.cons rfl (fun K hK=>?_) (AllReadyIn.cons rfl (fun K hK=>?_) AllReadyIn.nil))|refine wpAnyIn_ready (rs:=[0,6]) (by decide +kernel) (by simp) (AllReadyIn.cons rfl (fun K hK=>?_) (AllReadyIn.cons rfl (fun K hK=>?_) AllReadyIn.nil))|refine wpAnyIn_ready (rs:=[0]) (by decide +kernel) (by simp) (AllReadyIn.cons rfl (fun K hK=>?_) AllReadyIn.nil)|refine wpAnyIn_ready (rs:=[1]) (by decide +kernel) (by simp) (AllReadyIn.cons rfl (fun K hK=>?_) AllReadyIn.nil)|refine wpAnyIn_ready (rs:=[2]) (by decide +kernel) (by simp) (AllReadyIn.cons rfl (fun K hK=>?_) AllReadyIn.nil)|refine wpAnyIn_ready (rs:=[3]) (by decide +kernel) (by simp) (AllReadyIn.cons rfl (fun K hK=>?_) AllReadyIn.nil)|refine wpAnyIn_ready (rs:=[4]) (by decide +kernel) (by simp) (AllReadyIn.cons rfl (fun K hK=>?_) AllReadyIn.nil)|refine wpAnyIn_ready (rs:=[5]) (by decide +kernel) (by simp) (AllReadyIn.cons rfl (fun K hK=>?_) AllReadyIn.nil)|refine wpAnyIn_ready (rs:=[6]) (by decide +kernel) (by simp) (AllReadyIn.cons rfl (fun K hK=>?_) AllReadyIn.nil)|refine wpAnyIn_ready (rs:=[7]) (by decide +kernel) (by simp) (AllReadyIn.cons rfl (fun K hK=>?_) AllReadyIn.nil)|refine wpAnyIn_ready (rs:=[8]) (by decide +kernel) (by simp) (AllReadyIn.cons rfl (fun K hK=>?_) AllReadyIn.nil))
     all_goals (first|(refine stepIn_append rfl _ _ 55 55 rfl rfl rfl hrun ?_;refine hK _ _ ?_;clear hK K)|(go_simp;refine hK _ _ ?_;clear hK K))
     all_goals (first|refine wpAnyIn_ready (rs:=[0,1]) (by decide +kernel) (by simp) (AllReadyIn.cons rfl (fun K hK=>?_) (AllReadyIn.cons rfl (fun K hK=>?_) AllReadyIn.nil))|refine wpAnyIn_ready (rs:=[0,2]) (by decide +kernel) (by simp) (AllReadyIn.cons rfl (fun K hK=>?_) (AllReadyIn.cons rfl (fun K hK=>?_) AllReadyIn.nil))|refine wpAnyIn_ready (rs:=[0,3]) (by decide +kernel) (by simp) (AllReadyIn.cons rfl (fun K hK=>?_) (AllReadyIn.cons rfl (fun K hK=>?_) AllReadyIn.nil))|refine wpAnyIn_ready (rs:=[0,4]) (by decide +kernel) (by simp) (AllReadyIn.cons rfl (fun K hK=>?_) (AllReadyIn.cons rfl (fun K hK=>?_) AllReadyIn.nil))|refine wpAnyIn_ready (rs:=[0,5]) (by decide +kernel) (by simp) (AllReadyIn.cons rfl (fun K hK=>?_) (AllReadyIn.cons rfl (fun K hK=>?_) AllReadyIn.nil))|refine wpAnyIn_ready (rs:=[0,6]) (by decide +kernel) (by simp) (AllReadyIn.cons rfl (fun K hK=>?_) (AllReadyIn.cons rfl (fun K hK=>?_) AllReadyIn.nil))|refine wpAnyIn_ready (rs:=[0]) (by decide +kernel) (by simp) (AllReadyIn.cons rfl (fun K hK=>?_) AllReadyIn.nil)|refine wpAnyIn_ready (rs:=[1]) (by decide +kernel) (by simp) (AllReadyIn.cons rfl (fun K hK=>?_) AllReadyIn.nil)|refine wpAnyIn_ready (rs:=[2]) (by decide +kernel) (by simp) (AllReadyIn.cons rfl (fun K hK=>?_) AllReadyIn.nil)|refine wpAnyIn_ready (rs:=[3]) (by decide +kernel) (by simp) (AllReadyIn.cons rfl (fun K hK=>?_) AllReadyIn.nil)|refine wpAnyIn_ready (rs:=[4]) (by decide +kernel) (by simp) (AllReadyIn.cons rfl (fun K hK=>?_) AllReadyIn.nil)|refine wpAnyIn_ready (rs:=[5]) (by decide +kernel) (by simp) (AllReadyIn.cons rfl (fun K hK=>?_) AllReadyIn.nil)|refine wpAnyIn_ready (rs:=[6]) (by decide +kernel) (by simp) (AllReadyIn.cons rfl (fun K hK=>?_) AllReadyIn.nil)|refine wpAnyIn_ready (rs:=[7]) (by decide +kernel) (by simp) (AllReadyIn.cons rfl (fun K hK=>?_) AllReadyIn.nil)|refine wpAnyIn_ready (rs:=[8]) (by decide +kernel) (by simp) (AllReadyIn.cons rfl (fun K hK=>?_) AllReadyIn.nil))
     all_goals (first|(refine stepIn_append rfl _ _ 55 55 rfl rfl rfl hrun ?_;refine hK _ _ ?_;clear hK K)|(go_simp;refine hK _ _ ?_;clear hK K))
     all_goals (first|refine wpAnyIn_ready (rs:=[0,1]) (by decide +kernel) (by simp) (AllReadyIn.cons rfl (fun K hK=>?_) (AllReadyIn.cons rfl (fun K hK=>?_) AllReadyIn.nil))|refine wpAnyIn_ready (rs:=[0,2]) (by decide +kernel) (by simp) (AllReadyIn.cons rfl (fun K hK=>?_) (AllReadyIn.cons rfl (fun K hK=>?_) AllReadyIn.nil))|refine wpAnyIn_ready (rs:=[0,3]) (by decide +kernel) (by simp) (AllReadyIn.cons rfl (fun K hK=>?_) (AllReadyIn.cons rfl (fun K hK=>?_) AllReadyIn.nil))|refine wpAnyIn_ready (rs:=[0,4]) (by decide +kernel) (by simp) (AllReadyIn.cons rfl (fun K hK=>?_) (AllReadyIn.cons rfl (fun K hK=>?_) AllReadyIn.nil))|refine wpAnyIn_ready (rs:=[0,5]) (by decide +kernel) (by simp) (AllReadyIn.cons rfl (fun K hK=>?_) (AllReadyIn.cons rfl (fun K hK=>?_) AllReadyIn.nil))|refine wpAnyIn_ready (rs:=[0,6]) (by decide +kernel) (by simp) (AllReadyIn.cons rfl (fun K hK=>?_) (AllReadyIn.cons rfl (fun K hK=>?_) AllReadyIn.nil))|refine wpAnyIn_ready (rs:=[0]) (by decide +kernel) (by simp) (AllReadyIn.cons rfl (fun K hK=>?_) AllReadyIn.nil)|refine wpAnyIn_ready (rs:=[1]) (by decide +kernel) (by simp) (AllReadyIn.cons rfl (fun K hK=>?_) AllReadyIn.nil)|refine wpAnyIn_ready (rs:=[2]) (by decide +kernel) (by simp) (AllReadyIn.cons rfl (fun K hK=>?_) AllReadyIn.nil)|refine wpAnyIn_ready (rs:=[3]) (by decide +kernel) (by simp) (AllReadyIn.cons rfl (fun K hK=>?_) AllReadyIn.nil)|refine wpAnyIn_ready (rs:=[4]) (by decide +kernel) (by simp) (AllReadyIn.cons rfl (fun K hK=>?_) AllReadyIn.nil)|refine wpAnyIn_ready (rs:=[5]) (by decide +kernel) (by simp) (AllReadyIn.cons rfl (fun K hK=>?_) AllReadyIn.nil)|refine wpAnyIn_ready (rs:=[6]) (by decide +kernel) (by simp) (AllReadyIn.cons rfl (fun K hK=>?_) AllReadyIn.nil)|refine wpAnyIn_ready (rs:=[7]) (by decide +kernel) (by simp) (AllReadyIn.cons rfl (fun K hK=>?_) AllReadyIn.nil)|refine wpAnyIn_ready (rs:=[8]) (by decide +kernel) (by simp) (AllReadyIn.cons rfl (fun K hK=>?_) AllReadyIn.nil))
     all_goals (first|(refine stepIn_append rfl _ _ 55 55 rfl rfl rfl hrun ?_;refine hK _ _ ?_;clear hK K)|(go_simp;refine hK _ _ ?_;clear hK K))
     all_goals (first|refine wpAnyIn_ready (rs:=[0,1]) (by decide +kernel) (by simp) (AllReadyIn.cons rfl (fun K hK=>?_) (AllReadyIn.cons rfl (fun K hK=>?_) AllReadyIn.nil))|refine wpAnyIn_ready (rs:=[0,2]) (by decide +kernel) (by simp) (AllReadyIn.cons rfl (fun K hK=>?_) (AllReadyIn.cons rfl (fun K hK=>?_) AllReadyIn.nil))|refine wpAnyIn_ready (rs:=[0,3]) (by decide +kernel) (by simp) (AllReadyIn.cons rfl (fun K hK=>?_) (AllReadyIn.cons rfl (fun K hK=>?_) AllReadyIn.nil))|refine wpAnyIn_ready (rs:=[0,4]) (by decide +kernel) (by simp) (AllReadyIn.cons rfl (fun K hK=>?_) (AllReadyIn.cons rfl (fun K hK=>?_) AllReadyIn.nil))|refine wpAnyIn_ready (rs:=[0,5]) (by decide +kernel) (by simp) (AllReadyIn.cons rfl (fun K hK=>?_) (AllReadyIn.cons rfl (fun K hK=>?_) AllReadyIn.nil))|refine wpAnyIn_ready (rs:=[0,6]) (by decide +kernel) (by simp) (AllReadyIn.cons rfl (fun K hK=>?_) (AllReadyIn.cons rfl (fun K hK=>?_) AllReadyIn.nil))|refine wpAnyIn_ready (rs:=[0]) (by decide +kernel) (by simp) (AllReadyIn.cons rfl (fun K hK=>?_) AllReadyIn.nil)|refine wpAnyIn_ready (rs:=[1]) (by decide +kernel) (by simp) (AllReadyIn.cons rfl (fun K hK=>?_) AllReadyIn.nil)|refine wpAnyIn_ready (rs:=[2]) (by decide +kernel) (by simp) (AllReadyIn.cons rfl (fun K hK=>?_) AllReadyIn.nil)|refine wpAnyIn_ready (rs:=[3]) (by decide +kernel) (by simp) (AllReadyIn.cons rfl (fun K hK=>?_) AllReadyIn.nil)|refine wpAnyIn_ready (rs:=[4]) (by decide +kernel) (by simp) (AllReadyIn.cons rfl (fun K hK=>?_) AllReadyIn.nil)|refine wpAnyIn_ready (rs:=[5]) (by decide +kernel) (by simp) (AllReadyIn.cons rfl (fun K hK=>?_) AllReadyIn.nil)|refine wpAnyIn_ready (rs:=[6]) (by decide +kernel) (by simp) (AllReadyIn.cons rfl (fun K hK=>?_) AllReadyIn.nil)|refine wpAnyIn_ready (rs:=[7]) (by decide +kernel) (by simp) (AllReadyIn.cons rfl (fun K hK=>?_) AllReadyIn.nil)|refine wpAnyIn_ready (rs:=[8]) (by decide +kernel) (by simp) (AllReadyIn.cons rfl (fun K hK=>?_) AllReadyIn.nil))
     all_goals (first|(refine stepIn_append rfl _ _ 55 55 rfl rfl rfl hrun ?_;refine hK _ _ ?_;clear hK K)|(go_simp;refine hK _ _ ?_;clear hK K))
     all_goals (first|refine wpAnyIn_ready (rs:=[0,1]) (by decide +kernel) (by simp) (AllReadyIn.cons rfl (fun K hK=>?_) (AllReadyIn.cons rfl (fun K hK=>?_) AllReadyIn.nil))|refine wpAnyIn_ready (rs:=[0,2]) (by decide +kernel) (by simp) (AllReadyIn.cons rfl (fun K hK=>?_) (AllReadyIn.cons rfl (fun K hK=>?_) AllReadyIn.nil))|refine wpAnyIn_ready (rs:=[0,3]) (by decide +kernel) (by simp) (AllReadyIn.cons rfl (fun K hK=>?_) (AllReadyIn.cons rfl (fun K hK=>?_) AllReadyIn.nil))|refine wpAnyIn_ready (rs:=[0,4]) (by decide +kernel) (by simp) (AllReadyIn.cons rfl (fun K hK=>?_) (AllReadyIn.cons rfl (fun K hK=>?_) AllReadyIn.nil))|refine wpAnyIn_ready (rs:=[0,5]) (by decide +kernel) (by simp) (AllReadyIn.cons rfl (fun K hK=>?_) (AllReadyIn.cons rfl (fun K hK=>?_) AllReadyIn.nil))|refine wpAnyIn_ready (rs:=[0,6]) (by decide +kernel) (by simp) (AllReadyIn.cons rfl (fun K hK=>?_) (AllReadyIn.cons rfl (fun K hK=>?_) AllReadyIn.nil))|refine wpAnyIn_ready (rs:=[0]) (by decide +kernel) (by simp) (AllReadyIn.cons rfl (fun K hK=>?_) AllReadyIn.nil)|refine wpAnyIn_ready (rs:=[1]) (by decide +kernel) (by simp) (AllReadyIn.cons rfl (fun K hK=>?_) AllReadyIn.nil)|refine wpAnyIn_ready (rs:=[2]) (by decide +kernel) (by simp) (AllReadyIn.cons rfl (fun K hK=>?_) AllReadyIn.nil)|refine wpAnyIn_ready (rs:=[3]) (by decide +kernel) (by simp) (AllReadyIn.cons rfl (fun K hK=>?_) AllReadyIn.nil)|refine wpAnyIn_ready (rs:=[4]) (by decide +kernel) (by simp) (AllReadyIn.cons rfl (fun K hK=>?_) AllReadyIn.nil)|refine wpAnyIn_ready (rs:=[5]) (by decide +kernel) (by simp) (AllReadyIn.cons rfl (fun K hK=>?_) AllReadyIn.nil)|refine wpAnyIn_ready (rs:=[6]) (by decide +kernel) (by simp) (AllReadyIn.cons rfl (fun K hK=>?_) AllReadyIn.nil)|refine wpAnyIn_ready (rs:=[7]) (by decide +kernel) (by simp) (AllReadyIn.cons rfl (fun K hK=>?_) AllReadyIn.nil)|refine wpAnyIn_ready (rs:=[8]) (by decide +kernel) (by simp) (AllReadyIn.cons rfl (fun K hK=>?_) AllReadyIn.nil))
     all_goals (first|(refine stepIn_append rfl _ _ 55 55 rfl rfl rfl hrun ?_;refine hK _ _ ?_;clear hK K)|(go_simp;refine hK _ _ ?_;clear hK K))
     all_goals (first|refine wpAnyIn_ready (rs:=[0,1]) (by decide +kernel) (by simp) (AllReadyIn.cons rfl (fun K hK=>?_) (AllReadyIn.cons rfl (fun K hK=>?_) AllReadyIn.nil))|refine wpAnyIn_ready (rs:=[0,2]) (by decide +kernel) (by simp) (AllReadyIn.cons rfl (fun K hK=>?_) (AllReadyIn.cons rfl (fun K hK=>?_) AllReadyIn.nil))|refine wpAnyIn_ready (rs:=[0,3]) (by decide +kernel) (by simp) (AllReadyIn.cons rfl (fun K hK=>?_) (AllReadyIn.cons rfl (fun K hK=>?_) AllReadyIn.nil))|refine wpAnyIn_ready (rs:=[0,4]) (by decide +kernel) (by simp) (AllReadyIn.cons rfl (fun K hK=>?_) (AllReadyIn.cons rfl (fun K hK=>?_) AllReadyIn.nil))|refine wpAnyIn_ready (rs:=[0,5]) (by decide +kernel) (by simp) (AllReadyIn.cons rfl (fun K hK=>?_) (AllReadyIn.cons rfl (fun K hK=>?_) AllReadyIn.nil))|refine wpAnyIn_ready (rs:=[0,6]) (by decide +kernel) (by simp) (AllReadyIn.cons rfl (fun K hK=>?_) (AllReadyIn.cons rfl (fun K hK=>?_) AllReadyIn.nil))|refine wpAnyIn_ready (rs:=[0]) (by decide +kernel) (by simp) (AllReadyIn.cons rfl (fun K hK=>?_) AllReadyIn.nil)|refine wpAnyIn_ready (rs:=[1]) (by decide +kernel) (by simp) (AllReadyIn.cons rfl (fun K hK=>?_) AllReadyIn.nil)|refine wpAnyIn_ready (rs:=[2]) (by decide +kernel) (by simp) (AllReadyIn.cons rfl (fun K hK=>?_) AllReadyIn.nil)|refine wpAnyIn_ready (rs:=[3]) (by decide +kernel) (by simp) (AllReadyIn.cons rfl (fun K hK=>?_) AllReadyIn.nil)|refine wpAnyIn_ready (rs:=[4]) (by decide +kernel) (by simp) (AllReadyIn.cons rfl (fun K hK=>?_) AllReadyIn.nil)|refine wpAnyIn_ready (rs:=[5]) (by decide +kernel) (by simp) (AllReadyIn.cons rfl (fun K hK=>?_) AllReadyIn.nil)|refine wpAnyIn_ready (rs:=[6]) (by decide +kernel) (by simp) (AllReadyIn.cons rfl (fun K hK=>?_) AllReadyIn.nil)|refine wpAnyIn_ready (rs:=[7]) (by decide +kernel) (by simp) (AllReadyIn.cons rfl (fun K hK=>?_) AllReadyIn.nil)|refine wpAnyIn_ready (rs:=[8]) (by decide +kernel) (by simp) (AllReadyIn.cons rfl (fun K hK=>?_) AllReadyIn.nil))
     all_goals (first|(refine stepIn_append rfl _ _ 55 55 rfl rfl rfl hrun ?_;refine hK _ _ ?_;clear hK K)|(go_simp;refine hK _ _ ?_;clear hK K))
     all_goals (first|refine wpAnyIn_ready (rs:=[0,1]) (by decide +kernel) (by simp) (AllReadyIn.cons rfl (fun K hK=>?_) (AllReadyIn.cons rfl (fun K hK=>?_) AllReadyIn.nil))|refine wpAnyIn_ready (rs:=[0,2]) (by decide +kernel) (by simp) (AllReadyIn.cons rfl (fun K hK=>?_) (AllReadyIn.cons rfl (fun K hK=>?_) AllReadyIn.nil))|refine wpAnyIn_ready (rs:=[0,3]) (by decide +kernel) (by simp) (AllReadyIn.cons rfl (fun K hK=>?_) (AllReadyIn.cons rfl (fun K hK=>?_) AllReadyIn.nil))|refine wpAnyIn_ready (rs:=[0,4]) (by decide +kernel) (by simp) (AllReadyIn.cons rfl (fun K hK=>?_) (AllReadyIn.cons rfl (fun K hK=>?_) AllReadyIn.nil))|refine wpAnyIn_ready (rs:=[0,5]) (by decide +kernel) (by simp) (AllReadyIn.cons rfl (fun K hK=>?_) (AllReadyIn.cons rfl (fun K hK=>?_) AllReadyIn.nil))|refine wpAnyIn_ready (rs:=[0,6]) (by decide +kernel) (by simp) (AllReadyIn.cons rfl (fun K hK=>?_) (AllReadyIn.cons rfl (fun K hK=>?_) AllReadyIn.nil))|refine wpAnyIn_ready (rs:=[0]) (by decide +kernel) (by simp) (AllReadyIn.cons rfl (fun K hK=>?_) AllReadyIn.nil)|refine wpAnyIn_ready (rs:=[1]) (by decide +kernel) (by simp) (AllReadyIn.cons rfl (fun K hK=>?_) AllReadyIn.nil)|refine wpAnyIn_ready (rs:=[2]) (by decide +kernel) (by simp) (AllReadyIn.cons rfl (fun K hK=>?_) AllReadyIn.nil)|refine wpAnyIn_ready (rs:=[3]) (by decide +kernel) (by simp) (AllReadyIn.cons rfl (fun K hK=>?_) AllReadyIn.nil)|refine wpAnyIn_ready (rs:=[4]) (by decide +kernel) (by simp) (AllReadyIn.cons rfl (fun K hK=>?_) AllReadyIn.nil)|refine wpAnyIn_ready (rs:=[5]) (by decide +kernel) (by simp) (AllReadyIn.cons rfl (fun K hK=>?_) AllReadyIn.nil)|refine wpAnyIn_ready (rs:=[6]) (by decide +kernel) (by simp) (AllReadyIn.cons rfl (fun K hK=>?_) AllReadyIn.nil)|refine wpAnyIn_ready (rs:=[7]) (by decide +kernel) (by simp) (AllReadyIn.cons rfl (fun K hK=>?_) AllReadyIn.nil)|refine wpAnyIn_ready (rs:=[8]) (by decide +kernel) (by simp) (AllReadyIn.cons rfl (fun K hK=>?_) AllReadyIn.nil))
     all_goals (first|(refine stepIn_append rfl _ _ 55 55 rfl rfl rfl hrun ?_;refine hK _ _ ?_;clear hK K)|(go_simp;refine hK _ _ ?_;clear hK K))
     all_goals (first|refine wpAnyIn_ready (rs:=[0,1]) (by decide +kernel) (by simp) (AllReadyIn.cons rfl (fun K hK=>?_) (AllReadyIn.cons rfl (fun K hK=>?_) AllReadyIn.nil))|refine wpAnyIn_ready (rs:=[0,2]) (by decide +kernel) (by simp) (AllReadyIn.cons rfl (fun K hK=>?_) (AllReadyIn.cons rfl (fun K hK=>?_) AllReadyIn.nil))|refine wpAnyIn_ready (rs:=[0,3]) (by decide +kernel) (by simp) (AllReadyIn.cons rfl (fun K hK=>?_) (AllReadyIn.cons rfl (fun K hK=>?_) AllReadyIn.nil))|refine wpAnyIn_ready (rs:=[0,4]) (by decide +kernel) (by simp) (AllReadyIn.cons rfl (fun K hK=>?_) (AllReadyIn.cons rfl (fun K hK=>?_) AllReadyIn.nil))|refine wpAnyIn_ready (rs:=[0,5]) (by decide +kernel) (by simp) (AllReadyIn.cons rfl (fun K hK=>?_) (AllReadyIn.cons rfl (fun K hK=>?_) AllReadyIn.nil))|refine wpAnyIn_ready (rs:=[0,6]) (by decide +kernel) (by simp) (AllReadyIn.cons rfl (fun K hK=>?_) (AllReadyIn.cons rfl (fun K hK=>?_) AllReadyIn.nil))|refine wpAnyIn_ready (rs:=[0]) (by decide +kernel) (by simp) (AllReadyIn.cons rfl (fun K hK=>?_) AllReadyIn.nil)|refine wpAnyIn_ready (rs:=[1]) (by decide +kernel) (by simp) (AllReadyIn.cons rfl (fun K hK=>?_) AllReadyIn.nil)|refine wpAnyIn_ready (rs:=[2]) (by decide +kernel) (by simp) (AllReadyIn.cons rfl (fun K hK=>?_) AllReadyIn.nil)|refine wpAnyIn_ready (rs:=[3]) (by decide +kernel) (by simp) (AllReadyIn.cons rfl (fun K hK=>?_) AllReadyIn.nil)|refine wpAnyIn_ready (rs:=[4]) (by decide +kernel) (by simp) (AllReadyIn.cons rfl (fun K hK=>?_) AllReadyIn.nil)|refine wpAnyIn_ready (rs:=[5]) (by decide +kernel) (by simp) (AllReadyIn.cons rfl (fun K hK=>?_) AllReadyIn.nil)|refine wpAnyIn_ready (rs:=[6]) (by decide +kernel) (by simp) (AllReadyIn.cons rfl (fun K hK=>?_) AllReadyIn.nil)|refine wpAnyIn_ready (rs:=[7]) (by decide +kernel) (by simp) (AllReadyIn.cons rfl (fun K hK=>?_) AllReadyIn.nil)|refine wpAnyIn_ready (rs:=[8]) (by decide +kernel) (by simp) (AllReadyIn.cons rfl (fun K hK=>?_) AllReadyIn.nil))
     all_goals (first|(refine stepIn_append rfl _ _ 55 55 rfl rfl rfl hrun ?_;refine hK _ _ ?_;clear hK K)|(go_simp;refine hK _ _ ?_;clear hK K))
     all_goals (first|refine wpAnyIn_ready (rs:=[0,1]) (by decide +kernel) (by simp) (AllReadyIn.cons rfl (fun K hK=>?_) (AllReadyIn.cons rfl (fun K hK=>?_) AllReadyIn.nil))|refine wpAnyIn_ready (rs:=[0,2]) (by decide +kernel) (by simp) (AllReadyIn.cons rfl (fun K hK=>?_) (AllReadyIn.cons rfl (fun K hK=>?_) AllReadyIn.nil))|refine wpAnyIn_ready (rs:=[0,3]) (by decide +kernel) (by simp) (AllReadyIn.cons rfl (fun K hK=>?_) (AllReadyIn.cons rfl (fun K hK=>?_) AllReadyIn.nil))|refine wpAnyIn_ready (rs:=[0,4]) (by decide +kernel) (by simp) (AllReadyIn.cons rfl (fun K hK=>?_) (AllReadyIn.cons rfl (fun K hK=>?_) AllReadyIn.nil))|refine wpAnyIn_ready (rs:=[0,5]) (by decide +kernel) (by simp) (AllReadyIn.cons rfl (fun K hK=>?_) (AllReadyIn.cons rfl (fun K hK=>?_) AllReadyIn.nil))|refine wpAnyIn_ready (rs:=[0,6]) (by decide +kernel) (by simp) (AllReadyIn.cons rfl (fun K hK=>?_) (AllReadyIn.cons rfl (fun K hK=>?_) AllReadyIn.nil))|refine wpAnyIn_ready (rs:=[0]) (by decide +kernel) (by simp) (AllReadyIn.cons rfl (fun K hK=>?_) AllReadyIn.nil)|refine wpAnyIn_ready (rs:=[1]) (by decide +kernel) (by simp) (AllReadyIn.cons rfl (fun K hK=>?_) AllReadyIn.nil)|refine wpAnyIn_ready (rs:=[2]) (by decide +kernel) (by simp) (AllReadyIn.cons rfl (fun K hK=>?_) AllReadyIn.nil)|refine wpAnyIn_ready (rs:=[3]) (by decide +kernel) (by simp) (AllReadyIn.cons rfl (fun K hK=>?_) AllReadyIn.nil)|refine wpAnyIn_ready (rs:=[4]) (by decide +kernel) (by simp) (AllReadyIn.cons rfl (fun K hK=>?_) AllReadyIn.nil)|refine wpAnyIn_ready (rs:=[5]) (by decide +kernel) (by simp) (AllReadyIn.cons rfl (fun K hK=>?_) AllReadyIn.nil)|refine wpAnyIn_ready (rs:=[6]) (by decide +kernel) (by simp) (AllReadyIn.cons rfl (fun K hK=>?_) AllReadyIn.nil)|refine wpAnyIn_ready (rs:=[7]) (by decide +kernel) (by simp) (AllReadyIn.cons rfl (fun K hK=>?_) AllReadyIn.nil)|refine wpAnyIn_ready (rs:=[8]) (by decide +kernel) (by simp) (AllReadyIn.cons rfl (fun K hK=>?_) AllReadyIn.nil))
     all_goals (first|(refine stepIn_append rfl _ _ 55 55 rfl rfl rfl hrun ?_;refine hK _ _ ?_;clear hK K)|(go_simp;refine hK _ _ ?_;clear hK K))
     all_goals refine wpAnyIn_done (by decide +kernel) ?_ _
     all_goals gi_wp2
     all_goals (
       obtain ⟨g2,g3,g4,g5⟩:=HH.out
       obtain ⟨z1,z2,z3,z4,z5⟩:=app_end g3 g4 (drewB V 1) HG.out HO.out (Nat.lt_succ_self _) g5 (Nat.le_succ _) (by decide) (by simp [itT]) (by simp [itT]) w2.heap.size []
       refine ⟨z1,z2,_,⟨by omega,H37.out.setOther 0 _ (Nat.ne_of_lt (Nat.lt_succ_self _)),z4⟩,?_,z3⟩
       have he:entsF F (List.range' (a+1) (i+1))=entsF F (List.range' (a+1) i)++[(y.m,y.s)]:=by
         unfold entsF
         rw [List.range'_concat,List.map_append,Nat.one_mul,← hxe]
         simp [HY.out]
       rw [he]
       exact z5)
 case done =>
   rintro Dd V hD ⟨r,⟨h1,h2,h3⟩,h4,h5⟩ hVD
   clear hseq
   have hlen:(List.range' (a+1) xn).length=b-a:=by simp at h1 ⊢;omega
   rw [hlen] at h4
   obtain ⟨g0,g1⟩:=facts1 h3
   have HK:=Lib.hid hVD
   have HO:=Lib.hid h4
   have H5:=Lib.hid h5
   clear h1 h2 h3 h4 h5 hVD
   simp only [Exit.inBlock,Exit.then]
   go_wp2
   have hfin:(V.putObj Dd (.deferred none)).ownsRow w.heap.size 117 2 r _ _:=own_mono (ownsRow_putObj HO.out _ HK.out rfl) (by omega)
   rw [Exit.noGoto_ret]
   exact leave (v:=r) rfl HK.out (by simp [results,Tryz.results326,go_sem]) ⟨_,rfl,hfin,below_put H5.out (by omega) _⟩
 case stop =>
   rintro Dd c i V hD h hVD
   cases c with
   | exit id =>
     obtain ⟨r,⟨rfl,h3⟩,h4,h5⟩:=h
     clear hseq
     obtain ⟨g0,g1⟩:=facts1 h3
     have HK:=Lib.hid hVD
     have HO:=Lib.hid h4
     have H5:=Lib.hid h5
     clear h3 h4 h5 hVD
     refine wpIn_wide.2 ?_
     go_wp2
     have hfin:(V.putObj Dd (.deferred none)).ownsRow w.heap.size 117 2 r _ _:=own_mono (ownsRow_putObj HO.out _ HK.out rfl) (by omega)
     rw [Exit.noGoto_ret]
     exact leave (v:=r) rfl HK.out (by simp [results,Tryz.results326,go_sem]) ⟨_,rfl,hfin,below_put H5.out (by omega) _⟩
   | _=>exact h.elim
end Go.Proofs.YtlckdfoflimahaaGreatDoor.Sk
