/- Texts of one kind in one: LfBase, LfUse, LfSteps, LfCalls. -/
import Derived.Test.YtcklcmafohlflaaGreatDoorQA00
import Derived.StillTailTactics
set_option maxRecDepth 200000
set_option maxHeartbeats 8000000
namespace Go.Proofs.YtcklcmafohlflaaGreatDoor.Lf
open Zc
open Go.RowKit Go.Shelf
attribute [local go_sem] Oper.semAt_some
def Blk(W:World)(b:Nat)(t:TypeId)(c:Array Value):Prop:=W.heap[b]?=some (Obj.cells c t (0,0))
theorem Blk.lt{W:World}{b:Nat}{t:TypeId}{c:Array Value}(h:Blk W b t c):b<W.heap.size:=(Array.getElem?_eq_some_iff.1 h).1
theorem Blk.cell{W:World}{b:Nat}{t:TypeId}{c:Array Value}(o:Nat)(h:Blk W b t c):W.cell? ⟨b,o,none⟩=c[o]?:=by
 unfold Blk at h;simp [World.cell?,h]
theorem Blk.free{W:World}{b:Nat}{t:TypeId}{c:Array Value}(o:Nat)(h:Blk W b t c):W.frozen? ⟨b,o,none⟩=false:=by
 unfold Blk at h;simp [World.frozen?,h]
theorem Blk.below{W W':World}{b n:Nat}{t:TypeId}{c:Array Value}(h:Blk W b t c)(hb:Below n W W')(hn:b<n):Blk W' b t c:=(hb.block b hn).trans h
theorem Blk.later{W W':World}{b:Nat}{t:TypeId}{c:Array Value}(h:Blk W b t c)(hb:Bl W W'):Blk W' b t c:=h.below hb h.lt
theorem Blk.new(W:World)(t:TypeId)(c:Array Value):Blk (W.alloc (.cells c t)) W.heap.size t c:=Zv rfl
theorem Blk.alloc{W:World}{b:Nat}{t:TypeId}{c:Array Value}(h:Blk W b t c)(o:Obj):Blk (W.alloc o) b t c:=(Below.heap_alloc _ _ _ h.lt).trans h
theorem Z5{W:World}{b:Nat}{t:TypeId}{c0:Value}(h:Blk W b t #[c0]):W.cell? ⟨b,0,none⟩=some c0/\W.frozen? ⟨b,0,none⟩=false:=⟨h.cell 0,h.free 0⟩
theorem Za{W:World}{b:Nat}{t:TypeId}{c0 c1:Value}(h:Blk W b t #[c0,c1]):W.cell? ⟨b,0,none⟩=some c0/\W.cell? ⟨b,1,none⟩=some c1/\W.frozen? ⟨b,0,none⟩=false/\W.frozen? ⟨b,1,none⟩=false :=
 ⟨h.cell 0,h.cell 1,h.free 0,h.free 1⟩
theorem Z0(W:World)(o:Obj):Bl W (W.alloc o):=(Below.refl _ _).alloc (lAd _) _
theorem Blk.ext{w1:World}{b:Nat}{t:TypeId}{c:Array Value}(h:Blk w1 b t c)(o:Nat)(v:Value)(hv:c[o]?=some v):∀ x:Ext w1,x.w.cell? ⟨b,o,none⟩=some v:=fun x=>x.cell ((h.cell o).trans hv)
def I64(a:Int):Prop:=-9223372036854775808<=a/\a<=9223372036854775807
theorem Bm{k:IntKind}{a b:Int}(h:a=b):Ending.returned (.int k a)=.returned (.int k b):=by rw [h]
theorem J9{a b:Bool}(h:a=b):Ending.returned (.bool a)=.returned (.bool b):=by rw [h]
theorem V2{w w1:World}{o:Obj}(h:Below (w.alloc o).heap.size (w.alloc o) w1):Bl w w1:=((Below.refl _ _).alloc (lAd _) o).trans (h.mono (by simp))
abbrev Use:=Int × Int
def Q6(u:Use):Value:=.agg #[.int .i64 u.1,.int .i64 u.2]
def Uses(W:World)(a:Option Addr)(l:List Use):Prop :=
 ∀ (i:Nat) (h:i<l.length),∃ b off,a=some ⟨b,off,none⟩/\W.cell? ⟨b,off+i*2,none⟩=some (.int .i64 l[i].1)/\W.cell? ⟨b,off+i*2+1,none⟩=some (.int .i64 l[i].2)
theorem Uses.below{W W':World}{a:Option Addr}{l:List Use}(h:Uses W a l)(hb:Bl W W'):Uses W' a l:=fun i hi=>by
 obtain ⟨b,off,h1,h2,h3⟩:=h i hi;have hl:b<W.heap.size:=World.block_lt_of_cell? W ⟨b,_,none⟩ h2;exact ⟨b,off,h1,(hb.cell (p:=⟨b,_,none⟩) hl).trans h2,(hb.cell (p:=⟨b,_,none⟩) hl).trans h3⟩
def y0z : Field := { name := "Count", type := 3, offset := 0, embedded := false, tag := "", pkgPath := "", byteOffset := 0 }
def y0y : Field := { name := "At", type := 3, offset := 1, embedded := false, tag := "", pkgPath := "", byteOffset := 8 }
theorem y6p:Tryz.prog.underlying 48=some (.struct #[y0z,y0y]):=Tryz.underlying48
theorem z7f:Tryz.prog.fieldsOf 48=#[y0z,y0y]:=by unfold Program.fieldsOf;rw [y6p]
theorem v1k:Tryz.prog.stoodInHeld 48=false:=by kernel_rfl
theorem z4l:Tryz.prog.eqGuardType Tryz.prog.depth 48=false:=by kernel_rfl
def z2w(a b c d:Int):Bool:=a==c&&b==d
theorem v1g(c a c' a':Int)(w:World):(Op.equalIn 10000 48 (.agg #[.int .i64 c,.int .i64 a]) (.agg #[.int .i64 c',.int .i64 a'])).run Tryz.prog w=.ok (z2w c a c' a') w:=by
 rw [show (10000:Nat)=9998+1+1 from rfl,run_equalIn_struct w _ _ _ _ (by rw [z7f];exact y6p) v1k,z7f];have u3:=Tryz.underlying3;unfold z2w
 cases h:c==c' <;> cases h2:a==a' <;> simp_all [y0z,y0y,Op.eqFields,go_sem,part]
attribute [local go_sem high] v1g
attribute [local go_sem] z4l
def Kg(u:Use):Prop:=I64 u.1/\I64 u.2
def Zt(u:Use):Bool:=decide (0<=u.1/\u.1<=255/\0<=u.2)
def If(u:Use):Use:=(min (max u.1 0) 255,max u.2 0)
theorem x0t(u:Use):z2w u.1 u.2 (If u).1 (If u).2=Zt u:=by
 obtain ⟨c,a⟩:=u;rw [Bool.eq_iff_iff];unfold Zt If z2w;simp only [beq_iff_eq,decide_eq_true_eq,Bool.and_eq_true];omega
theorem y4p(u:Use)(h:Kg u)(w:World):Calls Tryz.prog 157 #[Q6 u] w fun e w'=>e=.returned (Q6 (If u))/\Bl w w':=by
 obtain ⟨c,a⟩:=u;obtain ⟨⟨h1,h2⟩,⟨h3,h4⟩⟩:=h;unfold Q6 If;simp only at *
 go_enter Tryz.func157,Tryz.ntmps157
 go_wp2
 all_goals
  refine bodyPost_ret (v:=.agg #[.int .i64 (min (max c 0) 255),.int .i64 (max a 0)]) ?_ rfl ⟨rfl,((Below.refl _ _).alloc (lAd _) _).alloc (by simp) _⟩;simp [results,Tryz.results157,go_sem] <;> omega
theorem Uq(u:Use)(h:Kg u)(w:World):Calls Tryz.prog 124 #[Q6 u] w fun e w'=>e=.returned (.bool (Zt u))/\Bl w w':=by
 have HW:=fun w=>jY (y4p u h w);have HE:=jY (x0t u);obtain ⟨c,a⟩:=u;generalize If (c,a)=v at *;obtain ⟨c',a'⟩:=v;unfold Q6 at *;simp only at HW ⊢;clear h
 go_enter Tryz.func124,Tryz.ntmps124
 have k0:=Blk.new w 48 #[.int .i64 c,.int .i64 a];have c0:=k0.ext 0 _ rfl;have c1:=k0.ext 1 _ rfl;have hne:=Ext.one (w.alloc (.cells #[.int .i64 c,.int .i64 a] 48));clear k0;go_wp2;refine Zd (by kernel_rfl) (by kernel_rfl) (Below.refl _ _) ?_
 repeat go_big_quiet_step ((go_at_call 157;exact Ext.call _ (HW _).out))
 refine wpQuiet_nil ?_;rintro _ ⟨x,rfl⟩;go_wp2;go_ret;exact ⟨J9 HE.out,((Below.refl _ _).alloc (lAd _) _).trans (x.ok.mono (by simp))⟩
theorem z5t(u:Use)(w:World):Calls Tryz.prog 147 #[Q6 u] w fun e w'=>e=.returned (.bool (Zt u))/\Bl w w':=by
 obtain ⟨c,a⟩:=u;have H1:c<0->Hid (false=Zt (c,a)):=fun h=>jY (by unfold Zt;simp;omega);have H2:255<c->Hid (false=Zt (c,a)):=fun h=>jY (by unfold Zt;simp;omega);have H3:0<=c->c<=255->Hid (decide (0<=a)=Zt (c,a)):=fun h h2=>jY (by unfold Zt;simp [h,h2]);generalize Zt (c,a)=r at *;unfold Q6;simp only
 go_enter Tryz.func147,Tryz.ntmps147
 go_wp2
 all_goals go_ret
 all_goals refine ⟨J9 ?_,(Below.refl _ _).alloc (lAd _) _⟩
 ·exact (H3 (by omega) (by omega)).out
 ·exact (H2 (by omega)).out
 ·exact (H1 (by omega)).out
def y4t(u:Use)(now:Int):Prop:=0<=u.1/\u.1<=255/\0<=u.2/\u.2<=now/\now<=9223372036854775807
def Mi(u:Use)(now:Int):Int:=max (u.1-(now-u.2)) 0
theorem y7s(u:Use)(now:Int)(h:y4t u now)(w:World):Calls Tryz.prog 146 #[Q6 u,.int .i64 now] w fun e w'=>e=.returned (Q6 (Mi u now,now))/\Bl w w':=by
 obtain ⟨c,a⟩:=u;obtain ⟨h1,h2,h3,h4,h5⟩:=h;unfold Q6 Mi;simp only at *
 go_enter Tryz.func146,Tryz.ntmps146
 go_wp2
 all_goals
  refine bodyPost_ret (v:=.agg #[.int .i64 (max (c-(now-a)) 0),.int .i64 now]) ?_ rfl ⟨rfl,((Below.refl _ _).alloc (lAd _) _).alloc (by simp) _⟩;simp [results,Tryz.results146,go_sem] <;> omega
def Qu(c:Int):Int:=10*max (c-5) 0+1
theorem y8c(c:Int)(h1:0<=c)(h2:c<=255)(w:World):Calls Tryz.prog 199 #[.int .i64 c] w fun e w'=>e=.returned (.int .u32 (Qu c))/\w=w':=by
 unfold Qu
 go_enter Tryz.func199,Tryz.ntmps199
 go_wp2
 all_goals go_ret
 all_goals refine ⟨Bm ?_,rfl⟩
 all_goals omega
end Go.Proofs.YtcklcmafohlflaaGreatDoor.Lf
namespace Go.Proofs.YtcklcmafohlflaaGreatDoor.Lf
open Zc
open Go.RowKit Go.Shelf
attribute [local go_sem] Oper.semAt_some
def Oe(c d:Int):Int:=if c=255 then 0 else if d % Qu c=0 then 1 else 0
theorem x3n(c:Int):1<=Qu c:=by unfold Qu;omega
theorem z9u(c d:Int):0<=Oe c d/\Oe c d<=1:=by unfold Oe;split <;> (try split) <;> omega
theorem M3(c d:Int)(h1:0<=c)(h2:c<=255)(h3:0<=d)(h4:d<=4294967295)(w:World):Calls Tryz.prog 173 #[.int .i64 c,.int .u32 d] w fun e w'=>e=.returned (.int .i64 (Oe c d))/\w=w':=by
 have HO:=fun w=>jY (y8c c h1 h2 w);have hm:=x3n c;have hm2:Qu c<=2501:=by unfold Qu;omega
 have g3:(0:Int)<=d % Qu c:=Int.emod_nonneg _ (by omega);have g4:d % Qu c<Qu c:=Int.emod_lt_of_pos _ (by omega)
 by_cases hc:c=255
 ·subst hc;have hs:Hid (Oe 255 d=0):=jY (by unfold Oe;rw [if_pos rfl])
  go_enter Tryz.func173,Tryz.ntmps173
  go_wp2_with fail;refine wp_scope_jumps 0 (fun a' w'=>w=w'/\a'={ tmps:=#[Value.int IntKind.i64 255,Value.int IntKind.u32 d,undef,undef,Value.int IntKind.i64 0,Value.int IntKind.i64 255,Value.bool true,undef,undef,undef,undef,undef],defers:=[] }) (fun _ _=>0) rfl ?_ ?_
  ·go_wp2
   go_step3
   exact ⟨rfl,rfl,rfl⟩
  ·rintro a' w' ⟨rfl,rfl⟩;go_wp2;simp only [Exit.jump];go_ret;exact ⟨Bm hs.out.symm,rfl⟩
 ·have hs:Oe c d=if d % Qu c=0 then 1 else 0:=by unfold Oe;rw [if_neg hc]
  have hcb:(c==255)=false:=by simpa using hc
  generalize Qu c=m at *;clear hc
  by_cases hd:d % m=0
  ·have hdb:(d % m==0)=true:=by simpa using hd
   rw [if_pos hd] at hs;have HS:=jY hs;clear hs hd
   go_enter Tryz.func173,Tryz.ntmps173
   go_wp2_with fail;refine wp_scope_straight ?_;go_wp2_with fail;refine (HO _).out.mono ?_;rintro e w1 ⟨rfl,rfl⟩;go_wp2;simp only [Exit.noGoto];go_ret;exact ⟨Bm HS.out.symm,rfl⟩
  ·have hdb:(d % m==0)=false:=by simpa using hd
   rw [if_neg hd] at hs;have HS:=jY hs;clear hs hd
   go_enter Tryz.func173,Tryz.ntmps173
   go_wp2_with fail;refine wp_scope_straight ?_;go_wp2_with fail;refine (HO _).out.mono ?_;rintro e w1 ⟨rfl,rfl⟩;go_wp2_with fail;refine wp_label ?_;go_wp2;simp only [Exit.noGoto];go_ret;exact ⟨Bm HS.out.symm,rfl⟩
theorem x6u(c a d:Int)(h1:0<=c)(h2:c<=255)(h3:0<=d)(h4:d<=4294967295)(w:World):Calls Tryz.prog 145 #[Q6 (c,a),.int .u32 d] w fun e w'=>e=.returned (Q6 (c+Oe c d,a))/\Bl w w':=by
 have HO:=fun w=>jY (M3 c d h1 h2 h3 h4 w);obtain ⟨hs1,hs2⟩:=z9u c d;generalize Oe c d=k at *;unfold Q6;simp only
 go_enter Tryz.func145,Tryz.ntmps145
 have hw:IntKind.i64.wrap (c+k)=c+k:=IntWalk.i64_in _ (by omega);go_wp2_with fail
 go_region_with ((go_at_call 173;refine (HO _).out.mono ?_;rintro e w' ⟨rfl,rfl⟩))
 all_goals
  go_wp2;refine bodyPost_ret (v:=.agg #[.int .i64 (c+k),.int .i64 a]) (by simp [results,Tryz.results145,go_sem]) rfl ⟨rfl,?_⟩;exact (((Below.refl _ _).alloc (lAd _) _).alloc (by simp) _).drew
def Qi(u:Use)(now:Int):Bool:=!Zt u || decide (now<u.2)
theorem x0v(u:Use)(h:Kg u)(now:Int)(b:Nat)(w:World)(hB:Blk w b 3 #[.int .i64 now]):Calls Tryz.prog 172 #[Q6 u,.pointer (some ⟨b,0,none⟩)] w fun e w'=>e=.returned (.bool (Qi u now))/\Bl w w':=by
 have HR:=fun w=>jY (Uq u h w);have HW:=jY (show Qi u now=(!Zt u || decide (now<u.2)) from rfl);obtain ⟨c,a⟩:=u;generalize Zt (c,a)=r at *;generalize Qi (c,a) now=v at *;unfold Q6 at *;simp only at HR HW ⊢;have k0:=hB.alloc (.cells #[.int .i64 c,.int .i64 a] 48);have k1:=Blk.new w 48 #[.int .i64 c,.int .i64 a];have K0:=jY k0;have K1:=jY k1;clear hB k0 k1 h
 go_enter Tryz.func172,Tryz.ntmps172
 cases r with
 | true =>
   go_wp2_with fail;refine (HR _).out.mono ?_;rintro e w1 ⟨rfl,hb⟩;obtain ⟨a0,_⟩:=Z5 (K0.out.later hb);obtain ⟨_,b1,_,_⟩:=Za (K1.out.later hb);have HB:=jY hb;clear hb;go_wp2;go_ret;exact ⟨J9 (by rw [HW.out];simp),V2 HB.out⟩
 | false =>
   go_wp2_with fail;refine (HR _).out.mono ?_;rintro e w1 ⟨rfl,hb⟩;have HB:=jY hb;clear hb;go_wp2;go_ret;exact ⟨J9 (by rw [HW.out];simp),V2 HB.out⟩
def z6k(l:List Use)(now:Int):Bool:=l.any (fun u=>Qi u now)
theorem y6t{l:List Use}{now:Int}{k:Nat}(h:∀ (j:Nat) (hj:j<l.length),j<k->Qi l[j] now=false)(hk:l.length<=k):z6k l now=false:=by
 unfold z6k;rw [List.any_eq_false];intro u hu;obtain ⟨j,hj,rfl⟩:=List.mem_iff_getElem.1 hu;rw [h j hj (by omega)]
 decide
theorem Dh(a:Option Addr)(cap:Nat)(l:List Use)(hl:∀ u∈l,Kg u)(hz:l.length<=9223372036854775807)(now:Int)(b:Nat)(w:World)(hU:Uses w a l)(hB:Blk w b 3 #[.int .i64 now]) :
 Calls Tryz.prog 198 #[.slice a l.length cap,.func (.func 172) #[] #[.pointer (some ⟨b,0,none⟩)]] w fun e w'=>∃ i:Int,e=.returned (.int .i64 i)/\decide (i >= 0)=z6k l now/\Bl w w':=by
 have HU:=jY hU;have HB:=jY hB;have HL:=jY hl;clear hU hB hl
 go_enter Tryz.func198,Tryz.ntmps198
 go_wp2
 go_loopw [8] (fun i wr=>∃ (k:Nat),i=.int .i64 k/\k<=l.length/\Bl w wr/\Hid (∀ (j:Nat) (hj:j<l.length),j<k->Qi l[j] now=false)) (fun i _=>l.length-(intOf i).toNat)
 case atStart=>exact ⟨0,rfl,by omega,Below.refl _ _,jY fun j hj h=>by omega⟩
 case round =>
  obtain ⟨k,rfl,hk,hb,hall⟩:=hrel
  by_cases hlt:k<l.length
  ·obtain ⟨b2,off,rfl,c0,c1⟩:=(HU.out.below hb) k hlt;have HW:=jY (x0v l[k] (HL.out _ (List.getElem_mem hlt)) now b wr (HB.out.later hb))
   have HK:=fun h:Qi l[k] now=false=>jY (show ∀ (j:Nat) (hj:j<l.length),j<k+1->Qi l[j] now=false from fun j hj h2=>by
    by_cases e:j=k
    ·subst e;exact h
    ·exact hall.out j hj (by omega))
   have HT:=fun h:Qi l[k] now=true=>jY (show z6k l now=true from List.any_eq_true.2 ⟨_,List.getElem_mem hlt,h⟩);have hk2:(k:Int)<l.length:=by omega
   have HBB:=jY hb;generalize l[k]=u at *;obtain ⟨c,a⟩:=u;unfold Q6 at HW;simp only at c0 c1 HW;clear hall hb
   cases hv:Qi (c,a) now with
   | true =>
     have ht:=HT hv;rw [hv] at HW;clear HK HT hv;go_wp2_with fail;refine HW.out.mono ?_;rintro e w1 ⟨rfl,hb1⟩;have HB1:=jY hb1;clear hb1;go_wp2;go_ret;exact ⟨_,rfl,by rw [ht.out];simp,HBB.out.trans (HB1.out.mono HBB.out.size)⟩
   | false =>
     have hf:=HK hv;rw [hv] at HW;clear HK HT hv;go_wp2_with fail;refine HW.out.mono ?_;rintro e w1 ⟨rfl,hb1⟩;have HB1:=jY hb1;clear hb1;go_wp2
     go_roundw
     case rel=>exact ⟨k+1,by go_num,by omega,HBB.out.trans (HB1.out.mono HBB.out.size),hf⟩
     case measure=>simp [intOf];omega
  ·obtain rfl:k=l.length:=by omega
   have hn:=y6t hall.out (lAd _);have HN:=jY hn;have HBB:=jY hb;clear hn hall hb;go_wp2;go_ret;exact ⟨_,rfl,by rw [HN.out];decide,HBB.out⟩
theorem z3s(a:Option Addr)(cap:Nat)(l:List Use)(hl:∀ u∈l,Kg u)(hz:l.length<=9223372036854775807)(now:Int)(b:Nat)(w:World)(hU:Uses w a l)(hB:Blk w b 3 #[.int .i64 now]) :
 Calls Tryz.prog 171 #[.slice a l.length cap,.func (.func 172) #[] #[.pointer (some ⟨b,0,none⟩)]] w fun e w'=>e=.returned (.bool (z6k l now))/\Bl w w':=by
 have H1:=jY (Dh a cap l hl hz now b w hU hB);clear hl hz hU hB
 go_enter Tryz.func171,Tryz.ntmps171
 go_wp2_with fail;refine H1.out.mono ?_;rintro e w1 ⟨i,rfl,hi,hb⟩;have HB:=jY hb;have HI:=jY hi;clear hb hi;go_wp2;go_ret;exact ⟨J9 (by rw [<- HI.out]),HB.out⟩
theorem y7q(a:Option Addr)(cap:Nat)(l:List Use)(hl:∀ u∈l,Kg u)(hz:l.length<=9223372036854775807)(now:Int)(w:World)(hU:Uses w a l) :
 Calls Tryz.prog 144 #[.int .i64 now,.slice a l.length cap] w fun e w'=>e=.returned (.bool (!z6k l now))/\Bl w w':=by
 have H1:=jY (z3s a cap l hl hz now w.heap.size (w.alloc (.cells #[.int .i64 now] 3)) (hU.below (Z0 _ _)) (Blk.new _ _ _));clear hl hU
 go_enter Tryz.func144,Tryz.ntmps144
 go_wp2_with fail;refine H1.out.mono ?_;rintro e w1 ⟨rfl,hb⟩;have HB:=jY hb;clear hb;go_wp2;go_ret;exact ⟨rfl,V2 HB.out⟩
end Go.Proofs.YtcklcmafohlflaaGreatDoor.Lf
namespace Go.Proofs.YtcklcmafohlflaaGreatDoor.Lf
open Zc
open Go.RowKit Go.Shelf
attribute [local go_sem] Oper.semAt_some
attribute [local go_sem high] v1g
attribute [local go_sem] z4l
theorem v1i(n m:Int)(w:World):(Instr.field 48 (.agg #[.int .i64 n,.int .i64 m]) 0).run Tryz.prog w=.ok (.int .i64 n) w:=by kernel_rfl
attribute [local go_sem] v1i
def okB(u:Use)(now:Int):Bool:=!Qi u now
theorem F6{u:Use}{now:Int}(h:okB u now=true)(hn:I64 now):y4t u now:=by
 unfold okB Qi Zt at h;simp at h;obtain ⟨_,_⟩:=hn;unfold y4t;omega
theorem y0u{u:Use}{now:Int}(h:y4t u now):0<=Mi u now/\Mi u now<=255:=by
 obtain ⟨_,_,_,_,_⟩:=h;unfold Mi;omega
def v1a(u:Use)(now:Int):Int:=if okB u now then Mi u now else 0
def Ou(u:Use)(now:Int):Int:=if okB u now then 0 else 130
def O4(u:Use)(now d:Int):Int:=if okB u now then Mi u now+Oe (Mi u now) d else 0
def O3(u:Use)(now:Int):Int:=if okB u now then now else 0
theorem y7r(u:Use)(h:Kg u)(now:Int)(b:Nat)(w:World)(hB:Blk w b 48 #[.int .i64 u.1,.int .i64 u.2]) :
 Calls Tryz.prog 144 #[.int .i64 now,.slice (some ⟨b,0,none⟩) 1 1] w fun e w'=>e=.returned (.bool (okB u now))/\Bl w w':=by
 have:=y7q (some ⟨b,0,none⟩) 1 [u] (fun v hv=>by rw [lAg.1 hv];exact h) (by simp) now w (fun i hi=>by
  obtain rfl:i=0:=by simpa using hi
  exact ⟨b,0,rfl,hB.cell 0,hB.cell 1⟩)
 have he:(!z6k [u] now)=okB u now:=by simp [z6k,okB]
 rw [he] at this;exact this
theorem Blk.new1(w:World)(o:Obj)(t:TypeId)(c:Array Value):Blk ((w.alloc o).alloc (.cells c t)) (w.heap.size+1) t c:=by
 have:=Blk.new (w.alloc o) t c
 rwa [World.size_alloc] at this
theorem Blk.new2(w:World)(o o2:Obj)(t:TypeId)(c:Array Value):Blk (((w.alloc o).alloc o2).alloc (.cells c t)) (w.heap.size+2) t c:=by
 have:=Blk.new ((w.alloc o).alloc o2) t c
 rwa [World.size_alloc,World.size_alloc] at this
theorem v2v{a b e:Int}(h:a=b):Ending.returned (.tuple #[.int .i64 a,.int .i64 e])=.returned (.tuple #[.int .i64 b,.int .i64 e]):=by rw [h]
theorem v0h:I64 5:=⟨by decide,by decide⟩
theorem Uv(now:Int)(h:I64 now)(w:World):Calls Tryz.prog 81 #[.int .i64 now] w fun e w'=>e=.returned (.tuple #[.agg #[.int .i64 (if 0<=now then 5 else 0),.int .i64 (if 0<=now then now else 0)],.int .i64 (if 0<=now then 0 else 130)])/\Bl w w':=by
 have HR:=fun w=>jY (Uq (5,now) ⟨v0h,h⟩ w);unfold Q6 at HR;simp only at HR;have K1:=jY (Blk.new1 w (.cells #[.int .i64 0,.int .i64 0] 48) 48 #[.int .i64 5,.int .i64 now]);have K0:=jY ((Blk.new w 48 #[.int .i64 0,.int .i64 0]).alloc (.cells #[.int .i64 5,.int .i64 now] 48))
 by_cases hn:0<=now
 ·rw [show Zt (5,now)=true by unfold Zt;simp [hn]] at HR;simp only [if_pos hn];clear hn
  go_enter Tryz.func81,Tryz.ntmps81
  go_wp2_with fail;refine (HR _).out.mono ?_;rintro e w1 ⟨rfl,hb⟩;obtain ⟨a0,a1,_,_⟩:=Za (K1.out.later hb);obtain ⟨b0,b1,b2,b3⟩:=Za (K0.out.later hb);have HB:=jY hb;clear hb;go_wp2;refine bodyPost_ret (v:=.tuple #[.agg #[.int .i64 5,.int .i64 now],.int .i64 0]) (by simp [results,Tryz.results81,go_sem,b0,b1]) rfl ⟨rfl,?_⟩;exact ((V2 (V2 HB.out)).setCell (lAd _) _).setCell (lAd _) _
 ·rw [show Zt (5,now)=false by unfold Zt;simp;omega] at HR;simp only [if_neg hn];clear hn
  go_enter Tryz.func81,Tryz.ntmps81
  go_wp2_with fail;refine (HR _).out.mono ?_;rintro e w1 ⟨rfl,hb⟩;obtain ⟨b0,b1,b2,b3⟩:=Za (K0.out.later hb);have HB:=jY hb;clear hb;go_wp2;refine bodyPost_ret (v:=.tuple #[.agg #[.int .i64 0,.int .i64 0],.int .i64 130]) (by simp [results,Tryz.results81,go_sem,b0,b1]) rfl ⟨rfl,?_⟩;exact ((V2 (V2 HB.out)).setCell (lAd _) _).setCell (lAd _) _
theorem y3g(now:Int)(w:World):Calls Tryz.prog 57 #[.int .i64 now] w fun e w'=>e=.returned (.tuple #[.agg #[.int .i64 (if 0<=now then 5 else 0),.int .i64 (if 0<=now then now else 0)],.int .i64 (if 0<=now then 0 else 130)])/\Bl w w':=by
 by_cases hn:0<=now
 ·have hn2:¬ now<0:=by omega
  simp only [if_pos hn]
  go_enter Tryz.func57,Tryz.ntmps57
  go_wp2;refine bodyPost_ret (v:=.tuple #[.agg #[.int .i64 5,.int .i64 now],.int .i64 0]) (by simp [results,Tryz.results57,go_sem]) rfl ⟨rfl,(Below.refl _ _).alloc (lAd _) _⟩
 ·have hn2:now<0:=by omega
  simp only [if_neg hn]
  go_enter Tryz.func57,Tryz.ntmps57
  go_wp2;refine bodyPost_ret (v:=.tuple #[.agg #[.int .i64 0,.int .i64 0],.int .i64 130]) (by simp [results,Tryz.results57,go_sem]) rfl ⟨rfl,(Below.refl _ _).alloc (lAd _) _⟩
theorem z5s(u:Use)(now:Int)(hn:I64 now)(w:World):Calls Tryz.prog 97 #[Q6 u,.int .i64 now] w fun e w'=>e=.returned (.tuple #[.int .i64 (v1a u now),.int .i64 (Ou u now)])/\Bl w w':=by
 have HR:=fun w=>jY (z5t u w);have K0:=jY (Blk.new w 48 #[.int .i64 u.1,.int .i64 u.2]);unfold v1a Ou
 cases hok:okB u now with
 | true =>
   obtain ⟨k1,k2,k3,k4,k5⟩:=F6 hok hn;rw [show Zt u=true by unfold Zt;simp [k1,k2,k3]] at HR;have HC:=jY (show Mi u now=max (u.1-(now-u.2)) 0 from rfl);generalize Mi u now=n at *;clear hok;obtain ⟨c,a⟩:=u;unfold Q6 at *;simp only [if_true] at *;have k6:¬ now<a:=by omega
   go_enter Tryz.func97,Tryz.ntmps97
   go_wp2_with fail;refine (HR _).out.mono ?_;rintro e w1 ⟨rfl,hb⟩;obtain ⟨a0,a1,_,_⟩:=Za (K0.out.later hb);have HB:=jY hb;clear hb;go_wp2
   all_goals go_ret2
   all_goals refine ⟨?_,V2 HB.out⟩
   all_goals rw [HC.out]
   all_goals exact v2v (by omega)
 | false =>
   simp only [Bool.false_eq_true,if_false]
   have hno:Zt u=false\/(Zt u=true/\now<u.2):=by
    unfold okB Qi at hok
    cases hr:Zt u <;> simp [hr] at hok ⊢
    exact hok
   clear hok;obtain ⟨c,a⟩:=u;unfold Q6 at *;simp only at *;rcases hno with hr|⟨hr,hlt⟩
   ·rw [hr] at HR;clear hr
    go_enter Tryz.func97,Tryz.ntmps97
    go_wp2_with fail;refine (HR _).out.mono ?_;rintro e w1 ⟨rfl,hb⟩;have HB:=jY hb;clear hb;go_wp2;go_ret2;exact ⟨rfl,V2 HB.out⟩
   ·rw [hr] at HR;clear hr
    go_enter Tryz.func97,Tryz.ntmps97
    go_wp2_with fail;refine (HR _).out.mono ?_;rintro e w1 ⟨rfl,hb⟩;obtain ⟨a0,a1,_,_⟩:=Za (K0.out.later hb);have HB:=jY hb;clear hb;go_wp2;go_ret2;exact ⟨rfl,V2 HB.out⟩
def Gl(u:Use)(now d:Int):Value:=.tuple #[.agg #[.int .i64 (O4 u now d),.int .i64 (O3 u now)],.int .i64 (Ou u now)]
theorem x0i(u:Use)(h:Kg u)(now d:Int)(hn:I64 now)(hd1:0<=d)(hd2:d<=4294967295)(w:World):Calls Tryz.prog 96 #[Q6 u,.int .i64 now,.int .u32 d] w fun e w'=>e=.returned (Gl u now d)/\Bl w w':=by
 have HK:=fun b w hB=>jY (y7r u h now b w hB);have HL:=fun h w=>jY (y7s u now h w);have HN:=fun h=>F6 (u:=u) h hn;have K0:=jY (((Blk.new w 48 #[.int .i64 u.1,.int .i64 u.2]).alloc (.cells #[.int .i64 0,.int .i64 0] 48)).alloc (.cells #[.int .i64 u.1,.int .i64 u.2] 48));have K1:=jY ((Blk.new1 w (.cells #[.int .i64 u.1,.int .i64 u.2] 48) 48 #[.int .i64 0,.int .i64 0]).alloc (.cells #[.int .i64 u.1,.int .i64 u.2] 48));have K2:=jY (Blk.new2 w (.cells #[.int .i64 u.1,.int .i64 u.2] 48) (.cells #[.int .i64 0,.int .i64 0] 48) 48 #[.int .i64 u.1,.int .i64 u.2]);unfold Gl O4 O3 Ou
 cases hok:okB u now with
 | true =>
   have hk:=HN hok;have HL2:=HL hk;rw [hok] at HK;obtain ⟨c1,c2⟩:=y0u hk;have HU:=fun a w=>jY (x6u (Mi u now) a d c1 c2 hd1 hd2 w);generalize Oe (Mi u now) d=k at *;generalize Mi u now=n at *;clear HL HN hok hk;obtain ⟨c,a⟩:=u;unfold Q6 at *;simp only [if_true] at *
   go_enter Tryz.func96,Tryz.ntmps96
   go_wp2_with fail;refine (HK _ _ K2.out).out.mono ?_;rintro e w1 ⟨rfl,hb⟩;have B1:=jY (V2 (V2 (V2 hb)));have k0:=K0.out.later hb;have k1:=K1.out.later hb;obtain ⟨a0,a1,_,_⟩:=Za k0;have K0':=jY k0;have K1':=jY k1;clear hb k0 k1 K0 K1 K2;go_wp2_with fail;refine (HL2 _).out.mono ?_;rintro e w2 ⟨rfl,hb⟩;have B2:=jY (B1.out.trans (hb.mono B1.out.size));have K1'':=jY (K1'.out.later hb);clear hb a0 a1 K0' K1' B1;go_wp2_with fail;refine (HU _ _).out.mono ?_;rintro e w3 ⟨rfl,hb⟩;have B3:=jY (B2.out.trans (hb.mono B2.out.size));obtain ⟨b0,b1,b2,b3⟩:=Za (K1''.out.later hb);clear hb K1'' B2;go_wp2;refine bodyPost_ret (v:=.tuple #[.agg #[.int .i64 (n+k),.int .i64 now],.int .i64 0]) (by simp [results,Tryz.results96,go_sem,b0,b1]) rfl ⟨rfl,?_⟩;exact (B3.out.setCell (by simp) _).setCell (by simp) _
 | false =>
   rw [hok] at HK;clear HL HN hok;obtain ⟨c,a⟩:=u;unfold Q6 at *;simp only [Bool.false_eq_true,if_false] at *
   go_enter Tryz.func96,Tryz.ntmps96
   go_wp2_with fail;refine (HK _ _ K2.out).out.mono ?_;rintro e w1 ⟨rfl,hb⟩;have B1:=jY (V2 (V2 (V2 hb)));obtain ⟨b0,b1,b2,b3⟩:=Za (K1.out.later hb);clear hb K0 K1 K2;go_wp2;refine bodyPost_ret (v:=.tuple #[.agg #[.int .i64 0,.int .i64 0],.int .i64 130]) (by simp [results,Tryz.results96,go_sem,b0,b1]) rfl ⟨rfl,?_⟩;exact (B1.out.setCell (by simp) _).setCell (by simp) _
theorem z5u(u:Use)(now d:Int)(hn:I64 now)(hd1:0<=d)(hd2:d<=4294967295)(w:World):Calls Tryz.prog 69 #[Q6 u,.int .i64 now,.int .u32 d] w fun e w'=>e=.returned (Gl u now d)/\Bl w w':=by
 have HC:=fun w=>jY (z5s u now hn w);have K0:=jY (((Blk.new w 48 #[.int .i64 u.1,.int .i64 u.2]).alloc (.cells #[.int .i64 0,.int .i64 0] 48)));have K1:=jY (Blk.new1 w (.cells #[.int .i64 u.1,.int .i64 u.2] 48) 48 #[.int .i64 0,.int .i64 0]);unfold v1a Ou at HC;unfold Gl O4 O3 Ou
 cases hok:okB u now with
 | true =>
   obtain ⟨c1,c2⟩:=y0u (F6 hok hn);rw [hok] at HC;have HS:Oe (Mi u now) d=if Mi u now=255 then 0 else if d % Qu (Mi u now)=0 then 1 else 0:=rfl;generalize Oe (Mi u now) d=k at *;generalize Mi u now=n at *;clear hok;obtain ⟨c,a⟩:=u;unfold Q6 at *;simp only [if_true] at *
   go_enter Tryz.func69,Tryz.ntmps69
   go_wp2_with fail;refine (HC _).out.mono ?_;rintro e w1 ⟨rfl,hb⟩;have B1:=jY (V2 (V2 hb));obtain ⟨a0,a1,_,_⟩:=Za (K0.out.later hb);obtain ⟨b0,b1,b2,b3⟩:=Za (K1.out.later hb);clear hb K0 K1;have fin:∀ m w',m=n+k->Bl w w'->Hid (Ending.returned (.tuple #[.agg #[.int .i64 m,.int .i64 now],.int .i64 0])=.returned (.tuple #[.agg #[.int .i64 (n+k),.int .i64 now],.int .i64 0])/\Bl w w'):=fun m w' e hb=>jY ⟨by rw [e],hb⟩
   by_cases h255:n=255
   ·rw [if_pos h255] at HS;subst h255;have FIN:=jY (fun w' hb=>fin 255 w' (by omega) hb);clear fin HS;go_wp2;refine bodyPost_ret (v:=.tuple #[.agg #[.int .i64 255,.int .i64 now],.int .i64 0]) (by simp [results,Tryz.results69,go_sem,b0,b1]) rfl ((FIN.out _ ?_).out);exact (B1.out.setCell (by simp) _).setCell (by simp) _
   ·rw [if_neg h255] at HS;have hlt:n<255:=by omega
    by_cases h5:n<=5
    ·have h5':¬ 5<n:=by omega
     rw [show Qu n=1 by unfold Qu;omega] at HS;simp at HS;have FIN:=jY (fun w' hb=>fin (n+1) w' (by omega) hb);clear fin HS;go_wp2;refine bodyPost_ret (v:=.tuple #[.agg #[.int .i64 (n+1),.int .i64 now],.int .i64 0]) (by simp [results,Tryz.results69,go_sem,b0,b1]) rfl ((FIN.out _ ?_).out);exact (B1.out.setCell (by simp) _).setCell (by simp) _
    ·rw [show Qu n=10*(n-5)+1 by unfold Qu;omega] at HS;have g1:5<n:=by omega
     clear h5
     by_cases hd:d % (10*(n-5)+1)=0
     ·rw [if_pos hd] at HS;have hdb:(d % (10*(n-5)+1)==0)=true:=by simpa using hd
      have FIN:=jY (fun w' hb=>fin (n+1) w' (by omega) hb);clear fin HS hd;go_wp2;refine bodyPost_ret (v:=.tuple #[.agg #[.int .i64 (n+1),.int .i64 now],.int .i64 0]) (by simp [results,Tryz.results69,go_sem,b0,b1]) rfl ((FIN.out _ ?_).out);exact (B1.out.setCell (by simp) _).setCell (by simp) _
     ·rw [if_neg hd] at HS;have hdb:(d % (10*(n-5)+1)==0)=false:=by simpa using hd
      have FIN:=jY (fun w' hb=>fin n w' (by omega) hb);clear fin HS hd;go_wp2;refine bodyPost_ret (v:=.tuple #[.agg #[.int .i64 n,.int .i64 now],.int .i64 0]) (by simp [results,Tryz.results69,go_sem,b0,b1]) rfl ((FIN.out _ ?_).out);exact (B1.out.setCell (by simp) _).setCell (by simp) _
 | false =>
   rw [hok] at HC;clear hok;obtain ⟨c,a⟩:=u;unfold Q6 at *;simp only [Bool.false_eq_true,if_false] at *
   go_enter Tryz.func69,Tryz.ntmps69
   go_wp2_with fail;refine (HC _).out.mono ?_;rintro e w1 ⟨rfl,hb⟩;have B1:=jY (V2 (V2 hb));obtain ⟨b0,b1,b2,b3⟩:=Za (K1.out.later hb);clear hb K0 K1;go_wp2;refine bodyPost_ret (v:=.tuple #[.agg #[.int .i64 0,.int .i64 0],.int .i64 130]) (by simp [results,Tryz.results69,go_sem,b0,b1]) rfl ⟨rfl,?_⟩;exact (B1.out.setCell (by simp) _).setCell (by simp) _
end Go.Proofs.YtcklcmafohlflaaGreatDoor.Lf
