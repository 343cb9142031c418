/- Texts of one kind in one: LfBase, LfUse, LfSteps, LfCalls. -/
import Derived.Test.YtlckdfoflimahaaGreatDoorRows
import Derived.RangeFuncNested
import Derived.RangeFuncBound
import Derived.RangeFuncCalls
import Derived.RangeFuncLeaves
import Derived.RangeFuncFrom
import Derived.Shelf.Abstract
import Derived.Shelf.RegionOpen
import Derived.WalkKit
import Derived.WalkSpells
import Derived.WalkLawsBesides
import Derived.OwnWalkIn
import Derived.TacticsInMore
import Derived.LoopNIn
import Derived.LoopIn
import Derived.Lib.Hide
import Derived.Deep.RegionWith
import Derived.Deep.QuietTactic
import Derived.BigQuiet
import Derived.BigRegion
import Derived.WalkSmall
import Derived.Handy
import Derived.WalkMore
import Derived.IntWalk
import Derived.Laws.StructEq
import Derived.ScopeJumps
import Derived.StillTailTactics
set_option maxRecDepth 200000
set_option maxHeartbeats 8000000
namespace Go.Proofs.YtlckdfoflimahaaGreatDoor.Lf
open Go.RowKit Go.Shelf
attribute [local go_sem] Oper.semAt_some
theorem heap_at{w:World}{o:Obj}{k:Nat}(h:k=w.heap.size):(w.alloc o).heap[k]?=some o:=by subst h;exact heap_alloc_new w o
def Blk(W:World)(b:Nat)(t:TypeId)(c:Array Value):Prop:=W.heap[b]?=some (Obj.cells c t (0,0))
theorem Blk.lt{W:World}{b:Nat}{t:TypeId}{c:Array Value}(h:Blk W b t c):b<W.heap.size:=(Array.getElem?_eq_some_iff.1 h).1
theorem Blk.cell{W:World}{b:Nat}{t:TypeId}{c:Array Value}(o:Nat)(h:Blk W b t c):W.cell? ⟨b,o,none⟩=c[o]?:=by
 unfold Blk at h;simp [World.cell?,h]
theorem Blk.free{W:World}{b:Nat}{t:TypeId}{c:Array Value}(o:Nat)(h:Blk W b t c):W.frozen? ⟨b,o,none⟩=false:=by
 unfold Blk at h;simp [World.frozen?,h]
theorem Blk.below{W W':World}{b n:Nat}{t:TypeId}{c:Array Value}(h:Blk W b t c)(hb:Below n W W')(hn:b<n):Blk W' b t c:=(hb.block b hn).trans h
theorem Blk.later{W W':World}{b:Nat}{t:TypeId}{c:Array Value}(h:Blk W b t c)(hb:Below W.heap.size W W'):Blk W' b t c:=h.below hb h.lt
theorem Blk.new(W:World)(t:TypeId)(c:Array Value):Blk (W.alloc (.cells c t)) W.heap.size t c:=heap_at rfl
theorem Blk.alloc{W:World}{b:Nat}{t:TypeId}{c:Array Value}(h:Blk W b t c)(o:Obj):Blk (W.alloc o) b t c:=(Below.heap_alloc _ _ _ h.lt).trans h
theorem facts1{W:World}{b:Nat}{t:TypeId}{c0:Value}(h:Blk W b t #[c0]):W.cell? ⟨b,0,none⟩=some c0∧W.frozen? ⟨b,0,none⟩=false:=⟨h.cell 0,h.free 0⟩
theorem facts2{W:World}{b:Nat}{t:TypeId}{c0 c1:Value}(h:Blk W b t #[c0,c1]):W.cell? ⟨b,0,none⟩=some c0∧W.cell? ⟨b,1,none⟩=some c1∧W.frozen? ⟨b,0,none⟩=false∧W.frozen? ⟨b,1,none⟩=false :=
 ⟨h.cell 0,h.cell 1,h.free 0,h.free 1⟩
theorem alloc_below(W:World)(o:Obj):Below W.heap.size W (W.alloc o):=(Below.refl _ _).alloc (Nat.le_refl _) _
structure Ext (w1:World) where
 w:World
 ok:Below w1.heap.size w1 w
theorem Ext.cell{w1:World}(x:Ext w1){b o:Nat}{v:Value}(h:w1.cell? ⟨b,o,none⟩=some v):x.w.cell? ⟨b,o,none⟩=some v :=
 (x.ok.cell (p:=⟨b,o,none⟩) (World.block_lt_of_cell? w1 ⟨b,o,none⟩ h)).trans h
theorem Ext.one(w1:World):Nonempty (Ext w1):=⟨⟨w1,Below.refl _ _⟩⟩
theorem region_ext{P:Program}{id:Nat}{Q:Exit→Act→World→Prop}{a:Act}{w1 w:World}{l:List Oper}(hm:P.follows .mixedOrders=true)(hB:Region.lexB .any l.toArray=true)(hw:Below w1.heap.size w1 w)
   (h:wpQuiet P l.toArray (fun W=>∃ x:Ext w1,W=x.w) (fun a'=>∀ w',(∃ x:Ext w1,w'=x.w)→Q .normal a' w') l a):(Code.region id l.toArray true).wp P Q a w:=by
 exact wp_region_quiet (C:=fun W=>∃ x:Ext w1,W=x.w) hm hB ⟨⟨w.drew,hw.drew⟩,rfl⟩ h
theorem Ext.call{P:Program}{f:FuncId}{args:Array Value}{w1:World}(x:Ext w1){v:Value}(h:Calls P f args x.w fun e w'=>e=.returned v∧Below x.w.heap.size x.w w') :
   Calls P f args x.w fun e w''=>e=.returned v∧∃ y:Ext w1,w''=y.w :=
 h.mono fun _ w' ⟨he,hb⟩=>⟨he,⟨w',x.ok.trans (hb.mono x.ok.size)⟩,rfl⟩
theorem Blk.ext{w1:World}{b:Nat}{t:TypeId}{c:Array Value}(h:Blk w1 b t c)(o:Nat)(v:Value)(hv:c[o]?=some v):∀ x:Ext w1,x.w.cell? ⟨b,o,none⟩=some v:=fun x=>x.cell ((h.cell o).trans hv)
def I64(a:Int):Prop:=-9223372036854775808≤a∧a≤9223372036854775807
theorem ret_int{k:IntKind}{a b:Int}(h:a=b):Ending.returned (.int k a)=.returned (.int k b):=by rw [h]
theorem ret_bool{a b:Bool}(h:a=b):Ending.returned (.bool a)=.returned (.bool b):=by rw [h]
theorem below2{w w1:World}{o:Obj}(h:Below (w.alloc o).heap.size (w.alloc o) w1):Below w.heap.size w w1:=((Below.refl _ _).alloc (Nat.le_refl _) o).trans (h.mono (by simp))
abbrev Use:=Int × Int
def valU(u:Use):Value:=.agg #[.int .i64 u.1,.int .i64 u.2]
def Uses(W:World)(a:Option Addr)(l:List Use):Prop :=
 ∀ (i:Nat) (h:i<l.length),∃ b off,a=some ⟨b,off,none⟩∧W.cell? ⟨b,off+i*2,none⟩=some (.int .i64 l[i].1)∧W.cell? ⟨b,off+i*2+1,none⟩=some (.int .i64 l[i].2)
theorem Uses.below{W W':World}{a:Option Addr}{l:List Use}(h:Uses W a l)(hb:Below W.heap.size W W'):Uses W' a l:=fun i hi=>by
 obtain ⟨b,off,h1,h2,h3⟩:=h i hi
 have hl:b<W.heap.size:=World.block_lt_of_cell? W ⟨b,_,none⟩ h2
 exact ⟨b,off,h1,(hb.cell (p:=⟨b,_,none⟩) hl).trans h2,(hb.cell (p:=⟨b,_,none⟩) hl).trans h3⟩
def fieldC : Field := { name := "Count", type := 3, offset := 0, embedded := false, tag := "", pkgPath := "", byteOffset := 0 }
def fieldA : Field := { name := "At", type := 3, offset := 1, embedded := false, tag := "", pkgPath := "", byteOffset := 8 }
theorem under23:Tryz.prog.underlying 48=some (.struct #[fieldC,fieldA]):=Tryz.underlying48
theorem fields23:Tryz.prog.fieldsOf 48=#[fieldC,fieldA]:=by unfold Program.fieldsOf;rw [under23]
theorem held23:Tryz.prog.stoodInHeld 48=false:=by kernel_rfl
theorem guard23:Tryz.prog.eqGuardType Tryz.prog.depth 48=false:=by kernel_rfl
def sameU(a b c d:Int):Bool:=a==c&&b==d
theorem eq23(c a c' a':Int)(w:World):(Op.equalIn 10000 48 (.agg #[.int .i64 c,.int .i64 a]) (.agg #[.int .i64 c',.int .i64 a'])).run Tryz.prog w=.ok (sameU c a c' a') w:=by
 rw [show (10000:Nat)=9998+1+1 from rfl,run_equalIn_struct w _ _ _ _ (by rw [fields23];exact under23) held23,fields23]
 have u3:=Tryz.underlying3
 unfold sameU
 cases h:c==c' <;> cases h2:a==a' <;> simp_all [fieldC,fieldA,Op.eqFields,go_sem,part]
attribute [local go_sem high] eq23
attribute [local go_sem] guard23
def I64U(u:Use):Prop:=I64 u.1∧I64 u.2
def rightB(u:Use):Bool:=decide (0≤u.1∧u.1≤255∧0≤u.2)
def withinU(u:Use):Use:=(min (max u.1 0) 255,max u.2 0)
theorem within_eq(u:Use):sameU u.1 u.2 (withinU u).1 (withinU u).2=rightB u:=by
 obtain ⟨c,a⟩:=u
 rw [Bool.eq_iff_iff]
 unfold rightB withinU sameU
 simp only [beq_iff_eq,decide_eq_true_eq,Bool.and_eq_true]
 omega
theorem within_any(u:Use)(h:I64U u)(w:World):Calls Tryz.prog 181 #[valU u] w fun e w'=>e=.returned (valU (withinU u))∧Below w.heap.size w w':=by
 obtain ⟨c,a⟩:=u
 obtain ⟨⟨h1,h2⟩,⟨h3,h4⟩⟩:=h
 unfold valU withinU
 simp only at *
 go_enter Tryz.func181,Tryz.ntmps181
 go_wp2
 all_goals
   refine bodyPost_ret (v:=.agg #[.int .i64 (min (max c 0) 255),.int .i64 (max a 0)]) ?_ rfl ⟨rfl,((Below.refl _ _).alloc (Nat.le_refl _) _).alloc (by simp) _⟩
   simp [results,Tryz.results181,go_sem] <;> omega
theorem right_any(u:Use)(h:I64U u)(w:World):Calls Tryz.prog 130 #[valU u] w fun e w'=>e=.returned (.bool (rightB u))∧Below w.heap.size w w':=by
 have HW:=fun w=>Lib.hid (within_any u h w)
 have HE:=Lib.hid (within_eq u)
 obtain ⟨c,a⟩:=u
 generalize withinU (c,a)=v at *
 obtain ⟨c',a'⟩:=v
 unfold valU at *
 simp only at HW ⊢
 clear h
 go_enter Tryz.func130,Tryz.ntmps130
 have k0:=Blk.new w 48 #[.int .i64 c,.int .i64 a]
 have c0:=k0.ext 0 _ rfl
 have c1:=k0.ext 1 _ rfl
 have hne:=Ext.one (w.alloc (.cells #[.int .i64 c,.int .i64 a] 48))
 clear k0
 go_wp2
 refine region_ext (by kernel_rfl) (by kernel_rfl) (Below.refl _ _) ?_
 repeat go_big_quiet_step ((go_at_call 181;exact Ext.call _ (HW _).out))
 refine wpQuiet_nil ?_
 rintro _ ⟨x,rfl⟩
 go_wp2
 go_ret
 exact ⟨ret_bool HE.out,((Below.refl _ _).alloc (Nat.le_refl _) _).trans (x.ok.mono (by simp))⟩
theorem refRight_any(u:Use)(w:World):Calls Tryz.prog 179 #[valU u] w fun e w'=>e=.returned (.bool (rightB u))∧Below w.heap.size w w':=by
 obtain ⟨c,a⟩:=u
 have H1:c<0→Hid (false=rightB (c,a)):=fun h=>Lib.hid (by unfold rightB;simp;omega)
 have H2:255<c→Hid (false=rightB (c,a)):=fun h=>Lib.hid (by unfold rightB;simp;omega)
 have H3:0≤c→c≤255→Hid (decide (0≤a)=rightB (c,a)):=fun h h2=>Lib.hid (by unfold rightB;simp [h,h2])
 generalize rightB (c,a)=r at *
 unfold valU
 simp only
 go_enter Tryz.func179,Tryz.ntmps179
 go_wp2
 all_goals go_ret
 all_goals refine ⟨ret_bool ?_,(Below.refl _ _).alloc (Nat.le_refl _) _⟩
 · exact (H3 (by omega) (by omega)).out
 · exact (H2 (by omega)).out
 · exact (H1 (by omega)).out
def Known(u:Use)(now:Int):Prop:=0≤u.1∧u.1≤255∧0≤u.2∧u.2≤now∧now≤9223372036854775807
def cntU(u:Use)(now:Int):Int:=max (u.1-(now-u.2)) 0
theorem later_any(u:Use)(now:Int)(h:Known u now)(w:World):Calls Tryz.prog 90 #[valU u,.int .i64 now] w fun e w'=>e=.returned (valU (cntU u now,now))∧Below w.heap.size w w':=by
 obtain ⟨c,a⟩:=u
 obtain ⟨h1,h2,h3,h4,h5⟩:=h
 unfold valU cntU
 simp only at *
 go_enter Tryz.func90,Tryz.ntmps90
 go_wp2
 all_goals
   refine bodyPost_ret (v:=.agg #[.int .i64 (max (c-(now-a)) 0),.int .i64 now]) ?_ rfl ⟨rfl,((Below.refl _ _).alloc (Nat.le_refl _) _).alloc (by simp) _⟩
   simp [results,Tryz.results90,go_sem] <;> omega
def manyN(c:Int):Int:=10*max (c-5) 0+1
theorem oneOf_any(c:Int)(h1:0≤c)(h2:c≤255)(w:World):Calls Tryz.prog 219 #[.int .i64 c] w fun e w'=>e=.returned (.int .u32 (manyN c))∧w=w':=by
 unfold manyN
 go_enter Tryz.func219,Tryz.ntmps219
 go_wp2
 all_goals go_ret
 all_goals refine ⟨ret_int ?_,rfl⟩
 all_goals omega
end Go.Proofs.YtlckdfoflimahaaGreatDoor.Lf
namespace Go.Proofs.YtlckdfoflimahaaGreatDoor.Lf
open Go.RowKit Go.Shelf
attribute [local go_sem] Oper.semAt_some
def stepN(c d:Int):Int:=if c=255 then 0 else if d % manyN c=0 then 1 else 0
theorem many_pos(c:Int):1≤manyN c:=by unfold manyN;omega
theorem stepN_01(c d:Int):0≤stepN c d∧stepN c d≤1:=by unfold stepN;split <;> (try split) <;> omega
theorem step_any(c d:Int)(h1:0≤c)(h2:c≤255)(h3:0≤d)(h4:d≤4294967295)(w:World):Calls Tryz.prog 203 #[.int .i64 c,.int .u32 d] w fun e w'=>e=.returned (.int .i64 (stepN c d))∧w=w':=by
 have HO:=fun w=>Lib.hid (oneOf_any c h1 h2 w)
 have hm:=many_pos c
 have hm2:manyN c≤2501:=by unfold manyN;omega
 have g3:(0:Int)≤d % manyN c:=Int.emod_nonneg _ (by omega)
 have g4:d % manyN c<manyN c:=Int.emod_lt_of_pos _ (by omega)
 by_cases hc:c=255
 · subst hc
   have hs:Hid (stepN 255 d=0):=Lib.hid (by unfold stepN;rw [if_pos rfl])
   go_enter Tryz.func203,Tryz.ntmps203
   go_wp2_with fail
   refine wp_scope_jumps 0 (fun a' w'=>w=w'∧a'={ tmps:=#[Value.int IntKind.i64 255,Value.int IntKind.u32 d,undef,undef,Value.int IntKind.i64 0,Value.int IntKind.i64 255,Value.bool true,undef,undef,undef,undef,undef],defers:=[] }) (fun _ _=>0) rfl ?_ ?_
   · go_wp2
     go_step3
     exact ⟨rfl,rfl,rfl⟩
   · rintro a' w' ⟨rfl,rfl⟩
     go_wp2
     simp only [Exit.jump]
     go_ret
     exact ⟨ret_int hs.out.symm,rfl⟩
 · have hs:stepN c d=if d % manyN c=0 then 1 else 0:=by unfold stepN;rw [if_neg hc]
   have hcb:(c==255)=false:=by simpa using hc
   generalize manyN c=m at *
   clear hc
   by_cases hd:d % m=0
   · have hdb:(d % m==0)=true:=by simpa using hd
     rw [if_pos hd] at hs
     have HS:=Lib.hid hs
     clear hs hd
     go_enter Tryz.func203,Tryz.ntmps203
     go_wp2_with fail
     refine wp_scope_straight ?_
     go_wp2_with fail
     refine (HO _).out.mono ?_
     rintro e w1 ⟨rfl,rfl⟩
     go_wp2
     simp only [Exit.noGoto]
     go_ret
     exact ⟨ret_int HS.out.symm,rfl⟩
   · have hdb:(d % m==0)=false:=by simpa using hd
     rw [if_neg hd] at hs
     have HS:=Lib.hid hs
     clear hs hd
     go_enter Tryz.func203,Tryz.ntmps203
     go_wp2_with fail
     refine wp_scope_straight ?_
     go_wp2_with fail
     refine (HO _).out.mono ?_
     rintro e w1 ⟨rfl,rfl⟩
     go_wp2_with fail
     refine wp_label ?_
     go_wp2
     simp only [Exit.noGoto]
     go_ret
     exact ⟨ret_int HS.out.symm,rfl⟩
theorem used_any(c a d:Int)(h1:0≤c)(h2:c≤255)(h3:0≤d)(h4:d≤4294967295)(w:World):Calls Tryz.prog 176 #[valU (c,a),.int .u32 d] w fun e w'=>e=.returned (valU (c+stepN c d,a))∧Below w.heap.size w w':=by
 have HO:=fun w=>Lib.hid (step_any c d h1 h2 h3 h4 w)
 obtain ⟨hs1,hs2⟩:=stepN_01 c d
 generalize stepN c d=k at *
 unfold valU
 simp only
 go_enter Tryz.func176,Tryz.ntmps176
 have hw:IntKind.i64.wrap (c+k)=c+k:=IntWalk.i64_in _ (by omega)
 go_wp2_with fail
 go_region_with ((go_at_call 203;refine (HO _).out.mono ?_;rintro e w' ⟨rfl,rfl⟩))
 all_goals
   go_wp2
   refine bodyPost_ret (v:=.agg #[.int .i64 (c+k),.int .i64 a]) (by simp [results,Tryz.results176,go_sem]) rfl ⟨rfl,?_⟩
   exact (((Below.refl _ _).alloc (Nat.le_refl _) _).alloc (by simp) _).drew
def wrongB(u:Use)(now:Int):Bool:=!rightB u || decide (now<u.2)
theorem wrong_any(u:Use)(h:I64U u)(now:Int)(b:Nat)(w:World)(hB:Blk w b 3 #[.int .i64 now]):Calls Tryz.prog 129 #[valU u,.pointer (some ⟨b,0,none⟩)] w fun e w'=>e=.returned (.bool (wrongB u now))∧Below w.heap.size w w':=by
 have HR:=fun w=>Lib.hid (right_any u h w)
 have HW:=Lib.hid (show wrongB u now=(!rightB u || decide (now<u.2)) from rfl)
 obtain ⟨c,a⟩:=u
 generalize rightB (c,a)=r at *
 generalize wrongB (c,a) now=v at *
 unfold valU at *
 simp only at HR HW ⊢
 have k0:=hB.alloc (.cells #[.int .i64 c,.int .i64 a] 48)
 have k1:=Blk.new w 48 #[.int .i64 c,.int .i64 a]
 have K0:=Lib.hid k0
 have K1:=Lib.hid k1
 clear hB k0 k1 h
 go_enter Tryz.func129,Tryz.ntmps129
 cases r with
 | true =>
   go_wp2_with fail
   refine (HR _).out.mono ?_
   rintro e w1 ⟨rfl,hb⟩
   obtain ⟨a0,_⟩:=facts1 (K0.out.later hb)
   obtain ⟨_,b1,_,_⟩:=facts2 (K1.out.later hb)
   have HB:=Lib.hid hb
   clear hb
   go_wp2
   go_ret
   exact ⟨ret_bool (by rw [HW.out];simp),below2 HB.out⟩
 | false =>
   go_wp2_with fail
   refine (HR _).out.mono ?_
   rintro e w1 ⟨rfl,hb⟩
   have HB:=Lib.hid hb
   clear hb
   go_wp2
   go_ret
   exact ⟨ret_bool (by rw [HW.out];simp),below2 HB.out⟩
def anyW(l:List Use)(now:Int):Bool:=l.any (fun u=>wrongB u now)
theorem anyW_take{l:List Use}{now:Int}{k:Nat}(h:∀ (j:Nat) (hj:j<l.length),j<k→wrongB l[j] now=false)(hk:l.length≤k):anyW l now=false:=by
 unfold anyW
 rw [List.any_eq_false]
 intro u hu
 obtain ⟨j,hj,rfl⟩:=List.mem_iff_getElem.1 hu
 rw [h j hj (by omega)]
 decide
theorem index_any(a:Option Addr)(cap:Nat)(l:List Use)(hl:∀ u∈l,I64U u)(hz:l.length≤9223372036854775807)(now:Int)(b:Nat)(w:World)(hU:Uses w a l)(hB:Blk w b 3 #[.int .i64 now]) :
   Calls Tryz.prog 180 #[.slice a l.length cap,.func (.func 129) #[] #[.pointer (some ⟨b,0,none⟩)]] w fun e w'=>∃ i:Int,e=.returned (.int .i64 i)∧decide (i ≥ 0)=anyW l now∧Below w.heap.size w w':=by
 have HU:=Lib.hid hU
 have HB:=Lib.hid hB
 have HL:=Lib.hid hl
 clear hU hB hl
 go_enter Tryz.func180,Tryz.ntmps180
 go_wp2
 go_loopw [8] (fun i wr=>∃ (k:Nat),i=.int .i64 k∧k≤l.length∧Below w.heap.size w wr∧Hid (∀ (j:Nat) (hj:j<l.length),j<k→wrongB l[j] now=false)) (fun i _=>l.length-(intOf i).toNat)
 case atStart=>exact ⟨0,rfl,by omega,Below.refl _ _,Lib.hid fun j hj h=>by omega⟩
 case round =>
   obtain ⟨k,rfl,hk,hb,hall⟩:=hrel
   by_cases hlt:k<l.length
   · obtain ⟨b2,off,rfl,c0,c1⟩:=(HU.out.below hb) k hlt
     have HW:=Lib.hid (wrong_any l[k] (HL.out _ (List.getElem_mem hlt)) now b wr (HB.out.later hb))
     have HK:=fun h:wrongB l[k] now=false=>Lib.hid (show ∀ (j:Nat) (hj:j<l.length),j<k+1→wrongB l[j] now=false from fun j hj h2=>by
       by_cases e:j=k
       · subst e;exact h
       · exact hall.out j hj (by omega))
     have HT:=fun h:wrongB l[k] now=true=>Lib.hid (show anyW l now=true from List.any_eq_true.2 ⟨_,List.getElem_mem hlt,h⟩)
     have hk2:(k:Int)<l.length:=by omega
     have HBB:=Lib.hid hb
     generalize l[k]=u at *
     obtain ⟨c,a⟩:=u
     unfold valU at HW
     simp only at c0 c1 HW
     clear hall hb
     cases hv:wrongB (c,a) now with
     | true =>
       have ht:=HT hv
       rw [hv] at HW
       clear HK HT hv
       go_wp2_with fail
       refine HW.out.mono ?_
       rintro e w1 ⟨rfl,hb1⟩
       have HB1:=Lib.hid hb1
       clear hb1
       go_wp2
       go_ret
       exact ⟨_,rfl,by rw [ht.out];simp,HBB.out.trans (HB1.out.mono HBB.out.size)⟩
     | false =>
       have hf:=HK hv
       rw [hv] at HW
       clear HK HT hv
       go_wp2_with fail
       refine HW.out.mono ?_
       rintro e w1 ⟨rfl,hb1⟩
       have HB1:=Lib.hid hb1
       clear hb1
       go_wp2
       go_roundw
       case rel=>exact ⟨k+1,by go_num,by omega,HBB.out.trans (HB1.out.mono HBB.out.size),hf⟩
       case measure=>simp [intOf];omega
   · obtain rfl:k=l.length:=by omega
     have hn:=anyW_take hall.out (Nat.le_refl _)
     have HN:=Lib.hid hn
     have HBB:=Lib.hid hb
     clear hn hall hb
     go_wp2
     go_ret
     exact ⟨_,rfl,by rw [HN.out];decide,HBB.out⟩
theorem contains_any(a:Option Addr)(cap:Nat)(l:List Use)(hl:∀ u∈l,I64U u)(hz:l.length≤9223372036854775807)(now:Int)(b:Nat)(w:World)(hU:Uses w a l)(hB:Blk w b 3 #[.int .i64 now]) :
   Calls Tryz.prog 128 #[.slice a l.length cap,.func (.func 129) #[] #[.pointer (some ⟨b,0,none⟩)]] w fun e w'=>e=.returned (.bool (anyW l now))∧Below w.heap.size w w':=by
 have H1:=Lib.hid (index_any a cap l hl hz now b w hU hB)
 clear hl hz hU hB
 go_enter Tryz.func128,Tryz.ntmps128
 go_wp2_with fail
 refine H1.out.mono ?_
 rintro e w1 ⟨i,rfl,hi,hb⟩
 have HB:=Lib.hid hb
 have HI:=Lib.hid hi
 clear hb hi
 go_wp2
 go_ret
 exact ⟨ret_bool (by rw [← HI.out]),HB.out⟩
theorem known_any(a:Option Addr)(cap:Nat)(l:List Use)(hl:∀ u∈l,I64U u)(hz:l.length≤9223372036854775807)(now:Int)(w:World)(hU:Uses w a l) :
   Calls Tryz.prog 89 #[.int .i64 now,.slice a l.length cap] w fun e w'=>e=.returned (.bool (!anyW l now))∧Below w.heap.size w w':=by
 have H1:=Lib.hid (contains_any a cap l hl hz now w.heap.size (w.alloc (.cells #[.int .i64 now] 3)) (hU.below (alloc_below _ _)) (Blk.new _ _ _))
 clear hl hU
 go_enter Tryz.func89,Tryz.ntmps89
 go_wp2_with fail
 refine H1.out.mono ?_
 rintro e w1 ⟨rfl,hb⟩
 have HB:=Lib.hid hb
 clear hb
 go_wp2
 go_ret
 exact ⟨rfl,below2 HB.out⟩
end Go.Proofs.YtlckdfoflimahaaGreatDoor.Lf
namespace Go.Proofs.YtlckdfoflimahaaGreatDoor.Lf
open Go.RowKit Go.Shelf
attribute [local go_sem] Oper.semAt_some
attribute [local go_sem high] eq23
attribute [local go_sem] guard23
theorem field0(n m:Int)(w:World):(Instr.field 48 (.agg #[.int .i64 n,.int .i64 m]) 0).run Tryz.prog w=.ok (.int .i64 n) w:=by kernel_rfl
attribute [local go_sem] field0
def okB(u:Use)(now:Int):Bool:=!wrongB u now
theorem known_of{u:Use}{now:Int}(h:okB u now=true)(hn:I64 now):Known u now:=by
 unfold okB wrongB rightB at h
 simp at h
 obtain ⟨_,_⟩:=hn
 unfold Known;omega
theorem cnt_in{u:Use}{now:Int}(h:Known u now):0≤cntU u now∧cntU u now≤255:=by
 obtain ⟨_,_,_,_,_⟩:=h;unfold cntU;omega
def cntN(u:Use)(now:Int):Int:=if okB u now then cntU u now else 0
def errN(u:Use)(now:Int):Int:=if okB u now then 0 else 130
def touchC(u:Use)(now d:Int):Int:=if okB u now then cntU u now+stepN (cntU u now) d else 0
def touchA(u:Use)(now:Int):Int:=if okB u now then now else 0
theorem known_one(u:Use)(h:I64U u)(now:Int)(b:Nat)(w:World)(hB:Blk w b 48 #[.int .i64 u.1,.int .i64 u.2]) :
   Calls Tryz.prog 89 #[.int .i64 now,.slice (some ⟨b,0,none⟩) 1 1] w fun e w'=>e=.returned (.bool (okB u now))∧Below w.heap.size w w':=by
 have:=known_any (some ⟨b,0,none⟩) 1 [u] (fun v hv=>by rw [List.mem_singleton.1 hv];exact h) (by simp) now w (fun i hi=>by
   obtain rfl:i=0:=by simpa using hi
   exact ⟨b,0,rfl,hB.cell 0,hB.cell 1⟩)
 have he:(!anyW [u] now)=okB u now:=by simp [anyW,okB]
 rw [he] at this
 exact this
theorem Blk.new1(w:World)(o:Obj)(t:TypeId)(c:Array Value):Blk ((w.alloc o).alloc (.cells c t)) (w.heap.size+1) t c:=by
 have:=Blk.new (w.alloc o) t c
 rwa [World.size_alloc] at this
theorem Blk.new2(w:World)(o o2:Obj)(t:TypeId)(c:Array Value):Blk (((w.alloc o).alloc o2).alloc (.cells c t)) (w.heap.size+2) t c:=by
 have:=Blk.new ((w.alloc o).alloc o2) t c
 rwa [World.size_alloc,World.size_alloc] at this
theorem tup_eq{a b e:Int}(h:a=b):Ending.returned (.tuple #[.int .i64 a,.int .i64 e])=.returned (.tuple #[.int .i64 b,.int .i64 e]):=by rw [h]
theorem i64_5:I64 5:=⟨by decide,by decide⟩
theorem new_any(now:Int)(h:I64 now)(w:World):Calls Tryz.prog 114 #[.int .i64 now] w fun e w'=>e=.returned (.tuple #[.agg #[.int .i64 (if 0≤now then 5 else 0),.int .i64 (if 0≤now then now else 0)],.int .i64 (if 0≤now then 0 else 130)])∧Below w.heap.size w w':=by
 have HR:=fun w=>Lib.hid (right_any (5,now) ⟨i64_5,h⟩ w)
 unfold valU at HR
 simp only at HR
 have K1:=Lib.hid (Blk.new1 w (.cells #[.int .i64 0,.int .i64 0] 48) 48 #[.int .i64 5,.int .i64 now])
 have K0:=Lib.hid ((Blk.new w 48 #[.int .i64 0,.int .i64 0]).alloc (.cells #[.int .i64 5,.int .i64 now] 48))
 by_cases hn:0≤now
 · rw [show rightB (5,now)=true by unfold rightB;simp [hn]] at HR
   simp only [if_pos hn]
   clear hn
   go_enter Tryz.func114,Tryz.ntmps114
   go_wp2_with fail
   refine (HR _).out.mono ?_
   rintro e w1 ⟨rfl,hb⟩
   obtain ⟨a0,a1,_,_⟩:=facts2 (K1.out.later hb)
   obtain ⟨b0,b1,b2,b3⟩:=facts2 (K0.out.later hb)
   have HB:=Lib.hid hb
   clear hb
   go_wp2
   refine bodyPost_ret (v:=.tuple #[.agg #[.int .i64 5,.int .i64 now],.int .i64 0]) (by simp [results,Tryz.results114,go_sem,b0,b1]) rfl ⟨rfl,?_⟩
   exact ((below2 (below2 HB.out)).setCell (Nat.le_refl _) _).setCell (Nat.le_refl _) _
 · rw [show rightB (5,now)=false by unfold rightB;simp;omega] at HR
   simp only [if_neg hn]
   clear hn
   go_enter Tryz.func114,Tryz.ntmps114
   go_wp2_with fail
   refine (HR _).out.mono ?_
   rintro e w1 ⟨rfl,hb⟩
   obtain ⟨b0,b1,b2,b3⟩:=facts2 (K0.out.later hb)
   have HB:=Lib.hid hb
   clear hb
   go_wp2
   refine bodyPost_ret (v:=.tuple #[.agg #[.int .i64 0,.int .i64 0],.int .i64 130]) (by simp [results,Tryz.results114,go_sem,b0,b1]) rfl ⟨rfl,?_⟩
   exact ((below2 (below2 HB.out)).setCell (Nat.le_refl _) _).setCell (Nat.le_refl _) _
theorem refNew_any(now:Int)(w:World):Calls Tryz.prog 91 #[.int .i64 now] w fun e w'=>e=.returned (.tuple #[.agg #[.int .i64 (if 0≤now then 5 else 0),.int .i64 (if 0≤now then now else 0)],.int .i64 (if 0≤now then 0 else 130)])∧Below w.heap.size w w':=by
 by_cases hn:0≤now
 · have hn2:¬ now<0:=by omega
   simp only [if_pos hn]
   go_enter Tryz.func91,Tryz.ntmps91
   go_wp2
   refine bodyPost_ret (v:=.tuple #[.agg #[.int .i64 5,.int .i64 now],.int .i64 0]) (by simp [results,Tryz.results91,go_sem]) rfl ⟨rfl,(Below.refl _ _).alloc (Nat.le_refl _) _⟩
 · have hn2:now<0:=by omega
   simp only [if_neg hn]
   go_enter Tryz.func91,Tryz.ntmps91
   go_wp2
   refine bodyPost_ret (v:=.tuple #[.agg #[.int .i64 0,.int .i64 0],.int .i64 130]) (by simp [results,Tryz.results91,go_sem]) rfl ⟨rfl,(Below.refl _ _).alloc (Nat.le_refl _) _⟩
theorem refCount_any(u:Use)(now:Int)(hn:I64 now)(w:World):Calls Tryz.prog 125 #[valU u,.int .i64 now] w fun e w'=>e=.returned (.tuple #[.int .i64 (cntN u now),.int .i64 (errN u now)])∧Below w.heap.size w w':=by
 have HR:=fun w=>Lib.hid (refRight_any u w)
 have K0:=Lib.hid (Blk.new w 48 #[.int .i64 u.1,.int .i64 u.2])
 unfold cntN errN
 cases hok:okB u now with
 | true =>
   obtain ⟨k1,k2,k3,k4,k5⟩:=known_of hok hn
   rw [show rightB u=true by unfold rightB;simp [k1,k2,k3]] at HR
   have HC:=Lib.hid (show cntU u now=max (u.1-(now-u.2)) 0 from rfl)
   generalize cntU u now=n at *
   clear hok
   obtain ⟨c,a⟩:=u
   unfold valU at *
   simp only [if_true] at *
   have k6:¬ now<a:=by omega
   go_enter Tryz.func125,Tryz.ntmps125
   go_wp2_with fail
   refine (HR _).out.mono ?_
   rintro e w1 ⟨rfl,hb⟩
   obtain ⟨a0,a1,_,_⟩:=facts2 (K0.out.later hb)
   have HB:=Lib.hid hb
   clear hb
   go_wp2
   all_goals go_ret2
   all_goals refine ⟨?_,below2 HB.out⟩
   all_goals rw [HC.out]
   all_goals exact tup_eq (by omega)
 | false =>
   simp only [Bool.false_eq_true,if_false]
   have hno:rightB u=false∨(rightB u=true∧now<u.2):=by
     unfold okB wrongB at hok
     cases hr:rightB u <;> simp [hr] at hok ⊢
     exact hok
   clear hok
   obtain ⟨c,a⟩:=u
   unfold valU at *
   simp only at *
   rcases hno with hr|⟨hr,hlt⟩
   · rw [hr] at HR
     clear hr
     go_enter Tryz.func125,Tryz.ntmps125
     go_wp2_with fail
     refine (HR _).out.mono ?_
     rintro e w1 ⟨rfl,hb⟩
     have HB:=Lib.hid hb
     clear hb
     go_wp2
     go_ret2
     exact ⟨rfl,below2 HB.out⟩
   · rw [hr] at HR
     clear hr
     go_enter Tryz.func125,Tryz.ntmps125
     go_wp2_with fail
     refine (HR _).out.mono ?_
     rintro e w1 ⟨rfl,hb⟩
     obtain ⟨a0,a1,_,_⟩:=facts2 (K0.out.later hb)
     have HB:=Lib.hid hb
     clear hb
     go_wp2
     go_ret2
     exact ⟨rfl,below2 HB.out⟩
def touchT(u:Use)(now d:Int):Value:=.tuple #[.agg #[.int .i64 (touchC u now d),.int .i64 (touchA u now)],.int .i64 (errN u now)]
theorem touch_any(u:Use)(h:I64U u)(now d:Int)(hn:I64 now)(hd1:0≤d)(hd2:d≤4294967295)(w:World):Calls Tryz.prog 121 #[valU u,.int .i64 now,.int .u32 d] w fun e w'=>e=.returned (touchT u now d)∧Below w.heap.size w w':=by
 have HK:=fun b w hB=>Lib.hid (known_one u h now b w hB)
 have HL:=fun h w=>Lib.hid (later_any u now h w)
 have HN:=fun h=>known_of (u:=u) h hn
 have K0:=Lib.hid (((Blk.new w 48 #[.int .i64 u.1,.int .i64 u.2]).alloc (.cells #[.int .i64 0,.int .i64 0] 48)).alloc (.cells #[.int .i64 u.1,.int .i64 u.2] 48))
 have K1:=Lib.hid ((Blk.new1 w (.cells #[.int .i64 u.1,.int .i64 u.2] 48) 48 #[.int .i64 0,.int .i64 0]).alloc (.cells #[.int .i64 u.1,.int .i64 u.2] 48))
 have K2:=Lib.hid (Blk.new2 w (.cells #[.int .i64 u.1,.int .i64 u.2] 48) (.cells #[.int .i64 0,.int .i64 0] 48) 48 #[.int .i64 u.1,.int .i64 u.2])
 unfold touchT touchC touchA errN
 cases hok:okB u now with
 | true =>
   have hk:=HN hok
   have HL2:=HL hk
   rw [hok] at HK
   obtain ⟨c1,c2⟩:=cnt_in hk
   have HU:=fun a w=>Lib.hid (used_any (cntU u now) a d c1 c2 hd1 hd2 w)
   generalize stepN (cntU u now) d=k at *
   generalize cntU u now=n at *
   clear HL HN hok hk
   obtain ⟨c,a⟩:=u
   unfold valU at *
   simp only [if_true] at *
   go_enter Tryz.func121,Tryz.ntmps121
   go_wp2_with fail
   refine (HK _ _ K2.out).out.mono ?_
   rintro e w1 ⟨rfl,hb⟩
   have B1:=Lib.hid (below2 (below2 (below2 hb)))
   have k0:=K0.out.later hb
   have k1:=K1.out.later hb
   obtain ⟨a0,a1,_,_⟩:=facts2 k0
   have K0':=Lib.hid k0
   have K1':=Lib.hid k1
   clear hb k0 k1 K0 K1 K2
   go_wp2_with fail
   refine (HL2 _).out.mono ?_
   rintro e w2 ⟨rfl,hb⟩
   have B2:=Lib.hid (B1.out.trans (hb.mono B1.out.size))
   have K1'':=Lib.hid (K1'.out.later hb)
   clear hb a0 a1 K0' K1' B1
   go_wp2_with fail
   refine (HU _ _).out.mono ?_
   rintro e w3 ⟨rfl,hb⟩
   have B3:=Lib.hid (B2.out.trans (hb.mono B2.out.size))
   obtain ⟨b0,b1,b2,b3⟩:=facts2 (K1''.out.later hb)
   clear hb K1'' B2
   go_wp2
   refine bodyPost_ret (v:=.tuple #[.agg #[.int .i64 (n+k),.int .i64 now],.int .i64 0]) (by simp [results,Tryz.results121,go_sem,b0,b1]) rfl ⟨rfl,?_⟩
   exact (B3.out.setCell (by simp) _).setCell (by simp) _
 | false =>
   rw [hok] at HK
   clear HL HN hok
   obtain ⟨c,a⟩:=u
   unfold valU at *
   simp only [Bool.false_eq_true,if_false] at *
   go_enter Tryz.func121,Tryz.ntmps121
   go_wp2_with fail
   refine (HK _ _ K2.out).out.mono ?_
   rintro e w1 ⟨rfl,hb⟩
   have B1:=Lib.hid (below2 (below2 (below2 hb)))
   obtain ⟨b0,b1,b2,b3⟩:=facts2 (K1.out.later hb)
   clear hb K0 K1 K2
   go_wp2
   refine bodyPost_ret (v:=.tuple #[.agg #[.int .i64 0,.int .i64 0],.int .i64 130]) (by simp [results,Tryz.results121,go_sem,b0,b1]) rfl ⟨rfl,?_⟩
   exact (B1.out.setCell (by simp) _).setCell (by simp) _
theorem refTouch_any(u:Use)(now d:Int)(hn:I64 now)(hd1:0≤d)(hd2:d≤4294967295)(w:World):Calls Tryz.prog 101 #[valU u,.int .i64 now,.int .u32 d] w fun e w'=>e=.returned (touchT u now d)∧Below w.heap.size w w':=by
 have HC:=fun w=>Lib.hid (refCount_any u now hn w)
 have K0:=Lib.hid (((Blk.new w 48 #[.int .i64 u.1,.int .i64 u.2]).alloc (.cells #[.int .i64 0,.int .i64 0] 48)))
 have K1:=Lib.hid (Blk.new1 w (.cells #[.int .i64 u.1,.int .i64 u.2] 48) 48 #[.int .i64 0,.int .i64 0])
 unfold cntN errN at HC
 unfold touchT touchC touchA errN
 cases hok:okB u now with
 | true =>
   obtain ⟨c1,c2⟩:=cnt_in (known_of hok hn)
   rw [hok] at HC
   have HS:stepN (cntU u now) d=if cntU u now=255 then 0 else if d % manyN (cntU u now)=0 then 1 else 0:=rfl
   generalize stepN (cntU u now) d=k at *
   generalize cntU u now=n at *
   clear hok
   obtain ⟨c,a⟩:=u
   unfold valU at *
   simp only [if_true] at *
   go_enter Tryz.func101,Tryz.ntmps101
   go_wp2_with fail
   refine (HC _).out.mono ?_
   rintro e w1 ⟨rfl,hb⟩
   have B1:=Lib.hid (below2 (below2 hb))
   obtain ⟨a0,a1,_,_⟩:=facts2 (K0.out.later hb)
   obtain ⟨b0,b1,b2,b3⟩:=facts2 (K1.out.later hb)
   clear hb K0 K1
   have fin:∀ m w',m=n+k→Below w.heap.size w w'→Hid (Ending.returned (.tuple #[.agg #[.int .i64 m,.int .i64 now],.int .i64 0])=.returned (.tuple #[.agg #[.int .i64 (n+k),.int .i64 now],.int .i64 0])∧Below w.heap.size w w'):=fun m w' e hb=>Lib.hid ⟨by rw [e],hb⟩
   by_cases h255:n=255
   · rw [if_pos h255] at HS
     subst h255
     have FIN:=Lib.hid (fun w' hb=>fin 255 w' (by omega) hb)
     clear fin HS
     go_wp2
     refine bodyPost_ret (v:=.tuple #[.agg #[.int .i64 255,.int .i64 now],.int .i64 0]) (by simp [results,Tryz.results101,go_sem,b0,b1]) rfl ((FIN.out _ ?_).out)
     exact (B1.out.setCell (by simp) _).setCell (by simp) _
   · rw [if_neg h255] at HS
     have hlt:n<255:=by omega
     by_cases h5:n≤5
     · have h5':¬ 5<n:=by omega
       rw [show manyN n=1 by unfold manyN;omega] at HS
       simp at HS
       have FIN:=Lib.hid (fun w' hb=>fin (n+1) w' (by omega) hb)
       clear fin HS
       go_wp2
       refine bodyPost_ret (v:=.tuple #[.agg #[.int .i64 (n+1),.int .i64 now],.int .i64 0]) (by simp [results,Tryz.results101,go_sem,b0,b1]) rfl ((FIN.out _ ?_).out)
       exact (B1.out.setCell (by simp) _).setCell (by simp) _
     · rw [show manyN n=10*(n-5)+1 by unfold manyN;omega] at HS
       have g1:5<n:=by omega
       clear h5
       by_cases hd:d % (10*(n-5)+1)=0
       · rw [if_pos hd] at HS
         have hdb:(d % (10*(n-5)+1)==0)=true:=by simpa using hd
         have FIN:=Lib.hid (fun w' hb=>fin (n+1) w' (by omega) hb)
         clear fin HS hd
         go_wp2
         refine bodyPost_ret (v:=.tuple #[.agg #[.int .i64 (n+1),.int .i64 now],.int .i64 0]) (by simp [results,Tryz.results101,go_sem,b0,b1]) rfl ((FIN.out _ ?_).out)
         exact (B1.out.setCell (by simp) _).setCell (by simp) _
       · rw [if_neg hd] at HS
         have hdb:(d % (10*(n-5)+1)==0)=false:=by simpa using hd
         have FIN:=Lib.hid (fun w' hb=>fin n w' (by omega) hb)
         clear fin HS hd
         go_wp2
         refine bodyPost_ret (v:=.tuple #[.agg #[.int .i64 n,.int .i64 now],.int .i64 0]) (by simp [results,Tryz.results101,go_sem,b0,b1]) rfl ((FIN.out _ ?_).out)
         exact (B1.out.setCell (by simp) _).setCell (by simp) _
 | false =>
   rw [hok] at HC
   clear hok
   obtain ⟨c,a⟩:=u
   unfold valU at *
   simp only [Bool.false_eq_true,if_false] at *
   go_enter Tryz.func101,Tryz.ntmps101
   go_wp2_with fail
   refine (HC _).out.mono ?_
   rintro e w1 ⟨rfl,hb⟩
   have B1:=Lib.hid (below2 (below2 hb))
   obtain ⟨b0,b1,b2,b3⟩:=facts2 (K1.out.later hb)
   clear hb K0 K1
   go_wp2
   refine bodyPost_ret (v:=.tuple #[.agg #[.int .i64 0,.int .i64 0],.int .i64 130]) (by simp [results,Tryz.results101,go_sem,b0,b1]) rfl ⟨rfl,?_⟩
   exact (B1.out.setCell (by simp) _).setCell (by simp) _
end Go.Proofs.YtlckdfoflimahaaGreatDoor.Lf
