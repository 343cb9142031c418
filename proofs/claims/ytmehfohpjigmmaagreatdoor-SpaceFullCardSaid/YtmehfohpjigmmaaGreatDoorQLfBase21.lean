/- Texts of one kind in one: LfBase, LfUse, LfSteps, LfCalls. -/
import Derived.Test.YtmehfohpjigmmaaGreatDoorQA00
import Derived.StillTailTactics
set_option maxRecDepth 200000
set_option maxHeartbeats 8000000
namespace Go.Proofs.YtmehfohpjigmmaaGreatDoor.Lf
open Zc
open Go.RowKit Go.Shelf
attribute [local go_sem] Oper.semAt_some
def Blk(W:World)(b:Nat)(t:TypeId)(c:Array Value):Prop:=W.heap[b]?=some (Obj.cells c t (0,0))
theorem Blk.lt{W:World}{b:Nat}{t:TypeId}{c:Array Value}(h:Blk W b t c):b<W.heap.size:=(Array.getElem?_eq_some_iff.1 h).1
theorem Blk.cell{W:World}{b:Nat}{t:TypeId}{c:Array Value}(o:Nat)(h:Blk W b t c):W.cell? ⟨b,o,none⟩=c[o]?:=by
 unfold Blk at h;simp [World.cell?,h]
theorem Blk.free{W:World}{b:Nat}{t:TypeId}{c:Array Value}(o:Nat)(h:Blk W b t c):W.frozen? ⟨b,o,none⟩=false:=by
 unfold Blk at h;simp [World.frozen?,h]
theorem Blk.below{W W':World}{b n:Nat}{t:TypeId}{c:Array Value}(h:Blk W b t c)(hb:Below n W W')(hn:b<n):Blk W' b t c:=(hb.block b hn).trans h
theorem Blk.later{W W':World}{b:Nat}{t:TypeId}{c:Array Value}(h:Blk W b t c)(hb:Bl W W'):Blk W' b t c:=h.below hb h.lt
theorem Blk.new(W:World)(t:TypeId)(c:Array Value):Blk (W.alloc (.cells c t)) W.heap.size t c:=Zl rfl
theorem Blk.alloc{W:World}{b:Nat}{t:TypeId}{c:Array Value}(h:Blk W b t c)(o:Obj):Blk (W.alloc o) b t c:=(Below.heap_alloc _ _ _ h.lt).trans h
theorem Zd{W:World}{b:Nat}{t:TypeId}{c0 c1:Value}(h:Blk W b t #[c0,c1]):W.cell? ⟨b,0,none⟩=some c0/\W.cell? ⟨b,1,none⟩=some c1/\W.frozen? ⟨b,0,none⟩=false/\W.frozen? ⟨b,1,none⟩=false :=
 ⟨h.cell 0,h.cell 1,h.free 0,h.free 1⟩
theorem Blk.ext{w1:World}{b:Nat}{t:TypeId}{c:Array Value}(h:Blk w1 b t c)(o:Nat)(v:Value)(hv:c[o]?=some v):∀ x:Ext w1,x.w.cell? ⟨b,o,none⟩=some v:=fun x=>x.cell ((h.cell o).trans hv)
def I64(a:Int):Prop:=-9223372036854775808<=a/\a<=9223372036854775807
theorem z8o{a b:Bool}(h:a=b):Ending.returned (.bool a)=.returned (.bool b):=by rw [h]
theorem F5{w w1:World}{o:Obj}(h:Below (w.alloc o).heap.size (w.alloc o) w1):Bl w w1:=((Below.refl _ _).alloc (Nat.le_refl _) o).trans (h.mono (by simp))
abbrev Use:=Int × Int
def z5m(u:Use):Value:=.agg #[.int .i64 u.1,.int .i64 u.2]
def Ad : Field := { name := "Count", type := 3, offset := 0, embedded := false, tag := "", pkgPath := "", byteOffset := 0 }
def Ac : Field := { name := "At", type := 3, offset := 1, embedded := false, tag := "", pkgPath := "", byteOffset := 8 }
theorem z3c:Tryz.prog.underlying 39=some (.struct #[Ad,Ac]):=Tryz.underlying39
theorem C3:Tryz.prog.fieldsOf 39=#[Ad,Ac]:=by unfold Program.fieldsOf;rw [z3c]
theorem y3b:Tryz.prog.stoodInHeld 39=false:=by kernel_rfl
theorem z2g:Tryz.prog.eqGuardType Tryz.prog.depth 39=false:=by kernel_rfl
def z2w(a b c d:Int):Bool:=a==c&&b==d
theorem y4m(c a c' a':Int)(w:World):(Op.equalIn 10000 39 (.agg #[.int .i64 c,.int .i64 a]) (.agg #[.int .i64 c',.int .i64 a'])).run Tryz.prog w=.ok (z2w c a c' a') w:=by
 rw [show (10000:Nat)=9998+1+1 from rfl,run_equalIn_struct w _ _ _ _ (by rw [C3];exact z3c) y3b,C3];have u3:=Tryz.underlying3;unfold z2w
 cases h:c==c' <;> cases h2:a==a' <;> simp_all [Ad,Ac,Op.eqFields,go_sem,part]
attribute [local go_sem high] y4m
attribute [local go_sem] z2g
def z9v(u:Use):Prop:=I64 u.1/\I64 u.2
def Zz(u:Use):Bool:=decide (0<=u.1/\u.1<=255/\0<=u.2)
def Pg(u:Use):Use:=(min (max u.1 0) 255,max u.2 0)
theorem z5t(u:Use):z2w u.1 u.2 (Pg u).1 (Pg u).2=Zz u:=by
 obtain ⟨c,a⟩:=u;rw [Bool.eq_iff_iff];unfold Zz Pg z2w;simp only [beq_iff_eq,decide_eq_true_eq,Bool.and_eq_true];omega
theorem z1w(u:Use)(h:z9v u)(w:World):Calls Tryz.prog 109 #[z5m u] w fun e w'=>e=.returned (z5m (Pg u))/\Bl w w':=by
 obtain ⟨c,a⟩:=u;obtain ⟨⟨h1,h2⟩,⟨h3,h4⟩⟩:=h;unfold z5m Pg;simp only at *
 go_enter Tryz.func109,Tryz.ntmps109
 go_wp2
 all_goals
  refine bodyPost_ret (v:=.agg #[.int .i64 (min (max c 0) 255),.int .i64 (max a 0)]) ?_ rfl ⟨rfl,((Below.refl _ _).alloc (Nat.le_refl _) _).alloc (by simp) _⟩;simp [results,Tryz.results109,go_sem] <;> omega
theorem V1(u:Use)(h:z9v u)(w:World):Calls Tryz.prog 64 #[z5m u] w fun e w'=>e=.returned (.bool (Zz u))/\Bl w w':=by
 have HW:=fun w=>jY (z1w u h w);have HE:=jY (z5t u);obtain ⟨c,a⟩:=u;generalize Pg (c,a)=v at *;obtain ⟨c',a'⟩:=v;unfold z5m at *;simp only at HW ⊢;clear h
 go_enter Tryz.func64,Tryz.ntmps64
 have k0:=Blk.new w 39 #[.int .i64 c,.int .i64 a];have c0:=k0.ext 0 _ rfl;have c1:=k0.ext 1 _ rfl;have hne:=Ext.one (w.alloc (.cells #[.int .i64 c,.int .i64 a] 39));clear k0;go_wp2;refine Zf (by kernel_rfl) (by kernel_rfl) (Below.refl _ _) ?_
 repeat go_big_quiet_step ((go_at_call 109;exact Ext.call _ (HW _).out))
 refine wpQuiet_nil ?_;rintro _ ⟨x,rfl⟩;go_wp2;go_ret;exact ⟨z8o HE.out,((Below.refl _ _).alloc (Nat.le_refl _) _).trans (x.ok.mono (by simp))⟩
end Go.Proofs.YtmehfohpjigmmaaGreatDoor.Lf
namespace Go.Proofs.YtmehfohpjigmmaaGreatDoor.Lf
open Zc
open Go.RowKit Go.Shelf
attribute [local go_sem] Oper.semAt_some
end Go.Proofs.YtmehfohpjigmmaaGreatDoor.Lf
namespace Go.Proofs.YtmehfohpjigmmaaGreatDoor.Lf
open Zc
open Go.RowKit Go.Shelf
attribute [local go_sem] Oper.semAt_some
attribute [local go_sem high] y4m
attribute [local go_sem] z2g
theorem y2z(n m:Int)(w:World):(Instr.field 39 (.agg #[.int .i64 n,.int .i64 m]) 0).run Tryz.prog w=.ok (.int .i64 n) w:=by kernel_rfl
attribute [local go_sem] y2z
theorem Blk.new1(w:World)(o:Obj)(t:TypeId)(c:Array Value):Blk ((w.alloc o).alloc (.cells c t)) (w.heap.size+1) t c:=by
 have:=Blk.new (w.alloc o) t c
 rwa [World.size_alloc] at this
theorem y2j:I64 5:=⟨by decide,by decide⟩
theorem V4(now:Int)(h:I64 now)(w:World):Calls Tryz.prog 41 #[.int .i64 now] w fun e w'=>e=.returned (.tuple #[.agg #[.int .i64 (if 0<=now then 5 else 0),.int .i64 (if 0<=now then now else 0)],.int .i64 (if 0<=now then 0 else 130)])/\Bl w w':=by
 have HR:=fun w=>jY (V1 (5,now) ⟨y2j,h⟩ w);unfold z5m at HR;simp only at HR;have K1:=jY (Blk.new1 w (.cells #[.int .i64 0,.int .i64 0] 39) 39 #[.int .i64 5,.int .i64 now]);have K0:=jY ((Blk.new w 39 #[.int .i64 0,.int .i64 0]).alloc (.cells #[.int .i64 5,.int .i64 now] 39))
 by_cases hn:0<=now
 ·rw [show Zz (5,now)=true by unfold Zz;simp [hn]] at HR;simp only [if_pos hn];clear hn
  go_enter Tryz.func41,Tryz.ntmps41
  go_wp2_with fail;refine (HR _).out.mono ?_;rintro e w1 ⟨rfl,hb⟩;obtain ⟨a0,a1,_,_⟩:=Zd (K1.out.later hb);obtain ⟨b0,b1,b2,b3⟩:=Zd (K0.out.later hb);have HB:=jY hb;clear hb;go_wp2;refine bodyPost_ret (v:=.tuple #[.agg #[.int .i64 5,.int .i64 now],.int .i64 0]) (by simp [results,Tryz.results41,go_sem,b0,b1]) rfl ⟨rfl,?_⟩;exact ((F5 (F5 HB.out)).setCell (Nat.le_refl _) _).setCell (Nat.le_refl _) _
 ·rw [show Zz (5,now)=false by unfold Zz;simp;omega] at HR;simp only [if_neg hn];clear hn
  go_enter Tryz.func41,Tryz.ntmps41
  go_wp2_with fail;refine (HR _).out.mono ?_;rintro e w1 ⟨rfl,hb⟩;obtain ⟨b0,b1,b2,b3⟩:=Zd (K0.out.later hb);have HB:=jY hb;clear hb;go_wp2;refine bodyPost_ret (v:=.tuple #[.agg #[.int .i64 0,.int .i64 0],.int .i64 130]) (by simp [results,Tryz.results41,go_sem,b0,b1]) rfl ⟨rfl,?_⟩;exact ((F5 (F5 HB.out)).setCell (Nat.le_refl _) _).setCell (Nat.le_refl _) _
end Go.Proofs.YtmehfohpjigmmaaGreatDoor.Lf
