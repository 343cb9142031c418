/- Texts of one kind in one: SpRefRen, SpRefTouch, SpRefPut, SpSortR. -/
import Derived.Test.YtcklcmafohlflaaGreatDoorQZBytes35
set_option maxRecDepth 200000
set_option maxHeartbeats 8000000
namespace Go.Proofs.YtcklcmafohlflaaGreatDoor
open Zc (Ent Ext KeepC Ym Z9 Zg Xg Zx Zb Zv Yo Y5 Ze Zz Z4 Zd)
open Go.RowKit Go.Shelf Sk
attribute [local go_sem] Oper.semAt_some
def C6(R:List Rt)(f k:ByteArray):Int:=if 0<=atR R f then (if 64<k.size then 140 else 0) else 141
def y6r(R:List Rt)(f k:ByteArray)(R':List Rt):Prop:=(C6 R f k≠0/\R'=R)\/(C6 R f k=0/\k.size<=64/\∃ x∈R,x.key=f/\R'=Y0 (Y0 R f []) k [{ x with key:=k }])
section
variable {w w1 w':World} {rp sd:Nat} {u:Value} {en mn mx:Int} {R R':List Rt} {S:Nat->Prop}
theorem x9j{w5 w6:World}{rv0:Value}{n:Nat}(hS:S rp)(hf:Far S w w5)(hk:Blk w5 rp Jn #[rv0,.int .i64 en,.int .i64 mn,.int .u32 sd,.int .i64 mx])(hb:Bl w5 w6)(hu:OwnR w6 n u R')(hn0:w.heap.size<=n)(hl:R'.length<=600)
 (hs:∀ x∈R',RefC w6 x.r x.E (Z6 en 200) (Z6 mn 64) x.isL) (hrs:(R'.map Rt.r).Nodup) (hn:∀ x∈R',S x.r\/w.heap.size<=x.r):RefNow w rp en mn sd mx S R' (w6.setCell ⟨rp,0,none⟩ u):=by
 have hrp:=hk.later hb;have hb2:=hrp.set 0 u;simp only [List.setIfInBounds_toArray,List.set_cons_zero] at hb2;have hfar:Far (fun k=>k=rp) w6 (w6.setCell ⟨rp,0,none⟩ u):=(Far.refl _ _).set _ _ (.inl rfl);refine ⟨z8x rp u R',⟨u,⟨hb2,?_,fun x hx=>?_,hrs⟩,hl,fun k=>Iff.rfl⟩,fun k hk=>?_,(hf.then_below hb).set _ _ (.inl hS)⟩
 ·refine OwnR.mono0 (hu.keep fun k hk=>?_);obtain ⟨c,hc⟩:=hu.blk hk;refine hfar.block k hc.lt fun e=>?_;subst e;have e:=Option.some.inj (hc.symm.trans hrp)
  injection e with _ e2
  exact absurd e2 (by decide)
 ·refine (hs x hx).far hfar (fun e=>?_) fun k cur hk2 e=>?_
  ·obtain ⟨a,c,hc⟩:=(hs x hx).cells;rw [e] at hc;have e:=Option.some.inj (hc.symm.trans hrp)
   injection e with _ e2
   exact absurd e2 (by decide)
  ·subst e;have e:=Option.some.inj (hk2.symm.trans hrp)
   injection e with _ e2
   exact absurd e2 (by decide)
 ·rcases hk with rfl|hk|⟨x,hx,rfl⟩
  ·exact .inl hS
  ·exact .inr (lAe hn0 (World.ownsRow.lt hu k hk).1)
  ·exact hn x hx
theorem x5l:∀ {R:List Rt},(R.map Rt.r).Nodup->∀ {x y:Rt},x∈R->y∈R->x.r=y.r->x=y
 | [],_,_,_,h,_,_=>by cases h
 | a :: R,hn,x,y,hx,hy,e=>by
   rw [List.map_cons,List.nodup_cons] at hn;rcases List.mem_cons.1 hx with h1|h1 <;> rcases List.mem_cons.1 hy with h2|h2
   ·rw [h1,h2]
   ·exact absurd (List.mem_map.2 ⟨y,h2,by rw [<- e,h1]⟩) hn.1
   ·exact absurd (List.mem_map.2 ⟨x,h1,by rw [e,h2]⟩) hn.1
   ·exact x5l hn.2 h1 h2 e
theorem x2t{f:ByteArray}{x:Rt}(hx:x∈R)(he:x.key=f):(Pr R f).length<R.length:=by
 unfold Pr;rw [List.length_filter_lt_length_iff_exists];exact ⟨x,hx,by simp [he]⟩
theorem x5f{r:Nat}{E:List En}{le lm:Int}{b:Bool}{c:Array Value}(h:RefC w r E le lm b)(hk:Blk w rp Jn c)(v:Value):RefC (w.setCell ⟨rp,0,none⟩ v) r E le lm b:=by
 refine h.far (S:=fun k=>k=rp) ((Far.refl _ _).set _ _ (.inl rfl)) (fun e=>?_) fun k cur hk2 e=>?_
 ·obtain ⟨a,c,hc⟩:=h.cells;rw [e] at hc;have e:=Option.some.inj (hc.symm.trans hk)
  injection e with _ e2
  exact absurd e2 (by decide)
 ·subst e;have e:=Option.some.inj (hk2.symm.trans hk)
  injection e with _ e2
  exact absurd e2 (by decide)
theorem y3h(h:RefSp w rp en mn sd mx R S)(hz:∀ x∈R,x.key.size<=281474976710656)(f k:ByteArray)(hf:f.size<=281474976710656)(hk:k.size<=281474976710656) :
 Calls Tryz.prog 35 #[.pointer (some ⟨rp,0,none⟩),.string f,.string k] w fun e w'=>∃ R',e=.returned (.int .i64 (C6 R f k))/\RefNow w rp en mn sd mx S R' w'/\y6r R f k R':=by
 have HA:=jY (Ge h f);have HS:=jY (RefNow.same h (Below.refl _ _));obtain ⟨rv,hb,ho,hl,hs,hrs,hS⟩:=h.keys
 by_cases hat:0<=atR R f
 ·obtain ⟨i,x,hi,hx,hxk,hil⟩:=O7 hat;rw [hi] at HA
  by_cases h64:64<k.size
  ·have hm:C6 R f k=140:=by unfold C6;rw [if_pos hat,if_pos h64]
   have h64i:(64:Int)<k.size:=by omega
   have HM:=jY (show y6r R f k R from .inl ⟨by rw [hm];decide,rfl⟩);rw [hm];clear hm h hb ho hs hrs hS hz hxk hat hi hx
   go_enter Tryz.func35,Tryz.ntmps35
   go_wp2_with fail;refine HA.out.mono ?_;rintro e w1 ⟨rfl,rfl⟩;go_wp2_with fail;go_ret;exact ⟨R,rfl,HS.out,HM.out⟩
  ·have hm:C6 R f k=0:=by unfold C6;rw [if_pos hat,if_neg h64]
   have h64i:(k.size:Int)<=64:=by omega
   have hxm:=lAc hx;have HM:=jY (show y6r R f k (Y0 (Y0 R f []) k [{ x with key:=k }]) from .inr ⟨hm,by omega,x,hxm,hxk,rfl⟩);obtain ⟨g,cap,rfl,g0,g1,g2,g3⟩:=ho.cells hx;have c0:=hb.cell 0;have hil2:(i:Int)<R.length:=by omega
   have c3:=(hb.alloc (.cells #[.string k,.pointer (some ⟨x.r,0,none⟩),.int .i64 x.uc,.int .i64 x.ua] V0)).cell 0;have hb3:=Z0 w (.cells #[.string k,.pointer (some ⟨x.r,0,none⟩),.int .i64 x.uc,.int .i64 x.ua] V0);have k3:=Blk.new w V0 #[.string k,.pointer (some ⟨x.r,0,none⟩),.int .i64 x.uc,.int .i64 x.ua];have HW:=jY (D8 (X:=[]) f hf (by omega) hz (w.alloc (.cells #[.string k,.pointer (some ⟨x.r,0,none⟩),.int .i64 x.uc,.int .i64 x.ua] V0)) (ho.later hb3) (.inl ⟨rfl,rfl⟩));simp at c0 c3;rw [hm]
   go_enter Tryz.func35,Tryz.ntmps35
   go_wp2_with fail;refine HA.out.mono ?_;rintro e w1 ⟨rfl,rfl⟩;go_wp2_with fail;generalize w1.alloc (.cells #[.string k,.pointer (some ⟨x.r,0,none⟩),.int .i64 x.uc,.int .i64 x.ua] V0)=w3 at *;refine HW.out.mono ?_;rintro e w4 ⟨u,rfl,hu,hb4⟩;obtain ⟨uA,uC,rfl,_,_⟩:=hu.form;have hb14:=hb3.trans (hb4.mono hb3.size);have c4:=(hb.later hb14).cell 0;have f4:=(hb.later hb14).free 0;simp at c4;go_wp2_with fail
   have k5:Blk (w4.setCell ⟨rp,0,none⟩ (.slice uA (Y0 R f []).length uC)) rp Jn #[.slice uA (Y0 R f []).length uC,.int .i64 en,.int .i64 mn,.int .u32 sd,.int .i64 mx]:=by
    have:=(hb.later hb14).set 0 (.slice uA (Y0 R f []).length uC)
    simpa only [List.setIfInBounds_toArray,List.set_cons_zero] using this
   have hSrp:S rp:=by
    obtain ⟨_,_,_,hS⟩:=h;exact (hS rp).2 (.inl rfl)
   have hrp:rp<w1.heap.size:=hb.lt;have hne:w1.heap.size≠rp:=by omega
   have hf5:Far S w1 (w4.setCell ⟨rp,0,none⟩ (.slice uA (Y0 R f []).length uC)):=(Far.of_below hb14).set _ _ (.inl hSrp);have kx5:=(k3.later hb4).setOther 0 (.slice uA (Y0 R f []).length uC) hne
   have hu5:OwnR (w4.setCell ⟨rp,0,none⟩ (.slice uA (Y0 R f []).length uC)) 0 (.slice uA (Y0 R f []).length uC) (Y0 R f []):=OwnR.mono0 (hu.keep fun j hj=>Below.heap_setCell _ _ _ _ fun e=>by
    have h1:=(World.ownsRow.lt hu j hj).1;have h2:=hb3.size;simp only at e
    omega)
   have hs5:∀ y∈R,RefC (w4.setCell ⟨rp,0,none⟩ (.slice uA (Y0 R f []).length uC)) y.r y.E (Z6 en 200) (Z6 mn 64) y.isL:=fun y hy=>x5f ((hs y hy).later hb14) (hb.later hb14) _
   have hlt1:(Y0 R f []).length<R.length:=by
    rw [(Um R f []).length_eq,List.append_nil];exact x2t hxm hxk
   generalize w4.setCell ⟨rp,0,none⟩ (.slice uA (Y0 R f []).length uC)=w5 at *
   have hx1:∀ y∈(Y0 R f []),y∈R/\y.key≠f:=fun y hy=>by
    have:=(Um R f []).mem_iff.1 hy
    rw [List.append_nil] at this;unfold Pr at this;rw [List.mem_filter] at this;exact ⟨this.1,by simpa using this.2⟩
   have hb5d:Bl w5 w5.drew:=Zk w5 1;have hb6:Bl w5 (w5.drew.alloc (.cells #[.string k,.pointer (some ⟨x.r,0,none⟩),.int .i64 x.uc,.int .i64 x.ua] V0)):=hb5d.alloc (lAd _) _;have HWI:=jY (D8 (X:=[{ x with key:=k }]) k hk (by omega) (fun y hy=>hz y (hx1 y hy).1) (w5.drew.alloc (.cells #[.string k,.pointer (some ⟨x.r,0,none⟩),.int .i64 x.uc,.int .i64 x.ua] V0)) (hu5.later hb6) (z0u w5.drew { x with key:=k }));have k6:=kx5.later hb6
   have HEND:=jY (fun w7 u (hb7:Below (w5.drew.alloc (.cells #[.string k,.pointer (some ⟨x.r,0,none⟩),.int .i64 x.uc,.int .i64 x.ua] V0)).heap.size (w5.drew.alloc (.cells #[.string k,.pointer (some ⟨x.r,0,none⟩),.int .i64 x.uc,.int .i64 x.ua] V0)) w7) (hu:OwnR w7 (w5.drew.alloc (.cells #[.string k,.pointer (some ⟨x.r,0,none⟩),.int .i64 x.uc,.int .i64 x.ua] V0)).heap.size u (Y0 (Y0 R f []) k [{ x with key:=k }]))=>show ∃ vA vC,u=.slice vA (Y0 (Y0 R f []) k [{ x with key:=k }]).length vC/\RefNow w1 rp en mn sd mx S (Y0 (Y0 R f []) k [{ x with key:=k }]) (w7.setCell ⟨rp,0,none⟩ u)/\Blk w7 w1.heap.size V0 #[.string k,.pointer (some ⟨x.r,0,none⟩),.int .i64 x.uc,.int .i64 x.ua]/\Blk w7 rp Jn #[.slice uA (Y0 R f []).length uC,.int .i64 en,.int .i64 mn,.int .u32 sd,.int .i64 mx] from by
    obtain ⟨vA,vC,he,_,_⟩:=hu.form;have hb57:=hb6.trans (hb7.mono hb6.size);refine ⟨vA,vC,he,x9j hSrp hf5 k5 hb57 hu (lAe hf5.size hb6.size) ?_ (fun y hy=>?_) (D4 (D4 hrs (by simp) fun y hy=>by cases hy) (by simp) fun y hy z hz2 _ e=>?_) fun y hy=>?_,k6.later hb7,k5.later hb57⟩
    ·have:=Cc (Y0 R f []) k [{ x with key:=k }]
     simp at this;omega
    ·rcases Oy hy with hy|hy
     ·exact (hs5 y (hx1 y hy).1).later hb57
     ·rw [lAg] at hy;subst hy;exact (hs5 x hxm).later hb57
    ·rw [lAg] at hy;subst hy;obtain ⟨h1,h2⟩:=hx1 z hz2;exact h2 ((x5l hrs hxm h1 e) ▸ hxk)
    ·rcases Oy hy with hy|hy
     ·exact .inl (hS y (hx1 y hy).1)
     ·rw [lAg] at hy;subst hy
      exact .inl (hS x hxm))
   have HSB:=jY (fun (V:World) (h:Blk V w1.heap.size V0 #[.string k,.pointer (some ⟨x.r,0,none⟩),.int .i64 x.uc,.int .i64 x.ua])=>show V.cell? ⟨w1.heap.size,0,none⟩=some (.string k)/\V.cell? ⟨w1.heap.size,1,none⟩=some (.pointer (some ⟨x.r,0,none⟩))/\V.cell? ⟨w1.heap.size,2,none⟩=some (.int .i64 x.uc)/\V.cell? ⟨w1.heap.size,3,none⟩=some (.int .i64 x.ua) from ⟨h.cell 0,h.cell 1,h.cell 2,h.cell 3⟩);have S0:=jY (HSB.out w5.drew (kx5.later hb5d));have S6:=jY (HSB.out (w5.drew.alloc (.cells #[.string k,.pointer (some ⟨x.r,0,none⟩),.int .i64 x.uc,.int .i64 x.ua] V0)) k6);have c5:=k5.cell 0;have c6:=(k5.alloc (.cells #[.string k,.pointer (some ⟨x.r,0,none⟩),.int .i64 x.uc,.int .i64 x.ua] V0)).cell 0;simp at c5 c6;clear h hb ho hs hrs hS hz HS HA hx hi hat hxk c0 c3 hb3 k3 hb4 hb14 c4 f4 hu hu5 hs5 hlt1 hx1 hb5d hb6 kx5 k5 hf5 HW g0 g1 g2 g3;refine wp_region_any (by kernel_rfl) (wpAny_of_held (S:=fun V=>V.cell? ⟨w1.heap.size,0,none⟩=some (.string k)/\V.cell? ⟨w1.heap.size,1,none⟩=some (.pointer (some ⟨x.r,0,none⟩))/\V.cell? ⟨w1.heap.size,2,none⟩=some (.int .i64 x.uc)/\V.cell? ⟨w1.heap.size,3,none⟩=some (.int .i64 x.ua)) _ _ _ _ ?_);change wpAnyH _ _ _ _ _ _ _ _ (World.drew _);refine wpAnyH_take (i:=0) (v:=.pointer (some ⟨rp,0,none⟩)) rfl (by kernel_rfl) (by decide +kernel) (by decide +kernel) (fun _ _ _ h=>h) (.inl ⟨by rfl,fun W' hS=>by go_simp⟩) S0.out ?_;simp only [Act.put];refine wpAnyH_take (i:=1) (v:=.pointer (some ⟨rp,0,none⟩)) rfl (by kernel_rfl) (by decide +kernel) (by decide +kernel) (fun _ _ _ h=>h) (.inl ⟨by rfl,fun W' hS=>by go_simp⟩) S0.out ?_;simp only [Act.put];refine wpAnyH_take (i:=2) (v:=.pointer (some ⟨rp,0,none⟩)) rfl (by kernel_rfl) (by decide +kernel) (by decide +kernel) (fun _ _ _ h=>h) (.inl ⟨by rfl,fun W' hS=>by go_simp⟩) S0.out ?_;simp only [Act.put];refine wpAnyH_take (i:=3) (v:=.pointer (some ⟨rp,0,none⟩)) rfl (by kernel_rfl) (by decide +kernel) (by decide +kernel) (fun _ _ _ h=>h) (.inl ⟨by rfl,fun W' hS=>by go_simp⟩) S0.out ?_;simp only [Act.put];refine wpAnyH_take (i:=5) (v:=.string k) rfl (by kernel_rfl) (by decide +kernel) (by decide +kernel) (fun _ _ _ h=>h) (.inl ⟨by rfl,fun W' hS=>by go_simp⟩) S0.out ?_;simp only [Act.put];refine wpAnyH_take (i:=6) (v:=.agg #[.string k,.pointer (some ⟨x.r,0,none⟩),.int .i64 x.uc,.int .i64 x.ua]) rfl (by kernel_rfl) (by decide +kernel) (by decide +kernel) (fun _ _ _ h=>h) (.inl ⟨by rfl,fun W' hS=>by obtain ⟨s0,s1,s2,s3⟩:=hS;go_simp⟩) S0.out ?_;simp only [Act.put];refine wpAnyH_all (rs:=[4,7]) (by decide +kernel) (by simp) ?_;intro i hi;simp only [List.mem_cons,List.not_mem_nil,or_false] at hi;rcases hi with rfl|rfl
   ·refine Yr rfl (by rfl) fun K' hK=>?_
    go_simp
    refine hK _ _ S0.out ?_;clear hK K';refine wpAnyH_all (rs:=[7]) (by decide +kernel) (by simp) ?_;intro i hi;rw [lAg] at hi;subst hi;refine Yr rfl (by rfl) fun K' hK=>?_
    go_simp
    refine hK _ _ S6.out ?_;clear hK K';refine wpAnyH_all (rs:=[8]) (by decide +kernel) (by simp) ?_;intro i hi;rw [lAg] at hi;subst hi;refine Yr rfl (by rfl) fun K' hK=>?_
    go_simp
    go_at_call 59
    refine HWI.out.mono ?_;rintro e w7 ⟨u,rfl,hu,hb7⟩;obtain ⟨vA,vC,rfl,HN7,k7,kr⟩:=HEND.out w7 u hb7 hu;have f7:=kr.free 0;have c7:=kr.cell 0;simp at c7;have S7:=jY (HSB.out w7 k7);have S8:=jY (HSB.out (w7.setCell ⟨rp,0,none⟩ (.slice vA (Y0 (Y0 R f []) k [{ x with key:=k }]).length vC)) (k7.setOther 0 _ hne));have HNN:=jY HN7;clear hu hb7 HN7 k7 kr HWI HEND;refine hK _ _ S7.out ?_;clear hK K';refine wpAnyH_all (rs:=[9]) (by decide +kernel) (by simp) ?_;intro i hi;rw [lAg] at hi;subst hi;refine Yr rfl (by rfl) fun K' hK=>?_
    go_simp
    refine hK _ _ S7.out ?_;clear hK K';refine wpAnyH_all (rs:=[10]) (by decide +kernel) (by simp) ?_;intro i hi;rw [lAg] at hi;subst hi;refine Yr rfl (by rfl) fun K' hK=>?_
    go_simp
    refine hK _ _ S7.out ?_;clear hK K';refine wpAnyH_all (rs:=[11]) (by decide +kernel) (by simp) ?_;intro i hi;rw [lAg] at hi;subst hi;refine Yr rfl (by rfl) fun K' hK=>?_
    go_simp
    refine hK _ _ S8.out ?_;clear hK K';refine wpAnyH_done (by decide +kernel) ?_ _;clear S7 S8 c7 f7;go_wp2_with fail;go_ret;exact ⟨_,rfl,HNN.out,HM.out⟩
   ·refine Yr rfl (by rfl) fun K' hK=>?_
    go_simp
    refine hK _ _ S6.out ?_;clear hK K';refine wpAnyH_all (rs:=[4]) (by decide +kernel) (by simp) ?_;intro i hi;rw [lAg] at hi;subst hi;refine Yr rfl (by rfl) fun K' hK=>?_
    go_simp
    refine hK _ _ S6.out ?_;clear hK K';refine wpAnyH_all (rs:=[8]) (by decide +kernel) (by simp) ?_;intro i hi;rw [lAg] at hi;subst hi;refine Yr rfl (by rfl) fun K' hK=>?_
    go_simp
    go_at_call 59
    refine HWI.out.mono ?_;rintro e w7 ⟨u,rfl,hu,hb7⟩;obtain ⟨vA,vC,rfl,HN7,k7,kr⟩:=HEND.out w7 u hb7 hu;have f7:=kr.free 0;have c7:=kr.cell 0;simp at c7;have S7:=jY (HSB.out w7 k7);have S8:=jY (HSB.out (w7.setCell ⟨rp,0,none⟩ (.slice vA (Y0 (Y0 R f []) k [{ x with key:=k }]).length vC)) (k7.setOther 0 _ hne));have HNN:=jY HN7;clear hu hb7 HN7 k7 kr HWI HEND;refine hK _ _ S7.out ?_;clear hK K';refine wpAnyH_all (rs:=[9]) (by decide +kernel) (by simp) ?_;intro i hi;rw [lAg] at hi;subst hi;refine Yr rfl (by rfl) fun K' hK=>?_
    go_simp
    refine hK _ _ S7.out ?_;clear hK K';refine wpAnyH_all (rs:=[10]) (by decide +kernel) (by simp) ?_;intro i hi;rw [lAg] at hi;subst hi;refine Yr rfl (by rfl) fun K' hK=>?_
    go_simp
    refine hK _ _ S7.out ?_;clear hK K';refine wpAnyH_all (rs:=[11]) (by decide +kernel) (by simp) ?_;intro i hi;rw [lAg] at hi;subst hi;refine Yr rfl (by rfl) fun K' hK=>?_
    go_simp
    refine hK _ _ S8.out ?_;clear hK K';refine wpAnyH_done (by decide +kernel) ?_ _;clear S7 S8 c7 f7;go_wp2_with fail;go_ret;exact ⟨_,rfl,HNN.out,HM.out⟩
 ·obtain ⟨hat1,hno⟩:=Mc hat;have hm:C6 R f k=141:=by unfold C6;rw [if_neg hat]
  have HM:=jY (show y6r R f k R from .inl ⟨by rw [hm];decide,rfl⟩);rw [hm];rw [hat1] at HA;clear hm h hb ho hs hrs hS hz hat hat1 hno
  go_enter Tryz.func35,Tryz.ntmps35
  go_wp2_with fail;refine HA.out.mono ?_;rintro e w1 ⟨rfl,rfl⟩;go_wp2_with fail;go_ret;exact ⟨R,rfl,HS.out,HM.out⟩
end
theorem Mg:∀ (R:List Rt) (i:Nat) (x:Rt),i<R.length->Yw (R.set i x)=((((Yw R).set (i*4) (.string x.key)).set (i*4+1) (.pointer (some ⟨x.r,0,none⟩))).set (i*4+2) (.int .i64 x.uc)).set (i*4+3) (.int .i64 x.ua)
 | [],i,x,h=>by simp at h
 | a :: R,0,x,_=>by simp [Yw,Qo]
 | a :: R,i+1,x,h=>by
   have ih:=Mg R i x (by simpa using h)
   have e:∀ (l:List Value) (j:Nat) (v:Value),(Qo a++l).set (j+4) v=Qo a++l.set j v:=fun l j v=>by
    rw [List.set_append_right _ _ (by simp [Qo])];simp [Qo]
   have c:∀ (b:Rt) (L:List Rt),Yw (b :: L)=Qo b++Yw L:=fun b L=>by simp [Yw]
   rw [List.set_cons_succ,c,c,ih,show (i+1)*4=i*4+4 by omega,e,show i*4+4+1=i*4+1+4 by omega,e,show i*4+4+2=i*4+2+4 by omega,e,show i*4+4+3=i*4+3+4 by omega,e]
theorem Vf{α:Type}{l:List α}{i:Nat}{a:α}(h:l[i]?=some a):l.set i a=l:=by
 apply List.ext_getElem?
 intro j;rw [List.getElem?_set];obtain ⟨hi,he⟩:=lAb.1 h
 by_cases e:i=j
 ·subst e;rw [if_pos rfl,if_pos hi,h]
 ·rw [if_neg e]
section
variable {w w1 w' W:World} {rp sd:Nat} {u:Value} {en mn mx:Int} {R R':List Rt} {S:Nat->Prop} {x:Rt}
theorem OwnR.use{n0 g cap i:Nat}(h:OwnR W n0 (.slice (some ⟨g,0,none⟩) R.length cap) R)(hx:R[i]?=some x)(c a:Int) :
 OwnR ((W.setCell ⟨g,i*4+2,none⟩ (.int .i64 c)).setCell ⟨g,i*4+3,none⟩ (.int .i64 a)) n0 (.slice (some ⟨g,0,none⟩) R.length cap) (R.set i { x with uc:=c,ua:=a }):=by
 obtain ⟨hi,_⟩:=lAb.1 hx;obtain ⟨q1,q2,q3,q4⟩:=On R i x hx;have h1:=(World.ownsRow.stored h (i*4+2) (.int .i64 c)).1;have h2:=(World.ownsRow.stored h1 (i*4+3) (.int .i64 a)).1
 have e:Yw (R.set i { x with uc:=c,ua:=a })=((Yw R).set (i*4+2) (.int .i64 c)).set (i*4+3) (.int .i64 a):=by
  rw [Mg R i _ hi];simp only;rw [Vf q1,Vf q2]
 unfold OwnR;rw [e,List.length_set];exact h2
theorem Fk{r g o:Nat}{E:List En}{le lm:Int}{b:Bool}{t:TypeId}{c:Array Value}(h:RefC w r E le lm b)(hk:Blk w g t c)(h1:t≠v2w)(h2:t≠94)(v:Value):RefC (w.setCell ⟨g,o,none⟩ v) r E le lm b:=by
 refine h.far (S:=fun k=>k=g) ((Far.refl _ _).set _ _ (.inl rfl)) (fun e=>?_) fun k cur hk2 e=>?_
 ·obtain ⟨a,c,hc⟩:=h.cells;rw [e] at hc;have e:=Option.some.inj (hc.symm.trans hk)
  injection e with _ e2
  exact h1 e2.symm
 ·subst e;have e:=Option.some.inj (hk2.symm.trans hk)
  injection e with _ e2
  exact h2 e2.symm
theorem x9k{g cap i:Nat}(h:RefSp w rp en mn sd mx R S)(hb:Blk w rp Jn #[.slice (some ⟨g,0,none⟩) R.length cap,.int .i64 en,.int .i64 mn,.int .u32 sd,.int .i64 mx])(hw:Bl w w1)(hx:R[i]?=some x)(c a:Int) :
 RefNow w rp en mn sd mx S (R.set i { x with uc:=c,ua:=a }) ((w1.setCell ⟨g,i*4+2,none⟩ (.int .i64 c)).setCell ⟨g,i*4+3,none⟩ (.int .i64 a)):=by
 obtain ⟨hi,_⟩:=lAb.1 hx;have hxm:=lAc hx;obtain ⟨rv,g0,hl,hS⟩:=h;have e0:=Option.some.inj (g0.blk.symm.trans hb)
 injection e0 with e1 _
 simp at e1;subst e1;have ho1:=g0.row.later hw;obtain ⟨cg,hg⟩:=ho1.blk (k:=g) rfl;have hg2:=hg.set (i*4+2) (.int .i64 c);have hbr:=hb.later hw
 have hne:rp≠g:=fun e=>by
  rw [e] at hbr;have e:=Option.some.inj (hbr.symm.trans hg)
  injection e with _ e2
  exact absurd e2 (by decide)
 have hSg:S g:=(hS g).2 (.inr (.inl rfl))
 have hrs:(R.set i { x with uc:=c,ua:=a }).map Rt.r=R.map Rt.r:=by
  rw [List.map_set];exact Vf (by rw [List.getElem?_map,hx];rfl)
 have hmem:∀ y∈R.set i { x with uc:=c,ua:=a },∃ z∈R,y.r=z.r/\y.E=z.E/\y.isL=z.isL:=fun y hy=>by
  rcases List.mem_or_eq_of_mem_set hy with h|h
  ·exact ⟨y,h,rfl,rfl,rfl⟩
  ·exact ⟨x,hxm,by rw [h],by rw [h],by rw [h]⟩
 refine ⟨S,⟨_,⟨(hbr.setOther _ _ hne).setOther _ _ hne,ho1.use hx c a,fun y hy=>?_,by rw [hrs];exact g0.rs⟩,by rw [List.length_set];exact hl,fun k=>(hS k).trans ?_⟩,fun k hk=>.inl hk,((Far.of_below hw).set _ _ (.inl hSg)).set _ _ (.inl hSg)⟩
 ·obtain ⟨z,hz,e1,e2,e3⟩:=hmem y hy;rw [e1,e2,e3];exact Fk (Fk ((g0.set z hz).later hw) hg (by decide) (by decide) _) hg2 (by decide) (by decide) _
 ·unfold z8x
  have hm:(∃ z∈R,k=z.r)↔∃ y∈R.set i { x with uc:=c,ua:=a },k=y.r:=by
   have h1:(∃ z∈R,k=z.r)↔k∈R.map Rt.r:=by rw [List.mem_map];exact ⟨fun ⟨z,h1,h2⟩=>⟨z,h1,h2.symm⟩,fun ⟨z,h1,h2⟩=>⟨z,h1,h2.symm⟩⟩
   have h2:(∃ y∈R.set i { x with uc:=c,ua:=a },k=y.r)↔k∈(R.set i { x with uc:=c,ua:=a }).map Rt.r:=by rw [List.mem_map];exact ⟨fun ⟨z,h1,h2⟩=>⟨z,h1,h2.symm⟩,fun ⟨z,h1,h2⟩=>⟨z,h1,h2.symm⟩⟩
   rw [h1,h2,hrs]
  rw [hm]
def D9(R:List Rt)(k:ByteArray)(now d n:Int)(R':List Rt):Prop:=((∀ x∈R,x.key≠k)/\n=141/\R'=R)\/∃ i x,R[i]?=some x/\x.key=k/\n=Lf.Ou (x.uc,x.ua) now/\R'=R.set i { x with toIt:=Y8 now d x.toIt }
theorem y8t(h:RefSp w rp en mn sd mx R S)(k:ByteArray)(now d:Int)(hn:Lf.I64 now)(hd1:0<=d)(hd2:d<=4294967295) :
 Calls Tryz.prog 37 #[.pointer (some ⟨rp,0,none⟩),.string k,.int .i64 now,.int .u32 d] w fun e w'=>∃ n R',e=.returned (.int .i64 n)/\RefNow w rp en mn sd mx S R' w'/\D9 R k now d n R':=by
 have HA:=jY (Ge h k);have HS:=jY (fun w' hb=>RefNow.same (w':=w') h hb);obtain ⟨rv,hb,ho,hl,hs,hrs,hS⟩:=h.keys
 by_cases hat:0<=atR R k
 ·obtain ⟨i,x,hi,hx,hxk,hil⟩:=O7 hat;obtain ⟨g,cap,rfl,g0,g1,g2,g3⟩:=ho.cells hx;have c0:=hb.cell 0;simp at c0;have hil2:(i:Int)<R.length:=by omega
  have HT:=fun W=>jY (Lf.z5u (x.uc,x.ua) now d hn hd1 hd2 W);have HO:=jY ho;have HB:=jY hb;rw [hi] at HA;unfold Lf.Q6 at HT;simp only at HT
  by_cases hok:Lf.okB (x.uc,x.ua) now=true
  ·have hen:Lf.Ou (x.uc,x.ua) now=0:=by unfold Lf.Ou;rw [if_pos hok]
   have hto:Y8 now d x.toIt=x.toIt.use (Lf.O4 (x.uc,x.ua) now d) (Lf.O3 (x.uc,x.ua) now):=by unfold Y8;rw [if_pos hok]
   have HM:=jY (show D9 R k now d 0 (R.set i { x with uc:=Lf.O4 (x.uc,x.ua) now d,ua:=Lf.O3 (x.uc,x.ua) now }) from .inr ⟨i,x,hx,hxk,hen.symm,by rw [hto];rfl⟩);unfold Lf.Gl at HT;rw [hen] at HT;generalize Lf.O4 (x.uc,x.ua) now d=tc at *;generalize Lf.O3 (x.uc,x.ua) now=ta at *;have HU:=jY (fun W hbW=>x9k (w1:=W) h hb hbW hx tc ta);clear hen hto h hs hrs hS hat hi hxk hok ho hb
   go_enter Tryz.func37,Tryz.ntmps37
   go_wp2_with fail;refine HA.out.mono ?_;rintro e w1 ⟨rfl,rfl⟩;go_wp2_with fail;refine (HT w1).out.mono ?_;rintro e w2 ⟨rfl,hb2⟩;have hb3:Bl w1 (w2.alloc (.cells #[.int .i64 tc,.int .i64 ta] 48)):=hb2.alloc hb2.size _;have HX:=jY (HU.out _ hb3);have c3:=(HB.out.later hb3).cell 0;simp at c3;have hO3:=HO.out.later hb3;obtain ⟨_,_,e1,_,_,q2,q3⟩:=hO3.cells hx
   injection e1 with e1 _ e2
   injection e1 with e1
   injection e1 with e1
   subst e1;subst e2;have z2:=World.ownsRow.frozenAt hO3 (i*4+2);have z3:=World.ownsRow.frozenAt hO3 (i*4+3);have ku:=Blk.new w2 48 #[.int .i64 tc,.int .i64 ta];have u0:=ku.cell 0;have u1:=ku.cell 1;simp at u0 u1;clear hb2 hb3 hO3 HU HB HO HT HA HS ku;go_wp2_with fail
   go_region
   go_wp2_with fail;go_ret;exact ⟨0,_,rfl,HX.out.later (Zk _ 1),HM.out⟩
  ·have hen:Lf.Ou (x.uc,x.ua) now=130:=by unfold Lf.Ou;rw [if_neg hok]
   have hto:Y8 now d x.toIt=x.toIt:=by unfold Y8;rw [if_neg hok]
   have HM:=jY (show D9 R k now d 130 R from .inr ⟨i,x,hx,hxk,hen.symm,by rw [hto];exact (Vf hx).symm⟩);unfold Lf.Gl at HT;rw [hen] at HT;generalize Lf.O4 (x.uc,x.ua) now d=tc at *;generalize Lf.O3 (x.uc,x.ua) now=ta at *;clear hen hto h hs hrs hS hat hi hxk hok ho hb
   go_enter Tryz.func37,Tryz.ntmps37
   go_wp2_with fail;refine HA.out.mono ?_;rintro e w1 ⟨rfl,rfl⟩;go_wp2_with fail;refine (HT w1).out.mono ?_;rintro e w2 ⟨rfl,hb2⟩;have HX:=jY (HS.out _ (hb2.alloc hb2.size (.cells #[.int .i64 tc,.int .i64 ta] 48)));clear hb2 HB HO HT HA HS;go_wp2_with fail;go_ret;exact ⟨130,R,rfl,HX.out,HM.out⟩
 ·obtain ⟨hat1,hno⟩:=Mc hat;have HM:=jY (show D9 R k now d 141 R from .inl ⟨hno,rfl,rfl⟩);rw [hat1] at HA;clear h hb ho hs hrs hS hat hat1 hno
  go_enter Tryz.func37,Tryz.ntmps37
  go_wp2_with fail;refine HA.out.mono ?_;rintro e w1 ⟨rfl,rfl⟩;go_wp2_with fail;go_ret;exact ⟨141,R,rfl,HS.out _ (Below.refl _ _),HM.out⟩
end
theorem De{le lm:Int}(h1:0<=le/\le<=200)(h2:0<=lm/\lm<=64)(l:List En)(hs:∀ e∈l,Pk.Ya e.2):∀ i,i<=l.length->i<=300->Good le lm i (Ub le lm (l.take i) (false,[])).2/\FitE (Ub le lm (l.take i) (false,[])).1 le lm (Ub le lm (l.take i) (false,[])).2
 | 0,_,_=>⟨⟨h1,h2,List.Pairwise.nil,List.Pairwise.nil,(fun e he=>nomatch he),lAd _,(by decide)⟩,y5d _ h1.1⟩
 | i+1,hi,hi2=>by
   obtain ⟨g,f⟩:=De h1 h2 l hs i (by omega) (by omega);rw [lAf (by omega),Mj];refine ⟨?_,y5c f g.dist _ _ _⟩;simp only;unfold Mb
   cases hb:Cw l[i].1 1 with
   | true=>exact g.more (by omega) (by omega)
   | false =>
     have hk:l[i].1.size<=64:=by
      unfold Cw at hb
      have:=of_decide_eq_false hb
      omega
     exact g.add (by omega) _ _ hk (hs _ (List.getElem_mem (by omega)))
section
variable {w w1 w' W:World} {rp sd:Nat} {u:Value} {en mn mx:Int} {R R':List Rt} {S:Nat->Prop} {x:Rt}
theorem OwnR.reset{n0 g cap i:Nat}(h:OwnR W n0 (.slice (some ⟨g,0,none⟩) R.length cap) R)(hx:R[i]?=some x)(b:Bool)(E:List En)(r:Nat) :
 OwnR (W.setCell ⟨g,i*4+1,none⟩ (.pointer (some ⟨r,0,none⟩))) n0 (.slice (some ⟨g,0,none⟩) R.length cap) (R.set i { x with isL:=b,E:=E,r:=r }):=by
 obtain ⟨hi,_⟩:=lAb.1 hx;obtain ⟨q1,q2,q3,q4⟩:=On R i x hx;have h1:=(World.ownsRow.stored h (i*4+1) (.pointer (some ⟨r,0,none⟩))).1
 have e:Yw (R.set i { x with isL:=b,E:=E,r:=r })=(Yw R).set (i*4+1) (.pointer (some ⟨r,0,none⟩)):=by
  rw [Mg R i _ hi];simp only;rw [Vf q1,Vf (a:=Value.int .i64 x.uc) (by rw [List.getElem?_set_ne (by omega)];exact q3),Vf (a:=Value.int .i64 x.ua) (by rw [List.getElem?_set_ne (by omega)];exact q4)]
 unfold OwnR;rw [e,List.length_set];exact h1
theorem z2l:∀ (l:List Nat) (i r:Nat),l.Nodup->r ∉ l->(l.set i r).Nodup
 | [],_,_,_,_=>by simp
 | a :: l,0,r,h,hr=>by
   rw [List.nodup_cons] at h;rw [List.set_cons_zero,List.nodup_cons];exact ⟨fun e=>hr (List.mem_cons_of_mem _ e),h.2⟩
 | a :: l,i+1,r,h,hr=>by
   rw [List.nodup_cons] at h;rw [List.set_cons_succ,List.nodup_cons];refine ⟨fun e=>?_,z2l l i r h.2 fun e=>hr (List.mem_cons_of_mem _ e)⟩;rcases List.mem_or_eq_of_mem_set e with h1|h1
   ·exact h.1 h1
   ·exact hr (by rw [h1];exact List.mem_cons_self ..)
theorem y8v{g cap i r:Nat}{E:List En}{b:Bool}(h:RefSp w rp en mn sd mx R S)(hb:Blk w rp Jn #[.slice (some ⟨g,0,none⟩) R.length cap,.int .i64 en,.int .i64 mn,.int .u32 sd,.int .i64 mx])(hx:R[i]?=some x)(hr:RefC w r E (Z6 en 200) (Z6 mn 64) b)(hn:∀ y∈R,y.r≠r) :
 ∃ S',RefSp (w.setCell ⟨g,i*4+1,none⟩ (.pointer (some ⟨r,0,none⟩))) rp en mn sd mx (R.set i { x with isL:=b,E:=E,r:=r }) S'/\(∀ k,S' k->S k\/k=r)/\Far S w (w.setCell ⟨g,i*4+1,none⟩ (.pointer (some ⟨r,0,none⟩))):=by
 obtain ⟨rv,g0,hl,hS⟩:=h;have e0:=Option.some.inj (g0.blk.symm.trans hb)
 injection e0 with e1 _
 simp at e1;subst e1;have ho1:=g0.row;obtain ⟨cg,hg⟩:=ho1.blk (k:=g) rfl
 have hne:rp≠g:=fun e=>by
  have hbr:=hb;rw [e] at hbr;have e:=Option.some.inj (hbr.symm.trans hg)
  injection e with _ e2
  exact absurd e2 (by decide)
 have hSg:S g:=(hS g).2 (.inr (.inl rfl));have hmap:(R.set i { x with isL:=b,E:=E,r:=r }).map Rt.r=(R.map Rt.r).set i r:=by rw [List.map_set]
 refine ⟨z8x rp (.slice (some ⟨g,0,none⟩) R.length cap) (R.set i { x with isL:=b,E:=E,r:=r }),⟨_,⟨hb.setOther _ _ hne,ho1.reset hx b E r,fun y hy=>?_,?_⟩,by rw [List.length_set];exact hl,fun k=>Iff.rfl⟩,fun k hk=>?_,(Far.refl _ _).set _ _ (.inl hSg)⟩
 ·rcases List.mem_or_eq_of_mem_set hy with h|h
  ·exact Fk (g0.set y h) hg (by decide) (by decide) _
  ·subst h;exact Fk hr hg (by decide) (by decide) _
 ·rw [hmap]
  exact z2l _ _ _ g0.rs fun e=>by
   obtain ⟨y,hy,e2⟩:=List.mem_map.1 e;exact hn y hy e2
 ·rcases hk with hk|hk|⟨y,hy,rfl⟩
  ·exact .inl ((hS k).2 (.inl hk))
  ·exact .inl ((hS k).2 (.inr (.inl hk)))
  ·rcases List.mem_or_eq_of_mem_set hy with h|h
   ·exact .inl ((hS _).2 (.inr (.inr ⟨y,h,rfl⟩)))
   ·subst h;exact .inr rfl
def y0g(b o:Nat)(m:ByteArray)(sc:Int)(W:World):Prop:=W.cell? ⟨b,o,none⟩=some (.string m)/\W.cell? ⟨b,o+1,none⟩=some (.int .i64 sc)
def x0z(en mn:Int)(R:List Rt)(k:ByteArray)(l:List En)(now:Int)(R':List Rt):Prop :=
 (U6 R k now≠0/\R'=R)\/(U6 R k now=0/\∃ a R1 i x r,Ol R k now a R1/\R1[i]?=some x/\x.key=k/\R'=R1.set i { x with isL:=(Xa en mn l).1,E:=(Xa en mn l).2,r:=r })
theorem Oq(n:Int)(hi:Int)(h:0<=hi):0<=Z6 n hi/\Z6 n hi<=hi:=by unfold Z6;omega
theorem x9i(h:RefSp w rp en mn sd mx R S)(hz:∀ x∈R,x.key.size<=281474976710656)(k:ByteArray)(hk:k.size<=281474976710656)(now:Int){n0:Nat}{v:Value}{l:List En}(hl:l.length<=300)(hzl:∀ e∈l,e.1.size<=281474976710656)(hs:∀ e∈l,Pk.Ya e.2)(hr:Row w n0 v l) :
 Calls Tryz.prog 28 #[.pointer (some ⟨rp,0,none⟩),.string k,v,.int .i64 now] w fun e w'=>∃ R',e=.returned (.int .i64 (U6 R k now))/\RefNow w rp en mn sd mx S R' w'/\x0z en mn R k l now R':=by
 have HMK:=jY (z8z h hz k hk now);have HRW:=jY (fun w1 (hf:Far S w w1)=>hr.far hf fun j cur _ hj=>h.no hj (by decide));obtain ⟨a,cap,rfl⟩:=hr.form;have HK:=jY (show ∀ j,S j->j<w.heap.size from fun j hj=>h.lt hj);clear h hr
 by_cases hm:U6 R k now=0
 ·rw [hm] at HMK ⊢
  go_enter Tryz.func28,Tryz.ntmps28
  go_wp2_with fail;refine HMK.out.mono ?_;rintro e w1 ⟨xa,R1,rfl,hn,hmk⟩;obtain ⟨S1,h1,hS1,hf1⟩:=hn;have hrow1:=HRW.out w1 hf1
  have hk1:∃ x∈R1,x.key=k:=by
   rcases hmk with ⟨h0,_⟩|⟨_,_,x,hx,hxk,_⟩
   ·exact absurd hm h0
   ·exact ⟨x,hx,hxk⟩
  obtain ⟨rv,hb,ho,hl1,hsR,hrs,hSR⟩:=h1.keys;have c1:=hb.cell 1;have c2:=hb.cell 2;simp at c1 c2;clear HMK;go_wp2_with fail;refine (y5z en mn _ _ rfl rfl w1).mono ?_;rintro e w2 ⟨r,rfl,hr2,hrc,hb2⟩;have hrow2:=hrow1.later hb2;obtain ⟨ra,rc,hrk⟩:=hrc.cells
  have HROW:=jY (fun W (hf:Far (fun k=>k=r) w2 W)=>hrow2.far hf fun j cur _ hj e=>by
   subst e;have e:=Option.some.inj (hj.symm.trans hrk)
   injection e with _ e2
   exact absurd e2 (by decide))
  have HGOOD:=jY (De (Oq en 200 (by decide)) (Oq mn 64 (by decide)) l hs);have HZL:=jY hzl;have HRC:=jY hrc;have H1:=jY h1;have HR2:=jY hr2;have HB2:=jY hb2;have HMK:=jY hmk;have HS1:=jY hS1;have HF1:=jY hf1;have HSR:=jY hSR;have HK1:=jY hk1;have HBR:=jY hb;have HRK:=jY hrk;clear hrow1 hrow2 hrc hb hb2 ho hsR hrs hSR h1 hS1 hf1 hk1 c1 c2 hmk hrk hr2 HRW hzl hs;go_wp2_with fail
  go_loopw [12] (fun i wr=>∃ (j:Nat),i=.int .i64 j/\j<=l.length/\RefC wr r (Ub (Z6 en 200) (Z6 mn 64) (l.take j) (false,[])).2 (Z6 en 200) (Z6 mn 64) (Ub (Z6 en 200) (Z6 mn 64) (l.take j) (false,[])).1/\Far (fun k=>k=r) w2 wr) (fun i _=>l.length-(intOf i).toNat)
  case atStart=>exact ⟨0,rfl,by omega,HRC.out,Far.refl _ _⟩
  case round =>
   obtain ⟨j,rfl,hj,hC,hF⟩:=hrel
   by_cases hlt:j<l.length
   ·have hj2:(j:Int)<l.length:=by omega
    obtain ⟨hg,hfit⟩:=HGOOD.out j hj (by omega);have hnx:=Mj (Z6 en 200) (Z6 mn 64) (l.take j) l[j] (false,[]);rw [<- lAf hlt] at hnx;have hzj:=HZL.out _ (List.getElem_mem hlt);have hxj:l[j]?=some l[j]:=lAa hlt;generalize l[j]=e0 at *;obtain ⟨m,sc⟩:=e0;obtain ⟨b,off,c',e1,g0,g1⟩:=Xo (HROW.out wr hF) hxj
    injection e1 with e1 _ e2
    subst e1;subst e2;have HAD:=jY (y5y (hC.later (Zk wr 1)) hfit hg.srt hg.dist (fun x hx=>(hg.each x hx).1) (by have:=hg.len;omega) m hzj sc 1);have HNX:=jY hnx;have HF:=jY hF;clear hC hF hg hfit hnx hzj;have S0:y0g b (off+j*2) m sc wr.drew:=⟨g0,g1⟩
    have HSE:=jY (fun W (hf:Far (fun k=>k=r) w2 W)=>show y0g b (off+j*2) m sc W from by
     obtain ⟨b',off',c2,e1,g0,g1⟩:=Xo (HROW.out W hf) hxj
     injection e1 with e1 _ _
     injection e1 with e1
     injection e1 with e1 e2
     subst e1;subst e2
     exact ⟨g0,g1⟩)
    clear hxj g0 g1;go_wp2_with fail
    refine Sched.Yj [(0,true),(1,true),(2,true),(3,true),(4,true),(5,true),(6,true),(7,true),(8,true),(9,true),(10,true),(11,false)]
     (y0g b (off+j*2) m sc) (by kernel_rfl) (by kernel_rfl) rfl (by kernel_rfl) (fun _ _ _ d _ h=>by cases d <;> exact h) S0 ?_
    intro L hL;simp only [Sched.Qw,List.getElem?_toArray,List.getElem?_cons_zero,List.getElem?_cons_succ] at hL;subst hL
    repeat (first
     | (refine Sched.Zj (v:=?_) (by rfl) ?_ ?_
        rotate_left
        (focus (intro w' hSw;obtain ⟨l0,l1⟩:=hSw;go_simp;(try with_reducible rfl);done))
        simp only [Act.put,List.setIfInBounds_toArray,List.set_cons_zero,List.set_cons_succ]))
    refine Sched.Zo (by rfl) fun K' hK=>?_
    go_simp
    refine HAD.out.mono ?_;rintro e w4 ⟨rfl,hC4,hF4⟩;have S4:=HSE.out w4 ((HF.out.then_below (Zk wr 1)).trans hF4 fun j hj=>.inl hj)
    have H4:=jY (show RefC w4 r (Ub (Z6 en 200) (Z6 mn 64) (l.take (j+1)) (false,[])).2 (Z6 en 200) (Z6 mn 64) (Ub (Z6 en 200) (Z6 mn 64) (l.take (j+1)) (false,[])).1/\Far (fun k=>k=r) w2 w4 from by
     rw [HNX.out]
     exact ⟨hC4,(HF.out.then_below (Zk wr 1)).trans hF4 fun j hj=>.inl hj⟩)
    clear hC4 hF4 HAD HF HNX
    go_simp
    refine hK _ _ S4 ?_;clear hK K' S0 S4;refine Sched.Xf ?_;go_wp2_with fail;exact ⟨⟨j+1,by go_num,hlt,H4.out.1,H4.out.2⟩,by simp [intOf];omega⟩
   ·obtain rfl:j=l.length:=by omega
    rw [List.take_length] at hC;have HC:=jY (show RefC wr r (Xa en mn l).2 (Z6 en 200) (Z6 mn 64) (Xa en mn l).1 from hC)
    have h1r:RefSp wr rp en mn sd mx R1 S1:=(H1.out.later HB2.out).far hF (fun k hk e=>by
     have h1:=H1.out.lt hk;have h2:=HR2.out
     omega) fun j cur hj e=>by
      subst e;have e:=Option.some.inj (hj.symm.trans HRK.out)
      injection e with _ e2
      exact absurd e2 (by decide)
    have HA:=jY (show Calls Tryz.prog 13 #[.pointer (some ⟨rp,0,none⟩),.string k] wr.drew fun e w'=>e=.returned (.int .i64 (atR R1 k))/\w'=wr.drew from Ge (h1r.later (Zk wr 1)) k);obtain ⟨rv',hb',ho',_,_,_,_⟩:=h1r.keys
    have hat:0<=atR R1 k:=by
     by_cases h:0<=atR R1 k
     ·exact h
     ·obtain ⟨x,hx,hxk⟩:=HK1.out;exact absurd hxk ((Mc h).2 x hx)
    obtain ⟨i,x,hi,hx,hxk,hil⟩:=O7 hat;rw [hi] at HA;obtain ⟨g,cap',rfl,g0,g1,_⟩:=ho'.cells hx;have z1:=World.ownsRow.frozenAt ho' (i*4+1);have c0:=hb'.cell 0;simp at c0;have hil2:(i:Int)<R1.length:=by omega
    obtain ⟨S2,k1,k2,k3⟩:=y8v (h1r.later (Zk wr 1)) (hb'.later (Zk wr 1)) hx (HC.out.later (Zk wr 1)) (fun y hy e=>by
     have h1:=H1.out.lt (HSR.out y hy);have h2:=HR2.out
     omega)
    have HEND:=jY (show RefNow w rp en mn sd mx S (R1.set i { x with isL:=(Xa en mn l).1,E:=(Xa en mn l).2,r:=r }) (wr.drew.setCell ⟨g,i*4+1,none⟩ (.pointer (some ⟨r,0,none⟩))) from by
     have hfw:Far S w (wr.drewN 1):=Far.then_below (b:=wr) ((HF1.out.then_below HB2.out).trans hF fun j hj=>.inr (by
      have h1:=HF1.out.size;have h2:=HR2.out;have h3:j=r:=hj
      omega)) (Zk wr 1)
     refine ⟨S2,k1,fun j hj=>?_,hfw.trans k3 fun j hj=>HS1.out j hj⟩;rcases k2 j hj with h|h
     ·exact HS1.out j h
     ·have h1:=HF1.out.size;have h2:=HR2.out
      exact .inr (by omega))
    have HP:=jY (show x0z en mn R k l now (R1.set i { x with isL:=(Xa en mn l).1,E:=(Xa en mn l).2,r:=r }) from .inr ⟨hm,xa,R1,i,x,r,HMK.out,hx,hxk,rfl⟩)
    have hnr:rp≠g:=fun e=>by
     obtain ⟨cg,hg⟩:=ho'.blk (k:=g) rfl;have hbr:=hb';rw [e] at hbr;have e:=Option.some.inj (hbr.symm.trans hg)
     injection e with _ e2
     exact absurd e2 (by decide)
    have S9:=jY (show (wr.drew.setCell ⟨g,i*4+1,none⟩ (.pointer (some ⟨r,0,none⟩))).cell? ⟨rp,0,none⟩=some (.slice (some ⟨g,0,none⟩) R1.length cap') from ((hb'.later (Zk wr 1)).setOther (i*4+1) (.pointer (some ⟨r,0,none⟩)) hnr).cell 0);have S0:wr.drew.cell? ⟨rp,0,none⟩=some (.slice (some ⟨g,0,none⟩) R1.length cap'):=c0;clear hC hF h1r hb' ho' hat hi hx hxk k1 k2 k3 H1 HB2 HR2 HRK HF1 HS1 HSR HK1 HC HROW HGOOD HZL HRC HBR HMK;go_wp2_with fail
    refine Sched.Yj [(0,true),(1,true),(2,true),(3,true),(4,true),(5,true),(7,true),(6,false),(8,true),(9,true),(10,false)]
     (fun V=>V.cell? ⟨rp,0,none⟩=some (.slice (some ⟨g,0,none⟩) R1.length cap')) (by kernel_rfl) (by kernel_rfl) rfl (by kernel_rfl) (fun _ _ _ d _ h=>by cases d <;> exact h) S0 ?_
    intro L hL;simp only [Sched.Qw,List.getElem?_toArray,List.getElem?_cons_zero,List.getElem?_cons_succ] at hL;subst hL
    repeat (first
     | (refine Sched.Zj (v:=?_) (by rfl) ?_ ?_
        rotate_left
        (focus (intro w' hSw;go_simp;(try with_reducible rfl);done))
        simp only [Act.put,List.setIfInBounds_toArray,List.set_cons_zero,List.set_cons_succ]))
    refine Sched.Zo (by rfl) fun K' hK=>?_
    go_simp
    refine HA.out.mono ?_;rintro e w9 ⟨rfl,rfl⟩
    go_simp
    refine hK _ _ S0 ?_;clear hK K'
    repeat (first
     | (refine Sched.Zj (v:=?_) (by rfl) ?_ ?_
        rotate_left
        (focus (intro w' hSw;go_simp;(try with_reducible rfl);done))
        simp only [Act.put,List.setIfInBounds_toArray,List.set_cons_zero,List.set_cons_succ]))
    refine Sched.Zo (by rfl) fun K' hK=>?_
    go_simp
    refine hK _ _ S9.out ?_;clear hK K';refine Sched.Xf ?_;clear S0 S9 g0 g1 z1 c0;go_wp2_with fail;go_ret;exact ⟨_,rfl,HEND.out,HP.out⟩
 ·have HP:=jY (show x0z en mn R k l now R from .inl ⟨hm,rfl⟩);have HEQ:=jY (fun xa R1 (h:Ol R k now xa R1)=>show R1=R from h.elim (fun h=>h.2.2) fun h=>absurd h.1 hm);generalize U6 R k now=z at *;clear HRW HK
  go_enter Tryz.func28,Tryz.ntmps28
  go_wp2_with fail;refine HMK.out.mono ?_;rintro e w1 ⟨xa,R1,rfl,hn,hmk⟩;obtain rfl:=HEQ.out _ _ hmk;have HN:=jY hn;clear hn hmk HMK HEQ;go_wp2_with fail;go_ret;exact ⟨R1,rfl,HN.out,HP.out⟩
end
end Go.Proofs.YtcklcmafohlflaaGreatDoor
namespace Go.Proofs.YtcklcmafohlflaaGreatDoor
open Zc (Ent Ext KeepC Ym Z9 Zg Xg Zx Zb Zv Yo Y5 Ze Zz Z4 Zd)
open Go.RowKit Go.Shelf Sk
def Qt(x:Rt):List UInt8:=x.key.data.toList
def Qn(R:List Rt):Prop:=R.Pairwise fun x y=>Qt x<Qt y
def Ux(k:ByteArray)(X:List Rt):Bool->List Rt->List Rt
 | d,[]=>if d then [] else X
 | d,x :: r=>(if !d&&ltB k x.key then X else [])++Vp k x++Ux k X (d || ltB k x.key) r
theorem z1v(k:ByteArray)(X:List Rt):∀ (R acc:List Rt) (d:Bool),(R.foldl (Qz k X) (acc,d)).1++(if (R.foldl (Qz k X) (acc,d)).2 then [] else X)=acc++Ux k X d R
 | [],acc,d=>rfl
 | x :: r,acc,d=>by
   rw [List.foldl_cons,show Ux k X d (x :: r)=(if !d&&ltB k x.key then X else [])++Vp k x++Ux k X (d || ltB k x.key) r from rfl];show (r.foldl (Qz k X) ((if !d&&ltB k x.key then acc++X else acc)++Vp k x,d || ltB k x.key)).1++(if (r.foldl (Qz k X) ((if !d&&ltB k x.key then acc++X else acc)++Vp k x,d || ltB k x.key)).2 then [] else X)=_;rw [z1v k X r]
   split <;> simp
theorem x0s(R:List Rt)(k:ByteArray)(X:List Rt):Y0 R k X=Ux k X false R:=by
 unfold Y0 Un;rw [z1v];rfl
theorem Ps{k:ByteArray}{x y:Rt}(h:y∈Vp k x):y=x/\x.key≠k:=by
 unfold Vp at h
 split at h
 ·cases h
 ·rename_i hn;exact ⟨lAg.1 h,hn⟩
theorem Qk{k:ByteArray}{X:List Rt}:∀ {R:List Rt} {y:Rt},y∈Ux k X true R->y∈R
 | [],y,h=>by simp [Ux] at h
 | x :: r,y,h=>by
   simp only [Ux,Bool.not_true,Bool.false_and,Bool.false_eq_true,if_false,List.nil_append,Bool.true_or,List.mem_append] at h;rcases h with h|h
   ·rw [(Ps h).1];exact List.mem_cons_self
   ·exact List.mem_cons_of_mem _ (Qk h)
theorem y0a{k:ByteArray}{X:List Rt}:∀ {R:List Rt} {d:Bool} {y:Rt},y∈Ux k X d R->y∈R\/y∈X
 | [],d,y,h=>by
   cases d
   ·exact .inr (by simpa [Ux] using h)
   ·simp [Ux] at h
 | x :: r,d,y,h=>by
   simp only [Ux,List.mem_append] at h;rcases h with (h|h)|h
   ·split at h
    ·exact .inr h
    ·cases h
   ·rw [(Ps h).1];exact .inl List.mem_cons_self
   ·exact (y0a h).imp_left (List.mem_cons_of_mem _)
theorem z3i{k:ByteArray}{X:List Rt}:∀ {R:List Rt},Qn R->Qn (Ux k X true R)
 | [],_=>by simp [Ux,Qn]
 | x :: r,h=>by
   obtain ⟨h1,h2⟩:=List.pairwise_cons.1 h;simp only [Ux,Bool.not_true,Bool.false_and,Bool.false_eq_true,if_false,List.nil_append,Bool.true_or];unfold Qn;rw [List.pairwise_append];refine ⟨by unfold Vp;split <;> simp,z3i h2,fun a ha b hb=>?_⟩;rw [(Ps ha).1];exact h1 b (Qk hb)
theorem x7a{X:List Rt}(hl:X.length<=1):Qn X:=by
 rcases X with _|⟨a,_|⟨b,X⟩⟩
 ·simp [Qn]
 ·simp [Qn]
 ·simp at hl
theorem z3h{k:ByteArray}{X:List Rt}(hX:∀ x∈X,x.key=k)(hl:X.length<=1):∀ {R:List Rt},Qn R->Qn (Ux k X false R)
 | [],_=>by simpa [Ux] using x7a hl
 | x :: r,h=>by
   obtain ⟨h1,h2⟩:=List.pairwise_cons.1 h
   cases hc:ltB k x.key with
   | true =>
     have hlt:k.data.toList<x.key.data.toList:=by simpa [ltB] using hc
     have hne:x.key≠k:=fun e=>by rw [e] at hlt;exact List.lt_irrefl _ hlt
     simp only [Ux,hc,Bool.not_false,Bool.and_self,if_true,Bool.or_true];rw [show Vp k x=[x] by unfold Vp;rw [if_neg hne],List.append_assoc];unfold Qn;rw [List.pairwise_append];refine ⟨x7a hl,?_,fun a ha b hb=>?_⟩
     ·rw [List.singleton_append,List.pairwise_cons];exact ⟨fun b hb=>h1 b (Qk hb),z3i h2⟩
     ·unfold Qt;rw [hX a ha];rw [List.singleton_append,List.mem_cons] at hb;rcases hb with rfl|hb
      ·exact hlt
      ·exact List.lt_trans hlt (h1 b (Qk hb))
   | false =>
     have hnl:¬ k.data.toList<x.key.data.toList:=by simpa [ltB] using hc
     simp only [Ux,hc,Bool.and_false,Bool.false_eq_true,if_false,List.nil_append,Bool.or_false];unfold Qn;rw [List.pairwise_append];refine ⟨by unfold Vp;split <;> simp,z3h hX hl h2,fun a ha b hb=>?_⟩;obtain ⟨rfl,hne⟩:=Ps ha;rcases y0a hb with hb|hb
     ·exact h1 b hb
     ·unfold Qt;rw [hX b hb]
      by_cases h3:a.key.data.toList<k.data.toList
      ·exact h3
      ·exfalso;refine hne (ByteArray.ext (Array.toList_inj.1 ?_));exact List.le_antisymm (List.not_lt.1 hnl) (List.not_lt.1 h3)
theorem Qh{R X:List Rt}{k:ByteArray}(h:Qn R)(hX:∀ x∈X,x.key=k)(hl:X.length<=1):Qn (Y0 R k X):=by
 rw [x0s];exact z3h hX hl h
theorem y9y{R:List Rt}{i:Nat}{x x':Rt}(h:Qn R)(hx:R[i]?=some x)(hk:x'.key=x.key):Qn (R.set i x'):=by
 unfold Qn at *;have e:∀ l:List Rt,(l.Pairwise fun x y=>Qt x<Qt y)↔(l.map Qt).Pairwise (·<·):=fun l=>(List.pairwise_map).symm;rw [e] at h ⊢;rw [List.map_set]
 have e2:(R.map Qt)[i]?=some (Qt x'):=by
  rw [List.getElem?_map,hx];show some (Qt x)=some (Qt x');unfold Qt;rw [hk]
 obtain ⟨hi,he⟩:=lAb.1 e2;rw [show (R.map Qt).set i (Qt x')=R.map Qt by rw [<- he];exact List.set_getElem_self hi];exact h
end Go.Proofs.YtcklcmafohlflaaGreatDoor
