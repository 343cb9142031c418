/- Texts of one kind in one: SpRefRen, SpRefTouch, SpRefPut, SpSortR. -/
import Derived.Test.YtlckdfoflimahaaGreatDoorQZBytes31
import Derived.Test.YtlckdfoflimahaaGreatDoorQSpSet27
import Derived.Test.YtlckdfoflimahaaGreatDoorQSched26
import Derived.Test.YtlckdfoflimahaaGreatDoorQSpRef30
set_option maxRecDepth 200000
set_option maxHeartbeats 8000000
namespace Go.Proofs.YtlckdfoflimahaaGreatDoor
open Go.RowKit Go.Shelf Sk
attribute [local go_sem] Oper.semAt_some
def renR(R:List Rt)(f k:ByteArray):Int:=if 0≤atR R f then (if 64<k.size then 140 else 0) else 141
def RRen(R:List Rt)(f k:ByteArray)(R':List Rt):Prop:=(renR R f k≠0∧R'=R)∨(renR R f k=0∧k.size≤64∧∃ x∈R,x.key=f∧R'=withR (withR R f []) k [{ x with key:=k }])
section
variable {w w1 w':World} {rp sd:Nat} {u:Value} {en mn mx:Int} {R R':List Rt} {S:Nat→Prop}
theorem ref_put{w5 w6:World}{rv0:Value}{n:Nat}(hS:S rp)(hf:Far S w w5)(hk:Blk w5 rp tyRs #[rv0,.int .i64 en,.int .i64 mn,.int .u32 sd,.int .i64 mx])(hb:Below w5.heap.size w5 w6)(hu:OwnR w6 n u R')(hn0:w.heap.size≤n)(hl:R'.length≤600)
   (hs:∀ x∈R',RefC w6 x.r x.E (clampL en 200) (clampL mn 64) x.isL) (hrs:(R'.map Rt.r).Nodup) (hn:∀ x∈R',S x.r∨w.heap.size≤x.r):RefNow w rp en mn sd mx S R' (w6.setCell ⟨rp,0,none⟩ u):=by
 have hrp:=hk.later hb
 have hb2:=hrp.set 0 u
 simp only [List.setIfInBounds_toArray,List.set_cons_zero] at hb2
 have hfar:Far (fun k=>k=rp) w6 (w6.setCell ⟨rp,0,none⟩ u):=(Far.refl _ _).set _ _ (.inl rfl)
 refine ⟨refS rp u R',⟨u,⟨hb2,?_,fun x hx=>?_,hrs⟩,hl,fun k=>Iff.rfl⟩,fun k hk=>?_,(hf.then_below hb).set _ _ (.inl hS)⟩
 · refine OwnR.mono0 (hu.keep fun k hk=>?_)
   obtain ⟨c,hc⟩:=hu.blk hk
   refine hfar.block k hc.lt fun e=>?_
   subst e
   have e:=Option.some.inj (hc.symm.trans hrp)
   injection e with _ e2
   exact absurd e2 (by decide)
 · refine (hs x hx).far hfar (fun e=>?_) fun k cur hk2 e=>?_
   · obtain ⟨a,c,hc⟩:=(hs x hx).cells
     rw [e] at hc
     have e:=Option.some.inj (hc.symm.trans hrp)
     injection e with _ e2
     exact absurd e2 (by decide)
   · subst e
     have e:=Option.some.inj (hk2.symm.trans hrp)
     injection e with _ e2
     exact absurd e2 (by decide)
 · rcases hk with rfl|hk|⟨x,hx,rfl⟩
   · exact .inl hS
   · exact .inr (Nat.le_trans hn0 (World.ownsRow.lt hu k hk).1)
   · exact hn x hx
theorem rs_inj:∀ {R:List Rt},(R.map Rt.r).Nodup→∀ {x y:Rt},x∈R→y∈R→x.r=y.r→x=y
 | [],_,_,_,h,_,_=>by cases h
 | a :: R,hn,x,y,hx,hy,e=>by
   rw [List.map_cons,List.nodup_cons] at hn
   rcases List.mem_cons.1 hx with h1|h1 <;> rcases List.mem_cons.1 hy with h2|h2
   · rw [h1,h2]
   · exact absurd (List.mem_map.2 ⟨y,h2,by rw [← e,h1]⟩) hn.1
   · exact absurd (List.mem_map.2 ⟨x,h1,by rw [e,h2]⟩) hn.1
   · exact rs_inj hn.2 h1 h2 e
theorem keepR_lt{f:ByteArray}{x:Rt}(hx:x∈R)(he:x.key=f):(keepR R f).length<R.length:=by
 unfold keepR
 rw [List.length_filter_lt_length_iff_exists]
 exact ⟨x,hx,by simp [he]⟩
theorem refc_set{r:Nat}{E:List En}{le lm:Int}{b:Bool}{c:Array Value}(h:RefC w r E le lm b)(hk:Blk w rp tyRs c)(v:Value):RefC (w.setCell ⟨rp,0,none⟩ v) r E le lm b:=by
 refine h.far (S:=fun k=>k=rp) ((Far.refl _ _).set _ _ (.inl rfl)) (fun e=>?_) fun k cur hk2 e=>?_
 · obtain ⟨a,c,hc⟩:=h.cells
   rw [e] at hc
   have e:=Option.some.inj (hc.symm.trans hk)
   injection e with _ e2
   exact absurd e2 (by decide)
 · subst e
   have e:=Option.some.inj (hk2.symm.trans hk)
   injection e with _ e2
   exact absurd e2 (by decide)
theorem ref_Rename(h:RefSp w rp en mn sd mx R S)(hz:∀ x∈R,x.key.size≤281474976710656)(f k:ByteArray)(hf:f.size≤281474976710656)(hk:k.size≤281474976710656) :
   Calls Tryz.prog 59 #[.pointer (some ⟨rp,0,none⟩),.string f,.string k] w fun e w'=>∃ R',e=.returned (.int .i64 (renR R f k))∧RefNow w rp en mn sd mx S R' w'∧RRen R f k R':=by
 have HA:=Lib.hid (ref_At h f)
 have HS:=Lib.hid (RefNow.same h (Below.refl _ _))
 obtain ⟨rv,hb,ho,hl,hs,hrs,hS⟩:=h.keys
 by_cases hat:0≤atR R f
 · obtain ⟨i,x,hi,hx,hxk,hil⟩:=atR_get hat
   rw [hi] at HA
   by_cases h64:64<k.size
   · have hm:renR R f k=140:=by unfold renR;rw [if_pos hat,if_pos h64]
     have h64i:(64:Int)<k.size:=by omega
     have HM:=Lib.hid (show RRen R f k R from .inl ⟨by rw [hm];decide,rfl⟩)
     rw [hm]
     clear hm h hb ho hs hrs hS hz hxk hat hi hx
     go_enter Tryz.func59,Tryz.ntmps59
     go_wp2_with fail
     refine HA.out.mono ?_
     rintro e w1 ⟨rfl,rfl⟩
     go_wp2_with fail
     go_ret
     exact ⟨R,rfl,HS.out,HM.out⟩
   · have hm:renR R f k=0:=by unfold renR;rw [if_pos hat,if_neg h64]
     have h64i:(k.size:Int)≤64:=by omega
     have hxm:=List.mem_of_getElem? hx
     have HM:=Lib.hid (show RRen R f k (withR (withR R f []) k [{ x with key:=k }]) from .inr ⟨hm,by omega,x,hxm,hxk,rfl⟩)
     obtain ⟨g,cap,rfl,g0,g1,g2,g3⟩:=ho.cells hx
     have c0:=hb.cell 0
     have hil2:(i:Int)<R.length:=by omega
     have c3:=(hb.alloc (.cells #[.string k,.pointer (some ⟨x.r,0,none⟩),.int .i64 x.uc,.int .i64 x.ua] tyRi)).cell 0
     have hb3:=alloc_below w (.cells #[.string k,.pointer (some ⟨x.r,0,none⟩),.int .i64 x.uc,.int .i64 x.ua] tyRi)
     have k3:=Blk.new w tyRi #[.string k,.pointer (some ⟨x.r,0,none⟩),.int .i64 x.uc,.int .i64 x.ua]
     have HW:=Lib.hid (with_any (X:=[]) f hf (by omega) hz (w.alloc (.cells #[.string k,.pointer (some ⟨x.r,0,none⟩),.int .i64 x.uc,.int .i64 x.ua] tyRi)) (ho.later hb3) (.inl ⟨rfl,rfl⟩))
     simp at c0 c3
     rw [hm]
     go_enter Tryz.func59,Tryz.ntmps59
     go_wp2_with fail
     refine HA.out.mono ?_
     rintro e w1 ⟨rfl,rfl⟩
     go_wp2_with fail
     generalize w1.alloc (.cells #[.string k,.pointer (some ⟨x.r,0,none⟩),.int .i64 x.uc,.int .i64 x.ua] tyRi)=w3 at *
     refine HW.out.mono ?_
     rintro e w4 ⟨u,rfl,hu,hb4⟩
     obtain ⟨uA,uC,rfl,_,_⟩:=hu.form
     have hb14:=hb3.trans (hb4.mono hb3.size)
     have c4:=(hb.later hb14).cell 0
     have f4:=(hb.later hb14).free 0
     simp at c4
     go_wp2_with fail
     have k5:Blk (w4.setCell ⟨rp,0,none⟩ (.slice uA (withR R f []).length uC)) rp tyRs #[.slice uA (withR R f []).length uC,.int .i64 en,.int .i64 mn,.int .u32 sd,.int .i64 mx]:=by
       have:=(hb.later hb14).set 0 (.slice uA (withR R f []).length uC)
       simpa only [List.setIfInBounds_toArray,List.set_cons_zero] using this
     have hSrp:S rp:=by
       obtain ⟨_,_,_,hS⟩:=h
       exact (hS rp).2 (.inl rfl)
     have hrp:rp<w1.heap.size:=hb.lt
     have hne:w1.heap.size≠rp:=by omega
     have hf5:Far S w1 (w4.setCell ⟨rp,0,none⟩ (.slice uA (withR R f []).length uC)):=(Far.of_below hb14).set _ _ (.inl hSrp)
     have kx5:=(k3.later hb4).setOther 0 (.slice uA (withR R f []).length uC) hne
     have hu5:OwnR (w4.setCell ⟨rp,0,none⟩ (.slice uA (withR R f []).length uC)) 0 (.slice uA (withR R f []).length uC) (withR R f []):=OwnR.mono0 (hu.keep fun j hj=>Below.heap_setCell _ _ _ _ fun e=>by
       have h1:=(World.ownsRow.lt hu j hj).1
       have h2:=hb3.size
       simp only at e
       omega)
     have hs5:∀ y∈R,RefC (w4.setCell ⟨rp,0,none⟩ (.slice uA (withR R f []).length uC)) y.r y.E (clampL en 200) (clampL mn 64) y.isL:=fun y hy=>refc_set ((hs y hy).later hb14) (hb.later hb14) _
     have hlt1:(withR R f []).length<R.length:=by
       rw [(withR_perm R f []).length_eq,List.append_nil]
       exact keepR_lt hxm hxk
     generalize w4.setCell ⟨rp,0,none⟩ (.slice uA (withR R f []).length uC)=w5 at *
     have hx1:∀ y∈(withR R f []),y∈R∧y.key≠f:=fun y hy=>by
       have:=(withR_perm R f []).mem_iff.1 hy
       rw [List.append_nil] at this
       unfold keepR at this
       rw [List.mem_filter] at this
       exact ⟨this.1,by simpa using this.2⟩
     have hb5d:Below w5.heap.size w5 w5.drew:=drewB w5 1
     have hb6:Below w5.heap.size w5 (w5.drew.alloc (.cells #[.string k,.pointer (some ⟨x.r,0,none⟩),.int .i64 x.uc,.int .i64 x.ua] tyRi)):=hb5d.alloc (Nat.le_refl _) _
     have HWI:=Lib.hid (with_any (X:=[{ x with key:=k }]) k hk (by omega) (fun y hy=>hz y (hx1 y hy).1) (w5.drew.alloc (.cells #[.string k,.pointer (some ⟨x.r,0,none⟩),.int .i64 x.uc,.int .i64 x.ua] tyRi)) (hu5.later hb6) (xs_new w5.drew { x with key:=k }))
     have k6:=kx5.later hb6
     have HEND:=Lib.hid (fun w7 u (hb7:Below (w5.drew.alloc (.cells #[.string k,.pointer (some ⟨x.r,0,none⟩),.int .i64 x.uc,.int .i64 x.ua] tyRi)).heap.size (w5.drew.alloc (.cells #[.string k,.pointer (some ⟨x.r,0,none⟩),.int .i64 x.uc,.int .i64 x.ua] tyRi)) w7) (hu:OwnR w7 (w5.drew.alloc (.cells #[.string k,.pointer (some ⟨x.r,0,none⟩),.int .i64 x.uc,.int .i64 x.ua] tyRi)).heap.size u (withR (withR R f []) k [{ x with key:=k }]))=>show ∃ vA vC,u=.slice vA (withR (withR R f []) k [{ x with key:=k }]).length vC∧RefNow w1 rp en mn sd mx S (withR (withR R f []) k [{ x with key:=k }]) (w7.setCell ⟨rp,0,none⟩ u)∧Blk w7 w1.heap.size tyRi #[.string k,.pointer (some ⟨x.r,0,none⟩),.int .i64 x.uc,.int .i64 x.ua]∧Blk w7 rp tyRs #[.slice uA (withR R f []).length uC,.int .i64 en,.int .i64 mn,.int .u32 sd,.int .i64 mx] from by
       obtain ⟨vA,vC,he,_,_⟩:=hu.form
       have hb57:=hb6.trans (hb7.mono hb6.size)
       refine ⟨vA,vC,he,ref_put hSrp hf5 k5 hb57 hu (Nat.le_trans hf5.size hb6.size) ?_ (fun y hy=>?_) (withR_rs (withR_rs hrs (by simp) fun y hy=>by cases hy) (by simp) fun y hy z hz2 _ e=>?_) fun y hy=>?_,k6.later hb7,k5.later hb57⟩
       · have:=withR_len (withR R f []) k [{ x with key:=k }]
         simp at this
         omega
       · rcases mem_with hy with hy|hy
         · exact (hs5 y (hx1 y hy).1).later hb57
         · rw [List.mem_singleton] at hy
           subst hy
           exact (hs5 x hxm).later hb57
       · rw [List.mem_singleton] at hy
         subst hy
         obtain ⟨h1,h2⟩:=hx1 z hz2
         exact h2 ((rs_inj hrs hxm h1 e) ▸ hxk)
       · rcases mem_with hy with hy|hy
         · exact .inl (hS y (hx1 y hy).1)
         · rw [List.mem_singleton] at hy
           subst hy
           exact .inl (hS x hxm))
     have HSB:=Lib.hid (fun (V:World) (h:Blk V w1.heap.size tyRi #[.string k,.pointer (some ⟨x.r,0,none⟩),.int .i64 x.uc,.int .i64 x.ua])=>show V.cell? ⟨w1.heap.size,0,none⟩=some (.string k)∧V.cell? ⟨w1.heap.size,1,none⟩=some (.pointer (some ⟨x.r,0,none⟩))∧V.cell? ⟨w1.heap.size,2,none⟩=some (.int .i64 x.uc)∧V.cell? ⟨w1.heap.size,3,none⟩=some (.int .i64 x.ua) from ⟨h.cell 0,h.cell 1,h.cell 2,h.cell 3⟩)
     have S0:=Lib.hid (HSB.out w5.drew (kx5.later hb5d))
     have S6:=Lib.hid (HSB.out (w5.drew.alloc (.cells #[.string k,.pointer (some ⟨x.r,0,none⟩),.int .i64 x.uc,.int .i64 x.ua] tyRi)) k6)
     have c5:=k5.cell 0
     have c6:=(k5.alloc (.cells #[.string k,.pointer (some ⟨x.r,0,none⟩),.int .i64 x.uc,.int .i64 x.ua] tyRi)).cell 0
     simp at c5 c6
     clear h hb ho hs hrs hS hz HS HA hx hi hat hxk c0 c3 hb3 k3 hb4 hb14 c4 f4 hu hu5 hs5 hlt1 hx1 hb5d hb6 kx5 k5 hf5 HW g0 g1 g2 g3
     refine wp_region_any (by kernel_rfl) (wpAny_of_held (S:=fun V=>V.cell? ⟨w1.heap.size,0,none⟩=some (.string k)∧V.cell? ⟨w1.heap.size,1,none⟩=some (.pointer (some ⟨x.r,0,none⟩))∧V.cell? ⟨w1.heap.size,2,none⟩=some (.int .i64 x.uc)∧V.cell? ⟨w1.heap.size,3,none⟩=some (.int .i64 x.ua)) _ _ _ _ ?_)
     change wpAnyH _ _ _ _ _ _ _ _ (World.drew _)
     refine wpAnyH_take (i:=0) (v:=.pointer (some ⟨rp,0,none⟩)) rfl (by kernel_rfl) (by decide +kernel) (by decide +kernel) (fun _ _ _ h=>h) (.inl ⟨by rfl,fun W' hS=>by go_simp⟩) S0.out ?_
     simp only [Act.put]
     refine wpAnyH_take (i:=1) (v:=.pointer (some ⟨rp,0,none⟩)) rfl (by kernel_rfl) (by decide +kernel) (by decide +kernel) (fun _ _ _ h=>h) (.inl ⟨by rfl,fun W' hS=>by go_simp⟩) S0.out ?_
     simp only [Act.put]
     refine wpAnyH_take (i:=2) (v:=.pointer (some ⟨rp,0,none⟩)) rfl (by kernel_rfl) (by decide +kernel) (by decide +kernel) (fun _ _ _ h=>h) (.inl ⟨by rfl,fun W' hS=>by go_simp⟩) S0.out ?_
     simp only [Act.put]
     refine wpAnyH_take (i:=3) (v:=.pointer (some ⟨rp,0,none⟩)) rfl (by kernel_rfl) (by decide +kernel) (by decide +kernel) (fun _ _ _ h=>h) (.inl ⟨by rfl,fun W' hS=>by go_simp⟩) S0.out ?_
     simp only [Act.put]
     refine wpAnyH_take (i:=5) (v:=.string k) rfl (by kernel_rfl) (by decide +kernel) (by decide +kernel) (fun _ _ _ h=>h) (.inl ⟨by rfl,fun W' hS=>by go_simp⟩) S0.out ?_
     simp only [Act.put]
     refine wpAnyH_take (i:=6) (v:=.agg #[.string k,.pointer (some ⟨x.r,0,none⟩),.int .i64 x.uc,.int .i64 x.ua]) rfl (by kernel_rfl) (by decide +kernel) (by decide +kernel) (fun _ _ _ h=>h) (.inl ⟨by rfl,fun W' hS=>by obtain ⟨s0,s1,s2,s3⟩:=hS;go_simp⟩) S0.out ?_
     simp only [Act.put]
     refine wpAnyH_all (rs:=[4,7]) (by decide +kernel) (by simp) ?_
     intro i hi
     simp only [List.mem_cons,List.not_mem_nil,or_false] at hi
     rcases hi with rfl|rfl
     · refine op_do rfl (by rfl) fun K' hK=>?_
       go_simp
       refine hK _ _ S0.out ?_
       clear hK K'
       refine wpAnyH_all (rs:=[7]) (by decide +kernel) (by simp) ?_
       intro i hi
       rw [List.mem_singleton] at hi
       subst hi
       refine op_do rfl (by rfl) fun K' hK=>?_
       go_simp
       refine hK _ _ S6.out ?_
       clear hK K'
       refine wpAnyH_all (rs:=[8]) (by decide +kernel) (by simp) ?_
       intro i hi
       rw [List.mem_singleton] at hi
       subst hi
       refine op_do rfl (by rfl) fun K' hK=>?_
       go_simp
       go_at_call 93
       refine HWI.out.mono ?_
       rintro e w7 ⟨u,rfl,hu,hb7⟩
       obtain ⟨vA,vC,rfl,HN7,k7,kr⟩:=HEND.out w7 u hb7 hu
       have f7:=kr.free 0
       have c7:=kr.cell 0
       simp at c7
       have S7:=Lib.hid (HSB.out w7 k7)
       have S8:=Lib.hid (HSB.out (w7.setCell ⟨rp,0,none⟩ (.slice vA (withR (withR R f []) k [{ x with key:=k }]).length vC)) (k7.setOther 0 _ hne))
       have HNN:=Lib.hid HN7
       clear hu hb7 HN7 k7 kr HWI HEND
       refine hK _ _ S7.out ?_
       clear hK K'
       refine wpAnyH_all (rs:=[9]) (by decide +kernel) (by simp) ?_
       intro i hi
       rw [List.mem_singleton] at hi
       subst hi
       refine op_do rfl (by rfl) fun K' hK=>?_
       go_simp
       refine hK _ _ S7.out ?_
       clear hK K'
       refine wpAnyH_all (rs:=[10]) (by decide +kernel) (by simp) ?_
       intro i hi
       rw [List.mem_singleton] at hi
       subst hi
       refine op_do rfl (by rfl) fun K' hK=>?_
       go_simp
       refine hK _ _ S7.out ?_
       clear hK K'
       refine wpAnyH_all (rs:=[11]) (by decide +kernel) (by simp) ?_
       intro i hi
       rw [List.mem_singleton] at hi
       subst hi
       refine op_do rfl (by rfl) fun K' hK=>?_
       go_simp
       refine hK _ _ S8.out ?_
       clear hK K'
       refine wpAnyH_done (by decide +kernel) ?_ _
       clear S7 S8 c7 f7
       go_wp2_with fail
       go_ret
       exact ⟨_,rfl,HNN.out,HM.out⟩
     · refine op_do rfl (by rfl) fun K' hK=>?_
       go_simp
       refine hK _ _ S6.out ?_
       clear hK K'
       refine wpAnyH_all (rs:=[4]) (by decide +kernel) (by simp) ?_
       intro i hi
       rw [List.mem_singleton] at hi
       subst hi
       refine op_do rfl (by rfl) fun K' hK=>?_
       go_simp
       refine hK _ _ S6.out ?_
       clear hK K'
       refine wpAnyH_all (rs:=[8]) (by decide +kernel) (by simp) ?_
       intro i hi
       rw [List.mem_singleton] at hi
       subst hi
       refine op_do rfl (by rfl) fun K' hK=>?_
       go_simp
       go_at_call 93
       refine HWI.out.mono ?_
       rintro e w7 ⟨u,rfl,hu,hb7⟩
       obtain ⟨vA,vC,rfl,HN7,k7,kr⟩:=HEND.out w7 u hb7 hu
       have f7:=kr.free 0
       have c7:=kr.cell 0
       simp at c7
       have S7:=Lib.hid (HSB.out w7 k7)
       have S8:=Lib.hid (HSB.out (w7.setCell ⟨rp,0,none⟩ (.slice vA (withR (withR R f []) k [{ x with key:=k }]).length vC)) (k7.setOther 0 _ hne))
       have HNN:=Lib.hid HN7
       clear hu hb7 HN7 k7 kr HWI HEND
       refine hK _ _ S7.out ?_
       clear hK K'
       refine wpAnyH_all (rs:=[9]) (by decide +kernel) (by simp) ?_
       intro i hi
       rw [List.mem_singleton] at hi
       subst hi
       refine op_do rfl (by rfl) fun K' hK=>?_
       go_simp
       refine hK _ _ S7.out ?_
       clear hK K'
       refine wpAnyH_all (rs:=[10]) (by decide +kernel) (by simp) ?_
       intro i hi
       rw [List.mem_singleton] at hi
       subst hi
       refine op_do rfl (by rfl) fun K' hK=>?_
       go_simp
       refine hK _ _ S7.out ?_
       clear hK K'
       refine wpAnyH_all (rs:=[11]) (by decide +kernel) (by simp) ?_
       intro i hi
       rw [List.mem_singleton] at hi
       subst hi
       refine op_do rfl (by rfl) fun K' hK=>?_
       go_simp
       refine hK _ _ S8.out ?_
       clear hK K'
       refine wpAnyH_done (by decide +kernel) ?_ _
       clear S7 S8 c7 f7
       go_wp2_with fail
       go_ret
       exact ⟨_,rfl,HNN.out,HM.out⟩
 · obtain ⟨hat1,hno⟩:=atR_neg hat
   have hm:renR R f k=141:=by unfold renR;rw [if_neg hat]
   have HM:=Lib.hid (show RRen R f k R from .inl ⟨by rw [hm];decide,rfl⟩)
   rw [hm]
   rw [hat1] at HA
   clear hm h hb ho hs hrs hS hz hat hat1 hno
   go_enter Tryz.func59,Tryz.ntmps59
   go_wp2_with fail
   refine HA.out.mono ?_
   rintro e w1 ⟨rfl,rfl⟩
   go_wp2_with fail
   go_ret
   exact ⟨R,rfl,HS.out,HM.out⟩
end
theorem cellsR_set:∀ (R:List Rt) (i:Nat) (x:Rt),i<R.length→cellsR (R.set i x)=((((cellsR R).set (i*4) (.string x.key)).set (i*4+1) (.pointer (some ⟨x.r,0,none⟩))).set (i*4+2) (.int .i64 x.uc)).set (i*4+3) (.int .i64 x.ua)
 | [],i,x,h=>by simp at h
 | a :: R,0,x,_=>by simp [cellsR,cellR]
 | a :: R,i+1,x,h=>by
   have ih:=cellsR_set R i x (by simpa using h)
   have e:∀ (l:List Value) (j:Nat) (v:Value),(cellR a++l).set (j+4) v=cellR a++l.set j v:=fun l j v=>by
     rw [List.set_append_right _ _ (by simp [cellR])]
     simp [cellR]
   have c:∀ (b:Rt) (L:List Rt),cellsR (b :: L)=cellR b++cellsR L:=fun b L=>by simp [cellsR]
   rw [List.set_cons_succ,c,c,ih,show (i+1)*4=i*4+4 by omega,e,show i*4+4+1=i*4+1+4 by omega,e,show i*4+4+2=i*4+2+4 by omega,e,show i*4+4+3=i*4+3+4 by omega,e]
theorem set_same{α:Type}{l:List α}{i:Nat}{a:α}(h:l[i]?=some a):l.set i a=l:=by
 apply List.ext_getElem?
 intro j
 rw [List.getElem?_set]
 obtain ⟨hi,he⟩:=List.getElem?_eq_some_iff.1 h
 by_cases e:i=j
 · subst e
   rw [if_pos rfl,if_pos hi,h]
 · rw [if_neg e]
section
variable {w w1 w' W:World} {rp sd:Nat} {u:Value} {en mn mx:Int} {R R':List Rt} {S:Nat→Prop} {x:Rt}
theorem OwnR.use{n0 g cap i:Nat}(h:OwnR W n0 (.slice (some ⟨g,0,none⟩) R.length cap) R)(hx:R[i]?=some x)(c a:Int) :
   OwnR ((W.setCell ⟨g,i*4+2,none⟩ (.int .i64 c)).setCell ⟨g,i*4+3,none⟩ (.int .i64 a)) n0 (.slice (some ⟨g,0,none⟩) R.length cap) (R.set i { x with uc:=c,ua:=a }):=by
 obtain ⟨hi,_⟩:=List.getElem?_eq_some_iff.1 hx
 obtain ⟨q1,q2,q3,q4⟩:=cellsR_at R i x hx
 have h1:=(World.ownsRow.stored h (i*4+2) (.int .i64 c)).1
 have h2:=(World.ownsRow.stored h1 (i*4+3) (.int .i64 a)).1
 have e:cellsR (R.set i { x with uc:=c,ua:=a })=((cellsR R).set (i*4+2) (.int .i64 c)).set (i*4+3) (.int .i64 a):=by
   rw [cellsR_set R i _ hi]
   simp only
   rw [set_same q1,set_same q2]
 unfold OwnR
 rw [e,List.length_set]
 exact h2
theorem refc_any{r g o:Nat}{E:List En}{le lm:Int}{b:Bool}{t:TypeId}{c:Array Value}(h:RefC w r E le lm b)(hk:Blk w g t c)(h1:t≠tyRe)(h2:t≠117)(v:Value):RefC (w.setCell ⟨g,o,none⟩ v) r E le lm b:=by
 refine h.far (S:=fun k=>k=g) ((Far.refl _ _).set _ _ (.inl rfl)) (fun e=>?_) fun k cur hk2 e=>?_
 · obtain ⟨a,c,hc⟩:=h.cells
   rw [e] at hc
   have e:=Option.some.inj (hc.symm.trans hk)
   injection e with _ e2
   exact h1 e2.symm
 · subst e
   have e:=Option.some.inj (hk2.symm.trans hk)
   injection e with _ e2
   exact h2 e2.symm
theorem ref_use{g cap i:Nat}(h:RefSp w rp en mn sd mx R S)(hb:Blk w rp tyRs #[.slice (some ⟨g,0,none⟩) R.length cap,.int .i64 en,.int .i64 mn,.int .u32 sd,.int .i64 mx])(hw:Below w.heap.size w w1)(hx:R[i]?=some x)(c a:Int) :
   RefNow w rp en mn sd mx S (R.set i { x with uc:=c,ua:=a }) ((w1.setCell ⟨g,i*4+2,none⟩ (.int .i64 c)).setCell ⟨g,i*4+3,none⟩ (.int .i64 a)):=by
 obtain ⟨hi,_⟩:=List.getElem?_eq_some_iff.1 hx
 have hxm:=List.mem_of_getElem? hx
 obtain ⟨rv,g0,hl,hS⟩:=h
 have e0:=Option.some.inj (g0.blk.symm.trans hb)
 injection e0 with e1 _
 simp at e1
 subst e1
 have ho1:=g0.row.later hw
 obtain ⟨cg,hg⟩:=ho1.blk (k:=g) rfl
 have hg2:=hg.set (i*4+2) (.int .i64 c)
 have hbr:=hb.later hw
 have hne:rp≠g:=fun e=>by
   rw [e] at hbr
   have e:=Option.some.inj (hbr.symm.trans hg)
   injection e with _ e2
   exact absurd e2 (by decide)
 have hSg:S g:=(hS g).2 (.inr (.inl rfl))
 have hrs:(R.set i { x with uc:=c,ua:=a }).map Rt.r=R.map Rt.r:=by
   rw [List.map_set]
   exact set_same (by rw [List.getElem?_map,hx];rfl)
 have hmem:∀ y∈R.set i { x with uc:=c,ua:=a },∃ z∈R,y.r=z.r∧y.E=z.E∧y.isL=z.isL:=fun y hy=>by
   rcases List.mem_or_eq_of_mem_set hy with h|h
   · exact ⟨y,h,rfl,rfl,rfl⟩
   · exact ⟨x,hxm,by rw [h],by rw [h],by rw [h]⟩
 refine ⟨S,⟨_,⟨(hbr.setOther _ _ hne).setOther _ _ hne,ho1.use hx c a,fun y hy=>?_,by rw [hrs];exact g0.rs⟩,by rw [List.length_set];exact hl,fun k=>(hS k).trans ?_⟩,fun k hk=>.inl hk,((Far.of_below hw).set _ _ (.inl hSg)).set _ _ (.inl hSg)⟩
 · obtain ⟨z,hz,e1,e2,e3⟩:=hmem y hy
   rw [e1,e2,e3]
   exact refc_any (refc_any ((g0.set z hz).later hw) hg (by decide) (by decide) _) hg2 (by decide) (by decide) _
 · unfold refS
   have hm:(∃ z∈R,k=z.r)↔∃ y∈R.set i { x with uc:=c,ua:=a },k=y.r:=by
     have h1:(∃ z∈R,k=z.r)↔k∈R.map Rt.r:=by rw [List.mem_map];exact ⟨fun ⟨z,h1,h2⟩=>⟨z,h1,h2.symm⟩,fun ⟨z,h1,h2⟩=>⟨z,h1,h2.symm⟩⟩
     have h2:(∃ y∈R.set i { x with uc:=c,ua:=a },k=y.r)↔k∈(R.set i { x with uc:=c,ua:=a }).map Rt.r:=by rw [List.mem_map];exact ⟨fun ⟨z,h1,h2⟩=>⟨z,h1,h2.symm⟩,fun ⟨z,h1,h2⟩=>⟨z,h1,h2.symm⟩⟩
     rw [h1,h2,hrs]
   rw [hm]
def RTouch(R:List Rt)(k:ByteArray)(now d n:Int)(R':List Rt):Prop:=((∀ x∈R,x.key≠k)∧n=141∧R'=R)∨∃ i x,R[i]?=some x∧x.key=k∧n=Lf.errN (x.uc,x.ua) now∧R'=R.set i { x with toIt:=touched now d x.toIt }
theorem ref_Touch(h:RefSp w rp en mn sd mx R S)(k:ByteArray)(now d:Int)(hn:Lf.I64 now)(hd1:0≤d)(hd2:d≤4294967295) :
   Calls Tryz.prog 60 #[.pointer (some ⟨rp,0,none⟩),.string k,.int .i64 now,.int .u32 d] w fun e w'=>∃ n R',e=.returned (.int .i64 n)∧RefNow w rp en mn sd mx S R' w'∧RTouch R k now d n R':=by
 have HA:=Lib.hid (ref_At h k)
 have HS:=Lib.hid (fun w' hb=>RefNow.same (w':=w') h hb)
 obtain ⟨rv,hb,ho,hl,hs,hrs,hS⟩:=h.keys
 by_cases hat:0≤atR R k
 · obtain ⟨i,x,hi,hx,hxk,hil⟩:=atR_get hat
   obtain ⟨g,cap,rfl,g0,g1,g2,g3⟩:=ho.cells hx
   have c0:=hb.cell 0
   simp at c0
   have hil2:(i:Int)<R.length:=by omega
   have HT:=fun W=>Lib.hid (Lf.refTouch_any (x.uc,x.ua) now d hn hd1 hd2 W)
   have HO:=Lib.hid ho
   have HB:=Lib.hid hb
   rw [hi] at HA
   unfold Lf.valU at HT
   simp only at HT
   by_cases hok:Lf.okB (x.uc,x.ua) now=true
   · have hen:Lf.errN (x.uc,x.ua) now=0:=by unfold Lf.errN;rw [if_pos hok]
     have hto:touched now d x.toIt=x.toIt.use (Lf.touchC (x.uc,x.ua) now d) (Lf.touchA (x.uc,x.ua) now):=by unfold touched;rw [if_pos hok]
     have HM:=Lib.hid (show RTouch R k now d 0 (R.set i { x with uc:=Lf.touchC (x.uc,x.ua) now d,ua:=Lf.touchA (x.uc,x.ua) now }) from .inr ⟨i,x,hx,hxk,hen.symm,by rw [hto];rfl⟩)
     unfold Lf.touchT at HT
     rw [hen] at HT
     generalize Lf.touchC (x.uc,x.ua) now d=tc at *
     generalize Lf.touchA (x.uc,x.ua) now=ta at *
     have HU:=Lib.hid (fun W hbW=>ref_use (w1:=W) h hb hbW hx tc ta)
     clear hen hto h hs hrs hS hat hi hxk hok ho hb
     go_enter Tryz.func60,Tryz.ntmps60
     go_wp2_with fail
     refine HA.out.mono ?_
     rintro e w1 ⟨rfl,rfl⟩
     go_wp2_with fail
     refine (HT w1).out.mono ?_
     rintro e w2 ⟨rfl,hb2⟩
     have hb3:Below w1.heap.size w1 (w2.alloc (.cells #[.int .i64 tc,.int .i64 ta] 48)):=hb2.alloc hb2.size _
     have HX:=Lib.hid (HU.out _ hb3)
     have c3:=(HB.out.later hb3).cell 0
     simp at c3
     have hO3:=HO.out.later hb3
     obtain ⟨_,_,e1,_,_,q2,q3⟩:=hO3.cells hx
     injection e1 with e1 _ e2
     injection e1 with e1
     injection e1 with e1
     subst e1
     subst e2
     have z2:=World.ownsRow.frozenAt hO3 (i*4+2)
     have z3:=World.ownsRow.frozenAt hO3 (i*4+3)
     have ku:=Blk.new w2 48 #[.int .i64 tc,.int .i64 ta]
     have u0:=ku.cell 0
     have u1:=ku.cell 1
     simp at u0 u1
     clear hb2 hb3 hO3 HU HB HO HT HA HS ku
     go_wp2_with fail
     go_region
     go_wp2_with fail
     go_ret
     exact ⟨0,_,rfl,HX.out.later (drewB _ 1),HM.out⟩
   · have hen:Lf.errN (x.uc,x.ua) now=130:=by unfold Lf.errN;rw [if_neg hok]
     have hto:touched now d x.toIt=x.toIt:=by unfold touched;rw [if_neg hok]
     have HM:=Lib.hid (show RTouch R k now d 130 R from .inr ⟨i,x,hx,hxk,hen.symm,by rw [hto];exact (set_same hx).symm⟩)
     unfold Lf.touchT at HT
     rw [hen] at HT
     generalize Lf.touchC (x.uc,x.ua) now d=tc at *
     generalize Lf.touchA (x.uc,x.ua) now=ta at *
     clear hen hto h hs hrs hS hat hi hxk hok ho hb
     go_enter Tryz.func60,Tryz.ntmps60
     go_wp2_with fail
     refine HA.out.mono ?_
     rintro e w1 ⟨rfl,rfl⟩
     go_wp2_with fail
     refine (HT w1).out.mono ?_
     rintro e w2 ⟨rfl,hb2⟩
     have HX:=Lib.hid (HS.out _ (hb2.alloc hb2.size (.cells #[.int .i64 tc,.int .i64 ta] 48)))
     clear hb2 HB HO HT HA HS
     go_wp2_with fail
     go_ret
     exact ⟨130,R,rfl,HX.out,HM.out⟩
 · obtain ⟨hat1,hno⟩:=atR_neg hat
   have HM:=Lib.hid (show RTouch R k now d 141 R from .inl ⟨hno,rfl,rfl⟩)
   rw [hat1] at HA
   clear h hb ho hs hrs hS hat hat1 hno
   go_enter Tryz.func60,Tryz.ntmps60
   go_wp2_with fail
   refine HA.out.mono ?_
   rintro e w1 ⟨rfl,rfl⟩
   go_wp2_with fail
   go_ret
   exact ⟨141,R,rfl,HS.out _ (Below.refl _ _),HM.out⟩
end
theorem fill_good{le lm:Int}(h1:0≤le∧le≤200)(h2:0≤lm∧lm≤64)(l:List En)(hs:∀ e∈l,Pk.scoreOk e.2):∀ i,i≤l.length→i≤300→Good le lm i (fillN le lm (l.take i) (false,[])).2∧FitE (fillN le lm (l.take i) (false,[])).1 le lm (fillN le lm (l.take i) (false,[])).2
 | 0,_,_=>⟨⟨h1,h2,List.Pairwise.nil,List.Pairwise.nil,(fun e he=>nomatch he),Nat.le_refl _,(by decide)⟩,fit_nil _ h1.1⟩
 | i+1,hi,hi2=>by
   obtain ⟨g,f⟩:=fill_good h1 h2 l hs i (by omega) (by omega)
   rw [List.take_succ_eq_append_getElem (by omega),fillN_snoc]
   refine ⟨?_,fit_add f g.dist _ _ _⟩
   simp only
   unfold addS
   cases hb:badB l[i].1 1 with
   | true=>exact g.more (by omega) (by omega)
   | false =>
     have hk:l[i].1.size≤64:=by
       unfold badB at hb
       have:=of_decide_eq_false hb
       omega
     exact g.add (by omega) _ _ hk (hs _ (List.getElem_mem (by omega)))
section
variable {w w1 w' W:World} {rp sd:Nat} {u:Value} {en mn mx:Int} {R R':List Rt} {S:Nat→Prop} {x:Rt}
theorem OwnR.reset{n0 g cap i:Nat}(h:OwnR W n0 (.slice (some ⟨g,0,none⟩) R.length cap) R)(hx:R[i]?=some x)(b:Bool)(E:List En)(r:Nat) :
   OwnR (W.setCell ⟨g,i*4+1,none⟩ (.pointer (some ⟨r,0,none⟩))) n0 (.slice (some ⟨g,0,none⟩) R.length cap) (R.set i { x with isL:=b,E:=E,r:=r }):=by
 obtain ⟨hi,_⟩:=List.getElem?_eq_some_iff.1 hx
 obtain ⟨q1,q2,q3,q4⟩:=cellsR_at R i x hx
 have h1:=(World.ownsRow.stored h (i*4+1) (.pointer (some ⟨r,0,none⟩))).1
 have e:cellsR (R.set i { x with isL:=b,E:=E,r:=r })=(cellsR R).set (i*4+1) (.pointer (some ⟨r,0,none⟩)):=by
   rw [cellsR_set R i _ hi]
   simp only
   rw [set_same q1,set_same (a:=Value.int .i64 x.uc) (by rw [List.getElem?_set_ne (by omega)];exact q3),set_same (a:=Value.int .i64 x.ua) (by rw [List.getElem?_set_ne (by omega)];exact q4)]
 unfold OwnR
 rw [e,List.length_set]
 exact h1
theorem nodup_set:∀ (l:List Nat) (i r:Nat),l.Nodup→r ∉ l→(l.set i r).Nodup
 | [],_,_,_,_=>by simp
 | a :: l,0,r,h,hr=>by
   rw [List.nodup_cons] at h
   rw [List.set_cons_zero,List.nodup_cons]
   exact ⟨fun e=>hr (List.mem_cons_of_mem _ e),h.2⟩
 | a :: l,i+1,r,h,hr=>by
   rw [List.nodup_cons] at h
   rw [List.set_cons_succ,List.nodup_cons]
   refine ⟨fun e=>?_,nodup_set l i r h.2 fun e=>hr (List.mem_cons_of_mem _ e)⟩
   rcases List.mem_or_eq_of_mem_set e with h1|h1
   · exact h.1 h1
   · exact hr (by rw [h1];exact List.mem_cons_self ..)
theorem ref_reset{g cap i r:Nat}{E:List En}{b:Bool}(h:RefSp w rp en mn sd mx R S)(hb:Blk w rp tyRs #[.slice (some ⟨g,0,none⟩) R.length cap,.int .i64 en,.int .i64 mn,.int .u32 sd,.int .i64 mx])(hx:R[i]?=some x)(hr:RefC w r E (clampL en 200) (clampL mn 64) b)(hn:∀ y∈R,y.r≠r) :
   ∃ S',RefSp (w.setCell ⟨g,i*4+1,none⟩ (.pointer (some ⟨r,0,none⟩))) rp en mn sd mx (R.set i { x with isL:=b,E:=E,r:=r }) S'∧(∀ k,S' k→S k∨k=r)∧Far S w (w.setCell ⟨g,i*4+1,none⟩ (.pointer (some ⟨r,0,none⟩))):=by
 obtain ⟨rv,g0,hl,hS⟩:=h
 have e0:=Option.some.inj (g0.blk.symm.trans hb)
 injection e0 with e1 _
 simp at e1
 subst e1
 have ho1:=g0.row
 obtain ⟨cg,hg⟩:=ho1.blk (k:=g) rfl
 have hne:rp≠g:=fun e=>by
   have hbr:=hb
   rw [e] at hbr
   have e:=Option.some.inj (hbr.symm.trans hg)
   injection e with _ e2
   exact absurd e2 (by decide)
 have hSg:S g:=(hS g).2 (.inr (.inl rfl))
 have hmap:(R.set i { x with isL:=b,E:=E,r:=r }).map Rt.r=(R.map Rt.r).set i r:=by rw [List.map_set]
 refine ⟨refS rp (.slice (some ⟨g,0,none⟩) R.length cap) (R.set i { x with isL:=b,E:=E,r:=r }),⟨_,⟨hb.setOther _ _ hne,ho1.reset hx b E r,fun y hy=>?_,?_⟩,by rw [List.length_set];exact hl,fun k=>Iff.rfl⟩,fun k hk=>?_,(Far.refl _ _).set _ _ (.inl hSg)⟩
 · rcases List.mem_or_eq_of_mem_set hy with h|h
   · exact refc_any (g0.set y h) hg (by decide) (by decide) _
   · subst h
     exact refc_any hr hg (by decide) (by decide) _
 · rw [hmap]
   exact nodup_set _ _ _ g0.rs fun e=>by
     obtain ⟨y,hy,e2⟩:=List.mem_map.1 e
     exact hn y hy e2
 · rcases hk with hk|hk|⟨y,hy,rfl⟩
   · exact .inl ((hS k).2 (.inl hk))
   · exact .inl ((hS k).2 (.inr (.inl hk)))
   · rcases List.mem_or_eq_of_mem_set hy with h|h
     · exact .inl ((hS _).2 (.inr (.inr ⟨y,h,rfl⟩)))
     · subst h
       exact .inr rfl
def CellsE(b o:Nat)(m:ByteArray)(sc:Int)(W:World):Prop:=W.cell? ⟨b,o,none⟩=some (.string m)∧W.cell? ⟨b,o+1,none⟩=some (.int .i64 sc)
def RPut(en mn:Int)(R:List Rt)(k:ByteArray)(l:List En)(now:Int)(R':List Rt):Prop :=
 (madeR R k now≠0∧R'=R)∨(madeR R k now=0∧∃ a R1 i x r,RMake R k now a R1∧R1[i]?=some x∧x.key=k∧R'=R1.set i { x with isL:=(filled en mn l).1,E:=(filled en mn l).2,r:=r })
theorem clampL_in(n:Int)(hi:Int)(h:0≤hi):0≤clampL n hi∧clampL n hi≤hi:=by unfold clampL;omega
theorem ref_Put(h:RefSp w rp en mn sd mx R S)(hz:∀ x∈R,x.key.size≤281474976710656)(k:ByteArray)(hk:k.size≤281474976710656)(now:Int){n0:Nat}{v:Value}{l:List En}(hl:l.length≤300)(hzl:∀ e∈l,e.1.size≤281474976710656)(hs:∀ e∈l,Pk.scoreOk e.2)(hr:Row w n0 v l) :
   Calls Tryz.prog 54 #[.pointer (some ⟨rp,0,none⟩),.string k,v,.int .i64 now] w fun e w'=>∃ R',e=.returned (.int .i64 (madeR R k now))∧RefNow w rp en mn sd mx S R' w'∧RPut en mn R k l now R':=by
 have HMK:=Lib.hid (ref_Make h hz k hk now)
 have HRW:=Lib.hid (fun w1 (hf:Far S w w1)=>hr.far hf fun j cur _ hj=>h.no hj (by decide))
 obtain ⟨a,cap,rfl⟩:=hr.form
 have HK:=Lib.hid (show ∀ j,S j→j<w.heap.size from fun j hj=>h.lt hj)
 clear h hr
 by_cases hm:madeR R k now=0
 · rw [hm] at HMK ⊢
   go_enter Tryz.func54,Tryz.ntmps54
   go_wp2_with fail
   refine HMK.out.mono ?_
   rintro e w1 ⟨xa,R1,rfl,hn,hmk⟩
   obtain ⟨S1,h1,hS1,hf1⟩:=hn
   have hrow1:=HRW.out w1 hf1
   have hk1:∃ x∈R1,x.key=k:=by
     rcases hmk with ⟨h0,_⟩|⟨_,_,x,hx,hxk,_⟩
     · exact absurd hm h0
     · exact ⟨x,hx,hxk⟩
   obtain ⟨rv,hb,ho,hl1,hsR,hrs,hSR⟩:=h1.keys
   have c1:=hb.cell 1
   have c2:=hb.cell 2
   simp at c1 c2
   clear HMK
   go_wp2_with fail
   refine (ref_new en mn _ _ rfl rfl w1).mono ?_
   rintro e w2 ⟨r,rfl,hr2,hrc,hb2⟩
   have hrow2:=hrow1.later hb2
   obtain ⟨ra,rc,hrk⟩:=hrc.cells
   have HROW:=Lib.hid (fun W (hf:Far (fun k=>k=r) w2 W)=>hrow2.far hf fun j cur _ hj e=>by
     subst e
     have e:=Option.some.inj (hj.symm.trans hrk)
     injection e with _ e2
     exact absurd e2 (by decide))
   have HGOOD:=Lib.hid (fill_good (clampL_in en 200 (by decide)) (clampL_in mn 64 (by decide)) l hs)
   have HZL:=Lib.hid hzl
   have HRC:=Lib.hid hrc
   have H1:=Lib.hid h1
   have HR2:=Lib.hid hr2
   have HB2:=Lib.hid hb2
   have HMK:=Lib.hid hmk
   have HS1:=Lib.hid hS1
   have HF1:=Lib.hid hf1
   have HSR:=Lib.hid hSR
   have HK1:=Lib.hid hk1
   have HBR:=Lib.hid hb
   have HRK:=Lib.hid hrk
   clear hrow1 hrow2 hrc hb hb2 ho hsR hrs hSR h1 hS1 hf1 hk1 c1 c2 hmk hrk hr2 HRW hzl hs
   go_wp2_with fail
   go_loopw [12] (fun i wr=>∃ (j:Nat),i=.int .i64 j∧j≤l.length∧RefC wr r (fillN (clampL en 200) (clampL mn 64) (l.take j) (false,[])).2 (clampL en 200) (clampL mn 64) (fillN (clampL en 200) (clampL mn 64) (l.take j) (false,[])).1∧Far (fun k=>k=r) w2 wr) (fun i _=>l.length-(intOf i).toNat)
   case atStart=>exact ⟨0,rfl,by omega,HRC.out,Far.refl _ _⟩
   case round =>
     obtain ⟨j,rfl,hj,hC,hF⟩:=hrel
     by_cases hlt:j<l.length
     · have hj2:(j:Int)<l.length:=by omega
       obtain ⟨hg,hfit⟩:=HGOOD.out j hj (by omega)
       have hnx:=fillN_snoc (clampL en 200) (clampL mn 64) (l.take j) l[j] (false,[])
       rw [← List.take_succ_eq_append_getElem hlt] at hnx
       have hzj:=HZL.out _ (List.getElem_mem hlt)
       have hxj:l[j]?=some l[j]:=List.getElem?_eq_getElem hlt
       generalize l[j]=e0 at *
       obtain ⟨m,sc⟩:=e0
       obtain ⟨b,off,c',e1,g0,g1⟩:=row_cells (HROW.out wr hF) hxj
       injection e1 with e1 _ e2
       subst e1
       subst e2
       have HAD:=Lib.hid (ref_add (hC.later (drewB wr 1)) hfit hg.srt hg.dist (fun x hx=>(hg.each x hx).1) (by have:=hg.len;omega) m hzj sc 1)
       have HNX:=Lib.hid hnx
       have HF:=Lib.hid hF
       clear hC hF hg hfit hnx hzj
       have S0:CellsE b (off+j*2) m sc wr.drew:=⟨g0,g1⟩
       have HSE:=Lib.hid (fun W (hf:Far (fun k=>k=r) w2 W)=>show CellsE b (off+j*2) m sc W from by
         obtain ⟨b',off',c2,e1,g0,g1⟩:=row_cells (HROW.out W hf) hxj
         injection e1 with e1 _ _
         injection e1 with e1
         injection e1 with e1 e2
         subst e1
         subst e2
         exact ⟨g0,g1⟩)
       clear hxj g0 g1
       go_wp2_with fail
       refine Sched.region_sched [(0,true),(1,true),(2,true),(3,true),(4,true),(5,true),(6,true),(7,true),(8,true),(9,true),(10,true),(11,false)]
         (CellsE b (off+j*2) m sc) (by kernel_rfl) (by kernel_rfl) rfl (by kernel_rfl) (fun _ _ _ d _ h=>by cases d <;> exact h) S0 ?_
       intro L hL
       simp only [Sched.picks,List.getElem?_toArray,List.getElem?_cons_zero,List.getElem?_cons_succ] at hL
       subst hL
       repeat (first
         | (refine Sched.sched_take (v:=?_) (by rfl) ?_ ?_
            rotate_left
            (focus (intro w' hSw;obtain ⟨l0,l1⟩:=hSw;go_simp;(try with_reducible rfl);done))
            simp only [Act.put,List.setIfInBounds_toArray,List.set_cons_zero,List.set_cons_succ]))
       refine Sched.sched_do (by rfl) fun K' hK=>?_
       go_simp
       refine HAD.out.mono ?_
       rintro e w4 ⟨rfl,hC4,hF4⟩
       have S4:=HSE.out w4 ((HF.out.then_below (drewB wr 1)).trans hF4 fun j hj=>.inl hj)
       have H4:=Lib.hid (show RefC w4 r (fillN (clampL en 200) (clampL mn 64) (l.take (j+1)) (false,[])).2 (clampL en 200) (clampL mn 64) (fillN (clampL en 200) (clampL mn 64) (l.take (j+1)) (false,[])).1∧Far (fun k=>k=r) w2 w4 from by
         rw [HNX.out]
         exact ⟨hC4,(HF.out.then_below (drewB wr 1)).trans hF4 fun j hj=>.inl hj⟩)
       clear hC4 hF4 HAD HF HNX
       go_simp
       refine hK _ _ S4 ?_
       clear hK K' S0 S4
       refine Sched.sched_nil ?_
       go_wp2_with fail
       exact ⟨⟨j+1,by go_num,hlt,H4.out.1,H4.out.2⟩,by simp [intOf];omega⟩
     · obtain rfl:j=l.length:=by omega
       rw [List.take_length] at hC
       have HC:=Lib.hid (show RefC wr r (filled en mn l).2 (clampL en 200) (clampL mn 64) (filled en mn l).1 from hC)
       have h1r:RefSp wr rp en mn sd mx R1 S1:=(H1.out.later HB2.out).far hF (fun k hk e=>by
         have h1:=H1.out.lt hk
         have h2:=HR2.out
         omega) fun j cur hj e=>by
           subst e
           have e:=Option.some.inj (hj.symm.trans HRK.out)
           injection e with _ e2
           exact absurd e2 (by decide)
       have HA:=Lib.hid (show Calls Tryz.prog 24 #[.pointer (some ⟨rp,0,none⟩),.string k] wr.drew fun e w'=>e=.returned (.int .i64 (atR R1 k))∧w'=wr.drew from ref_At (h1r.later (drewB wr 1)) k)
       obtain ⟨rv',hb',ho',_,_,_,_⟩:=h1r.keys
       have hat:0≤atR R1 k:=by
         by_cases h:0≤atR R1 k
         · exact h
         · obtain ⟨x,hx,hxk⟩:=HK1.out
           exact absurd hxk ((atR_neg h).2 x hx)
       obtain ⟨i,x,hi,hx,hxk,hil⟩:=atR_get hat
       rw [hi] at HA
       obtain ⟨g,cap',rfl,g0,g1,_⟩:=ho'.cells hx
       have z1:=World.ownsRow.frozenAt ho' (i*4+1)
       have c0:=hb'.cell 0
       simp at c0
       have hil2:(i:Int)<R1.length:=by omega
       obtain ⟨S2,k1,k2,k3⟩:=ref_reset (h1r.later (drewB wr 1)) (hb'.later (drewB wr 1)) hx (HC.out.later (drewB wr 1)) (fun y hy e=>by
         have h1:=H1.out.lt (HSR.out y hy)
         have h2:=HR2.out
         omega)
       have HEND:=Lib.hid (show RefNow w rp en mn sd mx S (R1.set i { x with isL:=(filled en mn l).1,E:=(filled en mn l).2,r:=r }) (wr.drew.setCell ⟨g,i*4+1,none⟩ (.pointer (some ⟨r,0,none⟩))) from by
         have hfw:Far S w (wr.drewN 1):=Far.then_below (b:=wr) ((HF1.out.then_below HB2.out).trans hF fun j hj=>.inr (by
           have h1:=HF1.out.size
           have h2:=HR2.out
           have h3:j=r:=hj
           omega)) (drewB wr 1)
         refine ⟨S2,k1,fun j hj=>?_,hfw.trans k3 fun j hj=>HS1.out j hj⟩
         rcases k2 j hj with h|h
         · exact HS1.out j h
         · have h1:=HF1.out.size
           have h2:=HR2.out
           exact .inr (by omega))
       have HP:=Lib.hid (show RPut en mn R k l now (R1.set i { x with isL:=(filled en mn l).1,E:=(filled en mn l).2,r:=r }) from .inr ⟨hm,xa,R1,i,x,r,HMK.out,hx,hxk,rfl⟩)
       have hnr:rp≠g:=fun e=>by
         obtain ⟨cg,hg⟩:=ho'.blk (k:=g) rfl
         have hbr:=hb'
         rw [e] at hbr
         have e:=Option.some.inj (hbr.symm.trans hg)
         injection e with _ e2
         exact absurd e2 (by decide)
       have S9:=Lib.hid (show (wr.drew.setCell ⟨g,i*4+1,none⟩ (.pointer (some ⟨r,0,none⟩))).cell? ⟨rp,0,none⟩=some (.slice (some ⟨g,0,none⟩) R1.length cap') from ((hb'.later (drewB wr 1)).setOther (i*4+1) (.pointer (some ⟨r,0,none⟩)) hnr).cell 0)
       have S0:wr.drew.cell? ⟨rp,0,none⟩=some (.slice (some ⟨g,0,none⟩) R1.length cap'):=c0
       clear hC hF h1r hb' ho' hat hi hx hxk k1 k2 k3 H1 HB2 HR2 HRK HF1 HS1 HSR HK1 HC HROW HGOOD HZL HRC HBR HMK
       go_wp2_with fail
       refine Sched.region_sched [(0,true),(1,true),(2,true),(3,true),(4,true),(5,true),(7,true),(6,false),(8,true),(9,true),(10,false)]
         (fun V=>V.cell? ⟨rp,0,none⟩=some (.slice (some ⟨g,0,none⟩) R1.length cap')) (by kernel_rfl) (by kernel_rfl) rfl (by kernel_rfl) (fun _ _ _ d _ h=>by cases d <;> exact h) S0 ?_
       intro L hL
       simp only [Sched.picks,List.getElem?_toArray,List.getElem?_cons_zero,List.getElem?_cons_succ] at hL
       subst hL
       repeat (first
         | (refine Sched.sched_take (v:=?_) (by rfl) ?_ ?_
            rotate_left
            (focus (intro w' hSw;go_simp;(try with_reducible rfl);done))
            simp only [Act.put,List.setIfInBounds_toArray,List.set_cons_zero,List.set_cons_succ]))
       refine Sched.sched_do (by rfl) fun K' hK=>?_
       go_simp
       refine HA.out.mono ?_
       rintro e w9 ⟨rfl,rfl⟩
       go_simp
       refine hK _ _ S0 ?_
       clear hK K'
       repeat (first
         | (refine Sched.sched_take (v:=?_) (by rfl) ?_ ?_
            rotate_left
            (focus (intro w' hSw;go_simp;(try with_reducible rfl);done))
            simp only [Act.put,List.setIfInBounds_toArray,List.set_cons_zero,List.set_cons_succ]))
       refine Sched.sched_do (by rfl) fun K' hK=>?_
       go_simp
       refine hK _ _ S9.out ?_
       clear hK K'
       refine Sched.sched_nil ?_
       clear S0 S9 g0 g1 z1 c0
       go_wp2_with fail
       go_ret
       exact ⟨_,rfl,HEND.out,HP.out⟩
 · have HP:=Lib.hid (show RPut en mn R k l now R from .inl ⟨hm,rfl⟩)
   have HEQ:=Lib.hid (fun xa R1 (h:RMake R k now xa R1)=>show R1=R from h.elim (fun h=>h.2.2) fun h=>absurd h.1 hm)
   generalize madeR R k now=z at *
   clear HRW HK
   go_enter Tryz.func54,Tryz.ntmps54
   go_wp2_with fail
   refine HMK.out.mono ?_
   rintro e w1 ⟨xa,R1,rfl,hn,hmk⟩
   obtain rfl:=HEQ.out _ _ hmk
   have HN:=Lib.hid hn
   clear hn hmk HMK HEQ
   go_wp2_with fail
   go_ret
   exact ⟨R1,rfl,HN.out,HP.out⟩
end
end Go.Proofs.YtlckdfoflimahaaGreatDoor
namespace Go.Proofs.YtlckdfoflimahaaGreatDoor
open Go.RowKit Go.Shelf Sk
def keyL(x:Rt):List UInt8:=x.key.data.toList
def SortR(R:List Rt):Prop:=R.Pairwise fun x y=>keyL x<keyL y
def tailW(k:ByteArray)(X:List Rt):Bool→List Rt→List Rt
 | d,[]=>if d then [] else X
 | d,x :: r=>(if !d&&ltB k x.key then X else [])++onlyR k x++tailW k X (d || ltB k x.key) r
theorem fold_tail(k:ByteArray)(X:List Rt):∀ (R acc:List Rt) (d:Bool),(R.foldl (stepW k X) (acc,d)).1++(if (R.foldl (stepW k X) (acc,d)).2 then [] else X)=acc++tailW k X d R
 | [],acc,d=>rfl
 | x :: r,acc,d=>by
   rw [List.foldl_cons,show tailW k X d (x :: r)=(if !d&&ltB k x.key then X else [])++onlyR k x++tailW k X (d || ltB k x.key) r from rfl]
   show (r.foldl (stepW k X) ((if !d&&ltB k x.key then acc++X else acc)++onlyR k x,d || ltB k x.key)).1++(if (r.foldl (stepW k X) ((if !d&&ltB k x.key then acc++X else acc)++onlyR k x,d || ltB k x.key)).2 then [] else X)=_
   rw [fold_tail k X r]
   split <;> simp
theorem with_tail(R:List Rt)(k:ByteArray)(X:List Rt):withR R k X=tailW k X false R:=by
 unfold withR foldW
 rw [fold_tail]
 rfl
theorem only_mem{k:ByteArray}{x y:Rt}(h:y∈onlyR k x):y=x∧x.key≠k:=by
 unfold onlyR at h
 split at h
 · cases h
 · rename_i hn
   exact ⟨List.mem_singleton.1 h,hn⟩
theorem tail_true_mem{k:ByteArray}{X:List Rt}:∀ {R:List Rt} {y:Rt},y∈tailW k X true R→y∈R
 | [],y,h=>by simp [tailW] at h
 | x :: r,y,h=>by
   simp only [tailW,Bool.not_true,Bool.false_and,Bool.false_eq_true,if_false,List.nil_append,Bool.true_or,List.mem_append] at h
   rcases h with h|h
   · rw [(only_mem h).1];exact List.mem_cons_self
   · exact List.mem_cons_of_mem _ (tail_true_mem h)
theorem tail_mem{k:ByteArray}{X:List Rt}:∀ {R:List Rt} {d:Bool} {y:Rt},y∈tailW k X d R→y∈R∨y∈X
 | [],d,y,h=>by
   cases d
   · exact .inr (by simpa [tailW] using h)
   · simp [tailW] at h
 | x :: r,d,y,h=>by
   simp only [tailW,List.mem_append] at h
   rcases h with (h|h)|h
   · split at h
     · exact .inr h
     · cases h
   · rw [(only_mem h).1];exact .inl List.mem_cons_self
   · exact (tail_mem h).imp_left (List.mem_cons_of_mem _)
theorem tail_true{k:ByteArray}{X:List Rt}:∀ {R:List Rt},SortR R→SortR (tailW k X true R)
 | [],_=>by simp [tailW,SortR]
 | x :: r,h=>by
   obtain ⟨h1,h2⟩:=List.pairwise_cons.1 h
   simp only [tailW,Bool.not_true,Bool.false_and,Bool.false_eq_true,if_false,List.nil_append,Bool.true_or]
   unfold SortR
   rw [List.pairwise_append]
   refine ⟨by unfold onlyR;split <;> simp,tail_true h2,fun a ha b hb=>?_⟩
   rw [(only_mem ha).1]
   exact h1 b (tail_true_mem hb)
theorem x_sort{X:List Rt}(hl:X.length≤1):SortR X:=by
 rcases X with _|⟨a,_|⟨b,X⟩⟩
 · simp [SortR]
 · simp [SortR]
 · simp at hl
theorem tail_sort{k:ByteArray}{X:List Rt}(hX:∀ x∈X,x.key=k)(hl:X.length≤1):∀ {R:List Rt},SortR R→SortR (tailW k X false R)
 | [],_=>by simpa [tailW] using x_sort hl
 | x :: r,h=>by
   obtain ⟨h1,h2⟩:=List.pairwise_cons.1 h
   cases hc:ltB k x.key with
   | true =>
     have hlt:k.data.toList<x.key.data.toList:=by simpa [ltB] using hc
     have hne:x.key≠k:=fun e=>by rw [e] at hlt;exact List.lt_irrefl _ hlt
     simp only [tailW,hc,Bool.not_false,Bool.and_self,if_true,Bool.or_true]
     rw [show onlyR k x=[x] by unfold onlyR;rw [if_neg hne],List.append_assoc]
     unfold SortR
     rw [List.pairwise_append]
     refine ⟨x_sort hl,?_,fun a ha b hb=>?_⟩
     · rw [List.singleton_append,List.pairwise_cons]
       exact ⟨fun b hb=>h1 b (tail_true_mem hb),tail_true h2⟩
     · unfold keyL
       rw [hX a ha]
       rw [List.singleton_append,List.mem_cons] at hb
       rcases hb with rfl|hb
       · exact hlt
       · exact List.lt_trans hlt (h1 b (tail_true_mem hb))
   | false =>
     have hnl:¬ k.data.toList<x.key.data.toList:=by simpa [ltB] using hc
     simp only [tailW,hc,Bool.and_false,Bool.false_eq_true,if_false,List.nil_append,Bool.or_false]
     unfold SortR
     rw [List.pairwise_append]
     refine ⟨by unfold onlyR;split <;> simp,tail_sort hX hl h2,fun a ha b hb=>?_⟩
     obtain ⟨rfl,hne⟩:=only_mem ha
     rcases tail_mem hb with hb|hb
     · exact h1 b hb
     · unfold keyL
       rw [hX b hb]
       by_cases h3:a.key.data.toList<k.data.toList
       · exact h3
       · exfalso
         refine hne (ByteArray.ext (Array.toList_inj.1 ?_))
         exact List.le_antisymm (List.not_lt.1 hnl) (List.not_lt.1 h3)
theorem sortR_with{R X:List Rt}{k:ByteArray}(h:SortR R)(hX:∀ x∈X,x.key=k)(hl:X.length≤1):SortR (withR R k X):=by
 rw [with_tail]
 exact tail_sort hX hl h
theorem sortR_set{R:List Rt}{i:Nat}{x x':Rt}(h:SortR R)(hx:R[i]?=some x)(hk:x'.key=x.key):SortR (R.set i x'):=by
 unfold SortR at *
 have e:∀ l:List Rt,(l.Pairwise fun x y=>keyL x<keyL y)↔(l.map keyL).Pairwise (·<·):=fun l=>(List.pairwise_map).symm
 rw [e] at h ⊢
 rw [List.map_set]
 have e2:(R.map keyL)[i]?=some (keyL x'):=by
   rw [List.getElem?_map,hx]
   show some (keyL x)=some (keyL x')
   unfold keyL
   rw [hk]
 obtain ⟨hi,he⟩:=List.getElem?_eq_some_iff.1 e2
 rw [show (R.map keyL).set i (keyL x')=R.map keyL by rw [← he];exact List.set_getElem_self hi]
 exact h
end Go.Proofs.YtlckdfoflimahaaGreatDoor
