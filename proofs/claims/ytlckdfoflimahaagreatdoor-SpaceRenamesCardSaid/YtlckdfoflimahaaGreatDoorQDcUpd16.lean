/- Texts of one kind in one: DcUpd, DcDoes, DcOps, DcSet. -/
import Derived.Test.YtlckdfoflimahaaGreatDoorQDcStep15
import Derived.Test.YtlckdfoflimahaaGreatDoorQShelf04
set_option maxRecDepth 200000
set_option maxHeartbeats 8000000
namespace Go.Proofs.YtlckdfoflimahaaGreatDoor.Dc
open Go.RowKit Go.Shelf
attribute [local go_sem] Oper.semAt_some
def Dc.upd(D:Dc)(s j:Nat)(f:List Nd→List Nd):Dc :=
 if j=0 then { D with a:=D.a.set (s % D.a.length) (f (D.a.getD (s % D.a.length) [])) } else { D with b:=D.b.set (s % D.b.length) (f (D.b.getD (s % D.b.length) [])) }
theorem TabAt.upd{T:Ty}(hT:T.Apart){W W':World}{g k:Nat}{vs:List Value}{rows:List (List Nd)}{v v':Value}{r':List Nd}(h:TabAt T W g vs rows)(hS:Sep vs)(hv:vs[k]?=some v)(f:Far (fun b=>v.ownBlock=some b∨b=g) W W')
   (hb:Blk W' g T.t (vs.set k v').toArray) (hr:RowAt T W' v' r'):TabAt T W' g (vs.set k v') (rows.set k r'):=by
 refine ⟨hb,by rw [List.length_set,List.length_set];exact h.len,fun i u r hu hr2=>?_⟩
 by_cases e:i=k
 · subst e
   rw [List.getElem?_set_self (List.getElem?_eq_some_iff.1 hv).1] at hu
   rw [List.getElem?_set_self (by have:=(List.getElem?_eq_some_iff.1 hr2).1;simpa using this)] at hr2
   cases hu;cases hr2
   exact hr
 · rw [List.getElem?_set_ne (fun h=>e h.symm)] at hu hr2
   refine (h.row i u r hu hr2).far f ?_
   rintro b hb2 (h1|rfl)
   · exact e (hS i k u v b hu hv hb2 h1)
   · obtain ⟨c,hc⟩:=(h.row i u r hu hr2).blk hb2
     exact hT.2.2 (h.blk.ty hc)
section
variable {T:Ty} {S:Nat→Prop} {p seed:Nat} {D:Dc} {w:World}
theorem Mem.upd(hT:T.Apart){W W':World}{g0 g1:Nat}{A1:Option Addr}{va vb:List Value}(h:Mem T W p g0 g1 A1 va vb seed D)(ok:D.Ok T)(s j:Nat)(x:Nat × Nat)(hx:(D.slots g0 g1 s)[j]?=some x){v v':Value}{f:List Nd→List Nd}
   (hc:W.cell? ⟨x.1,x.2,none⟩=some v) (fr:Far (fun b=>v.ownBlock=some b∨b=x.1) W W') (hown:∀ k,v'.ownBlock=some k→v.ownBlock=some k)
   (hb:∀ vs:List Value,Blk W x.1 T.t vs.toArray→vs[x.2]?=some v→Blk W' x.1 T.t (vs.set x.2 v').toArray) (hr:∀ r,(D.rowsOf s)[j]?=some r→RowAt T W' v' (f r)) :
   ∃ va' vb',Mem T W' p g0 g1 A1 va' vb' seed (D.upd s j f)∧(∀ u∈va'++vb',∀ k,u.ownBlock=some k→∃ u0∈va++vb,u0.ownBlock=some k):=by
 have hal:=isS_pos ok.a
 have hmem:∀ (vs:List Value) (k:Nat),vs[k]?=some v→∀ u∈vs.set k v',∀ b,u.ownBlock=some b→∃ u0∈vs,u0.ownBlock=some b:=fun vs k hv u hu b hb'=>by
   rcases List.mem_or_eq_of_mem_set hu with h1|rfl
   · exact ⟨u,h1,hb'⟩
   · exact ⟨v,List.mem_of_getElem? hv,hown b hb'⟩
 have hp:∀ t,t=T.t∨t=T.r→∀ c k,Blk W k t c→p≠k:=fun t ht c k hk e=>by
   subst e
   rcases ht with rfl|rfl
   · exact hT.1 (h.dict.ty hk)
   · exact hT.2.1 (h.dict.ty hk)
 unfold Dc.slots at hx
 unfold Dc.upd
 match j,hx with
 | 0,hx =>
   simp at hx
   subst hx
   have hlt:s % D.a.length<va.length:=by rw [h.ta.len];exact Nat.mod_lt _ (by omega)
   have hv:va[s % D.a.length]?=some v:=by
     have:=h.ta.blk.cell (s % D.a.length)
     rw [hc] at this
     simpa using this.symm
   obtain ⟨r0,_,hrow⟩:=h.ta.rows hv
   have hpn:¬ (v.ownBlock=some p∨p=g0):=by
     rintro (h1|h1)
     · obtain ⟨c,hc⟩:=hrow.blk h1;exact hp _ (.inr rfl) _ _ hc rfl
     · exact hp _ (.inl rfl) _ _ h.ta.blk h1
   refine ⟨va.set (s % D.a.length) v',vb,⟨?_,?_,?_,?_⟩,?_⟩
   · have:=fr.blk h.dict hpn
     simpa using this
   · exact h.ta.upd hT h.sep.left hv fr (hb va h.ta.blk hv) (hr _ rfl)
   · rcases h.tb with h1|⟨h1,h2,h3,h4⟩
     · exact .inl h1
     · refine .inr ⟨h1,h2,h3,h4.far fr ?_⟩
       rintro k (rfl|⟨u,hu,hk⟩) (h5|h5)
       · obtain ⟨c,hc⟩:=hrow.blk h5;exact hT.2.2 (h4.blk.ty hc)
       · exact h3 h5
       · exact Sep.apart h.sep (List.mem_of_getElem? hv) hu h5 hk
       · subst h5
         obtain ⟨r,hr⟩:=h4.mem hu
         obtain ⟨c,hc⟩:=hr.blk hk
         exact hT.2.2 (h.ta.blk.ty hc)
   · refine Sep.join (h.sep.left.set hv fun k hk=>.inl (hown k hk)) h.sep.right fun u hu u2 hu2 k hk hk2=>?_
     obtain ⟨u0,h1,h2⟩:=hmem va _ hv u hu k hk
     exact Sep.apart h.sep h1 hu2 h2 hk2
   · intro u hu k hk
     rcases List.mem_append.1 hu with h1|h1
     · obtain ⟨u0,h2,h3⟩:=hmem va _ hv u h1 k hk
       exact ⟨u0,List.mem_append_left _ h2,h3⟩
     · exact ⟨u,List.mem_append_right _ h1,hk⟩
 | 1,hx =>
   by_cases hb0:D.b=[]
   · rw [if_pos hb0] at hx;simp at hx
   rw [if_neg hb0] at hx
   simp at hx
   subst hx
   rcases h.tb with ⟨h1,_⟩|⟨h1,h2,h3,h4⟩
   · exact absurd h1 hb0
   have hbl:=isS_pos (ok.b hb0)
   have hlt:s % D.b.length<vb.length:=by rw [h4.len];exact Nat.mod_lt _ (by omega)
   have hv:vb[s % D.b.length]?=some v:=by
     have:=h4.blk.cell (s % D.b.length)
     rw [hc] at this
     simpa using this.symm
   obtain ⟨r0,_,hrow⟩:=h4.rows hv
   have hpn:¬ (v.ownBlock=some p∨p=g1):=by
     rintro (h5|h5)
     · obtain ⟨c,hc⟩:=hrow.blk h5;exact hp _ (.inr rfl) _ _ hc rfl
     · exact hp _ (.inl rfl) _ _ h4.blk h5
   have hro:(D.rowsOf s)[1]?=some (D.b.getD (s % D.b.length) []):=by unfold Dc.rowsOf;rw [if_neg hb0];rfl
   refine ⟨va,vb.set (s % D.b.length) v',⟨?_,?_,.inr ⟨?_,h2,h3,?_⟩,?_⟩,?_⟩
   · have:=fr.blk h.dict hpn
     simpa using this
   · refine h.ta.far fr ?_
     rintro k (rfl|⟨u,hu,hk⟩) (h5|h5)
     · obtain ⟨c,hc⟩:=hrow.blk h5;exact hT.2.2 (h.ta.blk.ty hc)
     · exact h3 h5.symm
     · exact Sep.apart h.sep hu (List.mem_of_getElem? hv) hk h5
     · subst h5
       obtain ⟨r,hr⟩:=h.ta.mem hu
       obtain ⟨c,hc⟩:=hr.blk hk
       exact hT.2.2 (h4.blk.ty hc)
   · intro e
     have:=congrArg List.length e
     simp at this
     exact hb0 this
   · exact h4.upd hT h.sep.right hv fr (hb vb h4.blk hv) (hr _ hro)
   · refine Sep.join h.sep.left (h.sep.right.set hv fun k hk=>.inl (hown k hk)) fun u hu u2 hu2 k hk hk2=>?_
     obtain ⟨u0,h5,h6⟩:=hmem vb _ hv u2 hu2 k hk2
     exact Sep.apart h.sep hu h5 hk h6
   · intro u hu k hk
     rcases List.mem_append.1 hu with h5|h5
     · exact ⟨u,List.mem_append_left _ h5,hk⟩
     · obtain ⟨u0,h6,h7⟩:=hmem vb _ hv u h5 k hk
       exact ⟨u0,List.mem_append_right _ h6,h7⟩
 | j+2,hx =>
   by_cases hb0:D.b=[]
   · rw [if_pos hb0] at hx;simp at hx
   · rw [if_neg hb0] at hx;simp at hx
end
def setV(i:Nat)(v:Value)(r:List Nd):List Nd:=match r[i]? with|some y=>r.set i { y with v:=v }|none=>r
theorem flat_setV(r:List Nd):∀ (i:Nat) (v:Value) (y:Nd),r[i]?=some y→flat (setV i v r)=(flat r).set (i*3+2) v:=by
 induction r with
 | nil=>intro i v y h;simp at h
 | cons z r ih =>
   intro i v y h
   cases i with
   | zero=>simp at h;subst h;rfl
   | succ i =>
     have h2:r[i]?=some y:=by simpa using h
     have:=ih i v y h2
     unfold setV at this ⊢
     rw [h2] at this
     rw [h]
     simp only at this ⊢
     rw [List.set_cons_succ,flat_cons,this,flat_cons,List.set_append_right _ _ (by simp [Nd.cells];omega)]
     congr 2
     simp [Nd.cells];omega
theorem setV_len(i:Nat)(v:Value)(r:List Nd):(setV i v r).length=r.length:=by unfold setV;split <;> simp
section
variable {S:Nat→Prop} {p seed:Nat} {D1:Dc} {w:World}
theorem foot_in{W:World}{g0 g1:Nat}{va vb:List Value}(hf:Foot (grow tyI S w W) p g0 g1 va vb D1){s j:Nat}{x:Nat × Nat}(hx:(D1.slots g0 g1 s)[j]?=some x):S x.1∨w.heap.size≤x.1:=by
 unfold Dc.slots at hx
 match j,hx with
 | 0,hx=>simp at hx;subst hx;exact hf.g0.1
 | 1,hx =>
   by_cases hb:D1.b=[]
   · rw [if_pos hb] at hx;simp at hx
   · rw [if_neg hb] at hx;simp at hx;subst hx;exact (hf.g1 hb).1
 | j+2,hx =>
   by_cases hb:D1.b=[]
   · rw [if_pos hb] at hx;simp at hx
   · rw [if_neg hb] at hx;simp at hx
theorem row_in{W:World}{g0 g1:Nat}{va vb:List Value}(hf:Foot (grow tyI S w W) p g0 g1 va vb D1){A1:Option Addr}(hm:Mem tyI W p g0 g1 A1 va vb seed D1)(ok:D1.Ok tyI){s j:Nat}{x:Nat × Nat}(hx:(D1.slots g0 g1 s)[j]?=some x){v:Value}
   (hc:W.cell? ⟨x.1,x.2,none⟩=some v) (k:Nat) (hk:v.ownBlock=some k):S k∨w.heap.size≤k:=by
 have hal:=isS_pos ok.a
 unfold Dc.slots at hx
 match j,hx with
 | 0,hx =>
   simp at hx;subst hx
   have hv:va[s % D1.a.length]?=some v:=by
     have:=hm.ta.blk.cell (s % D1.a.length)
     rw [hc] at this
     simpa using this.symm
   exact (hf.row v (List.mem_append_left _ (List.mem_of_getElem? hv)) k hk).1
 | 1,hx =>
   by_cases hb:D1.b=[]
   · rw [if_pos hb] at hx;simp at hx
   · rw [if_neg hb] at hx;simp at hx;subst hx
     rcases hm.tb with ⟨h1,_⟩|⟨h1,h2,h3,h4⟩
     · exact absurd h1 hb
     have hv:vb[s % D1.b.length]?=some v:=by
       have:=h4.blk.cell (s % D1.b.length)
       rw [hc] at this
       simpa using this.symm
     exact (hf.row v (List.mem_append_right _ (List.mem_of_getElem? hv)) k hk).1
 | j+2,hx =>
   by_cases hb:D1.b=[]
   · rw [if_pos hb] at hx;simp at hx
   · rw [if_neg hb] at hx;simp at hx
theorem went_upd{W W':World}{g0 g1:Nat}{A1:Option Addr}{va vb:List Value}(hm:Mem tyI W p g0 g1 A1 va vb seed D1)(hf:Foot (grow tyI S w W) p g0 g1 va vb D1)(hF:Far S w W)(ok:D1.Ok tyI){s j:Nat}{x:Nat × Nat}(hx:(D1.slots g0 g1 s)[j]?=some x)
   {v v':Value} {f:List Nd→List Nd} (hc:W.cell? ⟨x.1,x.2,none⟩=some v) (fr:Far (fun b=>v.ownBlock=some b∨b=x.1) W W') (hown:∀ k,v'.ownBlock=some k→v.ownBlock=some k)
   (hb:∀ vs:List Value,Blk W x.1 338 vs.toArray→vs[x.2]?=some v→Blk W' x.1 338 (vs.set x.2 v').toArray) (hr:∀ r,(D1.rowsOf s)[j]?=some r→RowAt tyI W' v' (f r)):Went tyI S w p seed (D1.upd s j f) W':=by
 obtain ⟨va',vb',hm',hin⟩:=hm.upd apartI ok s j x hx hc fr hown hb hr
 have hbn:(D1.upd s j f).b≠[]→D1.b≠[]:=fun h e=>h (by unfold Dc.upd;split;exact e;simp [e])
 refine Went.mk' hm' (hF.trans fr fun k hk=>?_) hf.p.1 hf.g0.1 (fun h=>(hf.g1 (hbn h)).1) fun u hu k hk=>?_
 · rcases hk with h|rfl
   · exact row_in hf hm ok hx hc k h
   · exact foot_in hf hx
 · obtain ⟨u0,h1,h2⟩:=hin u hu k hk
   exact (hf.row u0 h1 k h2).1
theorem blk_slot{W:World}{g0 g1:Nat}{A1:Option Addr}{va vb:List Value}(hm:Mem tyI W p g0 g1 A1 va vb seed D1){s j:Nat}{x:Nat × Nat}(hx:(D1.slots g0 g1 s)[j]?=some x):∃ vs:List Value,Blk W x.1 338 vs.toArray:=by
 unfold Dc.slots at hx
 match j,hx with
 | 0,hx=>simp at hx;subst hx;exact ⟨va,hm.ta.blk⟩
 | 1,hx =>
   by_cases hb:D1.b=[]
   · rw [if_pos hb] at hx;simp at hx
   · rw [if_neg hb] at hx;simp at hx;subst hx
     rcases hm.tb with ⟨h1,_⟩|⟨h1,h2,h3,h4⟩
     · exact absurd h1 hb
     · exact ⟨vb,h4.blk⟩
 | j+2,hx =>
   by_cases hb:D1.b=[]
   · rw [if_pos hb] at hx;simp at hx
   · rw [if_neg hb] at hx;simp at hx
theorem set_does(ok:D1.Ok tyI)(hS:∀ k,S k→CellB tyI w k){s j i:Nat}{r0:List Nd}{y:Nd}(hr0:(D1.rowsOf s)[j]?=some r0)(hy:r0[i]?=some y)(hl:r0.length≤1000000)(vbx:Nat)(nv:Int)(hvb:Blk w vbx 2 #[.int .i64 nv]) :
   Does w S p seed D1 s j i 225 #[.pointer (some ⟨vbx,0,none⟩)] (fun W'=>Went tyI S w p seed (D1.upd s j (setV i (.int .i64 nv))) W'):=by
 refine ⟨enters_of Tryz.func225 (by kernel_rfl) rfl,own_went _ (Nat.le_refl _) _ _ (fun _=>_),?_,?_⟩
 · intro W b v c hb hk hW
   have:=(hW.1.far (S1:=fun k=>k=b) (W':=W.setCell ⟨b,0,none⟩ v) ((Far.refl _ _).set _ _ (.inl rfl)) (fun k hk2 e=>by subst e;exact not_cell hk (by decide) hk2.2))
   exact ⟨this.wide (fun k hk=>⟨hk.1,this.cells k hk⟩) (fun _ hk=>hk.2),hW.2.set _ _ (.inr hb)⟩
 · intro W g0 g1 A1 va vb x hm hf hF hx
   obtain ⟨v,r,hr,c0,d0,hR⟩:=slot_at hm ok s j x hx
   rw [hr0] at hr
   cases hr
   have hvW:=hF.blk hvb (fun h=>not_cell hvb (by decide) (hS _ h))
   obtain ⟨e0,e1⟩:=facts1 hvW
   obtain ⟨A,cap,rfl,hcap,hmax,hat⟩:=hR.form
   obtain ⟨g,rfl,hob,n0,n1,n2,fz⟩:=hat i y hy
   have hil:=(List.getElem?_eq_some_iff.1 hy).1
   have hil2:(i:Int)<r0.length:=by omega
   have hil3:(i:Int)≤1000000:=by omega
   have fz2:=fz (i*3+2)
   have hWE:∀ nq,Hid (KeepsFrom w.heap.size W ((W.drewN nq).setCell ⟨g,i*3+2,none⟩ (.int .i64 nv))∧(∀ b c,Blk W b 4 c→Blk ((W.drewN nq).setCell ⟨g,i*3+2,none⟩ (.int .i64 nv)) b 4 c)∧Went tyI S w p seed (D1.upd s j (setV i (.int .i64 nv))) ((W.drewN nq).setCell ⟨g,i*3+2,none⟩ (.int .i64 nv))):=fun nq=>Lib.hid (by
     obtain ⟨vs0,hvs0⟩:=blk_slot hm hx
     obtain ⟨cg,hcg⟩:=hR.blk hob
     have hgx:x.1≠g:=fun e=>by rw [e] at hvs0;exact absurd (hvs0.ty hcg) (by decide)
     have hRd:RowAt tyI (W.drewN nq) (.slice (some ⟨g,0,none⟩) r0.length cap) r0:=hR.far (S:=fun _=>False) (Far.of_below (drewB _ nq)) fun _ _ h=>h
     have hst:=World.ownsRow.stored (w:=W.drewN nq) (base:=0) (e:=337) (size:=3) (g:=g) (n:=r0.length) (cap:=cap) (xs:=flat r0) hRd (i*3+2) (.int .i64 nv)
     refine ⟨(drewB W nq:Below w.heap.size W _) |> fun _=>⟨by simp [World.setCell,World.drewN],fun k o hk ho hc=>(KeepsOthers.setCell (W.drewN nq) ⟨g,i*3+2,none⟩ (.int .i64 nv)).same k o ho hc⟩,fun b c hb=>?_,?_⟩
     · exact (show Blk (W.drewN nq) b 4 c from hb).setOther _ _ (fun e=>by subst e;exact absurd (hb.ty hcg) (by decide))
     · refine went_upd hm hf hF ok hx c0 ((Far.of_below (drewB W nq)).trans (S1:=fun b=>b=g) ((Far.refl _ _).set _ _ (.inl rfl)) fun k hk=>.inl (.inl (by rw [hk];exact hob))) (fun k hk=>hk) (fun vs hb hv=>?_) (fun r hr2=>?_)
       · have:vs.set x.2 (.slice (some ⟨g,0,none⟩) r0.length cap)=vs:=by
           apply List.ext_getElem?
           intro q
           by_cases e:q=x.2
           · subst e;rw [List.getElem?_set_self (List.getElem?_eq_some_iff.1 hv).1,hv]
           · rw [List.getElem?_set_ne (fun h=>e h.symm)]
         rw [this]
         exact (show Blk (W.drewN nq) x.1 338 vs.toArray from hb).setOther _ _ hgx
       · rw [hr0] at hr2
         cases hr2
         have:=hst.1
         rw [← flat_setV r0 i (.int .i64 nv) y hy] at this
         unfold RowAt
         rw [setV_len]
         exact this)
   clear hm hf hF hR hat fz hvW
   go_enter Tryz.func225,Tryz.ntmps225
   go_wp2
   go_still_tail 7,(by kernel_rfl)
   change wpList _ _ _ _ _ W.drew
   go_wp2
   go_returns
   exact ⟨rfl,(hWE 1).out⟩
def Got(S:Nat→Prop)(p seed:Nat)(D1:Dc)(w:World)(vbx:Nat)(nv:Int)(W':World):Prop :=
 Rep tyI W' p (grow tyI S w W') seed D1∧Far (fun k=>S k∨k=vbx) w W'∧Blk W' vbx 2 #[.int .i64 nv]
theorem own_got(B vbx:Nat)(hB:w.heap.size≤B)(nv:Int):OwnFrom B (fun (_:Unit) W=>Got S p seed D1 w vbx nv W):=fun s X Y row hs hg hr=>by
 have hf:Far (fun k=>row=some k) X Y:=Far.of_grown hg fun k e=>.inl e
 have hR:Rep tyI Y p (grow tyI S w X) seed D1:=hs.1.far hf fun k hk e=>by
   obtain ⟨_,o,ho,hc⟩:=hr k e
   obtain ⟨t,c,_,hb⟩:=hk.2
   rw [show X.heap[k]?=_ from hb] at ho
   cases ho;cases hc
 exact ⟨hR.wide (fun k hk=>⟨hk.1,hR.cells k hk⟩) (fun _ hk=>hk.2),hs.2.1.trans hf fun k e=>.inr (by have:=(hr k e).1;omega),own_blk B vbx 2 (fun _:Unit=>#[.int .i64 nv]) () X Y row hs.2.2 hg hr⟩
theorem get_does(ok:D1.Ok tyI)(hS:∀ k,S k→CellB tyI w k){s j i:Nat}{r0:List Nd}{y:Nd}(hr0:(D1.rowsOf s)[j]?=some r0)(hy:r0[i]?=some y)(hl:r0.length≤1000000)(vbx:Nat)(nv:Int)(hnv:y.v=.int .i64 nv)(z:Value)(hvb:Blk w vbx 2 #[z]) :
   Does w S p seed D1 s j i 342 #[.pointer (some ⟨vbx,0,none⟩)] (Got S p seed D1 w vbx nv):=by
 refine ⟨enters_of Tryz.func342 (by kernel_rfl) rfl,own_got _ vbx (Nat.le_refl _) nv,?_,?_⟩
 · intro W b v c hb hk hW
   have:=(hW.1.far (S1:=fun k=>k=b) (W':=W.setCell ⟨b,0,none⟩ v) ((Far.refl _ _).set _ _ (.inl rfl)) (fun k hk2 e=>by subst e;exact not_cell hk (by decide) hk2.2))
   exact ⟨this.wide (fun k hk=>⟨hk.1,this.cells k hk⟩) (fun _ hk=>hk.2),hW.2.1.set _ _ (.inr hb),hW.2.2.setOther _ _ (fun e=>by subst e;exact absurd (hk.ty hW.2.2) (by decide))⟩
 · intro W g0 g1 A1 va vb x hm hf hF hx
   obtain ⟨v,r,hr,c0,d0,hR⟩:=slot_at hm ok s j x hx
   rw [hr0] at hr
   cases hr
   have hvW:=hF.blk hvb (fun h=>not_cell hvb (by decide) (hS _ h))
   obtain ⟨e0,e1⟩:=facts1 hvW
   obtain ⟨A,cap,rfl,hcap,hmax,hat⟩:=hR.form
   obtain ⟨g,rfl,hob,n0,n1,n2,fz⟩:=hat i y hy
   rw [hnv] at n2
   have hil:=(List.getElem?_eq_some_iff.1 hy).1
   have hil2:(i:Int)<r0.length:=by omega
   have hil3:(i:Int)≤1000000:=by omega
   have hWE:Hid (KeepsFrom w.heap.size W (W.setCell ⟨vbx,0,none⟩ (.int .i64 nv))∧(∀ b c,Blk W b 4 c→Blk (W.setCell ⟨vbx,0,none⟩ (.int .i64 nv)) b 4 c)∧Got S p seed D1 w vbx nv (W.setCell ⟨vbx,0,none⟩ (.int .i64 nv))):=Lib.hid (by
     have hnc:¬ CellB tyI W vbx:=not_cell hvW (by decide)
     have f:Far (fun k=>k=vbx) W (W.setCell ⟨vbx,0,none⟩ (.int .i64 nv)):=(Far.refl _ _).set _ _ (.inl rfl)
     have hne:∀ {k},grow tyI S w W k→¬ k=vbx:=fun hk e=>by subst e;exact hnc hk.2
     have hm':=hm.far f (hne hf.p) (hne hf.g0) (fun h=>hne (hf.g1 h)) (fun u hu k hk=>hne (hf.row u hu k hk))
     have hwent:=Went.mk' (T:=tyI) (S:=fun k=>S k∨k=vbx) hm' ((hF.mono (S1:=fun k=>S k∨k=vbx) (fun k hk=>.inl hk)).trans f fun k hk=>.inl (.inr hk)) (hf.p.1.imp .inl id) (hf.g0.1.imp .inl id) (fun h=>(hf.g1 h).1.imp .inl id) (fun u hu k hk=>(hf.row u hu k hk).1.imp .inl id)
     refine ⟨(KeepsOthers.setCell _ _ _).from _,fun b c hb=>hb.setOther _ _ (fun e=>by subst e;exact absurd (hb.ty hvW) (by decide)),hwent.1.wide (fun k hk=>⟨?_,hk.2⟩) (fun _ hk=>hk.2),hwent.2,hvW.set 0 _⟩
     rcases hk.1 with (h1|h1)|h1
     · exact .inl h1
     · subst h1
       exact absurd hk.2 (not_cell (hvW.set 0 (.int .i64 nv)) (by decide))
     · exact .inr h1)
   clear hm hf hF hR hat hvW
   go_enter Tryz.func342,Tryz.ntmps342
   go_wp2
   go_returns
   exact ⟨rfl,hWE.out⟩
theorem del_does(ok:D1.Ok tyI){s j i:Nat}{r0:List Nd}{y:Nd}(hr0:(D1.rowsOf s)[j]?=some r0)(hy:r0[i]?=some y)(hl:r0.length≤1000000)(h1c:∀ x∈r0,x.v.oneCell'=true) :
   Does w S p seed D1 s j i 338 #[] (fun W'=>Went tyI S w p seed (D1.upd s j (·.eraseIdx i)) W'):=by
 refine ⟨enters_of Tryz.func338 (by kernel_rfl) rfl,own_went _ (Nat.le_refl _) _ _ (fun _=>_),?_,?_⟩
 · intro W b v c hb hk hW
   have:=(hW.1.far (S1:=fun k=>k=b) (W':=W.setCell ⟨b,0,none⟩ v) ((Far.refl _ _).set _ _ (.inl rfl)) (fun k hk2 e=>by subst e;exact not_cell hk (by decide) hk2.2))
   exact ⟨this.wide (fun k hk=>⟨hk.1,this.cells k hk⟩) (fun _ hk=>hk.2),hW.2.set _ _ (.inr hb)⟩
 · intro W g0 g1 A1 va vb x hm hf hF hx
   obtain ⟨v,r,hr,c0,d0,hR⟩:=slot_at hm ok s j x hx
   rw [hr0] at hr
   cases hr
   obtain ⟨A,cap,rfl,hcap,hmax,hat⟩:=hR.form
   obtain ⟨g,rfl,hob,n0,n1,n2,fz⟩:=hat i y hy
   have hil:=(List.getElem?_eq_some_iff.1 hy).1
   have hil2:(i:Int)<r0.length:=by omega
   have hil3:(i:Int)≤1000000:=by omega
   obtain ⟨vs0,hvs0⟩:=blk_slot hm hx
   obtain ⟨cg,hcg⟩:=hR.blk hob
   have hgx:x.1≠g:=fun e=>by rw [e] at hvs0;exact absurd (hvs0.ty hcg) (by decide)
   have hel:(r0.eraseIdx i).length=r0.length-1:=by rw [List.length_eraseIdx,if_pos hil]
   have HSD:=Lib.hid (sdel_any g cap r0 i hil h1c hl W hR)
   have hWE:∀ W2,RowAt tyI W2 (.slice (some ⟨g,0,none⟩) (r0.length-1:Nat) cap) (r0.eraseIdx i)→Far (fun b=>b=g) W W2 →
       Hid ((W2.cell? ⟨x.1,x.2,none⟩=some (.slice (some ⟨g,0,none⟩) r0.length cap)∧W2.frozen? ⟨x.1,x.2,none⟩=false)∧KeepsFrom w.heap.size W (W2.setCell ⟨x.1,x.2,none⟩ (.slice (some ⟨g,0,none⟩) (r0.length-1:Nat) cap))∧(∀ b c,Blk W b 4 c→Blk (W2.setCell ⟨x.1,x.2,none⟩ (.slice (some ⟨g,0,none⟩) (r0.length-1:Nat) cap)) b 4 c) ∧
         Went tyI S w p seed (D1.upd s j (·.eraseIdx i)) (W2.setCell ⟨x.1,x.2,none⟩ (.slice (some ⟨g,0,none⟩) (r0.length-1:Nat) cap))):=fun W2 hR2 hF2=>Lib.hid (by
     have hv2:=hF2.blk hvs0 hgx
     have hfx:Far (fun b=>b=x.1) W2 (W2.setCell ⟨x.1,x.2,none⟩ (.slice (some ⟨g,0,none⟩) (r0.length-1:Nat) cap)):=(Far.refl _ _).set _ _ (.inl rfl)
     refine ⟨⟨?_,hv2.free _⟩,?_,fun b c hb=>?_,?_⟩
     · rw [hv2.cell,← hvs0.cell];exact c0
     · refine KeepsFrom.trans ⟨hF2.size,fun k o _ hk ho=>(hF2.block k (Array.getElem?_eq_some_iff.1 hk).1 (fun e=>by
         subst e;rw [show W.heap[k]?=_ from hcg] at hk;cases hk;cases ho)).trans hk⟩ ((KeepsOthers.setCell _ _ _).from _)
     · exact (hF2.blk hb (fun e=>by subst e;exact absurd (hb.ty hcg) (by decide))).setOther _ _ (fun e=>by subst e;exact absurd (hb.ty hvs0) (by decide))
     · refine went_upd (v':=.slice (some ⟨g,0,none⟩) (r0.length-1:Nat) cap) hm hf hF ok hx c0 ((hF2.mono (S1:=fun b=>(Value.slice (some ⟨g,0,none⟩) r0.length cap).ownBlock=some b∨b=x.1) (fun b hb=>.inl (by rw [hb];exact hob))).trans hfx fun k hk=>.inl (.inr hk)) (fun k hk=>hk) (fun vs hb hv=>?_) (fun r hr2=>?_)
       · have:=(hF2.blk hb hgx).set x.2 (.slice (some ⟨g,0,none⟩) (r0.length-1:Nat) cap)
         rwa [List.setIfInBounds_toArray] at this
       · rw [hr0] at hr2
         cases hr2
         refine hR2.far hfx fun k hk e=>?_
         simp [Value.ownBlock] at hk
         omega)
   clear hm hf hF hR hat fz
   go_enter Tryz.func338,Tryz.ntmps338
   go_wp2_with fail
   refine HSD.out.mono ?_
   rintro e W2 ⟨rfl,h2,h3⟩
   obtain ⟨⟨q0,q1⟩,h4⟩:=(hWE W2 h2 h3).out
   have H4:=Lib.hid h4
   clear h2 h3 h4
   go_wp2
   go_returns
   exact ⟨rfl,H4.out⟩
end
def rowHit(s:Nat)(key:ByteArray)(r:List Nd):Option Nat:=r.findIdx? (Nd.is s key)
def Dc.hit(D:Dc)(s:Nat)(key:ByteArray):Option (Nat × Nat) :=
 match rowHit s key (D.a.getD (s % D.a.length) []) with
 | some i=>some (0,i)
 | none=>if D.b=[] then none else match rowHit s key (D.b.getD (s % D.b.length) []) with
   | some i=>some (1,i)
   | none=>none
theorem rowHit_some{s:Nat}{key:ByteArray}{r:List Nd}{i:Nat}(h:rowHit s key r=some i):∃ x,r[i]?=some x∧Nd.is s key x=true∧∀ q y,q<i→r[q]?=some y→Nd.is s key y=false:=by
 obtain ⟨hi,h1,h2⟩:=List.findIdx?_eq_some_iff_getElem.1 h
 refine ⟨r[i],List.getElem?_eq_getElem hi,h1,fun q y hq hy=>?_⟩
 obtain ⟨hq2,rfl⟩:=List.getElem?_eq_some_iff.1 hy
 simpa using h2 q hq
theorem rowHit_none{s:Nat}{key:ByteArray}{r:List Nd}(h:rowHit s key r=none):∀ x∈r,Nd.is s key x=false:=by
 intro x hx
 have:=List.findIdx?_eq_none_iff.1 h x hx
 simpa using this
theorem hit_some{D:Dc}{s:Nat}{key:ByteArray}{j i:Nat}(h:D.hit s key=some (j,i)):Hit D s key j i:=by
 unfold Dc.hit at h
 cases h0:rowHit s key (D.a.getD (s % D.a.length) []) with
 | some i0 =>
   rw [h0] at h
   simp at h
   obtain ⟨rfl,rfl⟩:=h
   obtain ⟨x,h1,h2,h3⟩:=rowHit_some h0
   exact ⟨_,x,rfl,h1,h2,h3,fun j r hj=>absurd hj (Nat.not_lt_zero _)⟩
 | none =>
   rw [h0] at h
   simp only at h
   by_cases hb:D.b=[]
   · rw [if_pos hb] at h;cases h
   · rw [if_neg hb] at h
     cases h1:rowHit s key (D.b.getD (s % D.b.length) []) with
     | none=>rw [h1] at h;cases h
     | some i1 =>
       rw [h1] at h
       simp at h
       obtain ⟨rfl,rfl⟩:=h
       obtain ⟨x,h2,h3,h4⟩:=rowHit_some h1
       refine ⟨_,x,by unfold Dc.rowsOf;rw [if_neg hb];rfl,h2,h3,h4,fun j r hj hr=>?_⟩
       obtain rfl:j=0:=by omega
       have:r=D.a.getD (s % D.a.length) []:=by unfold Dc.rowsOf at hr;simpa using hr.symm
       rw [this]
       exact rowHit_none h0
theorem hit_none{D:Dc}{s:Nat}{key:ByteArray}(h:D.hit s key=none):NoHit D s key 2:=by
 unfold Dc.hit at h
 cases h0:rowHit s key (D.a.getD (s % D.a.length) []) with
 | some i0=>rw [h0] at h;cases h
 | none =>
   rw [h0] at h
   simp only at h
   intro j r hj hr
   unfold Dc.rowsOf at hr
   match j,hr with
   | 0,hr=>simp at hr;subst hr;exact rowHit_none (by simpa using h0)
   | 1,hr =>
     by_cases hb:D.b=[]
     · rw [if_pos hb] at hr;simp at hr
     · rw [if_neg hb] at hr h
       simp at hr
       subst hr
       cases h1:rowHit s key (D.b.getD (s % D.b.length) []) with
       | none=>exact rowHit_none (by simpa using h1)
       | some i1=>rw [h1] at h;cases h
def Dc.node(D:Dc)(s:Nat)(key:ByteArray):Option Nd :=
 match D.hit s key with
 | some (j,i)=>((D.rowsOf s).getD j [])[i]?
 | none=>none
theorem node_of{D:Dc}{s:Nat}{key:ByteArray}{j i:Nat}(h:D.hit s key=some (j,i)):∃ r y,(D.rowsOf s)[j]?=some r∧r[i]?=some y∧D.node s key=some y:=by
 obtain ⟨r,x,h1,h2,h3,_⟩:=hit_some h
 refine ⟨r,x,h1,h2,?_⟩
 unfold Dc.node
 rw [h]
 simp only
 rw [List.getD_eq_getElem?_getD,h1]
 exact h2
def Dc.add(D:Dc)(x:Nd):Dc:=if D.b=[] then { D with a:=putR D.a x,n:=D.n+1 } else { D with b:=putR D.b x,n:=D.n+1 }
def Dc.setS(D:Dc)(s:Nat)(key:ByteArray)(v:Value):Dc :=
 match (D.step 1).hit s key with
 | some (j,i)=>(D.step 1).upd s j (setV i v)
 | none=>((D.step 1).grown).add ⟨s,key,v⟩
def Dc.less(D:Dc):Dc:={ D with n:=D.n-1 }
def Dc.delS(D:Dc)(s:Nat)(key:ByteArray):Dc :=
 match (D.step 1).hit s key with
 | some (j,i)=>(((D.step 1).upd s j (·.eraseIdx i)).less).shrunk
 | none=>D.step 1
def intV:Option Nd→Value
 | some y=>y.v
 | none=>.int .i64 0
section
variable {S:Nat→Prop} {p seed:Nat} {D:Dc} {w:World}
theorem mem_row{s j:Nat}{r:List Nd}{y:Nd}{i:Nat}(h1:(D.rowsOf s)[j]?=some r)(h2:r[i]?=some y){T:Ty}(ok:D.Ok T):y.fine T∧(∀ x∈r,x.fine T):=by
 have hm:=List.mem_of_getElem? h1
 have hf:∀ x∈r,x.fine T:=by
   unfold Dc.rowsOf at hm
   rcases List.mem_cons.1 hm with rfl|h3
   · intro x hx;obtain ⟨r0,h4,h5⟩:=getD_mem hx;exact ok.fine r0 (.inl h4) x h5
   · by_cases hb:D.b=[]
     · rw [if_pos hb] at h3;simp at h3
     · rw [if_neg hb,List.mem_singleton] at h3
       subst h3
       intro x hx;obtain ⟨r0,h4,h5⟩:=getD_mem hx;exact ok.fine r0 (.inr h4) x h5
 exact ⟨hf y (List.mem_of_getElem? h2),hf⟩
theorem get_any(hsd:seed<4294967296)(h:Rep tyI w p S seed D)(ok:D.Ok tyI)(hn:D.n≤1000000)(key:ByteArray)(hk:key.size≤281474976710656) :
   Calls Tryz.prog 336 #[.pointer (some ⟨p,0,none⟩),.string key] w fun e w' =>
     e=.returned (.tuple #[intV ((D.step 1).node (sumN seed key.data.toList) key),.bool ((D.step 1).hit (sumN seed key.data.toList) key).isSome])∧Went tyI S w p seed (D.step 1) w':=by
 have hb0:Below w.heap.size w (w.alloc (Obj.cells #[.int .i64 0] 2)):=(Below.refl _ _).alloc (Nat.le_refl _) _
 have k0:=Blk.new w 2 #[.int .i64 0]
 have hw:=h.later hb0
 obtain ⟨ok1,hn1⟩:=step_ok ok 1
 cases hh:(D.step 1).hit (sumN seed key.data.toList) key with
 | none =>
   have hnd:(D.step 1).node (sumN seed key.data.toList) key=none:=by unfold Dc.node;rw [hh]
   have hF:=find_any hsd hw ok hn key hk 342 #[.pointer (some ⟨w.heap.size,0,none⟩)] none (fun j i h=>by cases h) (fun _=>hit_none hh) (fun _=>False) (fun j i h=>by cases h)
   have HF:=Lib.hid hF
   have HK:=Lib.hid k0
   have HN:=Lib.hid hnd
   have HC:=Lib.hid hw.cells
   clear hF hh k0 hnd
   have hmf:∀ (fn:Fn) (first cap:Array Value) (w:World),(Instr.makeFunc fn first cap).run Tryz.prog w=.ok (.func fn first cap) w:=fun _ _ _ _=>rfl
   go_enter Tryz.func336,Tryz.ntmps336
   go_wp2_with fail
   refine HF.out.mono ?_
   rintro e w1 ⟨rfl,hw1,_⟩
   have hq:=(hw1 trivial).blk HK.out HC.out (by decide)
   obtain ⟨c0,d0⟩:=facts1 hq
   have HW:=Lib.hid (hw1 trivial)
   clear hw1 hq
   go_wp2
   go_ret2
   rw [HN.out]
   exact ⟨rfl,Went.since hb0 HW.out⟩
 | some ji =>
   obtain ⟨j,i⟩:=ji
   obtain ⟨r,y,h1,h2,h3⟩:=node_of hh
   obtain ⟨⟨_,nv,hnv⟩,hfr⟩:=mem_row h1 h2 ok1
   have hrl:r.length≤1000000:=by
     have h4:=rows_len (D:=D.step 1) _ j r h1
     have h5:=ok1.n
     omega
   have hF:=find_any hsd hw ok hn key hk 342 #[.pointer (some ⟨w.heap.size,0,none⟩)] (some (j,i)) (fun j' i' h=>by cases h;exact hit_some hh) (fun h=>by cases h) (Got S p seed (D.step 1) (w.alloc (Obj.cells #[.int .i64 0] 2)) w.heap.size nv)
     (fun j' i' h=>by cases h;exact get_does ok1 hw.cells h1 h2 hrl w.heap.size nv hnv _ k0)
   have HF:=Lib.hid hF
   have HN:=Lib.hid h3
   have HV:=Lib.hid hnv
   clear hF hh k0 h3 hnv h1 h2 hfr
   have hmf:∀ (fn:Fn) (first cap:Array Value) (w:World),(Instr.makeFunc fn first cap).run Tryz.prog w=.ok (.func fn first cap) w:=fun _ _ _ _=>rfl
   go_enter Tryz.func336,Tryz.ntmps336
   go_wp2_with fail
   refine HF.out.mono ?_
   rintro e w1 ⟨rfl,_,hw1⟩
   obtain ⟨g1,g2,g3⟩:=hw1 rfl
   obtain ⟨c0,d0⟩:=facts1 g3
   have G1:=Lib.hid g1
   have G2:=Lib.hid g2
   clear hw1 g1 g2 g3
   go_wp2
   go_ret2
   rw [HN.out]
   refine ⟨by simp only [intV];rw [HV.out];rfl,G1.out.wide (fun k hk=>⟨?_,hk.2⟩) (fun _ hk=>hk.2),(Far.of_below hb0).trans G2.out fun k hk=>?_⟩
   · rcases hk.1 with h1|h1
     · exact .inl h1
     · exact .inr (Nat.le_trans hb0.size h1)
   · rcases hk with h1|h1
     · exact .inl h1
     · exact .inr (by omega)
theorem went_n{W:World}(h:Went tyI S w p seed D W)(m:Nat):Went tyI S w p seed { D with n:=m } (W.setCell ⟨p,4,none⟩ (.int .i64 m)):=by
 obtain ⟨g0,g1,A1,va,vb,hm,hf,hc⟩:=h.1
 have f:Far (fun k=>k=p) W (W.setCell ⟨p,4,none⟩ (.int .i64 m)):=(Far.refl _ _).set _ _ (.inl rfl)
 refine Went.mk' (g0:=g0) (g1:=g1) (A1:=A1) (va:=va) (vb:=vb) ⟨?_,hm.ta.past apartI f hm.dict,?_,hm.sep⟩ (h.2.trans f fun k hk=>by subst hk;exact hf.p.1) hf.p.1 hf.g0.1 (fun h=>(hf.g1 h).1) (fun v hv k hk=>(hf.row v hv k hk).1)
 · have:=hm.dict.set 4 (.int .i64 m)
   simpa using this
 · rcases hm.tb with h1|⟨h1,h2,h3,h4⟩
   · exact .inl h1
   · exact .inr ⟨h1,h2,h3,h4.past apartI f hm.dict⟩
theorem count_facts{W:World}(h:Went tyI S w p seed D W):W.cell? ⟨p,4,none⟩=some (.int .i64 D.n)∧W.frozen? ⟨p,4,none⟩=false:=by
 obtain ⟨g0,g1,A1,va,vb,hm,hf,hc⟩:=h.1
 exact ⟨hm.dict.cell 4,hm.dict.free 4⟩
theorem n_pos{s j i:Nat}{r:List Nd}{y:Nd}(ok:D.Ok tyI)(h1:(D.rowsOf s)[j]?=some r)(h2:r[i]?=some y):0<D.n:=by
 have h3:=rows_len s j r h1
 have h4:=(List.getElem?_eq_some_iff.1 h2).1
 have h5:=ok.n
 omega
theorem del_any(hsd:seed<4294967296)(h:Rep tyI w p S seed D)(ok:D.Ok tyI)(hn:D.n≤1000000)(key:ByteArray)(hk:key.size≤281474976710656) :
   Calls Tryz.prog 332 #[.pointer (some ⟨p,0,none⟩),.string key] w fun e w' =>
     e=.returned (.bool ((D.step 1).hit (sumN seed key.data.toList) key).isSome)∧Went tyI S w p seed (D.delS (sumN seed key.data.toList) key) w':=by
 obtain ⟨ok1,hn1⟩:=step_ok ok 1
 cases hh:(D.step 1).hit (sumN seed key.data.toList) key with
 | none =>
   have hd:D.delS (sumN seed key.data.toList) key=D.step 1:=by unfold Dc.delS;rw [hh]
   rw [hd]
   have hF:=find_any hsd h ok hn key hk 338 #[] none (fun j i h=>by cases h) (fun _=>hit_none hh) (fun _=>False) (fun j i h=>by cases h)
   have HF:=Lib.hid hF
   clear hF hh hd
   go_enter Tryz.func332,Tryz.ntmps332
   go_wp2_with fail
   refine HF.out.mono ?_
   rintro e w1 ⟨rfl,hw1,_⟩
   have HW:=Lib.hid (hw1 trivial)
   clear hw1
   go_wp2
   go_ret
   exact ⟨rfl,HW.out⟩
 | some ji =>
   obtain ⟨j,i⟩:=ji
   have hd:D.delS (sumN seed key.data.toList) key=(((D.step 1).upd (sumN seed key.data.toList) j (·.eraseIdx i)).less).shrunk:=by unfold Dc.delS;rw [hh]
   rw [hd]
   obtain ⟨r,y,h1,h2,h3⟩:=node_of hh
   obtain ⟨_,hfr⟩:=mem_row h1 h2 ok1
   have hrl:r.length≤1000000:=by
     have h4:=rows_len (D:=D.step 1) _ j r h1
     have h5:=ok1.n
     omega
   have hnp:=n_pos ok1 h1 h2
   have hun:((D.step 1).upd (sumN seed key.data.toList) j (·.eraseIdx i)).n=(D.step 1).n:=by unfold Dc.upd;split <;> rfl
   have hF:=find_any hsd h ok hn key hk 338 #[] (some (j,i)) (fun j' i' h=>by cases h;exact hit_some hh) (fun h=>by cases h) (fun W'=>Went tyI S w p seed ((D.step 1).upd (sumN seed key.data.toList) j (·.eraseIdx i)) W')
     (fun j' i' h=>by cases h;exact del_does ok1 h1 h2 hrl (fun x hx=>one_int (hfr x hx).2))
   have HF:=Lib.hid hF
   generalize (D.step 1).upd (sumN seed key.data.toList) j (·.eraseIdx i)=D2 at *
   have hn2:0<D2.n∧D2.n≤1000000:=by omega
   have hcast:(((D2.n-1:Nat):Int))=(D2.n:Int)-1:=by omega
   clear hF hh h3 h1 h2 hfr hun hd
   go_enter Tryz.func332,Tryz.ntmps332
   go_wp2_with fail
   refine HF.out.mono ?_
   rintro e w1 ⟨rfl,_,hw1⟩
   have hW:=hw1 rfl
   obtain ⟨c0,d0⟩:=count_facts hW
   have hless:=went_n hW (D2.n-1)
   rw [hcast] at hless
   have hsh:=shrink_any (D:=D2.less) hless.1 (by show D2.n-1≤1000000;omega)
   have HSH:=Lib.hid hsh
   have HL:=Lib.hid hless
   have hnn:(1:Int)≤D2.n:=by omega
   have hnn2:(D2.n:Int)≤1000000:=by omega
   clear hW hw1 hless hsh hcast
   go_wp2_with fail
   refine HSH.out.mono ?_
   rintro e w2 ⟨rfl,hw2⟩
   have HW2:=Lib.hid (HL.out.trans hw2)
   clear hw2
   go_wp2
   go_ret
   exact ⟨rfl,HW2.out⟩
end
section
variable {S:Nat→Prop} {p seed:Nat} {D:Dc} {w:World}
theorem out_tab{W:World}{g g':Nat}{vs us:List Value}{rows rows':List (List Nd)}(h:TabAt tyI W g vs rows)(h':TabAt tyI W g' us rows')(hg:g≠g')(hs:∀ v∈vs,∀ u∈us,∀ k,v.ownBlock=some k→u.ownBlock≠some k):∀ k,InTab g vs k→¬ InTab g' us k:=by
 rintro k (rfl|⟨v,hv,hk⟩) (h2|⟨u,hu,hk2⟩)
 · exact hg h2
 · obtain ⟨r,hr⟩:=h'.mem hu
   obtain ⟨c,hc⟩:=hr.blk hk2
   exact absurd (h.blk.ty hc) (by decide)
 · subst h2
   obtain ⟨r,hr⟩:=h.mem hv
   obtain ⟨c,hc⟩:=hr.blk hk
   exact absurd (h'.blk.ty hc) (by decide)
 · exact hs v hv u hu k hk hk2
theorem out_dict{W:World}{g:Nat}{vs:List Value}{rows:List (List Nd)}{c:Array Value}(h:TabAt tyI W g vs rows)(hp:Blk W p tyI.d c):¬ InTab g vs p:=by
 rintro (rfl|⟨v,hv,hk⟩)
 · exact absurd (hp.ty h.blk) (by decide)
 · obtain ⟨r,hr⟩:=h.mem hv
   obtain ⟨c,hc⟩:=hr.blk hk
   exact absurd (hp.ty hc) (by decide)
theorem went_put{W W1 W':World}{g0 g1:Nat}{A1:Option Addr}{va vb:List Value}(hm:Mem tyI W p g0 g1 A1 va vb seed D)(hf:Foot (grow tyI S w W) p g0 g1 va vb D)(hF:Far S w W)(hb1:Below W.heap.size W W1)(x:Nd)
   (hP:PutI W1 (if D.b=[] then g0 else g1) (if D.b=[] then va else vb) (if D.b=[] then D.a else D.b) [x] 1 W') :
   Went tyI S w p seed (if D.b=[] then { D with a:=putR D.a x } else { D with b:=putR D.b x }) W':=by
 obtain ⟨vs',hT,hS,hI,hFP⟩:=hP
 have hm1:=hm.later hb1
 by_cases hb:D.b=[]
 · simp only [hb,if_true] at hT hI hFP ⊢
   have hvb:vb=[]:=by
     rcases hm.tb with ⟨_,h,_⟩|⟨h,_⟩
     · exact h
     · exact absurd hb h
   have hA:A1=none:=by
     rcases hm.tb with ⟨_,_,h⟩|⟨h,_⟩
     · exact h
     · exact absurd hb h
   subst hvb hA
   refine Went.mk' (g0:=g0) (g1:=g1) (A1:=none) (va:=vs') (vb:=[]) ⟨?_,hT,.inl ⟨rfl,rfl,rfl⟩,by rw [List.append_nil];exact hS⟩ (((hF.then_below hb1).trans hFP fun k hk=>?_)) hf.p.1 hf.g0.1 (fun h=>absurd rfl h) fun v hv k hk=>?_
   · have:=hFP.blk hm1.dict (out_dict hm1.ta hm1.dict)
     simp only [hb] at this
     simpa [hb,putR_len] using this
   · rcases hk with rfl|⟨v,hv,hk⟩
     · exact hf.g0.1
     · exact (hf.row v (List.mem_append_left _ hv) k hk).1
   · rw [List.append_nil] at hv
     rcases hI v hv k hk with ⟨u0,h1,h2⟩|h1
     · exact (hf.row u0 (List.mem_append_left _ h1) k h2).1
     · exact .inr (Nat.le_trans hF.size (Nat.le_trans hb1.size h1))
 · simp only [hb,if_false] at hT hI hFP ⊢
   rcases hm1.tb with ⟨h,_⟩|⟨_,hA,hg,htb⟩
   · exact absurd h hb
   have hne:putR D.b x≠[]:=fun e=>hb (List.eq_nil_of_length_eq_zero (by have:=congrArg List.length e;rw [putR_len] at this;simpa using this))
   have hsa:=fun v (hv:v∈va) u (hu:u∈vb) k hk=>Sep.apart hm.sep hv hu (k:=k) hk
   refine Went.mk' (g0:=g0) (g1:=g1) (A1:=A1) (va:=va) (vb:=vs') ⟨?_,hm1.ta.far hFP (out_tab hm1.ta htb (fun e=>hg e.symm) hsa),.inr ⟨hne,hA,hg,hT⟩,?_⟩ (((hF.then_below hb1).trans hFP fun k hk=>?_)) hf.p.1 hf.g0.1 (fun _=>(hf.g1 hb).1) fun v hv k hk=>?_
   · have:=hFP.blk hm1.dict (out_dict htb hm1.dict)
     simpa [putR_len] using this
   · refine hm.sep.left.join hS fun v hv u hu k hk hk2=>?_
     rcases hI u hu k hk2 with ⟨u0,h1,h2⟩|h1
     · exact hsa v hv u0 h1 k hk h2
     · obtain ⟨r,hr⟩:=hm1.ta.mem hv
       have:=hr.lt hk
       omega
   · rcases hk with rfl|⟨v,hv,hk⟩
     · exact (hf.g1 hb).1
     · exact (hf.row v (List.mem_append_right _ hv) k hk).1
   · rcases List.mem_append.1 hv with h|h
     · exact (hf.row v (List.mem_append_left _ h) k hk).1
     · rcases hI v h k hk with ⟨u0,h1,h2⟩|h1
       · exact (hf.row u0 (List.mem_append_right _ h1) k h2).1
       · exact .inr (Nat.le_trans hF.size (Nat.le_trans hb1.size h1))
theorem clone_any(s:ByteArray)(hs:s.size≤281474976710656)(w:World):Calls Tryz.prog 118 #[.string s] w fun e w'=>e=.returned (.string s)∧Below w.heap.size w w':=by
 have HC:=Lib.hid (Tryz.stringslite_Clone s w hs)
 go_enter Tryz.func118,Tryz.ntmps118
 go_wp2_with fail
 refine HC.out.mono ?_
 rintro e w1 ⟨rfl,hb1⟩
 go_wp2
 go_ret
 exact ⟨rfl,hb1⟩
theorem grown_ok{T:Ty}(ok:D.Ok T):D.grown.Ok T∧D.grown.n=D.n:=by
 unfold Dc.grown
 split
 · rename_i h
   have hz:D.b=[]:=h.1
   have h0:(List.replicate (sizeS (2*D.n:Nat)) ([]:List Nd)).flatten=[]:=by simp
   refine ⟨⟨ok.a,fun _=>by simp [Dc.begin];exact isS_size _,fun _=>?_,fun e=>?_,fun i hi=>?_,?_,fun r hr x hx=>?_⟩,rfl⟩
   · show D.place<D.a.length
     rw [ok.still hz]
     have:=isS_pos ok.a
     omega
   · have h1:=isS_pos (isS_size (2*D.n:Nat))
     have h2:(List.replicate (sizeS (2*D.n:Nat)) ([]:List Nd)).length=0:=by
       rw [show List.replicate (sizeS (2*D.n:Nat)) ([]:List Nd)=[] from e];rfl
     rw [List.length_replicate] at h2
     omega
   · have hi':i<D.place:=hi
     rw [ok.still hz] at hi'
     omega
   · have:=ok.n
     rw [hz] at this
     show D.n=D.a.flatten.length+(List.replicate (sizeS (2*D.n:Nat)) ([]:List Nd)).flatten.length
     rw [h0]
     simpa using this
   · rcases hr with hr|hr
     · exact ok.fine r (.inl hr) x hx
     · rw [List.eq_of_mem_replicate hr] at hx;simp at hx
 · exact ⟨ok,rfl⟩
def Dc.ins(D:Dc)(x:Nd):Dc:=if D.b=[] then { D with a:=putR D.a x } else { D with b:=putR D.b x }
theorem ins_n(D:Dc)(x:Nd):(D.ins x).n=D.n:=by unfold Dc.ins;split <;> rfl
theorem ins_add(D:Dc)(x:Nd):{ D.ins x with n:=D.n+1 }=D.add x:=by unfold Dc.ins Dc.add;split <;> rfl
theorem put_at{w2:World}(h2:Went tyI S w p seed D w2)(ok:D.Ok tyI)(hn:D.n+1≤1000000)(x:Nd)(hx:x.fine tyI) :
   ∃ tv:Value,(∃ A n,tv=.slice A n n)∧(∀ W,Below w2.heap.size w2 W→Hid (Calls Tryz.prog 227 #[.pointer (some ⟨p,0,none⟩)] W fun e w'=>e=.returned tv∧w'=W)) ∧
     (∀ W,Below w2.heap.size w2 W→Hid (Calls Tryz.prog 228 #[tv,.slice (some ⟨W.heap.size,0,none⟩) 1 1] (W.alloc (.cells x.cells.toArray 337)) fun e W'=>e=.returned (.tuple #[])∧Went tyI S w p seed (D.ins x) W')):=by
 obtain ⟨g0,g1,A1,va,vb,hm,hf,hc⟩:=h2.1
 refine ⟨if D.b=[] then .slice (some ⟨g0,0,none⟩) D.a.length D.a.length else .slice A1 D.b.length D.b.length,?_,fun W hW=>?_,fun W hW=>?_⟩
 · split
   · exact ⟨_,_,rfl⟩
   · exact ⟨_,_,rfl⟩
 · have hN:=newest_any (S:=grow tyI S w w2) (hm.later hW) hf (fun k hk=>(hc k hk).same (hW.block k (hc k hk).lt))
   have e:(bif D.moving then Value.slice A1 D.b.length D.b.length else .slice (some ⟨g0,0,none⟩) D.a.length D.a.length)=(if D.b=[] then .slice (some ⟨g0,0,none⟩) D.a.length D.a.length else .slice A1 D.b.length D.b.length):=by
     cases hmv:D.moving with
     | false=>rw [if_pos ((moving_iff D).1 hmv)];rfl
     | true=>rw [if_neg (b_ne hmv)];rfl
   rw [e] at hN
   exact Lib.hid hN
 · have hb1:Below w2.heap.size w2 (W.alloc (.cells x.cells.toArray 337)):=hW.alloc hW.size _
   have hm1:=hm.later hb1
   have hrow:RowAt tyI (W.alloc (.cells x.cells.toArray 337)) (.slice (some ⟨W.heap.size,0,none⟩) 1 1) [x]:=by
     have:=World.ownsRow_lit (base:=0) (e:=337) (size:=3) W x.cells.toArray 1 (Nat.zero_le _) (by unfold maxLen;omega) rfl
     simpa [RowAt,flat,tyI] using this
   have hfl:=ok.n
   by_cases hb:D.b=[]
   · have hP:=put_any g0 va D.a _ [x] _ hm1.ta hm1.sep.left ok.a hrow (fun u hu k hk h=>by
       obtain ⟨r,hr⟩:=hm.ta.mem hu
       have h1:=hr.lt hk
       have h2:=hW.size
       simp [Value.ownBlock] at h
       omega) (fun y hy=>by simp at hy;subst hy;exact hx) (by simp only [List.length_singleton];omega)
     refine Lib.hid ?_
     rw [if_pos hb]
     refine hP.mono fun e W' ⟨he,hPI⟩=>⟨he,?_⟩
     exact went_put hm hf h2.2 hb1 x (by simpa only [hb,if_true,List.length_singleton] using hPI)
   · rcases hm1.tb with ⟨h,_⟩|⟨_,hA,hg,htb⟩
     · exact absurd h hb
     have hP:=put_any g1 vb D.b _ [x] _ htb hm1.sep.right (ok.b hb) hrow (fun u hu k hk h=>by
       rcases hm.tb with ⟨h5,_⟩|⟨_,_,_,htb0⟩
       · exact absurd h5 hb
       obtain ⟨r,hr⟩:=htb0.mem hu
       have h1:=hr.lt hk
       have h2:=hW.size
       simp [Value.ownBlock] at h
       omega) (fun y hy=>by simp at hy;subst hy;exact hx) (by simp only [List.length_singleton];omega)
     refine Lib.hid ?_
     rw [if_neg hb,hA]
     refine hP.mono fun e W' ⟨he,hPI⟩=>⟨he,?_⟩
     exact went_put hm hf h2.2 hb1 x (by simpa only [hb,if_false,List.length_singleton] using hPI)
theorem set_any(hsd:seed<4294967296)(h:Rep tyI w p S seed D)(ok:D.Ok tyI)(hn:D.n+1≤1000000)(key:ByteArray)(hk:key.size≤281474976710656)(nv:Int) :
   Calls Tryz.prog 207 #[.pointer (some ⟨p,0,none⟩),.string key,.int .i64 nv] w fun e w' =>
     e=.returned (.bool (!((D.step 1).hit (sumN seed key.data.toList) key).isSome))∧Went tyI S w p seed (D.setS (sumN seed key.data.toList) key (.int .i64 nv)) w':=by
 have hb0:Below w.heap.size w (w.alloc (Obj.cells #[.int .i64 nv] 2)):=(Below.refl _ _).alloc (Nat.le_refl _) _
 have k0:=Blk.new w 2 #[.int .i64 nv]
 have hw:=h.later hb0
 obtain ⟨ok1,hn1⟩:=step_ok ok 1
 have hmf:∀ (fn:Fn) (first cap:Array Value) (w:World),(Instr.makeFunc fn first cap).run Tryz.prog w=.ok (.func fn first cap) w:=fun _ _ _ _=>rfl
 have hsl:=sumN_lt seed key.data.toList
 cases hh:(D.step 1).hit (sumN seed key.data.toList) key with
 | some ji =>
   obtain ⟨j,i⟩:=ji
   have hd:D.setS (sumN seed key.data.toList) key (.int .i64 nv)=(D.step 1).upd (sumN seed key.data.toList) j (setV i (.int .i64 nv)):=by unfold Dc.setS;rw [hh]
   rw [hd]
   obtain ⟨r,y,h1,h2,h3⟩:=node_of hh
   have hrl:r.length≤1000000:=by
     have h4:=rows_len (D:=D.step 1) _ j r h1
     have h5:=ok1.n
     omega
   have hF:=find_any hsd hw ok (by omega) key hk 225 #[.pointer (some ⟨w.heap.size,0,none⟩)] (some (j,i)) (fun j' i' h=>by cases h;exact hit_some hh) (fun h=>by cases h) (fun W'=>Went tyI S (w.alloc (Obj.cells #[.int .i64 nv] 2)) p seed ((D.step 1).upd (sumN seed key.data.toList) j (setV i (.int .i64 nv))) W')
     (fun j' i' h=>by cases h;exact set_does ok1 hw.cells h1 h2 hrl w.heap.size nv k0)
   have HF:=Lib.hid hF
   clear hF hh k0 h3 h1 h2 hd
   go_enter Tryz.func207,Tryz.ntmps207
   go_wp2_with fail
   refine HF.out.mono ?_
   rintro e w1 ⟨rfl,_,hw1⟩
   have HW:=Lib.hid (hw1 rfl)
   clear hw1
   go_wp2
   go_ret
   exact ⟨rfl,Went.since hb0 HW.out⟩
 | none =>
   have hd:D.setS (sumN seed key.data.toList) key (.int .i64 nv)=((D.step 1).grown).add ⟨sumN seed key.data.toList,key,.int .i64 nv⟩:=by unfold Dc.setS;rw [hh]
   rw [hd]
   obtain ⟨ok2,hn2⟩:=grown_ok ok1
   have hF:=find_any hsd hw ok (by omega) key hk 225 #[.pointer (some ⟨w.heap.size,0,none⟩)] none (fun j i h=>by cases h) (fun _=>hit_none hh) (fun _=>False) (fun j i h=>by cases h)
   have HF:=Lib.hid hF
   have HK:=Lib.hid k0
   have HC:=Lib.hid hw.cells
   clear hF hh k0 hd
   have HNM:=fun W (hR:Rep tyI W p (grow tyI S (w.alloc (Obj.cells #[.int .i64 nv] 2)) W) seed (D.step 1).grown)=>Lib.hid (named_any hsd hR key hk)
   generalize sumN seed key.data.toList=s at *
   go_enter Tryz.func207,Tryz.ntmps207
   go_wp2_with fail
   refine HF.out.mono ?_
   rintro e w1 ⟨rfl,hw1,_⟩
   have hW1:=hw1 trivial
   have hG:=grow_any hW1.1 (by omega)
   have HW1:=Lib.hid hW1
   have HG:=Lib.hid hG
   clear hw1 hW1 hG
   go_wp2_with fail
   refine HG.out.mono ?_
   rintro e w2 ⟨rfl,hw2⟩
   have hW2:=HW1.out.trans hw2
   obtain ⟨tv,⟨At,nt,rfl⟩,HNEW,HPUT⟩:=put_at hW2 ok2 (by omega) ⟨s,key,.int .i64 nv⟩ ⟨hsl,nv,rfl⟩
   have hvb:=hW2.blk HK.out HC.out (by decide)
   have HVB:=Lib.hid hvb
   have B0:Below w2.heap.size w2 w2.drew:=(Below.refl _ _).drew
   have HW2:=Lib.hid hW2
   obtain ⟨v0,v1⟩:=facts1 hvb
   have HCL:=fun W=>Lib.hid (clone_any key hk W)
   clear hw2 hW2 hvb
   unfold Nd.cells at HPUT
   go_wp2
   go_region_law (go_simp;first
     | (go_at_call 118;refine (HCL _).out.mono ?_;rintro e w3 ⟨rfl,hb3⟩;have B3:Below w2.heap.size w2 w3:=ofDrew hb3;obtain ⟨v3,x3⟩:=facts1 (HVB.out.later B3))
     | (go_at_call 229;refine (HNM _ (HW2.out.later B3).1).out.mono ?_;rintro e w4 ⟨rfl,hb4⟩;have B4:Below w2.heap.size w2 w4:=B3.trans (hb4.mono B3.size);obtain ⟨v4,x4⟩:=facts1 (HVB.out.later B4))
     | (go_at_call 227;refine (HNEW _ (by first|exact B0|exact B3|exact B4|exact B4.alloc B4.size _)).out.mono ?_;rintro e w5 ⟨rfl,rfl⟩)
     | (go_at_call 228;refine (HPUT _ B4).out.mono ?_;rintro e w6 ⟨rfl,hW6⟩))
   all_goals (
     obtain ⟨q0,q1⟩:=count_facts hW6
     rw [ins_n] at q0
     have hN:=went_n hW6 ((D.step 1).grown.n+1)
     rw [ins_add] at hN
     have HN:=Lib.hid hN
     have hb1:((D.step 1).grown.n:Int)+1≤1000000:=by omega
     clear hN hW6
     go_wp2
     go_ret
     refine ⟨rfl,Went.since hb0 ?_⟩
     have:=HN.out
     rwa [show (((D.step 1).grown.n+1:Nat):Int)=(D.n:Int)+1 by omega] at this)
def newD:Dc:=⟨List.replicate 4 [],[],0,0⟩
theorem newD_ok(T:Ty):newD.Ok T:=⟨by decide +kernel,fun h=>absurd rfl h,fun h=>absurd rfl h,fun _=>rfl,fun i hi=>absurd hi (Nat.not_lt_zero _),rfl,fun r hr x hx=>by
 rcases hr with hr|hr
 · rw [List.eq_of_mem_replicate hr] at hx;simp at hx
 · simp [newD] at hr⟩
def fresh(T:Ty)(w W:World)(k:Nat):Prop:=grow T (fun _=>False) w W k
theorem new_any(sd:Nat)(w:World):Calls Tryz.prog 184 #[.int .u32 sd] w fun e w'=>∃ q,e=.returned (.pointer (some ⟨q,0,none⟩))∧Rep tyI w' q (fresh tyI w w') sd newD∧Below w.heap.size w w':=by
 obtain ⟨i0,hi0,hz0,hz1,hz2⟩:=info_parts info159
 have hmk:=fun W=>run_make (P:=Tryz.prog) W 308 338 i0 _ Tryz.underlying308 hi0 hz0 .i64 .i64 4 4 (by omega) (Int.le_refl _) (by rw [hz2];omega) (by omega)
 rw [hz1] at hmk
 simp only [Int.reduceToNat,Nat.mul_one] at hmk
 go_enter Tryz.func184,Tryz.ntmps184
 go_wp2
 go_returns
 refine ⟨_,rfl,?_,((Below.refl _ _).alloc (Nat.le_refl _) _).alloc (by simp) _⟩
 have h1:=(Blk.new w 338 (madeCells #[Value.slice none 0 0] 4)).alloc (Obj.cells #[Value.slice (some { block:=w.heap.size,off:=0 }) 4 4,Value.slice none 0 0,Value.int IntKind.u32 ↑sd,Value.int IntKind.i64 0,Value.int IntKind.i64 0] 311)
 have h2:=Blk.new (w.alloc (Obj.cells (madeCells #[Value.slice none 0 0] 4) 338)) 311 #[Value.slice (some { block:=w.heap.size,off:=0 }) 4 4,Value.slice none 0 0,Value.int IntKind.u32 ↑sd,Value.int IntKind.i64 0,Value.int IntKind.i64 0]
 rw [World.size_alloc] at h2
 have hmc:madeCells #[Value.slice none 0 0] 4=(List.replicate 4 (Value.slice none 0 0)).toArray:=by
   rw [← toList_madeCells_one]
 have hW:=Went.mk' (T:=tyI) (S:=fun _=>False) (W:=w) (g0:=w.heap.size) (g1:=0) (A1:=none) (va:=List.replicate 4 (.slice none 0 0)) (vb:=[]) (D:=newD) (seed:=sd) ⟨h2,⟨by rw [← hmc];exact h1,rfl,fun i v r hv hr=>?_⟩,.inl ⟨rfl,rfl,rfl⟩,?_⟩
   (Far.of_below (((Below.refl _ _).alloc (Nat.le_refl _) _).alloc (by simp) _)) (.inr (by simp)) (.inr (Nat.le_refl _)) (fun h=>absurd rfl h) (fun v hv k hk=>?_)
 · exact hW.1
 · obtain ⟨hi,rfl⟩:=List.getElem?_eq_some_iff.1 hv
   obtain ⟨hi2,rfl⟩:=List.getElem?_eq_some_iff.1 hr
   simp only [newD,List.getElem_replicate]
   exact RowAt.nil _ _
 · refine Sep.none fun v hv=>?_
   rw [List.append_nil] at hv
   rw [List.eq_of_mem_replicate hv];rfl
 · rw [List.append_nil] at hv
   rw [List.eq_of_mem_replicate hv] at hk
   simp [Value.ownBlock] at hk
end
end Go.Proofs.YtlckdfoflimahaaGreatDoor.Dc
