/- Texts of one kind in one: DcMap, DcLike, DcIs. -/
import Derived.Test.YtlckdfoflimahaaGreatDoorQDcUpd16
set_option maxRecDepth 200000
set_option maxHeartbeats 8000000
namespace Go.Proofs.YtlckdfoflimahaaGreatDoor.Dc
open Go.RowKit Go.Shelf
def Dc.nodes(D:Dc):List Nd:=D.a.flatten++D.b.flatten
structure Inv (T:Ty) (seed:Nat) (D:Dc):Prop where
 ok:D.Ok T
 sum:∀ x∈D.nodes,x.sum=sumN seed x.key.data.toList
 pa:∀ (i:Nat) r,D.a[i]?=some r→∀ x∈r,x.sum % D.a.length=i
 pb:∀ (i:Nat) r,D.b[i]?=some r→∀ x∈r,x.sum % D.b.length=i
 uniq:(D.nodes.map Nd.key).Nodup
theorem set_perm(rows:List (List Nd)):∀ (i:Nat) (r':List Nd),i<rows.length→(rows.set i r').flatten.Perm (r'++(rows.set i []).flatten):=by
 induction rows with
 | nil=>intro i r' h;simp at h
 | cons y rows ih =>
   intro i r' h
   cases i with
   | zero=>simp
   | succ i =>
     have:=ih i r' (by simpa using h)
     simp only [List.set_cons_succ,List.flatten_cons]
     refine (this.append_left y).trans ?_
     rw [← List.append_assoc,← List.append_assoc]
     exact List.perm_append_comm.append_right _
theorem self_perm(rows:List (List Nd))(i:Nat)(h:i<rows.length):rows.flatten.Perm (rows.getD i []++(rows.set i []).flatten):=by
 have:=set_perm rows i (rows.getD i []) h
 rwa [show rows.set i (rows.getD i [])=rows by
   rw [List.getD_eq_getElem?_getD,List.getElem?_eq_getElem h]
   exact List.set_getElem_self h] at this
theorem putR_perm(rows:List (List Nd))(x:Nd)(h:0<rows.length):(putR rows x).flatten.Perm (x :: rows.flatten):=by
 have hlt:x.sum % rows.length<rows.length:=Nat.mod_lt _ h
 unfold putR
 refine (set_perm rows _ _ hlt).trans ?_
 refine List.Perm.trans ?_ ((self_perm rows _ hlt).symm.cons x)
 rw [List.append_assoc]
 exact List.perm_middle
theorem putL_perm(xs:List Nd):∀ rows:List (List Nd),0<rows.length→(putL rows xs).flatten.Perm (xs++rows.flatten):=by
 induction xs with
 | nil=>intro rows _;exact List.Perm.refl _
 | cons x xs ih =>
   intro rows h
   refine (ih (putR rows x) (by rw [putR_len];exact h)).trans ?_
   refine ((putR_perm rows x h).append_left xs).trans ?_
   exact List.perm_middle
theorem putR_placed(rows:List (List Nd))(x:Nd)(hp:∀ (i:Nat) r,rows[i]?=some r→∀ y∈r,y.sum % rows.length=i):∀ (i:Nat) r,(putR rows x)[i]?=some r→∀ y∈r,y.sum % (putR rows x).length=i:=by
 intro i r hr y hy
 rw [putR_len]
 unfold putR at hr
 rw [List.getElem?_set] at hr
 split at hr
 · rename_i e
   split at hr
   · cases hr
     rcases List.mem_append.1 hy with h|h
     · rw [List.getD_eq_getElem?_getD] at h
       cases hg:rows[x.sum % rows.length]? with
       | none=>rw [hg] at h;simp at h
       | some r0=>rw [hg] at h;rw [← e];exact hp _ r0 hg y h
     · simp at h;subst h;exact e
   · cases hr
 · exact hp i r hr y hy
theorem putL_placed(xs:List Nd):∀ rows:List (List Nd),(∀ (i:Nat) r,rows[i]?=some r→∀ y∈r,y.sum % rows.length=i)→∀ (i:Nat) r,(putL rows xs)[i]?=some r→∀ y∈r,y.sum % (putL rows xs).length=i:=by
 induction xs with
 | nil=>intro rows h;exact h
 | cons x xs ih=>intro rows h;exact ih (putR rows x) (putR_placed rows x h)
theorem nils_perm(rows:List (List Nd))(h:∀ i,i<rows.length→rows.getD i []=[]):rows.flatten=[]:=List.eq_nil_of_length_eq_zero (flatten_nils rows h)
section
variable {T:Ty} {seed:Nat} {D:Dc}
theorem move1_perm(ok:D.Ok T)(hb:D.b≠[]):D.move1.nodes.Perm D.nodes:=by
 have hp:=ok.place hb
 have hbl:=isS_pos (ok.b hb)
 have h1:=putL_perm (D.a.getD D.place []) D.b (by omega)
 have h2:=self_perm D.a D.place hp
 unfold Dc.move1 Dc.nodes
 split
 · rename_i hl
   have h0:(D.a.set D.place []).flatten=[]:=nils_perm _ fun i hi=>by
     rw [List.length_set] at hi
     by_cases e:i=D.place
     · subst e;exact getD_set_nil _ _
     · rw [getD_set_ne _ _ _ _ e];exact ok.past i (by omega)
   rw [h0,List.append_nil] at h2
   simp only [List.flatten_nil,List.append_nil]
   exact h1.trans (h2.symm.append_right _)
 · show ((D.a.set D.place []).flatten++(putL D.b (D.a.getD D.place [])).flatten).Perm (D.a.flatten++D.b.flatten)
   refine (h1.append_left _).trans ?_
   rw [← List.append_assoc]
   exact (List.perm_append_comm.trans h2.symm).append_right _
theorem Inv.of_perm{D':Dc}(h:Inv T seed D)(hp:D'.nodes.Perm D.nodes)(ok:D'.Ok T)(pa:∀ (i:Nat) r,D'.a[i]?=some r→∀ x∈r,x.sum % D'.a.length=i)(pb:∀ (i:Nat) r,D'.b[i]?=some r→∀ x∈r,x.sum % D'.b.length=i):Inv T seed D' :=
 ⟨ok,fun x hx=>h.sum x (hp.mem_iff.1 hx),pa,pb,(hp.map Nd.key).nodup_iff.2 h.uniq⟩
theorem Inv.move1(h:Inv T seed D)(hb:D.b≠[]):Inv T seed D.move1:=by
 refine h.of_perm (move1_perm h.ok hb) (h.ok.move1 hb) ?_ ?_
 · unfold Dc.move1
   split
   · exact putL_placed _ _ h.pb
   · intro i r hr x hx
     simp only [List.length_set]
     simp only [List.getElem?_set] at hr
     split at hr
     · split at hr
       · cases hr;simp at hx
       · cases hr
     · exact h.pa i r hr x hx
 · unfold Dc.move1
   split
   · intro i r hr;simp at hr
   · exact putL_placed _ _ h.pb
theorem Inv.run(h:Inv T seed D):∀ k,k≤D.left→Inv T seed (Dc.run k D)∧(Dc.run k D).nodes.Perm D.nodes:=by
 intro k
 induction k with
 | zero=>intro _;exact ⟨h,List.Perm.refl _⟩
 | succ k ih =>
   intro hk
   obtain ⟨h1,h2⟩:=ih (by omega)
   obtain ⟨_,_,_,h3⟩:=run_facts h.ok k (by omega)
   obtain ⟨h4,_⟩:=h3 (by omega)
   exact ⟨h1.move1 h4,(move1_perm h1.ok h4).trans h2⟩
theorem Inv.step(h:Inv T seed D)(n:Nat):Inv T seed (D.step n)∧(D.step n).nodes.Perm D.nodes:=h.run _ (Nat.min_le_right _ _)
theorem begin_nodes(hb:D.b=[])(m:Nat):(D.begin m).nodes=D.nodes:=by
 unfold Dc.nodes Dc.begin
 rw [hb]
 simp
theorem grown_nodes:D.grown.nodes=D.nodes:=by
 unfold Dc.grown
 split
 · rename_i h;exact begin_nodes h.1 _
 · rfl
theorem shrunk_nodes:D.shrunk.nodes=D.nodes:=by
 unfold Dc.shrunk
 split
 · rename_i h;exact begin_nodes h.1 _
 · rfl
theorem begin_pb(m:Nat):∀ (i:Nat) r,(D.begin m).b[i]?=some r→∀ x∈r,x.sum % (D.begin m).b.length=i:=by
 intro i r hr x hx
 rw [List.eq_of_mem_replicate (List.mem_of_getElem? hr)] at hx
 simp at hx
theorem begin_ok(ok:D.Ok T)(hb:D.b=[])(m:Nat):(D.begin m).Ok T:=by
 have h1:=isS_pos (isS_size (m:Nat))
 have hne:(D.begin m).b≠[]:=fun e=>by
   have h2:(List.replicate (sizeS m) ([]:List Nd)).length=0:=by
     rw [show List.replicate (sizeS m) ([]:List Nd)=[] from e];rfl
   rw [List.length_replicate] at h2
   omega
 have hs:=ok.still hb
 refine ⟨ok.a,fun _=>by simp [Dc.begin];exact isS_size _,fun _=>?_,fun e=>absurd e hne,fun i hi=>?_,?_,fun r hr x hx=>?_⟩
 · show D.place<D.a.length
   have:=isS_pos ok.a
   omega
 · have hi':i<D.place:=hi
   omega
 · have:=ok.n
   rw [hb] at this
   show D.n=D.a.flatten.length+(List.replicate (sizeS m) ([]:List Nd)).flatten.length
   simpa using this
 · rcases hr with hr|hr
   · exact ok.fine r (.inl hr) x hx
   · rw [List.eq_of_mem_replicate hr] at hx;simp at hx
theorem Inv.begin(h:Inv T seed D)(hb:D.b=[])(m:Nat):Inv T seed (D.begin m) :=
 h.of_perm (by rw [begin_nodes hb]) (begin_ok h.ok hb m) h.pa (begin_pb m)
theorem Inv.grown(h:Inv T seed D):Inv T seed D.grown:=by
 unfold Dc.grown
 split
 · rename_i e;exact h.begin e.1 _
 · exact h
theorem Inv.shrunk(h:Inv T seed D):Inv T seed D.shrunk:=by
 unfold Dc.shrunk
 split
 · rename_i e;exact h.begin e.1 _
 · exact h
theorem Inv.in_rows(h:Inv T seed D){x:Nd}(hx:x∈D.nodes):∃ j r,j<2∧(D.rowsOf x.sum)[j]?=some r∧x∈r:=by
 rcases List.mem_append.1 hx with h1|h1
 · obtain ⟨r,hr,hx⟩:=List.mem_flatten.1 h1
   obtain ⟨i,hi⟩:=List.getElem?_of_mem hr
   have:=h.pa i r hi x hx
   refine ⟨0,r,by omega,?_,hx⟩
   unfold Dc.rowsOf
   rw [this,List.getD_eq_getElem?_getD,hi]
   rfl
 · obtain ⟨r,hr,hx⟩:=List.mem_flatten.1 h1
   obtain ⟨i,hi⟩:=List.getElem?_of_mem hr
   have:=h.pb i r hi x hx
   have hb:D.b≠[]:=fun e=>by rw [e] at hr;simp at hr
   refine ⟨1,r,by omega,?_,hx⟩
   unfold Dc.rowsOf
   rw [if_neg hb,this]
   show some (D.b.getD i [])=some r
   rw [List.getD_eq_getElem?_getD,hi]
   rfl
theorem rows_nodes{s j:Nat}{r:List Nd}(hr:(D.rowsOf s)[j]?=some r){x:Nd}(hx:x∈r):x∈D.nodes:=by
 have hm:=List.mem_of_getElem? hr
 unfold Dc.rowsOf at hm
 have key:∀ (rows:List (List Nd)) i,x∈rows.getD i []→x∈rows.flatten:=fun rows i h=>by
   obtain ⟨r0,h1,h2⟩:=getD_mem h
   exact List.mem_flatten.2 ⟨r0,h1,h2⟩
 rcases List.mem_cons.1 hm with rfl|h1
 · exact List.mem_append_left _ (key _ _ hx)
 · by_cases hb:D.b=[]
   · rw [if_pos hb] at h1;simp at h1
   · rw [if_neg hb,List.mem_singleton] at h1
     subst h1
     exact List.mem_append_right _ (key _ _ hx)
theorem is_iff{s:Nat}{key:ByteArray}{x:Nd}:Nd.is s key x=true↔x.sum=s∧x.key=key:=by unfold Nd.is;simp
theorem Inv.hit_none(h:Inv T seed D){key:ByteArray}(hh:D.hit (sumN seed key.data.toList) key=none):∀ x∈D.nodes,x.key≠key:=by
 intro x hx e
 obtain ⟨j,r,hj,hr,hxr⟩:=h.in_rows hx
 have hs:=h.sum x hx
 rw [e] at hs
 rw [hs] at hr
 have h1:=Go.Proofs.YtlckdfoflimahaaGreatDoor.Dc.hit_none hh j r hj hr x hxr
 have h2:Nd.is (sumN seed key.data.toList) key x=true:=is_iff.2 ⟨hs,e⟩
 rw [h2] at h1
 cases h1
theorem hit_node{key:ByteArray}{s j i:Nat}(hh:D.hit s key=some (j,i)):∃ r y,(D.rowsOf s)[j]?=some r∧r[i]?=some y∧D.node s key=some y∧y∈D.nodes∧y.key=key∧y.sum=s:=by
 obtain ⟨r,y,h1,h2,h3⟩:=node_of hh
 obtain ⟨r',y',h4,h5,h6,_⟩:=hit_some hh
 rw [h1] at h4
 cases h4
 rw [h2] at h5
 cases h5
 obtain ⟨h7,h8⟩:=is_iff.1 h6
 exact ⟨r,y,h1,h2,h3,rows_nodes h1 (List.mem_of_getElem? h2),h8,h7⟩
theorem upd_n(D:Dc)(s j:Nat)(f:List Nd→List Nd):(D.upd s j f).n=D.n:=by unfold Dc.upd;split <;> rfl
theorem set_placed(rows:List (List Nd))(k:Nat)(r r':List Nd)(hk:rows[k]?=some r)(hs:∀ x∈r',∃ y∈r,x.sum=y.sum)(hp:∀ (i:Nat) r,rows[i]?=some r→∀ y∈r,y.sum % rows.length=i) :
   ∀ (i:Nat) r0,(rows.set k r')[i]?=some r0→∀ y∈r0,y.sum % (rows.set k r').length=i:=by
 intro i r0 hr y hy
 rw [List.length_set]
 rw [List.getElem?_set] at hr
 split at hr
 · rename_i e
   split at hr
   · cases hr
     obtain ⟨z,h1,h2⟩:=hs y hy
     rw [h2,← e]
     exact hp k r hk z h1
   · cases hr
 · exact hp i r0 hr y hy
theorem total_perm{a b:List Nd}(h:a.Perm b):a.length=b.length:=h.length_eq
theorem Inv.upd(h:Inv T seed D){s j:Nat}{r:List Nd}(hr:(D.rowsOf s)[j]?=some r)(hne:r≠[])(f:List Nd→List Nd)(hf:∀ x∈f r,(∃ y∈r,x.sum=y.sum∧x.key=y.key)∧T.ok x.v)(hu:((f r).map Nd.key).Sublist (r.map Nd.key))
   (m:Nat) (hm:m+r.length=D.n+(f r).length):Inv T seed { D.upd s j f with n:=m }∧∃ rest,D.nodes.Perm (r++rest)∧(D.upd s j f).nodes.Perm (f r++rest):=by
 have hal:=isS_pos h.ok.a
 have hfine:∀ x∈f r,(∀ y∈r,y.fine T)→x.fine T:=fun x hx hy=>by
   obtain ⟨⟨y,h1,h2,_⟩,h3⟩:=hf x hx
   exact ⟨by rw [h2];exact (hy y h1).1,h3⟩
 have hsums:∀ x∈f r,∃ y∈r,x.sum=y.sum:=fun x hx=>by
   obtain ⟨⟨y,h1,h2,_⟩,_⟩:=hf x hx
   exact ⟨y,h1,h2⟩
 have fin:∀ (D':Dc) (rest:List Nd),D'.n=m→D.nodes.Perm (r++rest)→D'.nodes.Perm (f r++rest)→(D'.n=D'.a.flatten.length+D'.b.flatten.length→D'.Ok T) →
     (∀ (i:Nat) r,D'.a[i]?=some r→∀ x∈r,x.sum % D'.a.length=i)→(∀ (i:Nat) r,D'.b[i]?=some r→∀ x∈r,x.sum % D'.b.length=i)→Inv T seed D':=fun D' rest hn h1 h2 hok pa pb=>by
   refine ⟨hok ?_,fun x hx=>?_,pa,pb,?_⟩
   · have h3:=total_perm h1
     have h4:=total_perm h2
     have h5:=h.ok.n
     have e1:D.nodes.length=D.a.flatten.length+D.b.flatten.length:=by unfold Dc.nodes;rw [List.length_append]
     have e2:D'.nodes.length=D'.a.flatten.length+D'.b.flatten.length:=by unfold Dc.nodes;rw [List.length_append]
     rw [List.length_append] at h3 h4
     omega
   · rcases List.mem_append.1 (h2.mem_iff.1 hx) with h3|h3
     · obtain ⟨⟨y,h4,h5,h6⟩,_⟩:=hf x h3
       rw [h5,h6]
       exact h.sum y (h1.mem_iff.2 (List.mem_append_left _ h4))
     · exact h.sum x (h1.mem_iff.2 (List.mem_append_right _ h3))
   · refine (h2.map Nd.key).nodup_iff.2 ?_
     have h3:=(h1.map Nd.key).nodup_iff.1 h.uniq
     rw [List.map_append] at h3 ⊢
     exact h3.sublist (hu.append_right _)
 by_cases hj:j=0
 · subst hj
   have hre:r=D.a.getD (s % D.a.length) []:=by unfold Dc.rowsOf at hr;simpa using hr.symm
   have hlt:s % D.a.length<D.a.length:=Nat.mod_lt _ (by omega)
   have hk:D.a[s % D.a.length]?=some r:=by rw [hre,List.getD_eq_getElem?_getD,List.getElem?_eq_getElem hlt];rfl
   have hrm:r∈D.a:=List.mem_of_getElem? hk
   have p1:=self_perm D.a _ hlt
   rw [← hre] at p1
   have p2:=set_perm D.a _ (f r) hlt
   have hd:D.upd s 0 f={ D with a:=D.a.set (s % D.a.length) (f r) }:=by unfold Dc.upd;rw [if_pos rfl,← hre]
   have q1:D.nodes.Perm (r++((D.a.set (s % D.a.length) []).flatten++D.b.flatten)):=by
     unfold Dc.nodes
     rw [← List.append_assoc]
     exact p1.append_right _
   have q2:(D.upd s 0 f).nodes.Perm (f r++((D.a.set (s % D.a.length) []).flatten++D.b.flatten)):=by
     rw [hd]
     unfold Dc.nodes
     rw [← List.append_assoc]
     exact p2.append_right _
   refine ⟨fin _ _ rfl q1 q2 (fun hn=>?_) ?_ ?_,_,q1,q2⟩
   · rw [hd] at hn ⊢
     refine ⟨by simp only [List.length_set];exact h.ok.a,h.ok.b,fun e=>by simp only [List.length_set];exact h.ok.place e,h.ok.still,fun i hi=>?_,hn,fun r0 hr0 x hx=>?_⟩
     · have hi':i<D.place:=hi
       have h1:=h.ok.past i hi'
       show (D.a.set (s % D.a.length) (f r)).getD i []=[]
       by_cases e:i=s % D.a.length
       · subst e;rw [← hre] at h1;exact absurd h1 hne
       · rw [getD_set_ne _ _ _ _ e];exact h1
     · rcases hr0 with hr0|hr0
       · rcases List.mem_or_eq_of_mem_set hr0 with h1|rfl
         · exact h.ok.fine r0 (.inl h1) x hx
         · exact hfine x hx fun y hy=>h.ok.fine r (.inl hrm) y hy
       · exact h.ok.fine r0 (.inr hr0) x hx
   · rw [hd];exact set_placed D.a _ r (f r) hk hsums h.pa
   · rw [hd];exact h.pb
 · have hb:D.b≠[]:=fun e=>by
     unfold Dc.rowsOf at hr
     rw [if_pos e] at hr
     match j,hj,hr with
     | j+1,_,hr=>simp at hr
   have hre:r=D.b.getD (s % D.b.length) []:=by
     unfold Dc.rowsOf at hr
     rw [if_neg hb] at hr
     match j,hj,hr with
     | 1,_,hr=>simpa using hr.symm
     | j+2,_,hr=>simp at hr
   have hbl:=isS_pos (h.ok.b hb)
   have hlt:s % D.b.length<D.b.length:=Nat.mod_lt _ (by omega)
   have hk:D.b[s % D.b.length]?=some r:=by rw [hre,List.getD_eq_getElem?_getD,List.getElem?_eq_getElem hlt];rfl
   have hrm:r∈D.b:=List.mem_of_getElem? hk
   have p1:=self_perm D.b _ hlt
   rw [← hre] at p1
   have p2:=set_perm D.b _ (f r) hlt
   have hd:D.upd s j f={ D with b:=D.b.set (s % D.b.length) (f r) }:=by unfold Dc.upd;rw [if_neg hj,← hre]
   have q0:∀ (x y z:List Nd),(x++(y++z)).Perm (y++(x++z)):=fun x y z=>by
     rw [← List.append_assoc,← List.append_assoc]
     exact List.perm_append_comm.append_right _
   have q1:D.nodes.Perm (r++(D.a.flatten++(D.b.set (s % D.b.length) []).flatten)):=by
     unfold Dc.nodes
     exact (p1.append_left _).trans (q0 _ _ _)
   have q2:(D.upd s j f).nodes.Perm (f r++(D.a.flatten++(D.b.set (s % D.b.length) []).flatten)):=by
     rw [hd]
     unfold Dc.nodes
     exact (p2.append_left _).trans (q0 _ _ _)
   have hne2:∀ q,D.b.set (s % D.b.length) q≠[]:=fun q e=>hb (List.eq_nil_of_length_eq_zero (by have:=congrArg List.length e;simpa using this))
   refine ⟨fin _ _ rfl q1 q2 (fun hn=>?_) ?_ ?_,_,q1,q2⟩
   · rw [hd] at hn ⊢
     refine ⟨h.ok.a,fun _=>by simp only [List.length_set];exact h.ok.b hb,fun _=>h.ok.place hb,fun e=>absurd e (hne2 _),h.ok.past,hn,fun r0 hr0 x hx=>?_⟩
     rcases hr0 with hr0|hr0
     · exact h.ok.fine r0 (.inl hr0) x hx
     · rcases List.mem_or_eq_of_mem_set hr0 with h1|rfl
       · exact h.ok.fine r0 (.inr h1) x hx
       · exact hfine x hx fun y hy=>h.ok.fine r (.inr hrm) y hy
   · rw [hd];exact h.pa
   · rw [hd];exact set_placed D.b _ r (f r) hk hsums h.pb
end
section
variable {T:Ty} {seed:Nat} {D:Dc}
theorem split_row{r:List Nd}{i:Nat}{y:Nd}(h:r[i]?=some y):r=r.take i++y :: r.drop (i+1):=by
 obtain ⟨hi,rfl⟩:=List.getElem?_eq_some_iff.1 h
 rw [← List.drop_eq_getElem_cons hi,List.take_append_drop]
theorem setV_row{r:List Nd}{i:Nat}{y:Nd}(v:Value)(h:r[i]?=some y):setV i v r=r.take i++{ y with v:=v } :: r.drop (i+1):=by
 unfold setV
 rw [h]
 simp only
 exact List.set_eq_take_append_cons_drop.trans (by rw [if_pos (List.getElem?_eq_some_iff.1 h).1])
theorem Inv.add(h:Inv T seed D)(x:Nd)(hx:x.fine T)(hs:x.sum=sumN seed x.key.data.toList)(hn:∀ y∈D.nodes,y.key≠x.key):Inv T seed (D.add x)∧(D.add x).nodes.Perm (x :: D.nodes)∧(D.add x).n=D.n+1:=by
 have hal:=isS_pos h.ok.a
 have fin:∀ D':Dc,D'.nodes.Perm (x :: D.nodes)→D'.Ok T→(∀ (i:Nat) r,D'.a[i]?=some r→∀ x∈r,x.sum % D'.a.length=i)→(∀ (i:Nat) r,D'.b[i]?=some r→∀ x∈r,x.sum % D'.b.length=i)→Inv T seed D':=fun D' h1 ok pa pb=>by
   refine ⟨ok,fun y hy=>?_,pa,pb,(h1.map Nd.key).nodup_iff.2 ?_⟩
   · rcases List.mem_cons.1 (h1.mem_iff.1 hy) with rfl|h2
     · exact hs
     · exact h.sum y h2
   · rw [List.map_cons,List.nodup_cons]
     refine ⟨fun h2=>?_,h.uniq⟩
     obtain ⟨y,h3,h4⟩:=List.mem_map.1 h2
     exact hn y h3 h4
 by_cases hb:D.b=[]
 · have hd:D.add x={ D with a:=putR D.a x,n:=D.n+1 }:=by unfold Dc.add;rw [if_pos hb]
   have hp:(D.add x).nodes.Perm (x :: D.nodes):=by
     rw [hd]
     unfold Dc.nodes
     exact (putR_perm D.a x (by omega)).append_right _
   refine ⟨fin _ hp ?_ ?_ ?_,hp,by rw [hd]⟩
   · rw [hd]
     have ht:=putR_total D.a x (by omega)
     have hn:=h.ok.n
     refine ⟨by rw [putR_len];exact h.ok.a,h.ok.b,fun e=>by simp only [putR_len];exact h.ok.place e,h.ok.still,fun i hi=>?_,?_,fun r hr y hy=>?_⟩
     · have hi':i<D.place:=hi
       rw [h.ok.still hb] at hi'
       omega
     · show D.n+1=(putR D.a x).flatten.length+D.b.flatten.length
       omega
     · rcases hr with hr|hr
       · exact putR_fine D.a x hx (fun r hr=>h.ok.fine r (.inl hr)) r hr y hy
       · exact h.ok.fine r (.inr hr) y hy
   · rw [hd];exact putR_placed D.a x h.pa
   · rw [hd];exact h.pb
 · have hd:D.add x={ D with b:=putR D.b x,n:=D.n+1 }:=by unfold Dc.add;rw [if_neg hb]
   have hbl:=isS_pos (h.ok.b hb)
   have hne:putR D.b x≠[]:=fun e=>hb (List.eq_nil_of_length_eq_zero (by have:=congrArg List.length e;rw [putR_len] at this;simpa using this))
   have hp:(D.add x).nodes.Perm (x :: D.nodes):=by
     rw [hd]
     unfold Dc.nodes
     exact ((putR_perm D.b x (by omega)).append_left _).trans List.perm_middle
   refine ⟨fin _ hp ?_ ?_ ?_,hp,by rw [hd]⟩
   · rw [hd]
     have ht:=putR_total D.b x (by omega)
     have hn:=h.ok.n
     refine ⟨h.ok.a,fun _=>by rw [putR_len];exact h.ok.b hb,fun _=>h.ok.place hb,fun e=>absurd e hne,h.ok.past,?_,fun r hr y hy=>?_⟩
     · show D.n+1=D.a.flatten.length+(putR D.b x).flatten.length
       omega
     · rcases hr with hr|hr
       · exact h.ok.fine r (.inl hr) y hy
       · exact putR_fine D.b x hx (fun r hr=>h.ok.fine r (.inr hr)) r hr y hy
   · rw [hd];exact h.pa
   · rw [hd];exact putR_placed D.b x h.pb
theorem Inv.set(h:Inv T seed D)(key:ByteArray)(v:Value)(hv:T.ok v) :
   Inv T seed (D.setS (sumN seed key.data.toList) key v) ∧
     (((D.step 1).hit (sumN seed key.data.toList) key=none∧(∀ x∈D.nodes,x.key≠key)∧(D.setS (sumN seed key.data.toList) key v).nodes.Perm (⟨sumN seed key.data.toList,key,v⟩ :: D.nodes)∧(D.setS (sumN seed key.data.toList) key v).n=D.n+1) ∨
      (∃ ji y rest,(D.step 1).hit (sumN seed key.data.toList) key=some ji∧y.key=key∧D.nodes.Perm (y :: rest)∧(D.setS (sumN seed key.data.toList) key v).nodes.Perm ({ y with v:=v } :: rest)∧(D.setS (sumN seed key.data.toList) key v).n=D.n)):=by
 obtain ⟨h1,p1⟩:=h.step 1
 have hn1:=(step_ok h.ok 1).2
 unfold Dc.setS
 cases hh:(D.step 1).hit (sumN seed key.data.toList) key with
 | none =>
   simp only
   have hno:=h1.hit_none hh
   have h2:=h1.grown
   have hg:=grown_ok h1.ok
   have hnd:(D.step 1).grown.nodes=(D.step 1).nodes:=grown_nodes
   obtain ⟨h3,p3,n3⟩:=h2.add ⟨sumN seed key.data.toList,key,v⟩ ⟨sumN_lt _ _,hv⟩ rfl (fun y hy=>hno y (by rw [← hnd];exact hy))
   refine ⟨h3,.inl ⟨trivial,fun x hx=>hno x (p1.mem_iff.2 hx),?_,by rw [n3,hg.2,hn1]⟩⟩
   rw [hnd] at p3
   exact p3.trans (p1.cons _)
 | some ji =>
   obtain ⟨j,i⟩:=ji
   simp only
   obtain ⟨r,y,hr,hi,_,_,hk,hs⟩:=hit_node hh
   have hrow:=split_row hi
   have hsv:=setV_row v hi
   have hne:r≠[]:=fun e=>by rw [e] at hi;simp at hi
   have hfr:∀ x∈r,x.fine T:=(mem_row hr hi h1.ok).2
   have hmem:∀ x∈r.take i,x∈r:=fun x hx=>List.mem_of_mem_take hx
   have hmem2:∀ x∈r.drop (i+1),x∈r:=fun x hx=>List.mem_of_mem_drop hx
   obtain ⟨h2,rest,q1,q2⟩:=h1.upd hr hne (setV i v) (fun x hx=>by
     rw [hsv] at hx
     rcases List.mem_append.1 hx with h3|h3
     · exact ⟨⟨x,hmem x h3,rfl,rfl⟩,(hfr x (hmem x h3)).2⟩
     · rcases List.mem_cons.1 h3 with rfl|h4
       · exact ⟨⟨y,List.mem_of_getElem? hi,rfl,rfl⟩,hv⟩
       · exact ⟨⟨x,hmem2 x h4,rfl,rfl⟩,(hfr x (hmem2 x h4)).2⟩) (by
     have:(setV i v r).map Nd.key=r.map Nd.key:=by
       rw [hsv]
       conv=>rhs;rw [hrow]
       simp
     rw [this]
     exact List.Sublist.refl _) (D.step 1).n (by rw [setV_len])
   have hd:({ (D.step 1).upd (sumN seed key.data.toList) j (setV i v) with n:=(D.step 1).n }:Dc)=(D.step 1).upd (sumN seed key.data.toList) j (setV i v):=by unfold Dc.upd;split <;> rfl
   rw [hd] at h2
   refine ⟨h2,.inr ⟨(j,i),y,r.take i++r.drop (i+1)++rest,rfl,hk,?_,?_,by rw [upd_n,hn1]⟩⟩
   · refine (p1.symm.trans q1).trans ?_
     rw [hrow]
     rw [List.append_assoc,List.append_assoc,List.cons_append]
     have e1:List.take i (List.take i r++y :: List.drop (i+1) r)=List.take i r:=by rw [← hrow]
     have e2:List.drop (i+1) (List.take i r++y :: List.drop (i+1) r)=List.drop (i+1) r:=by rw [← hrow]
     rw [e1,e2]
     exact List.perm_middle
   · refine q2.trans ?_
     rw [hsv,List.append_assoc,List.append_assoc,List.cons_append]
     exact List.perm_middle
theorem Inv.del(h:Inv T seed D)(key:ByteArray) :
   Inv T seed (D.delS (sumN seed key.data.toList) key) ∧
     (((D.step 1).hit (sumN seed key.data.toList) key=none∧(∀ x∈D.nodes,x.key≠key)∧(D.delS (sumN seed key.data.toList) key).nodes.Perm D.nodes∧(D.delS (sumN seed key.data.toList) key).n=D.n) ∨
      (∃ ji y rest,(D.step 1).hit (sumN seed key.data.toList) key=some ji∧y.key=key∧D.nodes.Perm (y :: rest)∧(D.delS (sumN seed key.data.toList) key).nodes.Perm rest∧(D.delS (sumN seed key.data.toList) key).n+1=D.n)):=by
 obtain ⟨h1,p1⟩:=h.step 1
 have hn1:=(step_ok h.ok 1).2
 unfold Dc.delS
 cases hh:(D.step 1).hit (sumN seed key.data.toList) key with
 | none =>
   have hno:=h1.hit_none hh
   exact ⟨h1,.inl ⟨rfl,fun x hx=>hno x (p1.mem_iff.2 hx),p1,hn1⟩⟩
 | some ji =>
   obtain ⟨j,i⟩:=ji
   simp only
   obtain ⟨r,y,hr,hi,_,_,hk,hs⟩:=hit_node hh
   have hrow:=split_row hi
   have hsv:=List.eraseIdx_eq_take_drop_succ r i
   have hil:=(List.getElem?_eq_some_iff.1 hi).1
   have hne:r≠[]:=fun e=>by rw [e] at hi;simp at hi
   have hfr:∀ x∈r,x.fine T:=(mem_row hr hi h1.ok).2
   have hel:(r.eraseIdx i).length=r.length-1:=by rw [List.length_eraseIdx,if_pos hil]
   have hpos:0<(D.step 1).n:=by
     have h3:=rows_len (D:=D.step 1) _ j r hr
     have h5:=h1.ok.n
     omega
   obtain ⟨h2,rest,q1,q2⟩:=h1.upd hr hne (·.eraseIdx i) (fun x hx=>by
     have hx':x∈r:=(List.eraseIdx_sublist r i).subset hx
     exact ⟨⟨x,hx',rfl,rfl⟩,(hfr x hx').2⟩) ((List.eraseIdx_sublist r i).map Nd.key) ((D.step 1).n-1) (by simp only [hel];omega)
   have hd:({ (D.step 1).upd (sumN seed key.data.toList) j (·.eraseIdx i) with n:=(D.step 1).n-1 }:Dc)=((D.step 1).upd (sumN seed key.data.toList) j (·.eraseIdx i)).less:=by unfold Dc.less;rw [upd_n]
   rw [hd] at h2
   have hsn:∀ D':Dc,D'.shrunk.n=D'.n:=fun D'=>by unfold Dc.shrunk;split <;> rfl
   refine ⟨h2.shrunk,.inr ⟨(j,i),y,r.take i++r.drop (i+1)++rest,rfl,hk,?_,?_,?_⟩⟩
   · refine (p1.symm.trans q1).trans ?_
     have e1:r++rest=r.take i++(y :: (r.drop (i+1)++rest)):=by
       conv=>lhs;rw [hrow]
       simp
     rw [e1,List.append_assoc]
     exact List.perm_middle
   · rw [shrunk_nodes]
     have:(((D.step 1).upd (sumN seed key.data.toList) j (·.eraseIdx i)).less).nodes=((D.step 1).upd (sumN seed key.data.toList) j (·.eraseIdx i)).nodes:=rfl
     rw [this,← hsv]
     exact q2
   · rw [hsn]
     show (((D.step 1).upd (sumN seed key.data.toList) j (·.eraseIdx i)).n-1)+1=D.n
     rw [upd_n]
     omega
def Like(T:Ty)(seed:Nat)(D:Dc)(m:ByteArray→Option Value):Prop:=Inv T seed D∧∀ k v,(∃ x∈D.nodes,x.key=k∧x.v=v)↔m k=some v
def putM(m:ByteArray→Option Value)(key:ByteArray)(v:Value):ByteArray→Option Value:=fun k=>if k=key then some v else m k
def remM(m:ByteArray→Option Value)(key:ByteArray):ByteArray→Option Value:=fun k=>if k=key then none else m k
theorem Like.of_perm{D':Dc}{m:ByteArray→Option Value}(h:Like T seed D m)(h':Inv T seed D')(hp:D'.nodes.Perm D.nodes):Like T seed D' m :=
 ⟨h',fun k v=>(by rw [← h.2 k v];exact ⟨fun ⟨x,h1,h2⟩=>⟨x,hp.mem_iff.1 h1,h2⟩,fun ⟨x,h1,h2⟩=>⟨x,hp.mem_iff.2 h1,h2⟩⟩)⟩
theorem Like.step{m:ByteArray→Option Value}(h:Like T seed D m)(n:Nat):Like T seed (D.step n) m:=h.of_perm (h.1.step n).1 (h.1.step n).2
theorem Like.hit{m:ByteArray→Option Value}(h:Like T seed D m)(key:ByteArray):(D.hit (sumN seed key.data.toList) key).isSome=(m key).isSome∧(∀ y,D.node (sumN seed key.data.toList) key=some y→m key=some y.v)∧((m key)=none→D.node (sumN seed key.data.toList) key=none)∧((m key).isSome=true→∃ y,D.node (sumN seed key.data.toList) key=some y):=by
 cases hh:D.hit (sumN seed key.data.toList) key with
 | none =>
   have hno:=h.1.hit_none hh
   have hm:m key=none:=by
     cases hm:m key with
     | none=>rfl
     | some v =>
       obtain ⟨x,h1,h2,_⟩:=(h.2 key v).2 hm
       exact absurd h2 (hno x h1)
   have hnd:D.node (sumN seed key.data.toList) key=none:=by unfold Dc.node;rw [hh]
   rw [hm,hnd]
   refine ⟨rfl,?_,?_,?_⟩
   · intro y e;cases e
   · intro _;rfl
   · intro e;cases e
 | some ji =>
   obtain ⟨j,i⟩:=ji
   obtain ⟨r,y,_,_,hnd,hy,hk,_⟩:=hit_node hh
   have hm:=(h.2 key y.v).1 ⟨y,hy,hk,rfl⟩
   rw [hm,hnd]
   refine ⟨rfl,?_,?_,?_⟩
   · intro y' e;cases e;rfl
   · intro e;cases e
   · intro _;exact ⟨y,rfl⟩
theorem Like.set{m:ByteArray→Option Value}(h:Like T seed D m)(key:ByteArray)(v:Value)(hv:T.ok v):Like T seed (D.setS (sumN seed key.data.toList) key v) (putM m key v)∧(D.setS (sumN seed key.data.toList) key v).n=if (m key).isSome then D.n else D.n+1:=by
 obtain ⟨h1,h2⟩:=h.1.set key v hv
 have h3:=((h.step 1).hit key).1
 rcases h2 with ⟨e1,hno,hp,hn⟩|⟨ji,y,rest,e1,hk,p1,p2,hn⟩
 · rw [e1] at h3
   refine ⟨⟨h1,fun k v'=>?_⟩,by rw [hn,← h3];rfl⟩
   unfold putM
   by_cases hkk:k=key
   · rw [if_pos hkk]
     subst hkk
     constructor
     · rintro ⟨x,hx,hx2,hx3⟩
       rcases List.mem_cons.1 (hp.mem_iff.1 hx) with rfl|h4
       · rw [← hx3]
       · exact absurd hx2 (hno x h4)
     · intro e
       cases e
       exact ⟨_,hp.mem_iff.2 (List.mem_cons_self ..),rfl,rfl⟩
   · rw [if_neg hkk,← h.2 k v']
     constructor
     · rintro ⟨x,hx,hx2,hx3⟩
       rcases List.mem_cons.1 (hp.mem_iff.1 hx) with rfl|h4
       · exact absurd hx2.symm hkk
       · exact ⟨x,h4,hx2,hx3⟩
     · rintro ⟨x,hx,hx2⟩
       exact ⟨x,hp.mem_iff.2 (List.mem_cons_of_mem _ hx),hx2⟩
 · rw [e1] at h3
   refine ⟨⟨h1,fun k v'=>?_⟩,by rw [hn,← h3];rfl⟩
   have hu:=(p1.map Nd.key).nodup_iff.1 h.1.uniq
   rw [List.map_cons,List.nodup_cons] at hu
   have hrest:∀ x∈rest,x.key≠key:=fun x hx e=>hu.1 (by rw [hk,← e];exact List.mem_map.2 ⟨x,hx,rfl⟩)
   unfold putM
   by_cases hkk:k=key
   · rw [if_pos hkk]
     subst hkk
     constructor
     · rintro ⟨x,hx,hx2,hx3⟩
       rcases List.mem_cons.1 (p2.mem_iff.1 hx) with rfl|h4
       · rw [← hx3]
       · exact absurd hx2 (hrest x h4)
     · intro e
       cases e
       exact ⟨_,p2.mem_iff.2 (List.mem_cons_self ..),hk,rfl⟩
   · rw [if_neg hkk,← h.2 k v']
     constructor
     · rintro ⟨x,hx,hx2,hx3⟩
       rcases List.mem_cons.1 (p2.mem_iff.1 hx) with rfl|h4
       · exact absurd (hx2.symm.trans hk) hkk
       · exact ⟨x,p1.mem_iff.2 (List.mem_cons_of_mem _ h4),hx2,hx3⟩
     · rintro ⟨x,hx,hx2,hx3⟩
       rcases List.mem_cons.1 (p1.mem_iff.1 hx) with rfl|h4
       · exact absurd (hx2.symm.trans hk) hkk
       · exact ⟨x,p2.mem_iff.2 (List.mem_cons_of_mem _ h4),hx2,hx3⟩
theorem Like.del{m:ByteArray→Option Value}(h:Like T seed D m)(key:ByteArray):Like T seed (D.delS (sumN seed key.data.toList) key) (remM m key)∧(D.delS (sumN seed key.data.toList) key).n=(if (m key).isSome then D.n-1 else D.n)∧((m key).isSome=true→0<D.n):=by
 obtain ⟨h1,h2⟩:=h.1.del key
 have h3:=((h.step 1).hit key).1
 rcases h2 with ⟨e1,hno,hp,hn⟩|⟨ji,y,rest,e1,hk,p1,p2,hn⟩
 · rw [e1] at h3
   have h3':(m key).isSome=false:=h3.symm
   refine ⟨⟨h1,fun k v'=>?_⟩,by rw [hn,h3'];rfl,fun e=>by rw [h3'] at e;cases e⟩
   unfold remM
   by_cases hkk:k=key
   · rw [if_pos hkk]
     subst hkk
     constructor
     · rintro ⟨x,hx,hx2,hx3⟩
       exact absurd hx2 (hno x (hp.mem_iff.1 hx))
     · intro e;cases e
   · rw [if_neg hkk,← h.2 k v']
     exact ⟨fun ⟨x,h1,h2⟩=>⟨x,hp.mem_iff.1 h1,h2⟩,fun ⟨x,h1,h2⟩=>⟨x,hp.mem_iff.2 h1,h2⟩⟩
 · rw [e1] at h3
   have h3':(m key).isSome=true:=h3.symm
   refine ⟨⟨h1,fun k v'=>?_⟩,by rw [h3',if_pos rfl];omega,fun _=>by omega⟩
   have hu:=(p1.map Nd.key).nodup_iff.1 h.1.uniq
   rw [List.map_cons,List.nodup_cons] at hu
   have hrest:∀ x∈rest,x.key≠key:=fun x hx e=>hu.1 (by rw [hk,← e];exact List.mem_map.2 ⟨x,hx,rfl⟩)
   unfold remM
   by_cases hkk:k=key
   · rw [if_pos hkk]
     subst hkk
     constructor
     · rintro ⟨x,hx,hx2,hx3⟩
       exact absurd hx2 (hrest x (p2.mem_iff.1 hx))
     · intro e;cases e
   · rw [if_neg hkk,← h.2 k v']
     constructor
     · rintro ⟨x,hx,hx2⟩
       exact ⟨x,p1.mem_iff.2 (List.mem_cons_of_mem _ (p2.mem_iff.1 hx)),hx2⟩
     · rintro ⟨x,hx,hx2,hx3⟩
       rcases List.mem_cons.1 (p1.mem_iff.1 hx) with rfl|h4
       · exact absurd (hx2.symm.trans hk) hkk
       · exact ⟨x,p2.mem_iff.2 h4,hx2,hx3⟩
theorem Like.new(T:Ty)(seed:Nat):Like T seed newD (fun _=>none):=by
 have hn:newD.nodes=[]:=by decide
 refine ⟨⟨newD_ok T,fun x hx=>?_,fun i r hr x hx=>?_,fun i r hr x hx=>?_,?_⟩,fun k v=>⟨fun ⟨x,hx,_⟩=>?_,fun e=>by cases e⟩⟩
 · rw [hn] at hx;simp at hx
 · have:=List.mem_of_getElem? hr
   rw [List.eq_of_mem_replicate this] at hx;simp at hx
 · simp [newD] at hr
 · rw [hn];simp
 · rw [hn] at hx;simp at hx
end
end Go.Proofs.YtlckdfoflimahaaGreatDoor.Dc
namespace Go.Proofs.YtlckdfoflimahaaGreatDoor.Dc
open Go.RowKit Go.Shelf
attribute [local go_sem] Oper.semAt_some
structure Sh where
 A:Nat
 B:Nat
 At:Nat
 n:Nat
def Dc.shape(D:Dc):Sh:=⟨D.a.length,D.b.length,D.place,D.n⟩
def Sh.step1(h:Sh):Sh:=if h.B=0 then h else if h.At+1=h.A then ⟨h.B,0,0,h.n⟩ else ⟨h.A,h.B,h.At+1,h.n⟩
def Sh.steps:Nat→Sh→Sh
 | 0,h=>h
 | k+1,h=>(Sh.steps k h).step1
def Sh.left(h:Sh):Nat:=if h.B=0 then 0 else h.A-h.At
def Sh.grown(h:Sh):Sh:=if h.B=0∧h.A≤h.n∧h.A<65536 then ⟨h.A,sizeS (2*h.n:Nat),h.At,h.n⟩ else h
def Sh.shrunk(h:Sh):Sh:=if h.B=0∧4<h.A∧8*h.n<h.A then ⟨h.A,sizeS h.n,h.At,h.n⟩ else h
def Sh.more(h:Sh):Sh:=⟨h.A,h.B,h.At,h.n+1⟩
def Sh.fewer(h:Sh):Sh:=⟨h.A,h.B,h.At,h.n-1⟩
def Sh.set(h:Sh)(is:Bool):Sh:=bif is then h.step1 else h.step1.grown.more
def Sh.del(h:Sh)(is:Bool):Sh:=bif is then h.step1.fewer.shrunk else h.step1
theorem b_len(D:Dc):D.b=[]↔D.b.length=0:=⟨fun e=>by rw [e];rfl,List.eq_nil_of_length_eq_zero⟩
theorem shape_move1{D:Dc}(hb:D.b≠[]):D.move1.shape=D.shape.step1:=by
 have h0:¬ D.b.length=0:=fun e=>hb ((b_len D).2 e)
 unfold Dc.move1 Sh.step1 Dc.shape
 rw [if_neg h0]
 by_cases h1:D.place+1=D.a.length
 · rw [if_pos h1,if_pos h1,putL_len];rfl
 · rw [if_neg h1,if_neg h1,List.length_set,putL_len]
theorem steps_still{h:Sh}(hb:h.B=0):∀ k,Sh.steps k h=h
 | 0=>rfl
 | k+1=>by rw [Sh.steps,steps_still hb k,Sh.step1,if_pos hb]
theorem shape_left(D:Dc):D.shape.left=D.left:=by
 unfold Sh.left Dc.left Dc.shape
 by_cases hb:D.b=[]
 · rw [if_pos hb,if_pos ((b_len D).1 hb)]
 · rw [if_neg hb,if_neg (fun e=>hb ((b_len D).2 e))]
theorem shape_run{T:Ty}{D:Dc}(ok:D.Ok T):∀ k,k≤D.left→(Dc.run k D).shape=Sh.steps k D.shape
 | 0,_=>rfl
 | k+1,hk=>by
   obtain ⟨_,_,_,h4⟩:=run_facts ok k (by omega)
   obtain ⟨h5,_⟩:=h4 (by omega)
   show (Dc.run k D).move1.shape=_
   rw [shape_move1 h5,shape_run ok k (by omega)]
   rfl
theorem steps_add(h:Sh)(k:Nat):∀ j,Sh.steps (k+j) h=Sh.steps j (Sh.steps k h)
 | 0=>rfl
 | j+1=>by rw [← Nat.add_assoc,Sh.steps,steps_add h k j];rfl
theorem shape_step{T:Ty}{D:Dc}(ok:D.Ok T)(n:Nat):(D.step n).shape=Sh.steps n D.shape:=by
 unfold Dc.step
 rcases Nat.le_total n D.left with h|h
 · rw [Nat.min_eq_left h];exact shape_run ok n h
 · rw [Nat.min_eq_right h,shape_run ok _ (Nat.le_refl _)]
   obtain ⟨j,rfl⟩:∃ j,n=D.left+j:=⟨n-D.left,by omega⟩
   rw [steps_add]
   refine (steps_still ?_ j).symm
   rw [← shape_run ok _ (Nat.le_refl _)]
   obtain ⟨ok1,h2,_⟩:=run_facts ok _ (Nat.le_refl _)
   have h3:(Dc.run D.left D).left=0:=by omega
   show (Dc.run D.left D).b.length=0
   generalize Dc.run D.left D=D' at *
   by_cases hb:D'.b=[]
   · rw [hb];rfl
   · have:=ok1.place hb
     have h4:D'.left=D'.a.length-D'.place:=by unfold Dc.left;rw [if_neg hb]
     omega
theorem shape_grown(D:Dc):D.grown.shape=D.shape.grown:=by
 unfold Dc.grown Sh.grown Dc.shape
 by_cases h:D.b=[]∧D.a.length≤D.n∧D.a.length<65536
 · rw [if_pos h,if_pos ⟨(b_len D).1 h.1,h.2⟩]
   simp [Dc.begin]
 · rw [if_neg h,if_neg (fun e=>h ⟨(b_len D).2 e.1,e.2⟩)]
theorem shape_shrunk(D:Dc):D.shrunk.shape=D.shape.shrunk:=by
 unfold Dc.shrunk Sh.shrunk Dc.shape
 by_cases h:D.b=[]∧4<D.a.length∧8*D.n<D.a.length
 · rw [if_pos h,if_pos ⟨(b_len D).1 h.1,h.2⟩]
   simp [Dc.begin]
 · rw [if_neg h,if_neg (fun e=>h ⟨(b_len D).2 e.1,e.2⟩)]
theorem shape_upd(D:Dc)(s j:Nat)(f:List Nd→List Nd):(D.upd s j f).shape=D.shape:=by
 unfold Dc.upd Dc.shape
 split <;> simp
theorem shape_add(D:Dc)(x:Nd):(D.add x).shape=D.shape.more:=by
 unfold Dc.add Dc.shape Sh.more
 split <;> simp [putR_len]
theorem shape_set{T:Ty}{D:Dc}(ok:D.Ok T)(s:Nat)(key:ByteArray)(v:Value):(D.setS s key v).shape=D.shape.set ((D.step 1).hit s key).isSome:=by
 have h1:=shape_step ok 1
 have h2:(D.step 1).shape=D.shape.step1:=h1
 unfold Dc.setS
 cases (D.step 1).hit s key with
 | none=>simp only [shape_add,shape_grown,h2];rfl
 | some ji=>simp only [shape_upd,h2];rfl
theorem shape_del{T:Ty}{D:Dc}(ok:D.Ok T)(s:Nat)(key:ByteArray):(D.delS s key).shape=D.shape.del ((D.step 1).hit s key).isSome:=by
 have h1:=shape_step ok 1
 have h2:(D.step 1).shape=D.shape.step1:=h1
 unfold Dc.delS
 cases (D.step 1).hit s key with
 | none=>simp only [h2];rfl
 | some ji =>
   simp only [shape_shrunk]
   have:(((D.step 1).upd s ji.1 (·.eraseIdx ji.2)).less).shape=(D.step 1).shape.fewer:=by
     have h3:=shape_upd (D.step 1) s ji.1 (·.eraseIdx ji.2)
     unfold Dc.shape at h3
     unfold Dc.less Dc.shape Sh.fewer
     injection h3 with e1 e2 e3 e4
     simp only [e1,e2,e3,e4]
   rw [this,h2]
   rfl
theorem step1_n(h:Sh):h.step1.n=h.n:=by unfold Sh.step1;split;rfl;split <;> rfl
theorem steps_n(h:Sh):∀ k,(Sh.steps k h).n=h.n
 | 0=>rfl
 | k+1=>by rw [Sh.steps,step1_n,steps_n h k]
theorem shgrown_n(h:Sh):h.grown.n=h.n:=by unfold Sh.grown;split <;> rfl
theorem shshrunk_n(h:Sh):h.shrunk.n=h.n:=by unfold Sh.shrunk;split <;> rfl
theorem shset_n(h:Sh)(is:Bool):(h.set is).n=bif is then h.n else h.n+1:=by
 cases is with
 | true=>exact step1_n h
 | false=>show h.step1.grown.n+1=h.n+1;rw [shgrown_n,step1_n]
theorem shdel_n(h:Sh)(is:Bool):(h.del is).n=bif is then h.n-1 else h.n:=by
 cases is with
 | true=>show h.step1.fewer.shrunk.n=h.n-1;rw [shshrunk_n];show h.step1.n-1=_;rw [step1_n]
 | false=>exact step1_n h
def Is(W:World)(p:Nat)(S:Nat→Prop)(seed:Nat)(m:ByteArray→Option Int)(n:Sh):Prop :=
 ∃ D,Rep tyI W p S seed D∧Like tyI seed D (fun k=>(m k).map (Value.int .i64))∧D.shape=n
def putI(m:ByteArray→Option Int)(key:ByteArray)(v:Int):ByteArray→Option Int:=fun k=>if k=key then some v else m k
def remI(m:ByteArray→Option Int)(key:ByteArray):ByteArray→Option Int:=fun k=>if k=key then none else m k
def IsNow(S:Nat→Prop)(W:World)(p seed:Nat)(m:ByteArray→Option Int)(n:Sh)(W':World):Prop:=Is W' p (grow tyI S W W') seed m n∧Far S W W'
theorem Is.far{S S1:Nat→Prop}{W W':World}{p seed:Nat}{n:Sh}{m:ByteArray→Option Int}(h:Is W p S seed m n)(f:Far S1 W W')(hd:∀ k,S k→¬ S1 k):Is W' p S seed m n:=by
 obtain ⟨D,h1,h2,h3⟩:=h
 exact ⟨D,h1.far f hd,h2,h3⟩
theorem Is.later{S:Nat→Prop}{W W':World}{p seed:Nat}{n:Sh}{m:ByteArray→Option Int}(h:Is W p S seed m n)(hb:Below W.heap.size W W'):Is W' p S seed m n:=h.far (S1:=fun _=>False) (Far.of_below hb) fun _ _ h=>h
theorem Is.cells{S:Nat→Prop}{W:World}{p seed:Nat}{n:Sh}{m:ByteArray→Option Int}(h:Is W p S seed m n):∀ k,S k→CellB tyI W k:=by obtain ⟨D,h1,_⟩:=h;exact h1.cells
theorem Is.lt{S:Nat→Prop}{W:World}{p seed:Nat}{n:Sh}{m:ByteArray→Option Int}(h:Is W p S seed m n):∀ k,S k→k<W.heap.size:=fun k hk=>(h.cells k hk).lt
theorem IsNow.of{S:Nat→Prop}{W W':World}{p seed:Nat}{n:Sh}{m:ByteArray→Option Int}{D:Dc}(h:Went tyI S W p seed D W')(hl:Like tyI seed D (fun k=>(m k).map (Value.int .i64)))(hn:D.shape=n):IsNow S W p seed m n W':=⟨⟨D,h.1,hl,hn⟩,h.2⟩
theorem IsNow.later{S:Nat→Prop}{W W1 W2:World}{p seed:Nat}{n:Sh}{m:ByteArray→Option Int}(h:IsNow S W p seed m n W1)(hb:Below W1.heap.size W1 W2):IsNow S W p seed m n W2:=by
 obtain ⟨D1,h1,h2,h3⟩:=h.1
 exact IsNow.of (Went.later ⟨h1,h.2⟩ hb) h2 h3
section
variable {S:Nat→Prop} {p seed:Nat} {n:Sh} {m:ByteArray→Option Int} {w:World}
theorem map_put(m:ByteArray→Option Int)(key:ByteArray)(v:Int):(fun k=>(putI m key v k).map (Value.int .i64))=putM (fun k=>(m k).map (Value.int .i64)) key (.int .i64 v):=by
 funext k
 unfold putI putM
 split <;> rfl
theorem map_rem(m:ByteArray→Option Int)(key:ByteArray):(fun k=>(remI m key k).map (Value.int .i64))=remM (fun k=>(m k).map (Value.int .i64)) key:=by
 funext k
 unfold remI remM
 split <;> rfl
theorem new_is(sd:Nat)(w:World):Calls Tryz.prog 184 #[.int .u32 sd] w fun e w'=>∃ q,e=.returned (.pointer (some ⟨q,0,none⟩))∧Is w' q (fresh tyI w w') sd (fun _=>none) ⟨4,0,0,0⟩∧Below w.heap.size w w' :=
 (new_any sd w).mono fun _ _ ⟨q,h1,h2,h3⟩=>⟨q,h1,⟨newD,h2,Like.new _ _,rfl⟩,h3⟩
theorem get_is(hsd:seed<4294967296)(h:Is w p S seed m n)(hn:n.n≤1000000)(key:ByteArray)(hk:key.size≤281474976710656) :
   Calls Tryz.prog 336 #[.pointer (some ⟨p,0,none⟩),.string key] w fun e w'=>e=.returned (.tuple #[.int .i64 ((m key).getD 0),.bool (m key).isSome])∧IsNow S w p seed m n.step1 w':=by
 obtain ⟨D,h1,h2,h3⟩:=h
 have hn':D.n≤1000000:=by rw [← h3] at hn;exact hn
 refine (get_any hsd h1 h2.1.ok hn' key hk).mono fun e w' ⟨he,hw⟩=>?_
 obtain ⟨q1,q2,q3,q4⟩:=(h2.step 1).hit key
 refine ⟨?_,IsNow.of hw (h2.step 1) ((shape_step h2.1.ok 1).trans (by rw [h3];rfl))⟩
 rw [he,q1]
 congr 2
 cases hm:m key with
 | none =>
   rw [q3 (by simp only [hm];rfl)]
   rfl
 | some v =>
   obtain ⟨y,hy⟩:=q4 (by simp only [hm];rfl)
   have:=q2 y hy
   simp only [hm,Option.map_some,Option.some.injEq] at this
   rw [hy]
   simp only [intV,← this]
   rfl
theorem set_is(hsd:seed<4294967296)(h:Is w p S seed m n)(hn:n.n+1≤1000000)(key:ByteArray)(hk:key.size≤281474976710656)(v:Int) :
   Calls Tryz.prog 207 #[.pointer (some ⟨p,0,none⟩),.string key,.int .i64 v] w fun e w'=>e=.returned (.bool (!(m key).isSome))∧IsNow S w p seed (putI m key v) (n.set (m key).isSome) w':=by
 obtain ⟨D,h1,h2,h3⟩:=h
 have hn':D.n+1≤1000000:=by rw [← h3] at hn;exact hn
 refine (set_any hsd h1 h2.1.ok hn' key hk v).mono fun e w' ⟨he,hw⟩=>?_
 obtain ⟨q1,_⟩:=(h2.step 1).hit key
 obtain ⟨g1,_⟩:=h2.set key (.int .i64 v) ⟨v,rfl⟩
 have g2:=shape_set h2.1.ok (sumN seed key.data.toList) key (.int .i64 v)
 rw [← map_put] at g1
 simp only [Option.isSome_map] at q1
 exact ⟨by rw [he,q1],IsNow.of hw g1 (by rw [g2,h3,q1])⟩
theorem del_is(hsd:seed<4294967296)(h:Is w p S seed m n)(hn:n.n≤1000000)(key:ByteArray)(hk:key.size≤281474976710656) :
   Calls Tryz.prog 332 #[.pointer (some ⟨p,0,none⟩),.string key] w fun e w'=>e=.returned (.bool (m key).isSome)∧IsNow S w p seed (remI m key) (n.del (m key).isSome) w'∧((m key).isSome=true→0<n.n):=by
 obtain ⟨D,h1,h2,h3⟩:=h
 have hn':D.n≤1000000:=by rw [← h3] at hn;exact hn
 refine (del_any hsd h1 h2.1.ok hn' key hk).mono fun e w' ⟨he,hw⟩=>?_
 obtain ⟨q1,_⟩:=(h2.step 1).hit key
 obtain ⟨g1,_,g3⟩:=h2.del key
 have g2:=shape_del h2.1.ok (sumN seed key.data.toList) key
 rw [← map_rem] at g1
 simp only [Option.isSome_map] at q1 g3
 exact ⟨by rw [he,q1],IsNow.of hw g1 (by rw [g2,h3,q1]),fun e=>by rw [← h3];exact g3 e⟩
end
end Go.Proofs.YtlckdfoflimahaaGreatDoor.Dc
