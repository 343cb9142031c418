/- Texts of one kind in one: SpRename, SpLast. -/
import Derived.Test.YtlckdfoflimahaaGreatDoorQSpSet27
set_option maxRecDepth 200000
set_option maxHeartbeats 8000000
namespace Go.Proofs.YtlckdfoflimahaaGreatDoor
open Go.RowKit Go.Shelf Sk
attribute [local go_sem] Oper.semAt_some
section
variable {w w' w1 w2:World} {p c sd:Nat} {S:Nat→Prop} {en mn:Int} {L L':List Th} {t:Th}
def RenAt(v:Value)(a:Act):Prop:=∃ u0 u1 u2 u3 u4 u5 u6 u7 u9 u10 u11 u12 u13 u14 u15 u16 u17 u18 u19 u20 u21 u22 u23 u24 u25 u26 u27 u28 u29 u30 u31 u32 u33 u34,a={ tmps:=#[u0,u1,u2,u3,u4,u5,u6,u7,v,u9,u10,u11,u12,u13,u14,u15,u16,u17,u18,u19,u20,u21,u22,u23,u24,u25,u26,u27,u28,u29,u30,u31,u32,u33,u34],defers:=[] }
def renE(L:List Th)(f k:ByteArray):Int:=if (tmap L f).isSome then (if 64<k.size then 140 else 0) else 141
def RenTo(L:List Th)(f k:ByteArray)(L':List Th):Prop:=(renE L f k≠0∧L'=L)∨(renE L f k=0∧f=k∧L'=L)∨(renE L f k=0∧f≠k∧k.size≤64∧∃ t∈L,t.key=f∧L'=remT (remT L f) k++[t.named k])
theorem pos_of_mem(ht:t∈L):0<L.length:=List.length_pos_of_mem ht
theorem st_Rename(h:SpSt w p en mn sd c L S)(hE:EnvE w)(hS0:¬ S 0)(f k:ByteArray)(hf:f.size≤281474976710656)(hk:k.size≤281474976710656) :
   Calls Tryz.prog 34 #[.pointer (some ⟨p,0,none⟩),.string f,.string k] w fun e w'=>∃ L',e=.returned (.int .i64 (renE L f k))∧SpNow w p en mn sd c S L' w'∧RenTo L f k L':=by
 have HF:=Lib.hid (st_known h f hf)
 have HEN:=Lib.hid (fun L' w' (g:SpNow w p en mn sd c S L' w')=>g.env hE hS0)
 have HN:=fun W=>Lib.hid (named_any k hk W)
 have HNB:=Lib.hid (fun n W (hW:EnvE W)=>number_any n W hW)
 cases hm:tmap L f with
 | none =>
   rw [hm] at HF
   have e1:renE L f k=141:=by unfold renE;rw [hm];rfl
   have HA:=Lib.hid (show RenTo L f k L from .inl ⟨by rw [e1];decide,rfl⟩)
   rw [e1]
   clear h hE hS0 hm e1
   go_enter Tryz.func34,Tryz.ntmps34
   go_wp2_with fail
   refine wp_scope_jumps 0 (fun a' w'=>Hid (SpNow w p en mn sd c S L w')∧RenAt (.iface 193 (.int .i64 141)) a') (fun _ _=>0) rfl ?_ ?_
   · go_wp2_with fail
     refine HF.out.mono ?_
     rintro e w1 ⟨rfl,h1⟩
     have H1:=Lib.hid h1
     clear h1 HF HNB HEN HN
     simp only [Option.isSome_none,Bool.false_eq_true,if_false]
     rw [show errV 141=.iface 193 (.int .i64 141) from rfl]
     go_wp2_with fail
     go_step3
     exact ⟨rfl,H1,_,_,_,_,_,_,_,_,_,_,_,_,_,_,_,_,_,_,_,_,_,_,_,_,_,_,_,_,_,_,_,_,_,_,rfl⟩
   · rintro a' w' ⟨H1,u0,u1,u2,u3,u4,u5,u6,u7,u9,u10,u11,u12,u13,u14,u15,u16,u17,u18,u19,u20,u21,u22,u23,u24,u25,u26,u27,u28,u29,u30,u31,u32,u33,u34,rfl⟩
     have HB:=Lib.hid (HNB.out 141 w' (HEN.out _ _ H1.out))
     rw [show errV 141=.iface 193 (.int .i64 141) from rfl] at HB
     clear HF HNB HEN HN
     go_wp2_with fail
     refine HB.out.mono ?_
     rintro e w2 ⟨rfl,hb⟩
     have HB2:=Lib.hid (H1.out.later hb)
     clear hb HB
     go_wp2_with fail
     simp only [Exit.jump]
     go_ret
     exact ⟨L,rfl,HB2.out,HA.out⟩
 | some a =>
   rw [hm] at HF
   obtain ⟨t,ht,htk,rfl⟩:=tmap_some hm
   by_cases h64:64<k.size
   · have e1:renE L f k=140:=by unfold renE;rw [hm,if_pos h64];rfl
     have HA:=Lib.hid (show RenTo L f k L from .inl ⟨by rw [e1];decide,rfl⟩)
     rw [e1]
     simp only [if_pos h64] at HN
     clear h hE hS0 hm e1 h64
     rw [show errV 140=.iface 193 (.int .i64 140) from rfl] at HN
     go_enter Tryz.func34,Tryz.ntmps34
     go_wp2_with fail
     refine wp_scope_jumps 0 (fun a' w'=>Hid (SpNow w p en mn sd c S L w')∧RenAt (.iface 193 (.int .i64 140)) a') (fun _ _=>0) rfl ?_ ?_
     · go_wp2_with fail
       refine HF.out.mono ?_
       rintro e w1 ⟨rfl,h1⟩
       have H1:=Lib.hid h1
       clear h1 HF HNB HEN
       simp only [Option.isSome_some,if_true,show errV 0=.nilIface from rfl]
       go_wp2_with fail
       refine (HN _).out.mono ?_
       rintro e w2 ⟨rfl,rfl⟩
       go_wp2_with fail
       go_step3
       exact ⟨rfl,H1,_,_,_,_,_,_,_,_,_,_,_,_,_,_,_,_,_,_,_,_,_,_,_,_,_,_,_,_,_,_,_,_,_,_,rfl⟩
     · rintro a' w' ⟨H1,u0,u1,u2,u3,u4,u5,u6,u7,u9,u10,u11,u12,u13,u14,u15,u16,u17,u18,u19,u20,u21,u22,u23,u24,u25,u26,u27,u28,u29,u30,u31,u32,u33,u34,rfl⟩
       have HB:=Lib.hid (HNB.out 140 w' (HEN.out _ _ H1.out))
       rw [show errV 140=.iface 193 (.int .i64 140) from rfl] at HB
       clear HF HNB HEN HN
       go_wp2_with fail
       refine HB.out.mono ?_
       rintro e w2 ⟨rfl,hb⟩
       have HB2:=Lib.hid (H1.out.later hb)
       clear hb HB
       go_wp2_with fail
       simp only [Exit.jump]
       go_ret
       exact ⟨L,rfl,HB2.out,HA.out⟩
   · have e1:renE L f k=0:=by unfold renE;rw [hm,if_neg h64];rfl
     simp only [if_neg h64] at HN
     rw [show errV 0=.nilIface from rfl] at HN
     by_cases hfk:f=k
     · have HA:=Lib.hid (show RenTo L f k L from .inr (.inl ⟨e1,hfk,rfl⟩))
       have hbeq:(f.toList==k.toList)=true:=by rw [hfk];simp
       rw [e1]
       clear h hE hS0 hm e1 h64 hfk
       go_enter Tryz.func34,Tryz.ntmps34
       go_wp2_with fail
       refine wp_scope_jumps 0 (fun a' w'=>Hid (SpNow w p en mn sd c S L w')∧RenAt (.nilIface) a') (fun _ _=>0) rfl ?_ ?_
       · go_wp2_with fail
         refine HF.out.mono ?_
         rintro e w1 ⟨rfl,h1⟩
         have H1:=Lib.hid h1
         clear h1 HF HNB HEN
         simp only [Option.isSome_some,if_true,show errV 0=.nilIface from rfl]
         go_wp2_with fail
         refine (HN _).out.mono ?_
         rintro e w2 ⟨rfl,rfl⟩
         go_wp2_with fail
         go_step3
         exact ⟨rfl,H1,_,_,_,_,_,_,_,_,_,_,_,_,_,_,_,_,_,_,_,_,_,_,_,_,_,_,_,_,_,_,_,_,_,_,rfl⟩
       · rintro a' w' ⟨H1,u0,u1,u2,u3,u4,u5,u6,u7,u9,u10,u11,u12,u13,u14,u15,u16,u17,u18,u19,u20,u21,u22,u23,u24,u25,u26,u27,u28,u29,u30,u31,u32,u33,u34,rfl⟩
         have HB:=Lib.hid (HNB.out 0 w' (HEN.out _ _ H1.out))
         rw [show errV 0=.nilIface from rfl] at HB
         clear HF HNB HEN HN
         go_wp2_with fail
         refine HB.out.mono ?_
         rintro e w2 ⟨rfl,hb⟩
         have HB2:=Lib.hid (H1.out.later hb)
         clear hb HB
         go_wp2_with fail
         simp only [Exit.jump]
         go_ret
         exact ⟨L,rfl,HB2.out,HA.out⟩
     · have HA:=Lib.hid (show RenTo L f k (remT (remT L f) k++[t.named k]) from .inr (.inr ⟨e1,hfk,by omega,t,ht,htk,rfl⟩))
       have hbeq:(f.toList==k.toList)=false:=by
         rw [Bool.eq_false_iff]
         intro h
         exact hfk (beq_toList (by simpa using h))
       have hkeys:=h.keys
       have hlen:(remT (remT L f) k).length<500:=by
         have h1:=remT_len hkeys f
         rw [hm] at h1
         simp only [Option.isSome_some,if_true] at h1
         have h2:=(remT_sub (remT L f) k).length_le
         have h3:=h.len
         have h4:=pos_of_mem ht
         omega
       have HD:=Lib.hid (fun W S1 (g:SpSt W p en mn sd c L S1)=>st_drop g f hf)
       have HK:=Lib.hid (fun W S1 (g:SpSt W p en mn sd c (remT L f) S1) (hl:Loose W en mn c (remT L f) t)=>st_keep (S1:=fun j=>j=t.q∨t.S j) g hl (fun j hj=>hj) k (by omega) hlen)
       have hin:∀ W S1,SpSt W p en mn sd c L S1→∀ j,(j=t.q∨t.S j)→S1 j:=fun W S1 g j hj=>by
         obtain ⟨d,SD,rv,sh,_,_,_,hS⟩:=g
         exact (hS j).2 (.inr (.inr (.inr ⟨t,ht,hj⟩)))
       have HIN:=Lib.hid hin
       have HTT:=Lib.hid (And.intro ht htk)
       rw [e1]
       clear h hE hS0 hm e1 h64 hfk hlen hin ht htk
       go_enter Tryz.func34,Tryz.ntmps34
       go_wp2_with fail
       refine wp_scope_straight ?_
       go_wp2_with fail
       refine HF.out.mono ?_
       rintro e w1 ⟨rfl,S1,g1,g2,g3⟩
       have HD1:=Lib.hid (HD.out w1 S1 g1)
       have HI1:=Lib.hid (HIN.out w1 S1 g1)
       have G:=Lib.hid (And.intro g2 g3)
       clear g1 g2 g3 HF HD HIN
       simp only [Option.isSome_some,if_true,show errV 0=.nilIface from rfl]
       go_wp2_with fail
       refine (HN _).out.mono ?_
       rintro e w2 ⟨rfl,rfl⟩
       go_wp2_with fail
       refine HD1.out.mono ?_
       rintro e w3 ⟨rfl,⟨S3,y1,y2,y3⟩,yl⟩
       have HK3:=Lib.hid (HK.out w3 S3 y1 (yl t HTT.out.1 HTT.out.2))
       have Y:=Lib.hid (And.intro y2 y3)
       clear y1 y2 y3 yl HD1 HK HTT
       go_wp2_with fail
       refine HK3.out.mono ?_
       rintro e w4 ⟨rfl,S4,z1,z2,z3⟩
       have h4:SpNow w p en mn sd c S (remT (remT L f) k++[t.named k]) w4:=by
         have a1:∀ j,(S3 j∨(j=t.q∨t.S j))→S1 j∨w2.heap.size≤j:=fun j hj=>hj.elim (Y.out.1 j) fun h=>.inl (HI1.out j h)
         have a2:∀ j,(S3 j∨(j=t.q∨t.S j))→S j∨w.heap.size≤j:=fun j hj=>(a1 j hj).elim (G.out.1 j) fun h=>.inr (Nat.le_trans G.out.2.size h)
         exact ⟨S4,z1,fun j hj=>(z2 j hj).elim (a2 j) fun h=>.inr (Nat.le_trans G.out.2.size (Nat.le_trans Y.out.2.size h)),(G.out.2.trans Y.out.2 fun j hj=>G.out.1 j hj).trans z3 a2⟩
       have HB:=Lib.hid (HNB.out 0 w4 (HEN.out _ _ h4))
       rw [show errV 0=.nilIface from rfl] at HB
       have H4:=Lib.hid h4
       clear z1 z2 z3 h4 HK3 Y G HI1 HNB HEN
       go_wp2_with fail
       refine wp_label ?_
       go_wp2_with fail
       refine HB.out.mono ?_
       rintro e w5 ⟨rfl,hb⟩
       have HB2:=Lib.hid (H4.out.later hb)
       clear hb HB
       go_wp2_with fail
       simp only [Exit.noGoto]
       go_ret
       exact ⟨_,rfl,HB2.out,HA.out⟩
end
section
variable {w w' w1 w2:World} {p c sd:Nat} {S:Nat→Prop} {en mn:Int} {L L':List Th} {t:Th}
def useI(I:List It)(k:ByteArray):Int × Int:=match getI I k with
 | none=>(0,0)
 | some x=>(x.uc,x.ua)
theorem getI_at(hk:Keys (itl L))(ht:t∈L):getI (itl L) t.key=some t.toIt:=getI_of hk (List.mem_map.2 ⟨t,ht,rfl⟩)
theorem getI_no{k:ByteArray}(h:tmap L k=none):getI (itl L) k=none:=by
 have:=getI_tmap L k
 rw [h] at this
 cases hg:getI (itl L) k with
 | none=>rfl
 | some x=>rw [hg] at this;cases this
theorem st_Use(h:SpSt w p en mn sd c L S)(k:ByteArray)(hk:k.size≤281474976710656) :
   Calls Tryz.prog 27 #[.pointer (some ⟨p,0,none⟩),.string k] w fun e w'=>e=.returned (.tuple #[.agg #[.int .i64 (useI (itl L) k).1,.int .i64 (useI (itl L) k).2],.bool (tmap L k).isSome])∧SpNow w p en mn sd c S L w':=by
 have hb0:=alloc_below w (.cells #[.int .i64 0,.int .i64 0] 48)
 have HF:=Lib.hid (st_find (h.later hb0) k hk)
 have hkeys:=h.keys
 have k0:=Blk.new w 48 #[.int .i64 0,.int .i64 0]
 have hno:¬ S w.heap.size:=fun hs=>by have:=h.lt hs;omega
 have HFIN:=Lib.hid (fun w1 (g:SpNow (w.alloc (.cells #[.int .i64 0,.int .i64 0] 48)) p en mn sd c S L w1) (v1 v2:Value)=>show Blk w1 w.heap.size 48 #[.int .i64 0,.int .i64 0]∧SpNow w p en mn sd c S L ((w1.setCell ⟨w.heap.size,0,none⟩ v1).setCell ⟨w.heap.size,1,none⟩ v2) from by
   obtain ⟨S',g1,g2,g3⟩:=g
   have hn:¬ S' w.heap.size:=fun h=>(g2 _ h).elim hno fun h=>by simp at h;omega
   have hf:Far (fun j=>j=w.heap.size) w1 ((w1.setCell ⟨w.heap.size,0,none⟩ v1).setCell ⟨w.heap.size,1,none⟩ v2):=((Far.refl (fun j=>j=w.heap.size) w1).set ⟨w.heap.size,0,none⟩ _ (.inl rfl)).set ⟨w.heap.size,1,none⟩ _ (.inl rfl)
   exact ⟨g3.blk k0 hno,S',g1.far hf fun j hj e=>by subst e;exact hn hj,fun j hj=>(g2 j hj).imp_right (Nat.le_trans hb0.size),
     ((((Far.of_below (S:=S) hb0).trans g3 fun j hj=>.inl hj).set ⟨w.heap.size,0,none⟩ v1 (.inr (Nat.le_refl _))).set ⟨w.heap.size,1,none⟩ v2 (.inr (Nat.le_refl _)))⟩)
 clear h hb0 k0 hno
 cases hm:tmap L k with
 | none =>
   rw [hm] at HF
   have e1:useI (itl L) k=(0,0):=by unfold useI;rw [getI_no hm]
   rw [e1]
   clear hm e1 hkeys
   go_enter Tryz.func27,Tryz.ntmps27
   go_wp2_with fail
   refine HF.out.mono ?_
   rintro e w1 ⟨rfl,g⟩
   have hfin:=HFIN.out w1 g (.int .i64 0) (.int .i64 0)
   obtain ⟨b0,b1,b2,b3⟩:=facts2 hfin.1
   have HE:=Lib.hid hfin.2
   clear g hfin HF HFIN
   go_wp2
   exact bodyPost_ret (v:=.tuple #[.agg #[.int .i64 0,.int .i64 0],.bool false]) (by simp [results,Tryz.results27,go_sem,b0,b1]) rfl ⟨rfl,HE.out⟩
 | some a =>
   rw [hm] at HF
   obtain ⟨t,ht,rfl,rfl⟩:=tmap_some hm
   have e1:useI (itl L) t.key=(t.uc,t.ua):=by unfold useI;rw [getI_at hkeys ht]
   rw [e1]
   clear hm e1 hkeys
   go_enter Tryz.func27,Tryz.ntmps27
   go_wp2_with fail
   refine HF.out.mono ?_
   rintro e w1 ⟨rfl,g⟩
   have hfin:=HFIN.out w1 g (.int .i64 t.uc) (.int .i64 t.ua)
   have hq:=g.th ht
   have c2:=hq.cell 2
   have c3:=hq.cell 3
   simp [thC] at c2 c3
   obtain ⟨b0,b1,b2,b3⟩:=facts2 hfin.1
   have HE:=Lib.hid hfin.2
   clear g hfin hq HF HFIN ht
   go_wp2
   exact bodyPost_ret (v:=.tuple #[.agg #[.int .i64 t.uc,.int .i64 t.ua],.bool true]) (by simp [results,Tryz.results27,go_sem,b0,b1]) rfl ⟨rfl,HE.out⟩
def emptyI(I:List It)(k:ByteArray):Bool:=match getI I k with
 | none=>false
 | some x=>x.E.isEmpty
theorem st_Tidy(h:SpSt w p en mn sd c L S)(k:ByteArray)(hk:k.size≤281474976710656) :
   Calls Tryz.prog 39 #[.pointer (some ⟨p,0,none⟩),.string k] w fun e w'=>e=.returned (.bool (emptyI (itl L) k))∧SpNow w p en mn sd c S (if emptyI (itl L) k then remT L k else L) w':=by
 have HF:=Lib.hid (st_find h k hk)
 have HD:=Lib.hid (fun W S1 (g:SpSt W p en mn sd c L S1)=>st_Delete g k hk)
 have hkeys:=h.keys
 clear h
 cases hm:tmap L k with
 | none =>
   rw [hm] at HF
   have e1:emptyI (itl L) k=false:=by unfold emptyI;rw [getI_no hm]
   rw [e1]
   clear hm HD hkeys e1
   go_enter Tryz.func39,Tryz.ntmps39
   go_wp2_with fail
   refine HF.out.mono ?_
   rintro e w1 ⟨rfl,h1⟩
   have H1:=Lib.hid h1
   clear h1 HF
   go_wp2
   go_ret
   exact ⟨rfl,H1.out⟩
 | some a =>
   rw [hm] at HF HD
   obtain ⟨t,ht,rfl,rfl⟩:=tmap_some hm
   have e1:emptyI (itl L) t.key=t.E.isEmpty:=by unfold emptyI;rw [getI_at hkeys ht]
   rw [e1]
   clear hm hkeys e1
   cases hemp:t.E with
   | nil =>
     go_enter Tryz.func39,Tryz.ntmps39
     go_wp2_with fail
     refine HF.out.mono ?_
     rintro e w1 ⟨rfl,S1,g1,g2,g3⟩
     have hq:=(g1.th ht).1.cell 0
     simp [thC] at hq
     have HL:=Lib.hid (set_len (g1.th ht).2)
     rw [hemp] at HL
     have HD1:=Lib.hid (fun W (hb:Below w1.heap.size w1 W)=>HD.out W S1 (g1.later hb))
     have G:=Lib.hid (And.intro g2 g3)
     clear g1 g2 g3 HF HD hemp ht
     go_wp2_with fail
     refine HL.out.mono ?_
     rintro e w2 ⟨rfl,hb⟩
     have HD2:=Lib.hid (HD1.out w2 hb)
     have HB:=Lib.hid hb
     clear hb HD1 HL
     go_wp2_with fail
     refine HD2.out.mono ?_
     rintro e w3 ⟨rfl,S3,y1,y2,y3⟩
     have HE:=Lib.hid (show SpNow w p en mn sd c S (remT L t.key) w3 from ⟨S3,y1,fun j hj=>(y2 j hj).elim (fun h=>G.out.1 j h) fun h=>.inr (Nat.le_trans G.out.2.size (Nat.le_trans HB.out.size h)),(G.out.2.then_below HB.out).trans y3 fun j hj=>G.out.1 j hj⟩)
     clear y1 y2 y3 HD2 HB G
     go_wp2
     go_ret
     exact ⟨rfl,HE.out⟩
   | cons x r =>
     go_enter Tryz.func39,Tryz.ntmps39
     go_wp2_with fail
     refine HF.out.mono ?_
     rintro e w1 ⟨rfl,S1,g1,g2,g3⟩
     have hq:=(g1.th ht).1.cell 0
     simp [thC] at hq
     have HL:=Lib.hid (set_len (g1.th ht).2)
     rw [hemp] at HL
     have G:=Lib.hid (show SpNow w p en mn sd c S L w1 from ⟨S1,g1,g2,g3⟩)
     have hne:(((x :: r).length:Int)==0)=false:=by simp;omega
     generalize (x :: r).length=n at *
     clear g1 g2 g3 HF HD hemp ht
     go_wp2_with fail
     refine HL.out.mono ?_
     rintro e w2 ⟨rfl,hb⟩
     have HB:=Lib.hid (G.out.later hb)
     clear hb HL
     go_wp2
     go_ret
     exact ⟨rfl,HB.out⟩
def PutTo(en mn:Int)(L:List Th)(k:ByteArray)(l:List En)(now:Int)(L':List Th):Prop :=
 (madeE L k now≠0∧L'=L)∨(madeE L k now=0∧k.size≤64∧∃ L1 t t',t∈L1∧t.key=k∧((t∈L∧L1=L)∨(tmap L k=none∧0≤now∧L.length<500∧L1=L++[t]∧t.toIt=⟨k,5,now,false,[]⟩))∧t'.q=t.q∧t'.toIt=t.toIt.with (filled en mn l).1 (filled en mn l).2∧L'=repT L1 t')
theorem st_Put(h:SpSt w p en mn sd c L S)(hE:EnvE w)(hS0:¬ S 0)(hc:c≤10000)(k:ByteArray)(hk:k.size≤281474976710656){n0:Nat}{v:Value}{l:List En}(hl:l.length≤300)(hlc:l.length≤c)(hs:∀ e∈l,Pk.scoreOk e.2)(hr:Row w n0 v l)(hrS:∀ W,Far S w W→Row W n0 v l)(now:Int)(hnow:Lf.I64 now) :
   Calls Tryz.prog 36 #[.pointer (some ⟨p,0,none⟩),.string k,v,.int .i64 now] w fun e w'=>∃ L',e=.returned (.int .i64 (madeE L k now))∧SpNow w p en mn sd c S L' w'∧PutTo en mn L k l now L':=by
 have HF:=Lib.hid (st_made h hc k hk now hnow)
 have HEN:=Lib.hid (fun L' w' (g:SpNow w p en mn sd c S L' w')=>g.env hE hS0)
 have HNB:=Lib.hid (fun n W (hW:EnvE W)=>number_any n W hW)
 have HRS:=Lib.hid hrS
 clear h hE hS0 hrS
 obtain ⟨a,cap,rfl⟩:=hr.form
 clear hr
 by_cases he:madeE L k now=0
 · rw [he] at HF
   rw [show errV 0=.nilIface from rfl] at HF
   have HM:=Lib.hid he
   rw [he]
   clear he
   go_enter Tryz.func36,Tryz.ntmps36
   go_wp2_with fail
   refine HF.out.mono ?_
   rintro e w1 ⟨a1,L1,rfl,⟨S1,g1,g2,g3⟩,hm⟩
   rcases hm with ⟨hm,_⟩|⟨_,hk64,t,ht,htk,rfl,hor⟩
   · exact absurd HM.out hm
   have HSET:=Lib.hid (show Calls Tryz.prog 79 #[.pointer (some ⟨p,0,none⟩),.slice a l.length cap] w1 fun e w'=>∃ s S,e=.returned (.pointer (some ⟨s,0,none⟩))∧SetIs w' s S (filled en mn l).1 (clampL en 200) (clampL mn 64) l.length (filled en mn l).2∧(∀ k,S k→w1.heap.size≤k)∧Below w1.heap.size w1 w' from by
     obtain ⟨d,SD,rv,sh,g,_⟩:=g1
     exact set_any g.blk g.sd hl hs (HRS.out w1 g3))
   have HFIN:=Lib.hid (fun w2 s T (hs2:SetIs w2 s T (filled en mn l).1 (clampL en 200) (clampL mn 64) l.length (filled en mn l).2) (hT:∀ k,T k→w1.heap.size≤k) (hb:Below w1.heap.size w1 w2) =>
     show Blk w2 t.q tyTh (thC t.s t.toIt)∧∃ L',SpNow w p en mn sd c S L' (w2.setCell ⟨t.q,0,none⟩ (.pointer (some ⟨s,0,none⟩)))∧PutTo en mn L k l now L' from by
       have hq:=(g1.th ht).1.later hb
       have hut:Lf.I64U (t.uc,t.ua):=by obtain ⟨d,SD,rv,sh,g,_⟩:=g1;exact g.use t ht
       have hf:Far (fun j=>j=t.q) w1 (w2.setCell ⟨t.q,0,none⟩ (.pointer (some ⟨s,0,none⟩))):=(Far.of_below (S:=fun j=>j=t.q) hb).set ⟨t.q,0,none⟩ _ (.inl rfl)
       have hf2:Far (fun j=>j=t.q) w2 (w2.setCell ⟨t.q,0,none⟩ (.pointer (some ⟨s,0,none⟩))):=(Far.refl (fun j=>j=t.q) w2).set ⟨t.q,0,none⟩ _ (.inl rfl)
       obtain ⟨S3,y1,y2,y3⟩:=g1.rep (t':=⟨t.toIt.with (filled en mn l).1 (filled en mn l).2,t.q,s,T⟩) ht rfl rfl hf (fun j hj=>.inl hj) (by
         have:=hq.set 0 (.pointer (some ⟨s,0,none⟩))
         simpa [thC,It.with] using this) ((hs2.far hf2 fun j hj e=>by subst e;exact set_no hs2 hq (by decide) hj).more hlc hc) (fun j hj=>.inr (hT j hj)) hut
       exact ⟨hq,_,⟨S3,y1,fun j hj=>(y2 j hj).elim (fun h=>g2 j h) fun h=>.inr (Nat.le_trans g3.size h),g3.trans y3 fun j hj=>g2 j hj⟩,.inr ⟨HM.out,hk64,L1,t,⟨t.toIt.with (filled en mn l).1 (filled en mn l).2,t.q,s,T⟩,ht,htk,hor,rfl,rfl,rfl⟩⟩)
   clear g1 g2 g3 HF HRS ht htk hor hk64 HM
   go_wp2_with fail
   refine HSET.out.mono ?_
   rintro e w2 ⟨s,T,rfl,hs2,hT,hb⟩
   obtain ⟨hq,L',h3,h4⟩:=HFIN.out w2 s T hs2 hT hb
   have c0:=hq.cell 0
   have f0:=hq.free 0
   simp [thC] at c0
   have HB:=Lib.hid (HNB.out 0 _ (HEN.out _ _ h3))
   rw [show errV 0=.nilIface from rfl] at HB
   have H3:=Lib.hid h3
   have H4:=Lib.hid h4
   clear hq h3 h4 hs2 hT hb HSET HFIN HNB HEN
   go_wp2_with fail
   refine HB.out.mono ?_
   rintro e w4 ⟨rfl,hb⟩
   have HB2:=Lib.hid (H3.out.later hb)
   clear hb HB
   go_wp2_with fail
   go_ret
   exact ⟨_,rfl,HB2.out,H4.out⟩
 · rw [errV_no he] at HF
   have HM:=Lib.hid he
   have HN1:=Lib.hid (fun W (hW:EnvE W)=>number_fault (madeE L k now) W hW)
   clear he
   unfold faultV at HF HN1
   generalize hg:madeE L k now=n at HF HN1 ⊢
   have HG:=Lib.hid hg
   clear hg
   go_enter Tryz.func36,Tryz.ntmps36
   go_wp2_with fail
   refine HF.out.mono ?_
   rintro e w1 ⟨a1,L',rfl,h1,hm⟩
   obtain ⟨rfl,rfl⟩:a1=none∧L'=L:=hm.elim (fun h=>h.2) fun h=>absurd h.1 HM.out
   have hen:=HEN.out _ _ h1
   have HB:=Lib.hid (HN1.out w1 hen)
   have H1:=Lib.hid h1
   clear h1 HF hen HNB HEN HN1 hm
   go_wp2_with fail
   refine HB.out.mono ?_
   rintro e w2 ⟨rfl,hb⟩
   have HB2:=Lib.hid (H1.out.later hb)
   clear hb HB
   go_wp2_with fail
   go_ret
   exact ⟨L',rfl,HB2.out,.inl ⟨HM.out,rfl⟩⟩
end
end Go.Proofs.YtlckdfoflimahaaGreatDoor
