/- Texts of one kind in one: StPdq, StSlice. -/
import Derived.Test.YtcklcmafohlflaaGreatDoorQDtSet10
import Derived.Test.YtcklcmafohlflaaGreatDoorQStOrd30
set_option maxRecDepth 200000
set_option maxHeartbeats 8000000
namespace Go.Proofs.YtcklcmafohlflaaGreatDoor.St
open Zc
open Go.RowKit Go.Shelf Go.Sort Go.Lib
attribute [local go_sem] Oper.semAt_some
section
variable {recv:Value} {sf:Nat} {sb:Array Value} {blk off size:Nat}
theorem Ji{w1 W W':World}{d d':Array Kt}(hblk:blk<w1.heap.size)(h:SW encStr w1 blk off d W)(hs:d'.size=d.size)(h1:∃ n os,W'=sortWorld encStr W blk off n d' os):SW encStr w1 blk off d' W':=by
 obtain ⟨n,os,rfl⟩:=h1;exact h.on hblk n d' os hs
theorem x9e(hl:Pg recv blk off size)(hsw:SwapSwaps Tryz.prog sf sb encStr blk off size)(hsz:size<2305843009213693952) :
 ∀ (N a b limit:Nat) (d:Array Kt) (w:World),b-a<N->d.size=size->Holds encStr w blk off d->blk<w.heap.size->a<=b->b<=size->limit<4611686018427387904->Go.Sort.Below ltStr a b d ->
 Calls Tryz.prog 77 #[.agg #[Xj recv,Xx sf sb],.int .i64 a,.int .i64 b,.int .i64 limit] w fun e w'=>e=.returned (.tuple #[])/\SW encStr w blk off (pdq ltStr d a b limit true true) w':=by
 have LR:=jY (fun (D:Array Kt) (hs:D.size=size)=>show Pg recv blk off D.size by rw [hs];exact hl);have SR:=jY (fun (D:Array Kt) (hs:D.size=size)=>show SwapSwaps Tryz.prog sf sb encStr blk off D.size by rw [hs];exact hsw);have HL:=jY hl;clear hl hsw;intro N
 induction N with
 | zero=>intro _ _ _ _ _ h;exact absurd h (Nat.not_lt_zero _)
 | succ N ih =>
   intro a b limit d w hN hsd hH hblk hab hb hlimit hBel0;have IH:=jY ih;clear ih;have HH:=jY (Y7 (Yn recv sf sb) hblk hH);have HB:=jY (Vh recv sf sb w);have HFIN:=jY (fun W dk (h:SW encStr (w.alloc (Yn recv sf sb)) blk off dk W)=>O2 _ hblk h);have HS0:=jY (SW.start (Y7 (Yn recv sf sb) hblk hH));have hwz:w.heap.size<(w.alloc (Yn recv sf sb)).heap.size:=by simp
   have hblk1:blk<(w.alloc (Yn recv sf sb)).heap.size:=by simp;omega
   clear hH;unfold Yn Xj Xx at *
   go_enter Tryz.func77,Tryz.ntmps77
   go_wp2;generalize hw1:w.alloc (Obj.cells #[.func (.func 47) #[recv] #[],.func (.func sf) #[] sb] 145)=w1 at *
   go_loopw [1,2,3,8,9] (fun s1 s2 s3 s8 s9 wr=>∃ (a' b' lim:Nat) (wb wp:Bool) (dk:Array Kt),s1=.int .i64 a'/\s2=.int .i64 b'/\s3=.int .i64 lim/\s8=.bool wb/\s9=.bool wp/\a'<=b'/\b'<=size/\b'-a'<=b-a/\lim<=limit/\dk.size=size/\Go.Sort.Below ltStr a' b' dk/\SW encStr w1 blk off dk wr/\pdq ltStr dk a' b' lim wb wp=pdq ltStr d a b limit true true) (fun s1 s2 _ _ _ _=>(intOf s2-intOf s1).toNat)
   case atStart=>exact ⟨a,b,limit,true,true,d,rfl,rfl,rfl,rfl,rfl,hab,hb,lAd _,lAd _,hsd,hBel0,HS0.out,rfl⟩
   case round =>
    obtain ⟨a',b',lim,wb,wp,dk,rfl,rfl,rfl,rfl,rfl,hab',hb',hk,hlim,hds,hBel,hwr,heq⟩:=hrel;have A:=jY heq;have X:=jY hwr;have CEL:=jY (fun (D:Array Kt) (V:World) (h:SW encStr w1 blk off D V)=>And.intro ((Z7 (o:=0) h hwz (by omega)).trans HB.out.1) ((Z7 (o:=1) h hwz (by omega)).trans HB.out.2));have HOL:=jY (fun (D:Array Kt) (V:World) (hs:D.size=size) (h:SW encStr w1 blk off D V)=>And.intro (h.holds hblk1 HH.out (hs.trans hsd.symm)) (h.lt hblk1));obtain ⟨c0,c1⟩:=CEL.out _ _ hwr;clear heq hwr HS0 hsd
    by_cases h12:b'-a'<=12
    ·have h12z:(b':Int)-(a':Int)<=12:=by omega
     have hc:=jY (x8g (recv:=recv) (sf:=sf) (sb:=sb) (a:=a') (b:=b') (w:=wr) (LR.out dk hds) (SR.out dk hds) (HOL.out _ _ hds X.out).1 (HOL.out _ _ hds X.out).2 hab' (by omega) (by omega));go_wp2_with fail;refine hc.out.mono ?_;rintro e w2 ⟨rfl,hw2⟩;have hf:=HFIN.out _ _ (Ji hblk1 X.out (insertionSort_holds swo_ltStr dk a' b' hab' (by omega)).1.1 hw2);go_wp2_with fail
     (try simp only [Exit.inBlock,Exit.then]);refine bodyPost_ret (results_none rfl _ _ _) rfl ?_
     exact ⟨rfl,by rw [<- A.out,pdq_small h12];exact hf⟩
    ·have h12z:¬ ((b':Int)-(a':Int)<=12):=by omega
     by_cases hl0:lim=0
     ·subst hl0;have hc:=jY (x2j (recv:=recv) (sf:=sf) (sb:=sb) (a:=a') (b:=b') (w:=wr) (LR.out dk hds) (SR.out dk hds) (HOL.out _ _ hds X.out).1 (HOL.out _ _ hds X.out).2 (by omega) (by omega) (by omega));go_wp2_with fail;refine hc.out.mono ?_;rintro e w2 ⟨rfl,hw2⟩;have hf:=HFIN.out _ _ (Ji hblk1 X.out (heapSort_holds swo_ltStr dk a' b' hab' (by omega)).1.1 hw2);go_wp2_with fail
      (try simp only [Exit.inBlock,Exit.then]);refine bodyPost_ret (results_none rfl _ _ _) rfl ?_
      exact ⟨rfl,by rw [<- A.out,pdq_heap h12 rfl];exact hf⟩
     ·have hl0z:¬ ((lim:Int)=0):=by omega
      obtain ⟨s1,B1,hc1,s2,B2,hpv,s3,B3⟩:=rd_facts (lt:=ltStr) (limit:=lim) (wb:=wb) (wp:=wp) swo_ltStr partialInsertionSort_holds reverseRange_holds (show a'<b' by omega) (show b'<=dk.size by omega) hBel
      go_upto_if 35 with fail
      go_cut [3] from 19 (fun s3 wc=>s3=.int .i64 (rd ltStr dk a' b' lim wb wp).lim/\SW encStr w1 blk off (rd ltStr dk a' b' lim wb wp).d1 wc)
      case first =>
       cases wb
       ·have hc:=jY (Any.breakPatterns_func_w (P:=Tryz.prog) (ρ:=Tryz.laysGg6_ren) { Tryz.laysGg6 with } encStr (.func 47) #[recv] #[] sf sb blk off a' b' dk wr (SR.out dk hds) (HOL.out _ _ hds X.out).1 (HOL.out _ _ hds X.out).2 hab' (by omega) (by omega));go_wp2_with fail;refine hc.out.mono ?_;rintro e w2 ⟨rfl,hw2⟩;go_wp2_with fail
        go_meet
        case rel =>
         refine ⟨?_,Ji hblk1 X.out s1 hw2⟩;show Value.int .i64 ((lim:Int)-1)=Value.int .i64 ((lim-1:Nat):Int)
         congr 1
         omega
       ·go_wp2_with fail
        go_meet
        case rel=>exact ⟨rfl,X.out⟩
      case rest =>
       obtain ⟨rfl,hX1⟩:=hcut;clear c0 c1 X;have X:=jY hX1;obtain ⟨c0,c1⟩:=CEL.out _ _ hX1;clear hX1
       have hcp:Calls Tryz.prog 117 #[.agg #[Xj recv,Xx sf sb],.int .i64 a',.int .i64 b'] wc fun e w'=>e=.returned (.tuple #[.int .i64 (rd ltStr dk a' b' lim wb wp).c.1,.int .i64 (hintCode (rd ltStr dk a' b' lim wb wp).c.2)])/\∃ n os,w'=sortWorld encStr wc blk off n (rd ltStr dk a' b' lim wb wp).d1 os :=
        y8o (LR.out _ (s1.trans hds)) (HOL.out _ _ (s1.trans hds) X.out).1 (HOL.out _ _ (s1.trans hds) X.out).2 (by omega) (lAe hb' (Nat.le_of_eq (s1.trans hds).symm)) (Nat.lt_of_le_of_lt (Nat.le_of_eq (s1.trans hds)) (by omega))
       have HCP:=jY hcp;clear hcp
       go_upto_if 50 with (go_at_call 117;refine HCP.out.mono ?_;rintro e w2 ⟨rfl,hw2⟩)
       have hX2:=Ji hblk1 X.out rfl hw2;clear c0 c1 X HCP hw2;have X:=jY hX2;obtain ⟨c0,c1⟩:=CEL.out _ _ hX2;clear hX2
       go_cut [11,12] from 19 (fun s11 s12 wc=>s11=.int .i64 (rd ltStr dk a' b' lim wb wp).pivot/\s12=.int .i64 (hintCode (rd ltStr dk a' b' lim wb wp).hint)/\SW encStr w1 blk off (rd ltStr dk a' b' lim wb wp).d2 wc)
       case first =>
        by_cases hh:(rd ltStr dk a' b' lim wb wp).c.2=.decreasing
        ·have hcode:hintCode (rd ltStr dk a' b' lim wb wp).c.2=2:=by rw [hh];rfl
         obtain ⟨e2,epv,eht⟩:=rd_dec hh;have hc:=jY (Any.reverseRange_func_w (P:=Tryz.prog) (ρ:=Tryz.laysGg6_ren) { Tryz.laysGg6 with } encStr (.func 47) #[recv] #[] sf sb blk off a' b' (rd ltStr dk a' b' lim wb wp).d1 w2 (SR.out _ (s1.trans hds)) (HOL.out _ _ (s1.trans hds) X.out).1 (HOL.out _ _ (s1.trans hds) X.out).2 hab' (by omega) (by omega));go_wp2_with fail;refine hc.out.mono ?_;rintro e w3 ⟨rfl,hw3⟩;go_wp2_with fail
         go_meet
         case rel =>
          refine ⟨?_,by rw [eht];rfl,by rw [e2];exact Ji hblk1 X.out (by rw [<- e2,s2,s1]) hw3⟩;rw [epv]
          congr 1
          omega
        ·have hcode:¬ (hintCode (rd ltStr dk a' b' lim wb wp).c.2=2):=fun h=>hh (hintCode_two h);obtain ⟨e2,epv,eht⟩:=rd_not hh;go_wp2_with fail
         go_meet
         case rel=>exact ⟨by rw [epv],by rw [eht],by rw [e2];exact X.out⟩
       case rest =>
        obtain ⟨rfl,rfl,hX3⟩:=hcut;clear c0 c1 X;have X:=jY hX3;obtain ⟨c0,c1⟩:=CEL.out _ _ hX3;clear hX3
        go_upto_region 16 with fail
        go_cut [12,68] from 19 (fun s12 s68 wx=>s12=.int .i64 (hintCode (rd ltStr dk a' b' lim wb wp).hint)/\s68=.bool (wb&&wp&&decide ((rd ltStr dk a' b' lim wb wp).hint=.increasing))/\wx=wc)
        case first =>
         cases wb <;> cases wp <;> cases hh3:(rd ltStr dk a' b' lim _ _).hint <;>
          (have hcode3:=congrArg hintCode hh3
           simp only [hintCode] at hcode3;go_wp2_with fail
           go_meet
           exact ⟨by simp [hh3,hintCode],by simp [hh3,hintCode],rfl⟩)
        case rest =>
         obtain ⟨rfl,rfl,rfl⟩:=hcut
         go_upto_if 68 with fail
         go_cut [] from 19 (fun wx=>(rd ltStr dk a' b' lim wb wp).pi.2=false/\SW encStr w1 blk off (rd ltStr dk a' b' lim wb wp).pi.1 wx)
         case first =>
          cases h68:(wb&&wp&&decide ((rd ltStr dk a' b' lim wb wp).hint=.increasing))
          ·have epi:=rd_pi_no h68;go_wp2_with fail
           go_meet
           case rel=>exact ⟨by rw [epi],by rw [epi];exact X.out⟩
          ·have epi:=rd_pi_yes h68;have hc0:=x4u (recv:=recv) (sf:=sf) (sb:=sb) (a:=a') (b:=b') (w:=wc) (LR.out _ (s2.trans hds)) (SR.out _ (s2.trans hds)) (HOL.out _ _ (s2.trans hds) X.out).1 (HOL.out _ _ (s2.trans hds) X.out).2 (by omega) (by omega) (by omega);rw [<- epi] at hc0;have hc:=jY hc0;clear hc0 epi
           cases hp2:(rd ltStr dk a' b' lim wb wp).pi.2
           ·rw [hp2] at hc;go_wp2_with fail;refine hc.out.mono ?_;rintro e w4 ⟨rfl,hw4⟩;go_wp2_with fail
            go_meet
            exact ⟨hp2,Ji hblk1 X.out (by rw [s3,s2]) hw4⟩
           ·rw [hp2] at hc;go_wp2_with fail;refine hc.out.mono ?_;rintro e w4 ⟨rfl,hw4⟩;have hf:=HFIN.out _ _ (Ji hblk1 X.out (by rw [s3,s2]) hw4);go_wp2_with fail
            (try simp only [Exit.inBlock,Exit.then]);refine bodyPost_ret (results_none rfl _ _ _) rfl ?_
            exact ⟨rfl,by rw [<- A.out,pdq_done h12 hl0 hp2];exact hf⟩
         case rest =>
          obtain ⟨hp2,hX5⟩:=hcut;clear c0 c1 X;have X:=jY hX5;obtain ⟨c0,c1⟩:=CEL.out _ _ hX5;clear hX5
          go_upto_region 18 with fail
          go_cut [83] from 19 (fun s83 wx=>s83=.bool (decide (a' > 0)&&!ltStr (rd ltStr dk a' b' lim wb wp).pi.1[a'-1]! (rd ltStr dk a' b' lim wb wp).pi.1[(rd ltStr dk a' b' lim wb wp).pivot]!)/\SW encStr w1 blk off (rd ltStr dk a' b' lim wb wp).pi.1 wx)
          case first =>
           rcases Nat.eq_zero_or_pos a' with ha0|ha0
           ·have ha0z:decide ((a':Int) > 0)=false:=decide_eq_false (by omega);go_wp2_with fail
            go_meet
            case rel=>exact ⟨by simp [ha0],X.out⟩
           ·have ha0z:(a':Int) > 0:=by omega
            have hlr:=HL.out wc _ (HOL.out _ _ (s3.trans hds) X.out).1 (s3.trans hds) (a'-1) (rd ltStr dk a' b' lim wb wp).pivot (by omega) (by omega);rw [show ((a'-1:Nat):Int)=(a':Int)-1 by omega] at hlr;have HLR:=jY hlr;clear hlr
            cases hlv:ltStr (rd ltStr dk a' b' lim wb wp).pi.1[a'-1]! (rd ltStr dk a' b' lim wb wp).pi.1[(rd ltStr dk a' b' lim wb wp).pivot]! <;>
             (rw [hlv] at HLR
              go_wp2_with fail;refine HLR.out.mono ?_;rintro e w' ⟨rfl,nq,rfl⟩;have hx:=X.out.drewN nq;go_wp2_with fail
              go_meet
              exact ⟨by simp [ha0,hlv],hx⟩)
          case rest =>
           obtain ⟨rfl,hX6⟩:=hcut;clear c0 c1 X;have X:=jY hX6;obtain ⟨c0,c1⟩:=CEL.out _ _ hX6;clear hX6
           cases h87:(decide (a' > 0)&&!ltStr (rd ltStr dk a' b' lim wb wp).pi.1[a'-1]! (rd ltStr dk a' b' lim wb wp).pi.1[(rd ltStr dk a' b' lim wb wp).pivot]!)
           ·obtain ⟨mid,ap,d4,hx⟩:∃ mid ap d4,partition ltStr (rd ltStr dk a' b' lim wb wp).pi.1 a' b' (rd ltStr dk a' b' lim wb wp).pivot=(mid,ap,d4):=⟨_,_,_,rfl⟩;obtain ⟨r1,r2,r3,r4,r5,r6,r7⟩:=round_part swo_ltStr (partition_holds ltStr) hpv.1 hpv.2 (show b'<=(rd ltStr dk a' b' lim wb wp).pi.1.size by omega) B3 hx;have hc0:=M0 (recv:=recv) (sf:=sf) (sb:=sb) (a:=a') (b:=b') (pv:=(rd ltStr dk a' b' lim wb wp).pivot) (w:=wc) (LR.out _ (s3.trans hds)) (SR.out _ (s3.trans hds)) (HOL.out _ _ (s3.trans hds) X.out).1 (HOL.out _ _ (s3.trans hds) X.out).2 hpv.1 hpv.2 (by omega) (by omega);rw [hx] at hc0;have hc:=jY hc0;have HXX:=jY hx;clear hc0 hx
            go_upto_if 109 with (go_at_call 121;refine hc.out.mono ?_;rintro e w7 ⟨rfl,hw7⟩)
            have hs4:d4.size=size:=r3.trans (s3.trans hds);have hX7:=Ji hblk1 X.out r3 hw7;clear c0 c1 X hc hw7;have X:=jY hX7;obtain ⟨c0,c1⟩:=CEL.out _ _ hX7;clear hX7
            by_cases h4:mid-a'<b'-mid
            ·have h4z:(mid:Int)-(a':Int)<(b':Int)-(mid:Int):=by omega
             have hih:=jY (IH.out a' mid (rd ltStr dk a' b' lim wb wp).lim d4 w7 (by omega) hs4 (HOL.out _ _ hs4 X.out).1 (HOL.out _ _ hs4 X.out).2 (by omega) (by omega) (Nat.lt_of_le_of_lt (lAe rd_lim_le hlim) hlimit) r4);obtain ⟨pL,sL⟩:=pdq_sorts ltStr swo_ltStr d4 a' mid (rd ltStr dk a' b' lim wb wp).lim true true (by omega) (by omega) r4;go_wp2_with fail;refine hih.out.mono ?_;rintro e w8 ⟨rfl,hw8⟩;go_wp2_with fail
             go_roundw
             case measure=>simp [intOf];omega
             case rel =>
              refine ⟨mid+1,b',(rd ltStr dk a' b' lim wb wp).lim,decide (mid-a' >= (b'-a') / 8),ap,pdq ltStr d4 a' mid (rd ltStr dk a' b' lim wb wp).lim true true,by simp,rfl,rfl,?_,rfl,by omega,by omega,by omega,lAe rd_lim_le hlim,by rw [pL.1,hs4],(r6 _ pL sL).1,Ji hblk1 X.out pL.1 hw8,?_⟩
              ·exact congrArg Value.bool (eighth (by omega) (by omega))
              ·rw [<- A.out,pdq_left h12 hl0 hp2 h87 (by rw [HXX.out];exact ⟨r1,r2⟩) (by rw [HXX.out];exact h4),HXX.out]
            ·have h4z:¬ ((mid:Int)-(a':Int)<(b':Int)-(mid:Int)):=by omega
             have hih0:=IH.out (mid+1) b' (rd ltStr dk a' b' lim wb wp).lim d4 w7 (by omega) hs4 (HOL.out _ _ hs4 X.out).1 (HOL.out _ _ hs4 X.out).2 (by omega) (by omega) (Nat.lt_of_le_of_lt (lAe rd_lim_le hlim) hlimit) r5;rw [show ((mid+1:Nat):Int)=(mid:Int)+1 by omega] at hih0;have hih:=jY hih0;clear hih0;obtain ⟨pL,sL⟩:=pdq_sorts ltStr swo_ltStr d4 (mid+1) b' (rd ltStr dk a' b' lim wb wp).lim true true (by omega) (by omega) r5;go_wp2_with fail;refine hih.out.mono ?_;rintro e w8 ⟨rfl,hw8⟩;go_wp2_with fail
             go_roundw
             case measure=>simp [intOf];omega
             case rel =>
              refine ⟨a',mid,(rd ltStr dk a' b' lim wb wp).lim,decide (b'-mid >= (b'-a') / 8),ap,pdq ltStr d4 (mid+1) b' (rd ltStr dk a' b' lim wb wp).lim true true,rfl,rfl,rfl,?_,rfl,by omega,by omega,by omega,lAe rd_lim_le hlim,by rw [pL.1,hs4],(r7 _ pL sL).1,Ji hblk1 X.out pL.1 hw8,?_⟩
              ·exact congrArg Value.bool (eighth (by omega) (by omega))
              ·rw [<- A.out,pdq_right h12 hl0 hp2 h87 (by rw [HXX.out];exact ⟨r1,r2⟩) (by rw [HXX.out];exact h4),HXX.out]
           ·have h87':=h87;simp only [Bool.and_eq_true,decide_eq_true_eq,Bool.not_eq_true'] at h87';obtain ⟨mid,d4,hx⟩:∃ mid d4,partitionEqual ltStr (rd ltStr dk a' b' lim wb wp).pi.1 a' b' (rd ltStr dk a' b' lim wb wp).pivot=(mid,d4):=⟨_,_,rfl⟩;obtain ⟨r1,r2,r3,r4,_⟩:=round_eq swo_ltStr (partitionEqual_holds ltStr) h87'.1 hpv.1 hpv.2 (show b'<=(rd ltStr dk a' b' lim wb wp).pi.1.size by omega) B3 h87'.2 hx;have hc0:=y8n (recv:=recv) (sf:=sf) (sb:=sb) (a:=a') (b:=b') (pv:=(rd ltStr dk a' b' lim wb wp).pivot) (w:=wc) (LR.out _ (s3.trans hds)) (SR.out _ (s3.trans hds)) (HOL.out _ _ (s3.trans hds) X.out).1 (HOL.out _ _ (s3.trans hds) X.out).2 hpv.1 hpv.2 (by omega) (by omega);rw [hx] at hc0;have hc:=jY hc0;have HXX:=jY hx;clear hc0 hx h87';go_wp2_with fail;refine hc.out.mono ?_;rintro e w7 ⟨rfl,hw7⟩;have hX7:=Ji hblk1 X.out r3 hw7;go_wp2_with fail
            go_roundw
            case measure=>simp [intOf];omega
            case rel =>
             exact ⟨mid,b',(rd ltStr dk a' b' lim wb wp).lim,wb,wp,d4,rfl,rfl,rfl,rfl,rfl,r2,hb',by omega,lAe rd_lim_le hlim,by rw [r3,s3,hds],r4,hX7,by rw [<- A.out,pdq_eq h12 hl0 hp2 h87 (by rw [HXX.out];exact ⟨r1,r2⟩),HXX.out]⟩
end
noncomputable def v4h:TypeInfo:=(Tryz.prog.info? 40).get (by kernel_rfl)
noncomputable def z9w:TypeInfo:=(Tryz.prog.info? 9).get (by kernel_rfl)
theorem v2u(n:Nat)(h2:2<=n):Lib.swapperK n z9w 24=4:=by
 have a:z9w.hasPointers=true:=by kernel_rfl
 have b:z9w.bytes=16:=by kernel_rfl
 have c:(n==0)=false:=by simp;omega
 have d:(n==1)=false:=by simp;omega
 simp [Lib.swapperK,a,b,c,d]
theorem v4g (n : Nat) : ∃ f, Tryz.prog.funcs.findIdx? (·.name == "internal/reflectlite" ++ ".Swapper$" ++ toString (Lib.swapperK n z9w 24)) = some f := by
 by_cases h0:n=0
 ·subst h0;exact ⟨103,by kernel_rfl⟩
 by_cases h1:n=1
 ·subst h1;exact ⟨104,by kernel_rfl⟩
 rw [v2u n (by omega)];exact ⟨106,by kernel_rfl⟩
theorem x5w(d:Array Kt)(lim:Nat):pdq ltStr d 0 d.size lim true true=(d.toList.mergeSort fun x y=>decide (x<=y)).toArray:=by
 obtain ⟨hP,hSo⟩:=pdq_sorts ltStr swo_ltStr d 0 d.size lim true true (Nat.zero_le _) (lAd _) (Or.inl rfl);have h:=sorted_unique_holds swo_ltStr (fun x y h1 h2=>by simp only [ltStr,decide_eq_false_iff_not,List.not_lt] at h1 h2;exact List.le_antisymm h2 h1) d _ hP hSo;rw [<- Array.toList_inj,h];show _=d.toList.mergeSort fun x y=>decide (x<=y)
 congr 1
 funext x y
 show (!decide (y<x))=decide (x<=y)
 by_cases h:x<=y
 ·have h':¬ y<x:=List.not_lt.2 h;simp [h,h']
 ·have h':y<x:=List.not_le.1 h;simp [h,h']
section
variable {g cap:Nat} {w:World} {ss:List Kt}
theorem y4a(hH:Holds encStr w g 0 ss.toArray)(hg:g<w.heap.size)(h2:2<=ss.length)(hsz:ss.length<2305843009213693952) :
 Calls Tryz.prog 46 #[.iface 40 (.slice (some ⟨g,0,none⟩) ss.length cap),Xj (.slice (some ⟨g,0,none⟩) ss.length cap)] w fun e w' =>
  e=.returned (.tuple #[])/\∃ n os,w'=Sort.grow (putRow encStr (Sort.ahead w n) g 0 (ss.mergeSort fun x y=>decide (x<=y)).toArray) os:=by
 refine Any.sort_Slice_of_pdq Tryz.laysGg6 40 9 v4h z9w (by kernel_rfl) (by kernel_rfl) (by kernel_rfl) (by kernel_rfl) 24 (fun _=>by kernel_rfl) _ ss.length cap (by omega) 106 (by rw [v2u _ h2];kernel_rfl) (.func 47) _ #[] w _ ?_
 have hB:sliceBound Tryz.prog 9 z9w 24 (some ⟨g,0,none⟩) ss.length cap=#[.slice (some ⟨g,0,none⟩) ss.length cap,typeHandle Tryz.prog 9]:=by
  unfold sliceBound;rw [v2u _ h2,if_neg (by decide)]
 have hW:∃ os,sliceWorld Tryz.prog Tryz.laysGg6_ren 40 (some ⟨g,0,none⟩) ss.length cap w=Sort.grow w os:=by
  unfold sliceWorld;rw [alloc_eq_grow,alloc_eq_grow,grow_grow];exact ⟨_,rfl⟩
 obtain ⟨os0,hW⟩:=hW;rw [hB,hW]
 have hsw:SwapSwaps Tryz.prog 106 #[.slice (some ⟨g,0,none⟩) ss.length cap,typeHandle Tryz.prog 9] encStr g 0 ss.length :=
  swapSwaps_of_literal true 106 (fun args W=>run_callFunc_extern Tryz.func106 (by kernel_rfl) (by kernel_rfl) (by kernel_rfl) (e:=Extern.ReflectliteSwapper.swap true) (by kernel_rfl) args W)
   9 z9w (by kernel_rfl) (by kernel_rfl) (fun _=>by kernel_rfl) encStr (fun _=>rfl) g 0 ss.length cap
 have hlim:Lib.bitLen ss.length<4611686018427387904:=Nat.lt_of_le_of_lt (Lib.bitLen_le ss.length 62 (by omega) (by omega)) (by omega);have hp:=x9e (y2a g ss.length cap) hsw hsz (ss.length+1) 0 ss.length (Lib.bitLen ss.length) ss.toArray (Sort.grow w os0) (by omega) (by simp) (holds_grow encStr w _ g 0 _ hg hH) (by rw [size_grow];omega) (Nat.zero_le _) (lAd _) hlim (Or.inl rfl);refine hp.mono ?_;rintro e w' ⟨rfl,n,os,rfl⟩;have he:=x5w ss.toArray (Lib.bitLen ss.length);simp only [List.size_toArray] at he;refine ⟨rfl,n,os0++os,?_⟩;unfold sortWorld;rw [he,ahead_grow,putRow_grow encStr (Sort.ahead w n) _ g 0 _ hg,grow_grow]
theorem z0j(p:Option Addr)(n c:Nat)(h1:n<=1)(lf:Fn)(la lb:Array Value)(w:World) :
 Calls Tryz.prog 46 #[.iface 40 (.slice p n c),.func lf la lb] w fun e w'=>e=.returned (.tuple #[])/\∃ os,w'=Sort.grow w os:=by
 obtain ⟨f,hf⟩:=v4g n;exact Any.sort_Slice_tiny Tryz.laysGg6 40 9 v4h z9w (by kernel_rfl) (by kernel_rfl) (by kernel_rfl) (by kernel_rfl) 24 (fun _=>by kernel_rfl) p n c h1 f hf lf la lb w
theorem y9v(hH:Holds encStr w g 0 ss.toArray)(hg:g<w.heap.size)(hsz:ss.length<2305843009213693952) :
 Calls Tryz.prog 46 #[.iface 40 (.slice (some ⟨g,0,none⟩) ss.length cap),Xj (.slice (some ⟨g,0,none⟩) ss.length cap)] w fun e w' =>
  e=.returned (.tuple #[])/\∃ n os,w'=Sort.grow (putRow encStr (Sort.ahead w n) g 0 (ss.mergeSort fun x y=>decide (x<=y)).toArray) os:=by
 by_cases h2:2<=ss.length
 ·exact y4a hH hg h2 hsz
 ·refine (z0j _ ss.length cap (by omega) _ _ _ w).mono ?_;rintro e w' ⟨rfl,os,rfl⟩
  have he:(ss.mergeSort fun x y=>decide (x<=y))=ss:=by
   match ss,h2 with
   | [],_=>simp
   | [x],_=>simp
   | _ :: _ :: _,h=>simp at h
  refine ⟨rfl,0,os,?_⟩;rw [he,ahead_zero,putRow_self encStr w g 0 _ hH]
end
end Go.Proofs.YtcklcmafohlflaaGreatDoor.St
