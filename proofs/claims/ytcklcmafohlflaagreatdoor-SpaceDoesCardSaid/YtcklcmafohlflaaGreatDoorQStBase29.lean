/- Texts of one kind in one: StBase, StLess, StIns, StHeap, StHeap2, StPartE, StPart. -/
import Derived.Shelf.GgSortFunc.Whole
import Derived.Test.YtcklcmafohlflaaGreatDoorQSkDown14
set_option maxRecDepth 200000
set_option maxHeartbeats 8000000
namespace Go.Proofs.YtcklcmafohlflaaGreatDoor.St
open Zc
open Go.RowKit Go.Shelf Go.Sort Go.Lib
attribute [local go_sem] Oper.semAt_some
abbrev Kt:=List UInt8
def Xj(recv:Value):Value:=.func (.func 47) #[recv] #[]
def Xx(sf:Nat)(sb:Array Value):Value:=.func (.func sf) #[] sb
def Pg(recv:Value)(blk off size:Nat):Prop:=∀ (W:World) (dk:Array Kt),Holds encStr W blk off dk->dk.size=size->∀ i j:Nat,i<size->j<size ->
 Calls Tryz.prog 47 #[recv,.int .i64 i,.int .i64 j] W fun e w'=>e=.returned (.bool (ltStr dk[i]! dk[j]!))/\∃ q,w'=W.drewN q
section
variable {α:Type} [Inhabited α] {enc:α->Value} {w w1 W:World} {blk off:Nat} {d dk:Array α}
theorem Z7(h:SW enc w1 blk off dk W){b o:Nat}(hb:b<w1.heap.size)(hne:b≠blk):W.cell? ⟨b,o,none⟩=w1.cell? ⟨b,o,none⟩:=by
 obtain ⟨n,os,rfl⟩:=h;unfold sortWorld;rw [cell?_grow _ _ _ (by show b<_;rw [size_putRow];exact hb),cell?_putRow_other _ _ _ _ _ _ (.inl hne)];rfl
theorem O2(o:Obj)(hblk:blk<w.heap.size)(h:SW enc (w.alloc o) blk off dk W):∃ n os,W=sortWorld enc w blk off n dk os:=by
 obtain ⟨n,os,rfl⟩:=h;exact ⟨n,#[o]++os,sortWorld_alloc enc w o blk off n dk os hblk⟩
theorem Y7(o:Obj)(hblk:blk<w.heap.size)(hH:Holds enc w blk off d):Holds enc (w.alloc o) blk off d:=by rw [alloc_eq_grow];exact holds_grow enc w _ blk off d hblk hH
end
def Yn(recv:Value)(sf:Nat)(sb:Array Value):Obj:=.cells #[Xj recv,Xx sf sb] 145
theorem Vh(recv:Value)(sf:Nat)(sb:Array Value)(w:World):(w.alloc (Yn recv sf sb)).cell? ⟨w.heap.size,0,none⟩=some (Xj recv)/\(w.alloc (Yn recv sf sb)).cell? ⟨w.heap.size,1,none⟩=some (Xx sf sb):=by
 unfold Yn;exact ⟨by simp,by simp⟩
theorem y2a(g size cap:Nat):Pg (.slice (some ⟨g,0,none⟩) size cap) g 0 size:=by
 intro W dk hH hs i j hi hj;have hci:=(hH i (by omega)).1;have hcj:=(hH j (by omega)).1;rw [Nat.zero_add] at hci hcj;generalize dk[i]! =x at *;generalize dk[j]! =y at *;clear hH;have hxy:(ltStr x y)=Op.bytesLess (⟨x.toArray⟩:ByteArray).toList (⟨y.toArray⟩:ByteArray).toList:=by rw [Sk.v0d];simp [ltStr]
 have hi2:(i:Int)<size:=by omega
 have hj2:(j:Int)<size:=by omega
 unfold encStr at hci hcj;have hbl:Op.bytesLess (⟨x.toArray⟩:ByteArray).toList (⟨y.toArray⟩:ByteArray).toList=Op.bytesLess x y:=by rw [Lib.toList_data,Lib.toList_data]
 rw [hbl] at hxy;clear hbl
 go_enter Tryz.func47,Tryz.ntmps47
 go_upto_region 1 with fail
 go_quiet (fail)
 go_wp2;go_returns;exact ⟨by rw [hxy];rfl,_,rfl⟩
section
variable {recv:Value} {sf:Nat} {sb:Array Value} {blk off a b:Nat} {d:Array Kt} {w:World}
theorem x8g(hl:Pg recv blk off d.size)(hsw:SwapSwaps Tryz.prog sf sb encStr blk off d.size)(hH:Holds encStr w blk off d)(hblk:blk<w.heap.size)(hab:a<=b)(hb:b<=d.size)(hsz:d.size<4611686018427387904) :
 Calls Tryz.prog 114 #[.agg #[Xj recv,Xx sf sb],.int .i64 a,.int .i64 b] w fun e w'=>e=.returned (.tuple #[])/\∃ n os,w'=sortWorld encStr w blk off n (insertionSort ltStr d a b) os:=by
 have HH:=jY (Y7 (Yn recv sf sb) hblk hH);have HSW:=jY hsw;have HL:=jY hl;have HB:=jY (Vh recv sf sb w);have HFIN:=jY (fun W dk (h:SW encStr (w.alloc (Yn recv sf sb)) blk off dk W)=>O2 _ hblk h);have HS0:=jY (SW.start (Y7 (Yn recv sf sb) hblk hH));have hwz:w.heap.size<(w.alloc (Yn recv sf sb)).heap.size:=by simp
 have hblk1:blk<(w.alloc (Yn recv sf sb)).heap.size:=by simp;omega
 clear hl hsw hH;unfold Yn Xj Xx at *
 go_enter Tryz.func114,Tryz.ntmps114
 go_wp2;generalize hw1:w.alloc (Obj.cells #[.func (.func 47) #[recv] #[],.func (.func sf) #[] sb] 145)=w1 at *
 go_loopw [6] (fun vi wr=>∃ (i:Nat) (dk:Array Kt),vi=.int .i64 i/\a<i/\i<=b+1/\dk.size=d.size/\SW encStr w1 blk off dk wr/\insOuter ltStr a b i dk=insOuter ltStr a b (a+1) d) (fun vi _=>b+1-(intOf vi).toNat)
 case atStart=>exact ⟨a+1,d,by go_num,by omega,by omega,rfl,HS0.out,rfl⟩
 case round =>
  obtain ⟨i,dk,rfl,hai,hib,hsk,hwr,hO⟩:=hrel;have HO:=jY hO;have HWR:=jY hwr;clear hO hwr
  by_cases hlt:i<b
  ·go_wp2_with fail
   go_loopw [7] (fun vj wr2=>∃ (j:Nat) (dj:Array Kt),vj=.int .i64 j/\a<=j/\j<=i/\dj.size=d.size/\SW encStr w1 blk off dj wr2/\insInner ltStr a j dj=insInner ltStr a i dk) (fun vj _=>(intOf vj).toNat)
   case atStart=>exact ⟨i,dk,rfl,by omega,lAd _,hsk,HWR.out,rfl⟩
   case round =>
    obtain ⟨j,dj,rfl,haj,hji,hsj,hw2,hI⟩:=hrel;have HI:=jY hI;have HW2:=jY hw2;have c0:=(Z7 (o:=0) hw2 hwz (by omega)).trans HB.out.1;have c1:=(Z7 (o:=1) hw2 hwz (by omega)).trans HB.out.2;clear hI hw2
    have OUT:=jY (fun (hs:j<=a\/ltStr dj[j]! dj[j-1]! =false) W (hW:SW encStr w1 blk off dj W)=>show ∃ (i':Nat) (dk':Array Kt),Value.int .i64 ((i:Int)+1)=.int .i64 (i':Nat)/\a<i'/\i'<=b+1/\dk'.size=d.size/\SW encStr w1 blk off dk' W/\insOuter ltStr a b i' dk'=insOuter ltStr a b (a+1) d from
     ⟨i+1,dj,by go_num,by omega,by omega,hsj,hW,by rw [<- HO.out,insOuter_go _ _ _ _ _ hlt,<- HI.out,insInner_stop _ _ _ _ hs]⟩)
    by_cases hja:a<j
    ·have hlr:=HL.out wr dj (HW2.out.holds hblk1 HH.out hsj) hsj j (j-1) (by omega) (by omega);rw [show (((j-1:Nat):Int))=(j:Int)-1 by omega] at hlr
     cases hlv:ltStr dj[j]! dj[j-1]! with
     | true =>
       rw [hlv] at hlr;have HLR:=jY hlr;clear hlr;go_wp2_with fail;refine HLR.out.mono ?_;rintro e w' ⟨rfl,q,rfl⟩;have hq:=HW2.out.drewN q;have hs:=HSW.out (wr.drewN q) dj (hq.holds hblk1 HH.out hsj) hsj j (j-1) (by omega) (by omega);have hw3:=hq.swap hblk1 j (j-1) (by omega) (by omega);rw [show (((j-1:Nat):Int))=(j:Int)-1 by omega] at hs;have HS3:=jY hs;have HW3:=jY hw3;have c1q:=(Z7 (o:=1) hq hwz (by omega)).trans HB.out.2;clear hs hw3 hq HLR c0 c1;go_wp2_with fail;rw [HS3.out,Oper.upon_value];go_wp2_with fail
       go_roundw
       case rel =>
        exact ⟨j-1,swp dj j (j-1),by congr 1 <;> omega,by omega,by omega,by rw [size_swp];exact hsj,HW3.out,by rw [<- HI.out,insInner_go _ a j dj hja hlv]⟩
       case measure=>simp [intOf];omega
     | false =>
       rw [hlv] at hlr;have HLR:=jY hlr;clear hlr;go_wp2_with fail;refine HLR.out.mono ?_;rintro e w' ⟨rfl,q,rfl⟩;have hq:=HW2.out.drewN q;go_wp2_with fail
       go_roundw
       case rel=>exact OUT.out (.inr hlv) _ hq
       case measure=>simp [intOf];omega
    ·go_wp2
     go_roundw
     case rel=>exact OUT.out (.inl (by omega)) _ HW2.out
     case measure=>simp [intOf];omega
  ·go_wp2
   go_end0
   exact ⟨rfl,HFIN.out _ _ (by unfold insertionSort;rw [<- HO.out,insOuter_stop _ _ _ _ _ hlt];exact HWR.out)⟩
end
section
variable {recv:Value} {sf:Nat} {sb:Array Value} {blk off a b:Nat} {d:Array Kt} {w:World}
theorem x5u(hl:Pg recv blk off d.size)(hsw:SwapSwaps Tryz.prog sf sb encStr blk off d.size)(hH:Holds encStr w blk off d)(hblk:blk<w.heap.size)(lo hi F:Nat)(hlo:lo<=hi)(hb:F+hi<=d.size)(hsz:d.size<2305843009213693952) :
 Calls Tryz.prog 151 #[.agg #[Xj recv,Xx sf sb],.int .i64 lo,.int .i64 hi,.int .i64 F] w fun e w'=>e=.returned (.tuple #[])/\∃ n os,w'=sortWorld encStr w blk off n (siftDown ltStr hi F lo d) os:=by
 have HH:=jY (Y7 (Yn recv sf sb) hblk hH);have HSW:=jY hsw;have HL:=jY hl;have HB:=jY (Vh recv sf sb w);have HFIN:=jY (fun W dk (h:SW encStr (w.alloc (Yn recv sf sb)) blk off dk W)=>O2 _ hblk h);have HS0:=jY (SW.start (Y7 (Yn recv sf sb) hblk hH));have hwz:w.heap.size<(w.alloc (Yn recv sf sb)).heap.size:=by simp
 have hblk1:blk<(w.alloc (Yn recv sf sb)).heap.size:=by simp;omega
 clear hl hsw hH;unfold Yn Xj Xx at *
 go_enter Tryz.func151,Tryz.ntmps151
 go_wp2;generalize hw1:w.alloc (Obj.cells #[.func (.func 47) #[recv] #[],.func (.func sf) #[] sb] 145)=w1 at *
 go_loopw [8] (fun vi wr=>∃ (root:Nat) (dk:Array Kt),vi=.int .i64 root/\root<=hi/\dk.size=d.size/\SW encStr w1 blk off dk wr/\siftDown ltStr hi F root dk=siftDown ltStr hi F lo d) (fun vi _=>hi-(intOf vi).toNat)
 case atStart=>exact ⟨lo,d,rfl,hlo,rfl,HS0.out,rfl⟩
 case round =>
  obtain ⟨root,dk,rfl,hrh,hsk,hwr,hO⟩:=hrel;have HO:=jY hO;have HWR:=jY hwr;have c0:=(Z7 (o:=0) hwr hwz (by omega)).trans HB.out.1;have c1:=(Z7 (o:=1) hwr hwz (by omega)).trans HB.out.2;clear hO hwr
  by_cases h1:hi<=2*root+1
  ·have HE:=jY (HFIN.out _ dk HWR.out);clear c0 c1;go_wp2
   first|go_end0|go_returns|go_ret
   exact ⟨rfl,by rw [<- HO.out,sd_end _ _ h1];exact HE.out⟩
  ·by_cases h2:2*root+2<hi
   ·cases hcv:ltStr dk[F+(2*root+1)]! dk[F+(2*root+2)]! with
    | true =>
      have hlr:=HL.out wr dk (HWR.out.holds hblk1 HH.out hsk) hsk (F+(2*root+1)) (F+(2*root+2)) (by omega) (by omega);rw [hcv,show (((F+(2*root+1):Nat):Int))=(F:Int)+(2*root+1) by omega,show (((F+(2*root+2):Nat):Int))=(F:Int)+(2*root+1)+1 by omega] at hlr;have HLR:=jY hlr;clear hlr;go_wp2_with fail;refine HLR.out.mono ?_;rintro e w3 ⟨rfl,q3,rfl⟩;have hW3:=HWR.out.drewN q3;have c0:=(Z7 (o:=0) hW3 hwz (by omega)).trans HB.out.1;have c1:=(Z7 (o:=1) hW3 hwz (by omega)).trans HB.out.2;have HW3:=jY hW3;clear hW3 HLR HWR;generalize wr.drewN q3=W3 at *
      cases hrv:ltStr dk[F+root]! dk[F+(2*root+2)]! with
      | true =>
        have h3:=HL.out W3 dk (HW3.out.holds hblk1 HH.out hsk) hsk (F+root) (F+(2*root+2)) (by omega) (by omega);rw [hrv,show (((F+root:Nat):Int))=(F:Int)+root by omega,show (((F+(2*root+2):Nat):Int))=(F:Int)+(2*root+1+1) by omega] at h3;have HL3:=jY h3;clear h3;go_wp2_with fail;refine HL3.out.mono ?_;rintro e w4 ⟨rfl,q4,rfl⟩;have hq:=HW3.out.drewN q4;have hs:=HSW.out _ dk (hq.holds hblk1 HH.out hsk) hsk (F+root) (F+(2*root+2)) (by omega) (by omega);have hw5:=hq.swap hblk1 (F+root) (F+(2*root+2)) (by omega) (by omega);rw [show (((F+root:Nat):Int))=(F:Int)+root by omega,show (((F+(2*root+2):Nat):Int))=(F:Int)+(2*root+1+1) by omega] at hs;have HS5:=jY hs;have HW5:=jY hw5;have c1q:=(Z7 (o:=1) hq hwz (by omega)).trans HB.out.2;clear hs hw5 hq HL3 c0 c1;go_wp2_with fail;rw [HS5.out,Oper.upon_value];go_wp2_with fail
        go_roundw
        case rel=>exact ⟨(2*root+2),swp dk (F+root) (F+(2*root+2)),by go_num,by omega,by rw [size_swp];exact hsk,HW5.out,by rw [<- HO.out,sd_right_go _ _ h2 hcv hrv]⟩
        case measure=>simp [intOf];omega
      | false =>
        have h3:=HL.out W3 dk (HW3.out.holds hblk1 HH.out hsk) hsk (F+root) (F+(2*root+2)) (by omega) (by omega);rw [hrv,show (((F+root:Nat):Int))=(F:Int)+root by omega,show (((F+(2*root+2):Nat):Int))=(F:Int)+(2*root+1+1) by omega] at h3;have HL3:=jY h3;clear h3;go_wp2_with fail;refine HL3.out.mono ?_;rintro e w4 ⟨rfl,q4,rfl⟩;have HE:=jY (HFIN.out _ dk (HW3.out.drewN q4));go_wp2
        first|go_end0|go_returns|go_ret
        exact ⟨rfl,by rw [<- HO.out,sd_right_stop _ _ h2 hcv hrv];exact HE.out⟩
    | false =>
      have hlr:=HL.out wr dk (HWR.out.holds hblk1 HH.out hsk) hsk (F+(2*root+1)) (F+(2*root+2)) (by omega) (by omega);rw [hcv,show (((F+(2*root+1):Nat):Int))=(F:Int)+(2*root+1) by omega,show (((F+(2*root+2):Nat):Int))=(F:Int)+(2*root+1)+1 by omega] at hlr;have HLR:=jY hlr;clear hlr;go_wp2_with fail;refine HLR.out.mono ?_;rintro e w3 ⟨rfl,q3,rfl⟩;have hW3:=HWR.out.drewN q3;have c0:=(Z7 (o:=0) hW3 hwz (by omega)).trans HB.out.1;have c1:=(Z7 (o:=1) hW3 hwz (by omega)).trans HB.out.2;have HW3:=jY hW3;clear hW3 HLR HWR;generalize wr.drewN q3=W3 at *
      cases hrv:ltStr dk[F+root]! dk[F+(2*root+1)]! with
      | true =>
        have h3:=HL.out W3 dk (HW3.out.holds hblk1 HH.out hsk) hsk (F+root) (F+(2*root+1)) (by omega) (by omega);rw [hrv,show (((F+root:Nat):Int))=(F:Int)+root by omega,show (((F+(2*root+1):Nat):Int))=(F:Int)+(2*root+1) by omega] at h3;have HL3:=jY h3;clear h3;go_wp2_with fail;refine HL3.out.mono ?_;rintro e w4 ⟨rfl,q4,rfl⟩;have hq:=HW3.out.drewN q4;have hs:=HSW.out _ dk (hq.holds hblk1 HH.out hsk) hsk (F+root) (F+(2*root+1)) (by omega) (by omega);have hw5:=hq.swap hblk1 (F+root) (F+(2*root+1)) (by omega) (by omega);rw [show (((F+root:Nat):Int))=(F:Int)+root by omega,show (((F+(2*root+1):Nat):Int))=(F:Int)+(2*root+1) by omega] at hs;have HS5:=jY hs;have HW5:=jY hw5;have c1q:=(Z7 (o:=1) hq hwz (by omega)).trans HB.out.2;clear hs hw5 hq HL3 c0 c1;go_wp2_with fail;rw [HS5.out,Oper.upon_value];go_wp2_with fail
        go_roundw
        case rel=>exact ⟨(2*root+1),swp dk (F+root) (F+(2*root+1)),by go_num,by omega,by rw [size_swp];exact hsk,HW5.out,by rw [<- HO.out,sd_left_go _ _ (by omega) (fun _=>hcv) hrv]⟩
        case measure=>simp [intOf];omega
      | false =>
        have h3:=HL.out W3 dk (HW3.out.holds hblk1 HH.out hsk) hsk (F+root) (F+(2*root+1)) (by omega) (by omega);rw [hrv,show (((F+root:Nat):Int))=(F:Int)+root by omega,show (((F+(2*root+1):Nat):Int))=(F:Int)+(2*root+1) by omega] at h3;have HL3:=jY h3;clear h3;go_wp2_with fail;refine HL3.out.mono ?_;rintro e w4 ⟨rfl,q4,rfl⟩;have HE:=jY (HFIN.out _ dk (HW3.out.drewN q4));go_wp2
        first|go_end0|go_returns|go_ret
        exact ⟨rfl,by rw [<- HO.out,sd_left_stop _ _ (by omega) (fun _=>hcv) hrv];exact HE.out⟩
   ·have HW3:=HWR;generalize wr=W3 at *
    cases hrv:ltStr dk[F+root]! dk[F+(2*root+1)]! with
    | true =>
      have h3:=HL.out W3 dk (HW3.out.holds hblk1 HH.out hsk) hsk (F+root) (F+(2*root+1)) (by omega) (by omega);rw [hrv,show (((F+root:Nat):Int))=(F:Int)+root by omega,show (((F+(2*root+1):Nat):Int))=(F:Int)+(2*root+1) by omega] at h3;have HL3:=jY h3;clear h3;go_wp2_with fail;refine HL3.out.mono ?_;rintro e w4 ⟨rfl,q4,rfl⟩;have hq:=HW3.out.drewN q4;have hs:=HSW.out _ dk (hq.holds hblk1 HH.out hsk) hsk (F+root) (F+(2*root+1)) (by omega) (by omega);have hw5:=hq.swap hblk1 (F+root) (F+(2*root+1)) (by omega) (by omega);rw [show (((F+root:Nat):Int))=(F:Int)+root by omega,show (((F+(2*root+1):Nat):Int))=(F:Int)+(2*root+1) by omega] at hs;have HS5:=jY hs;have HW5:=jY hw5;have c1q:=(Z7 (o:=1) hq hwz (by omega)).trans HB.out.2;clear hs hw5 hq HL3 c0 c1;go_wp2_with fail;rw [HS5.out,Oper.upon_value];go_wp2_with fail
      go_roundw
      case rel=>exact ⟨(2*root+1),swp dk (F+root) (F+(2*root+1)),by go_num,by omega,by rw [size_swp];exact hsk,HW5.out,by rw [<- HO.out,sd_left_go _ _ (by omega) (fun h=>absurd h h2) hrv]⟩
      case measure=>simp [intOf];omega
    | false =>
      have h3:=HL.out W3 dk (HW3.out.holds hblk1 HH.out hsk) hsk (F+root) (F+(2*root+1)) (by omega) (by omega);rw [hrv,show (((F+root:Nat):Int))=(F:Int)+root by omega,show (((F+(2*root+1):Nat):Int))=(F:Int)+(2*root+1) by omega] at h3;have HL3:=jY h3;clear h3;go_wp2_with fail;refine HL3.out.mono ?_;rintro e w4 ⟨rfl,q4,rfl⟩;have HE:=jY (HFIN.out _ dk (HW3.out.drewN q4));go_wp2
      first|go_end0|go_returns|go_ret
      exact ⟨rfl,by rw [<- HO.out,sd_left_stop _ _ (by omega) (fun h=>absurd h h2) hrv];exact HE.out⟩
end
section
variable {recv:Value} {sf:Nat} {sb:Array Value} {blk off a b:Nat} {d:Array Kt} {w:World}
theorem Bo(hi F root:Nat)(d:Array Kt):(siftDown ltStr hi F root d).size=d.size:=size_siftDown ltStr hi F _ root d (lAd _)
theorem x2j(hl:Pg recv blk off d.size)(hsw:SwapSwaps Tryz.prog sf sb encStr blk off d.size)(hH:Holds encStr w blk off d)(hblk:blk<w.heap.size)(hab:a<b)(hb:b<=d.size)(hsz:d.size<2305843009213693952) :
 Calls Tryz.prog 115 #[.agg #[Xj recv,Xx sf sb],.int .i64 a,.int .i64 b] w fun e w'=>e=.returned (.tuple #[])/\∃ n os,w'=sortWorld encStr w blk off n (heapSort ltStr d a b) os:=by
 have HH:=jY (Y7 (Yn recv sf sb) hblk hH);have HSW:=jY hsw;have HB:=jY (Vh recv sf sb w);have HFIN:=jY (fun W dk (h:SW encStr (w.alloc (Yn recv sf sb)) blk off dk W)=>O2 _ hblk h);have HS0:=jY (SW.start (Y7 (Yn recv sf sb) hblk hH));have hwz:w.heap.size<(w.alloc (Yn recv sf sb)).heap.size:=by simp
 have hblk1:blk<(w.alloc (Yn recv sf sb)).heap.size:=by simp;omega
 have HSD:=jY (fun W dk (h:SW encStr (w.alloc (Yn recv sf sb)) blk off dk W) (hs:dk.size=d.size) (lo hi:Nat) (hlo:lo<=hi) (hb2:a+hi<=d.size)=>x5u (by rw [hs];exact hl) (by rw [hs];exact hsw) (h.holds hblk1 (Y7 (Yn recv sf sb) hblk hH) hs) (h.lt hblk1) lo hi a hlo (by rw [hs];exact hb2) (by rw [hs];exact hsz));obtain ⟨hi,hhi⟩:∃ hi:Nat,hi=b-a:=⟨_,rfl⟩;have hbi:(b:Int)-a=hi:=by omega
 have e1:heapSort ltStr d a b=heapPop ltStr a hi (heapBuild ltStr hi a ((hi-1) / 2+1) d):=by rw [hhi];rfl
 have hhi1:1<=hi:=by omega
 have hb2:a+hi<=d.size:=by omega
 clear hhi;have hhalf:((hi:Int)-1) / 2=(((hi-1) / 2:Nat):Int):=by omega
 have hhalf2:(hi-1) / 2+1<=hi:=by omega
 rw [e1];clear hl hsw hH e1;generalize hhh:(hi-1) / 2=hf at *;clear hhh;unfold Yn Xj Xx at *
 go_enter Tryz.func115,Tryz.ntmps115
 go_upto_region 5 with fail
 simp only [hhalf];generalize hw1:w.alloc (Obj.cells #[.func (.func 47) #[recv] #[],.func (.func sf) #[] sb] 145)=w1 at *
 go_loopw [9] (fun vi wr=>∃ (k:Nat) (dk:Array Kt),vi=.int .i64 ((k:Int)-1)/\k<=hf+1/\dk.size=d.size/\SW encStr w1 blk off dk wr/\heapBuild ltStr hi a k dk=heapBuild ltStr hi a (hf+1) d) (fun vi _=>(intOf vi+1).toNat)
 case atStart=>exact ⟨hf+1,d,by go_num,by omega,rfl,HS0.out,rfl⟩
 case round =>
  obtain ⟨k,dk,rfl,hkh,hsk,hwr,hO⟩:=hrel;have HO:=jY hO;have HWR:=jY hwr;have c0:=(Z7 (o:=0) hwr hwz (by omega)).trans HB.out.1;have c1:=(Z7 (o:=1) hwr hwz (by omega)).trans HB.out.2;clear hO hwr
  cases k with
  | succ k =>
    rw [show (((k+1:Nat):Int))-1=(k:Int) by omega];have HD:=jY (HSD.out wr dk HWR.out hsk k hi (by omega) (by omega));go_wp2_with fail;refine HD.out.mono ?_;rintro e w3 ⟨rfl,n3,os3,hw3⟩;have h3:=HWR.out.on hblk1 n3 (siftDown ltStr hi a k dk) os3 (Bo _ _ _ _);rw [<- hw3] at h3;have H3:=jY h3;clear h3 hw3 HD c0 c1;go_wp2;refine ⟨⟨k,siftDown ltStr hi a k dk,rfl,by omega,by rw [Bo];exact hsk,H3.out,by rw [<- HO.out];rfl⟩,by simp [intOf]⟩
  | zero =>
    rw [show (((0:Nat):Int))-1=-1 from rfl];have hbd:heapBuild ltStr hi a (hf+1) d=dk:=HO.out.symm;have HBD:=jY hbd;clear HO hbd HS0 hkh c0 c1
    go_upto_region 9 with fail
    go_loopw [10] (fun vi wr2=>∃ (k:Nat) (dj:Array Kt),vi=.int .i64 ((k:Int)-1)/\k<=hi/\dj.size=d.size/\SW encStr w1 blk off dj wr2/\heapPop ltStr a k dj=heapPop ltStr a hi dk) (fun vi _=>(intOf vi+1).toNat)
    case atStart=>exact ⟨hi,dk,by go_num,by omega,hsk,HWR.out,rfl⟩
    case round =>
     obtain ⟨k,dj,rfl,hkh,hsj,hwr2,hO⟩:=hrel;have HO:=jY hO;have HW2:=jY hwr2;have c0:=(Z7 (o:=0) hwr2 hwz (by omega)).trans HB.out.1;have c1:=(Z7 (o:=1) hwr2 hwz (by omega)).trans HB.out.2;clear hO
     cases k with
     | succ k =>
       rw [show (((k+1:Nat):Int))-1=(k:Int) by omega];have hs:=HSW.out wr dj (HW2.out.holds hblk1 HH.out hsj) hsj a (a+k) (by omega) (by omega);have hw5:=HW2.out.swap hblk1 a (a+k) (by omega) (by omega);have hz5:(swp dj a (a+k)).size=d.size:=by rw [size_swp];exact hsj
       rw [show (((a+k:Nat):Int))=(a:Int)+k by omega] at hs;have HS5:=jY hs;have HW5:=jY hw5;have d0:=(Z7 (o:=0) hw5 hwz (by omega)).trans HB.out.1;have d1:=(Z7 (o:=1) hw5 hwz (by omega)).trans HB.out.2;have HD:=jY (HSD.out _ _ hw5 hz5 0 k (by omega) (by omega));clear hs hw5 hwr2 c0;go_wp2_with fail;rw [HS5.out,Oper.upon_value];go_wp2_with fail;refine HD.out.mono ?_;rintro e w3 ⟨rfl,n3,os3,hw3⟩;have h3:=HW5.out.on hblk1 n3 (siftDown ltStr k a 0 (swp dj a (a+k))) os3 (Bo _ _ _ _);rw [<- hw3] at h3;have H3:=jY h3;clear h3 hw3 HD c1 d0 d1 HS5 HW5;go_wp2;refine ⟨⟨k,siftDown ltStr k a 0 (swp dj a (a+k)),rfl,by omega,by rw [Bo];exact hz5,H3.out,by rw [<- HO.out];rfl⟩,by simp [intOf]⟩
     | zero =>
       rw [show (((0:Nat):Int))-1=-1 from rfl];have hpd:heapPop ltStr a hi dk=dj:=HO.out.symm;have HE:=jY (show ∃ n os,wr=sortWorld encStr w blk off n (heapPop ltStr a hi (heapBuild ltStr hi a (hf+1) d)) os from by rw [HBD.out,hpd];exact HFIN.out _ dj HW2.out);clear HO hpd c0 c1;go_wp2
       go_end0
       exact ⟨rfl,HE.out⟩
end
section
variable {recv:Value} {sf:Nat} {sb:Array Value} {blk off a b pv:Nat} {d:Array Kt} {w:World}
theorem y8n(hl:Pg recv blk off d.size)(hsw:SwapSwaps Tryz.prog sf sb encStr blk off d.size)(hH:Holds encStr w blk off d)(hblk:blk<w.heap.size)(hap:a<=pv)(hpb:pv<b)(hb:b<=d.size)(hsz:d.size<2305843009213693952) :
 Calls Tryz.prog 120 #[.agg #[Xj recv,Xx sf sb],.int .i64 a,.int .i64 b,.int .i64 pv] w fun e w'=>e=.returned (.int .i64 (partitionEqual ltStr d a b pv).1)/\∃ n os,w'=sortWorld encStr w blk off n (partitionEqual ltStr d a b pv).2 os:=by
 have HH:=jY (Y7 (Yn recv sf sb) hblk hH);have HSW:=jY hsw;have HL:=jY hl;have HB:=jY (Vh recv sf sb w);have HFIN:=jY (fun W dk (h:SW encStr (w.alloc (Yn recv sf sb)) blk off dk W)=>O2 _ hblk h);have HS0:=jY (SW.start (Y7 (Yn recv sf sb) hblk hH));have hwz:w.heap.size<(w.alloc (Yn recv sf sb)).heap.size:=by simp
 have hblk1:blk<(w.alloc (Yn recv sf sb)).heap.size:=by simp;omega
 clear hl hsw hH;unfold Yn Xj Xx at *
 go_enter Tryz.func120,Tryz.ntmps120
 go_upto_region 1 with fail
 generalize hw1:w.alloc (Obj.cells #[.func (.func 47) #[recv] #[],.func (.func sf) #[] sb] 145)=w1 at *;have hsk0:d.size=d.size:=rfl;have c0:=(Z7 (o:=0) HS0.out hwz (by omega)).trans HB.out.1;have c1:=(Z7 (o:=1) HS0.out hwz (by omega)).trans HB.out.2;have hs:=HSW.out w1 d (HS0.out.holds hblk1 HH.out hsk0) hsk0 (a) (pv) (by omega) (by omega);have hw5:=HS0.out.swap hblk1 (a) (pv) (by omega) (by omega);have HS1:=jY hs;have HW1:=jY hw5;have hz1:(swp d (a) (pv)).size=d.size:=(size_swp _ _ _).trans hsk0;clear hs hw5;go_wp2_with fail;rw [HS1.out,Oper.upon_value];go_wp2_with fail
 go_loopw [9,10] (fun vi vj wr=>∃ (i j:Nat) (dk:Array Kt),vi=.int .i64 i/\vj=.int .i64 j/\a<i/\i<=j+1/\j<b/\dk.size=d.size/\SW encStr w1 blk off dk wr/\partEqLoop ltStr a i j dk=partEqLoop ltStr a (a+1) (b-1) (swp d a pv)) (fun vi vj _=>(intOf vj).toNat+1-(intOf vi).toNat)
 case atStart=>exact ⟨a+1,b-1,swp d a pv,by go_num,by go_num,by omega,by omega,by omega,hz1,HW1.out,rfl⟩
 case round =>
  obtain ⟨i,j,dk,rfl,rfl,hai,hij,hjb,hsk,hwr,hO⟩:=hrel;have HO:=jY hO;have HWR:=jY hwr;clear hO hwr HS1 HW1 c0 c1 HS0;go_wp2_with fail
  go_loopw [9] (fun vi wr2=>∃ z:Nat,vi=.int .i64 z/\(i<=z/\z<=j+1)/\SW encStr w1 blk off dk wr2/\scanUp (fun x=>!ltStr dk[a]! x) dk j z=scanUp (fun x=>!ltStr dk[a]! x) dk j i) (fun vi _=>j+1-(intOf vi).toNat)
  case atStart=>exact ⟨i,rfl,by omega,HWR.out,rfl⟩
  case round =>
   obtain ⟨z,rfl,hrng,hw2,hS⟩:=hrel;have HX:=jY hw2;have HSC:=jY hS;have c0:=(Z7 (o:=0) hw2 hwz (by omega)).trans HB.out.1;have c1:=(Z7 (o:=1) hw2 hwz (by omega)).trans HB.out.2;clear hw2 hS
   by_cases hle:z<=j
   ·have hlr:=HL.out wr dk (HX.out.holds hblk1 HH.out hsk) hsk (a) (z) (by omega) (by omega)
    cases hv:ltStr dk[a]! dk[z]! with
    | false =>
      rw [hv] at hlr;have HLR:=jY hlr;clear hlr;go_wp2_with fail;refine HLR.out.mono ?_;rintro e w' ⟨rfl,q,rfl⟩;have HQ:=jY (HX.out.drewN q);clear HLR;go_wp2_with fail;refine ⟨⟨z+1,by go_num,by omega,HQ.out,by rw [<- HSC.out,scanUp_go _ _ _ _ hle (by simp [hv])]⟩,by simp [intOf];omega⟩
    | true =>
      rw [hv] at hlr;have HLR:=jY hlr;have HEU:=jY (show z=scanUp (fun x=>!ltStr dk[a]! x) dk j i from by rw [<- HSC.out,scanUp_end _ _ _ _ (.inr (by simp [hv]))]);clear hlr;go_wp2_with fail;refine HLR.out.mono ?_;rintro e w' ⟨rfl,q,rfl⟩;have hq:=HX.out.drewN q;have c0:=(Z7 (o:=0) hq hwz (by omega)).trans HB.out.1;have c1:=(Z7 (o:=1) hq hwz (by omega)).trans HB.out.2;have HU:=jY hq;clear HLR HX HSC hq hv;generalize wr.drewN q=WU at *;go_wp2_with fail
      go_loopw [10] (fun vi wr2=>∃ y:Nat,vi=.int .i64 y/\(z<=y+1/\y<=j)/\SW encStr w1 blk off dk wr2/\scanDown (fun x=>ltStr dk[a]! x) dk z y=scanDown (fun x=>ltStr dk[a]! x) dk z j) (fun vi _=>(intOf vi).toNat+1-z)
      case atStart=>exact ⟨j,rfl,by omega,HU.out,rfl⟩
      case round =>
       obtain ⟨y,rfl,hrng,hw2,hS⟩:=hrel;have HX:=jY hw2;have HSC:=jY hS;have c0:=(Z7 (o:=0) hw2 hwz (by omega)).trans HB.out.1;have c1:=(Z7 (o:=1) hw2 hwz (by omega)).trans HB.out.2;clear hw2 hS
       by_cases hle:z<=y
       ·have hlr:=HL.out wr dk (HX.out.holds hblk1 HH.out hsk) hsk (a) (y) (by omega) (by omega)
        cases hv:ltStr dk[a]! dk[y]! with
        | true =>
          rw [hv] at hlr;have HLR:=jY hlr;clear hlr;go_wp2_with fail;refine HLR.out.mono ?_;rintro e w' ⟨rfl,q,rfl⟩;have HQ:=jY (HX.out.drewN q);clear HLR;go_wp2_with fail;refine ⟨⟨y-1,by go_num,by omega,HQ.out,by rw [<- HSC.out,scanDown_go _ _ _ _ hle (by omega) (by simp [hv])]⟩,by simp [intOf];omega⟩
        | false =>
          rw [hv] at hlr;have HLR:=jY hlr;have HED:=jY (show y=scanDown (fun x=>ltStr dk[a]! x) dk z j from by rw [<- HSC.out,scanDown_end _ _ _ _ (.inr (by simp [hv]))]);clear hlr;go_wp2_with fail;refine HLR.out.mono ?_;rintro e w' ⟨rfl,q,rfl⟩;have hq:=HX.out.drewN q;have c0:=(Z7 (o:=0) hq hwz (by omega)).trans HB.out.1;have c1:=(Z7 (o:=1) hq hwz (by omega)).trans HB.out.2;have HD:=jY hq;clear HLR HX HSC hq hv;generalize wr.drewN q=WD at *;go_wp2_with fail;have hzy:z<y:=scans_lt ltStr a i j dk (by omega) HEU.out HED.out (by omega);have hs:=HSW.out WD dk (HD.out.holds hblk1 HH.out hsk) hsk (z) (y) (by omega) (by omega);have hw5:=HD.out.swap hblk1 (z) (y) (by omega) (by omega);have HS5:=jY hs;have HW5:=jY hw5;have hz5:(swp dk (z) (y)).size=d.size:=(size_swp _ _ _).trans hsk;have HGO:=jY (partEq_go ltStr a i j dk HEU.out HED.out (by omega));clear HU HEU HED hs hw5;go_wp2_with fail;rw [HS5.out,Oper.upon_value];go_wp2_with fail;refine ⟨⟨z+1,y-1,swp dk z y,by go_num,by go_num,by omega,by omega,by omega,hz5,HW5.out,by rw [<- HO.out,HGO.out]⟩,by simp [intOf];omega⟩
       ·have HED:=jY (show y=scanDown (fun x=>ltStr dk[a]! x) dk z j from by rw [<- HSC.out,scanDown_end _ _ _ _ (.inl hle)]);have HD:=HX;clear HX HSC;generalize wr=WD at *;go_wp2_with fail;have hbr:y<z:=by omega
        have HR:=jY (show partEqLoop ltStr a (a+1) (b-1) (swp d a pv)=(z,dk) from by rw [<- HO.out];exact partEq_break ltStr a i j dk HEU.out HED.out hbr);have HEND:=jY (HFIN.out _ dk HD.out);clear HU HEU HED HD HSW HL c0 c1;go_wp2_with fail;go_ret;exact ⟨by unfold partitionEqual;rw [HR.out];rfl,by unfold partitionEqual;rw [HR.out];exact HEND.out⟩
   ·have HEU:=jY (show z=scanUp (fun x=>!ltStr dk[a]! x) dk j i from by rw [<- HSC.out,scanUp_end _ _ _ _ (.inl hle)]);have HU:=HX;clear HX HSC;generalize wr=WU at *;go_wp2_with fail
    go_loopw [10] (fun vi wr2=>∃ y:Nat,vi=.int .i64 y/\(z<=y+1/\y<=j)/\SW encStr w1 blk off dk wr2/\scanDown (fun x=>ltStr dk[a]! x) dk z y=scanDown (fun x=>ltStr dk[a]! x) dk z j) (fun vi _=>(intOf vi).toNat+1-z)
    case atStart=>exact ⟨j,rfl,by omega,HU.out,rfl⟩
    case round =>
     obtain ⟨y,rfl,hrng,hw2,hS⟩:=hrel;have HX:=jY hw2;have HSC:=jY hS;have c0:=(Z7 (o:=0) hw2 hwz (by omega)).trans HB.out.1;have c1:=(Z7 (o:=1) hw2 hwz (by omega)).trans HB.out.2;clear hw2 hS;have hle:¬ z<=y:=by omega
     have HED:=jY (show y=scanDown (fun x=>ltStr dk[a]! x) dk z j from by rw [<- HSC.out,scanDown_end _ _ _ _ (.inl hle)]);have HD:=HX;clear HX HSC;generalize wr=WD at *;go_wp2_with fail;have hbr:y<z:=by omega
     have HR:=jY (show partEqLoop ltStr a (a+1) (b-1) (swp d a pv)=(z,dk) from by rw [<- HO.out];exact partEq_break ltStr a i j dk HEU.out HED.out hbr);have HEND:=jY (HFIN.out _ dk HD.out);clear HU HEU HED HD HSW HL c0 c1;go_wp2_with fail;go_ret;exact ⟨by unfold partitionEqual;rw [HR.out];rfl,by unfold partitionEqual;rw [HR.out];exact HEND.out⟩
end
section
variable {recv:Value} {sf:Nat} {sb:Array Value} {blk off a b pv:Nat} {d:Array Kt} {w:World}
theorem M0(hl:Pg recv blk off d.size)(hsw:SwapSwaps Tryz.prog sf sb encStr blk off d.size)(hH:Holds encStr w blk off d)(hblk:blk<w.heap.size)(hap:a<=pv)(hpb:pv<b)(hb:b<=d.size)(hsz:d.size<2305843009213693952) :
 Calls Tryz.prog 121 #[.agg #[Xj recv,Xx sf sb],.int .i64 a,.int .i64 b,.int .i64 pv] w fun e w'=>e=.returned (.tuple #[.int .i64 (partition ltStr d a b pv).1,.bool (partition ltStr d a b pv).2.1])/\∃ n os,w'=sortWorld encStr w blk off n (partition ltStr d a b pv).2.2 os:=by
 have HH:=jY (Y7 (Yn recv sf sb) hblk hH);have HSW:=jY hsw;have HL:=jY hl;have HB:=jY (Vh recv sf sb w);have HFIN:=jY (fun W dk (h:SW encStr (w.alloc (Yn recv sf sb)) blk off dk W)=>O2 _ hblk h);have HS0:=jY (SW.start (Y7 (Yn recv sf sb) hblk hH));have hwz:w.heap.size<(w.alloc (Yn recv sf sb)).heap.size:=by simp
 have hblk1:blk<(w.alloc (Yn recv sf sb)).heap.size:=by simp;omega
 clear hl hsw hH;unfold Yn Xj Xx at *
 go_enter Tryz.func121,Tryz.ntmps121
 go_upto_region 1 with fail
 generalize hw1:w.alloc (Obj.cells #[.func (.func 47) #[recv] #[],.func (.func sf) #[] sb] 145)=w1 at *;have hsk0:d.size=d.size:=rfl;have c0:=(Z7 (o:=0) HS0.out hwz (by omega)).trans HB.out.1;have c1:=(Z7 (o:=1) HS0.out hwz (by omega)).trans HB.out.2;have hs:=HSW.out w1 d (HS0.out.holds hblk1 HH.out hsk0) hsk0 (a) (pv) (by omega) (by omega);have hw5:=HS0.out.swap hblk1 (a) (pv) (by omega) (by omega);have HS1:=jY hs;have HW1:=jY hw5;have hz1:(swp d (a) (pv)).size=d.size:=(size_swp _ _ _).trans hsk0;have HWR:=jY hw5;clear hs hw5 HW1;obtain ⟨i,hi⟩:∃ i,i=a+1:=⟨_,rfl⟩;obtain ⟨j,hj⟩:∃ j,j=b-1:=⟨_,rfl⟩;obtain ⟨dk,hdk⟩:∃ dk,dk=swp d a pv:=⟨_,rfl⟩;rw [<- hdk] at HWR hz1;have hsk:=hz1;have HI:=jY hi;have HJ:=jY hj;have HDK:=jY hdk;have hi1:(a:Int)+1=i:=by omega
 have hj1:(b:Int)-1=j:=by omega
 have hai:a<i:=by omega
 have hij:i<=j+1:=by omega
 have hjb:j<b:=by omega
 clear hi hj hdk HS0 hz1 hsk0;go_wp2_with fail;rw [HS1.out,Oper.upon_value];clear HS1 c0 c1;generalize (w1.setCell ⟨blk,off+a,none⟩ (encStr d[pv]!)).setCell ⟨blk,off+pv,none⟩ (encStr d[a]!)=W1 at *;go_wp2_with fail
 go_loopw [10] (fun vi wr2=>∃ z:Nat,vi=.int .i64 z/\(i<=z/\z<=j+1)/\SW encStr w1 blk off dk wr2/\scanUp (fun x=>ltStr x dk[a]!) dk j z=scanUp (fun x=>ltStr x dk[a]!) dk j i) (fun vi _=>j+1-(intOf vi).toNat)
 case atStart=>exact ⟨i,rfl,by omega,HWR.out,rfl⟩
 case round =>
  obtain ⟨z,rfl,hrng,hw2,hS⟩:=hrel;have HX:=jY hw2;have HSC:=jY hS;have c0:=(Z7 (o:=0) hw2 hwz (by omega)).trans HB.out.1;have c1:=(Z7 (o:=1) hw2 hwz (by omega)).trans HB.out.2;clear hw2 hS
  by_cases hle:z<=j
  ·have hlr:=HL.out wr dk (HX.out.holds hblk1 HH.out hsk) hsk (z) (a) (by omega) (by omega)
   cases hv:ltStr dk[z]! dk[a]! with
   | true =>
     rw [hv] at hlr;have HLR:=jY hlr;clear hlr;go_wp2_with fail;refine HLR.out.mono ?_;rintro e w' ⟨rfl,q,rfl⟩;have HQ:=jY (HX.out.drewN q);clear HLR;go_wp2_with fail;refine ⟨⟨z+1,by go_num,by omega,HQ.out,by rw [<- HSC.out,scanUp_go _ _ _ _ hle (by simp [hv])]⟩,by simp [intOf];omega⟩
   | false =>
     rw [hv] at hlr;have HLR:=jY hlr;have HEU:=jY (show z=scanUp (fun x=>ltStr x dk[a]!) dk j i from by rw [<- HSC.out,scanUp_end _ _ _ _ (.inr (by simp [hv]))]);clear hlr;go_wp2_with fail;refine HLR.out.mono ?_;rintro e w' ⟨rfl,q,rfl⟩;have hq:=HX.out.drewN q;have c0:=(Z7 (o:=0) hq hwz (by omega)).trans HB.out.1;have c1:=(Z7 (o:=1) hq hwz (by omega)).trans HB.out.2;have HU:=jY hq;clear HLR HX HSC hq hv;generalize wr.drewN q=WU at *;go_wp2_with fail
     go_loopw [11] (fun vi wr2=>∃ y:Nat,vi=.int .i64 y/\(z<=y+1/\y<=j)/\SW encStr w1 blk off dk wr2/\scanDown (fun x=>!ltStr x dk[a]!) dk z y=scanDown (fun x=>!ltStr x dk[a]!) dk z j) (fun vi _=>(intOf vi).toNat+1-z)
     case atStart=>exact ⟨j,rfl,by omega,HU.out,rfl⟩
     case round =>
      obtain ⟨y,rfl,hrng,hw2,hS⟩:=hrel;have HX:=jY hw2;have HSC:=jY hS;have c0:=(Z7 (o:=0) hw2 hwz (by omega)).trans HB.out.1;have c1:=(Z7 (o:=1) hw2 hwz (by omega)).trans HB.out.2;clear hw2 hS
      by_cases hle:z<=y
      ·have hlr:=HL.out wr dk (HX.out.holds hblk1 HH.out hsk) hsk (y) (a) (by omega) (by omega)
       cases hv:ltStr dk[y]! dk[a]! with
       | false =>
         rw [hv] at hlr;have HLR:=jY hlr;clear hlr;go_wp2_with fail;refine HLR.out.mono ?_;rintro e w' ⟨rfl,q,rfl⟩;have HQ:=jY (HX.out.drewN q);clear HLR;go_wp2_with fail;refine ⟨⟨y-1,by go_num,by omega,HQ.out,by rw [<- HSC.out,scanDown_go _ _ _ _ hle (by omega) (by simp [hv])]⟩,by simp [intOf];omega⟩
       | true =>
         rw [hv] at hlr;have HLR:=jY hlr;have HED:=jY (show y=scanDown (fun x=>!ltStr x dk[a]!) dk z j from by rw [<- HSC.out,scanDown_end _ _ _ _ (.inr (by simp [hv]))]);clear hlr;go_wp2_with fail;refine HLR.out.mono ?_;rintro e w' ⟨rfl,q,rfl⟩;have hq:=HX.out.drewN q;have c0:=(Z7 (o:=0) hq hwz (by omega)).trans HB.out.1;have c1:=(Z7 (o:=1) hq hwz (by omega)).trans HB.out.2;have HD:=jY hq;clear HLR HX HSC hq hv;generalize wr.drewN q=WD at *;go_wp2_with fail;have hzy:z<y:=part_scans_lt ltStr a i j dk (by omega) HEU.out HED.out (by omega);have hs:=HSW.out WD dk (HD.out.holds hblk1 HH.out hsk) hsk (z) (y) (by omega) (by omega);have hw5:=HD.out.swap hblk1 (z) (y) (by omega) (by omega);have HS5:=jY hs;have HW5:=jY hw5;have hz5:(swp dk (z) (y)).size=d.size:=(size_swp _ _ _).trans hsk;have HP:=jY (part_first_go ltStr d a b pv HI.out HJ.out HDK.out HEU.out HED.out (by omega));clear HU HEU HED HD hs hw5 HI HJ HDK;obtain ⟨r0,hr0⟩:∃ r,r=partLoop ltStr a (z+1) (y-1) (swp dk z y):=⟨_,rfl⟩;rw [<- hr0] at HP;go_wp2_with fail;rw [HS5.out,Oper.upon_value];go_wp2_with fail
         go_loopw [10,11] (fun vi vj wr=>∃ (i j:Nat) (dk:Array Kt),vi=.int .i64 i/\vj=.int .i64 j/\a<i/\i<=j+1/\j<b/\dk.size=d.size/\SW encStr w1 blk off dk wr/\partLoop ltStr a i j dk=r0) (fun vi vj _=>(intOf vj).toNat+1-(intOf vi).toNat)
         case atStart=>exact ⟨z+1,y-1,swp dk z y,by go_num,by go_num,by omega,by omega,by omega,hz5,HW5.out,hr0.symm⟩
         case round =>
          clear hr0 hzy hz5 HW5 HS5 c0 c1 hsk hle hrng;obtain ⟨i,j,dk,rfl,rfl,hai,hij,hjb,hsk,hwr,hO⟩:=hrel;have HO:=jY hO;have HWR:=jY hwr;clear hO hwr;go_wp2_with fail
          go_loopw [10] (fun vi wr2=>∃ z:Nat,vi=.int .i64 z/\(i<=z/\z<=j+1)/\SW encStr w1 blk off dk wr2/\scanUp (fun x=>ltStr x dk[a]!) dk j z=scanUp (fun x=>ltStr x dk[a]!) dk j i) (fun vi _=>j+1-(intOf vi).toNat)
          case atStart=>exact ⟨i,rfl,by omega,HWR.out,rfl⟩
          case round =>
           obtain ⟨z,rfl,hrng,hw2,hS⟩:=hrel;have HX:=jY hw2;have HSC:=jY hS;have c0:=(Z7 (o:=0) hw2 hwz (by omega)).trans HB.out.1;have c1:=(Z7 (o:=1) hw2 hwz (by omega)).trans HB.out.2;clear hw2 hS
           by_cases hle:z<=j
           ·have hlr:=HL.out wr dk (HX.out.holds hblk1 HH.out hsk) hsk (z) (a) (by omega) (by omega)
            cases hv:ltStr dk[z]! dk[a]! with
            | true =>
              rw [hv] at hlr;have HLR:=jY hlr;clear hlr;go_wp2_with fail;refine HLR.out.mono ?_;rintro e w' ⟨rfl,q,rfl⟩;have HQ:=jY (HX.out.drewN q);clear HLR;go_wp2_with fail;refine ⟨⟨z+1,by go_num,by omega,HQ.out,by rw [<- HSC.out,scanUp_go _ _ _ _ hle (by simp [hv])]⟩,by simp [intOf];omega⟩
            | false =>
              rw [hv] at hlr;have HLR:=jY hlr;have HEU:=jY (show z=scanUp (fun x=>ltStr x dk[a]!) dk j i from by rw [<- HSC.out,scanUp_end _ _ _ _ (.inr (by simp [hv]))]);clear hlr;go_wp2_with fail;refine HLR.out.mono ?_;rintro e w' ⟨rfl,q,rfl⟩;have hq:=HX.out.drewN q;have c0:=(Z7 (o:=0) hq hwz (by omega)).trans HB.out.1;have c1:=(Z7 (o:=1) hq hwz (by omega)).trans HB.out.2;have HU:=jY hq;clear HLR HX HSC hq hv;generalize wr.drewN q=WU at *;go_wp2_with fail
              go_loopw [11] (fun vi wr2=>∃ y:Nat,vi=.int .i64 y/\(z<=y+1/\y<=j)/\SW encStr w1 blk off dk wr2/\scanDown (fun x=>!ltStr x dk[a]!) dk z y=scanDown (fun x=>!ltStr x dk[a]!) dk z j) (fun vi _=>(intOf vi).toNat+1-z)
              case atStart=>exact ⟨j,rfl,by omega,HU.out,rfl⟩
              case round =>
               obtain ⟨y,rfl,hrng,hw2,hS⟩:=hrel;have HX:=jY hw2;have HSC:=jY hS;have c0:=(Z7 (o:=0) hw2 hwz (by omega)).trans HB.out.1;have c1:=(Z7 (o:=1) hw2 hwz (by omega)).trans HB.out.2;clear hw2 hS
               by_cases hle:z<=y
               ·have hlr:=HL.out wr dk (HX.out.holds hblk1 HH.out hsk) hsk (y) (a) (by omega) (by omega)
                cases hv:ltStr dk[y]! dk[a]! with
                | false =>
                  rw [hv] at hlr;have HLR:=jY hlr;clear hlr;go_wp2_with fail;refine HLR.out.mono ?_;rintro e w' ⟨rfl,q,rfl⟩;have HQ:=jY (HX.out.drewN q);clear HLR;go_wp2_with fail;refine ⟨⟨y-1,by go_num,by omega,HQ.out,by rw [<- HSC.out,scanDown_go _ _ _ _ hle (by omega) (by simp [hv])]⟩,by simp [intOf];omega⟩
                | true =>
                  rw [hv] at hlr;have HLR:=jY hlr;have HED:=jY (show y=scanDown (fun x=>!ltStr x dk[a]!) dk z j from by rw [<- HSC.out,scanDown_end _ _ _ _ (.inr (by simp [hv]))]);clear hlr;go_wp2_with fail;refine HLR.out.mono ?_;rintro e w' ⟨rfl,q,rfl⟩;have hq:=HX.out.drewN q;have c0:=(Z7 (o:=0) hq hwz (by omega)).trans HB.out.1;have c1:=(Z7 (o:=1) hq hwz (by omega)).trans HB.out.2;have HD:=jY hq;clear HLR HX HSC hq hv;generalize wr.drewN q=WD at *;go_wp2_with fail;have hzy:z<y:=part_scans_lt ltStr a i j dk (by omega) HEU.out HED.out (by omega);have hs:=HSW.out WD dk (HD.out.holds hblk1 HH.out hsk) hsk (z) (y) (by omega) (by omega);have hw5:=HD.out.swap hblk1 (z) (y) (by omega) (by omega);have HS5:=jY hs;have HW5:=jY hw5;have hz5:(swp dk (z) (y)).size=d.size:=(size_swp _ _ _).trans hsk;have HGO:=jY (part_go ltStr a i j dk HEU.out HED.out (by omega));clear HU HEU HED hs hw5;go_wp2_with fail;rw [HS5.out,Oper.upon_value];go_wp2_with fail;refine ⟨⟨z+1,y-1,swp dk z y,by go_num,by go_num,by omega,by omega,by omega,hz5,HW5.out,by rw [<- HO.out,HGO.out]⟩,by simp [intOf];omega⟩
               ·have HED:=jY (show y=scanDown (fun x=>!ltStr x dk[a]!) dk z j from by rw [<- HSC.out,scanDown_end _ _ _ _ (.inl hle)]);have HD:=HX;clear HX HSC;generalize wr=WD at *;go_wp2_with fail;have hbr:y<z:=by omega
                have HR:=jY (show r0=(y,dk) from by rw [<- HO.out];exact part_break ltStr a i j dk HEU.out HED.out hbr);have hs:=HSW.out WD dk (HD.out.holds hblk1 HH.out hsk) hsk (y) (a) (by omega) (by omega);have hw5:=HD.out.swap hblk1 (y) (a) (by omega) (by omega);have HS7:=jY hs;have HW7:=jY hw5;have hz7:(swp dk (y) (a)).size=d.size:=(size_swp _ _ _).trans hsk;have HEND:=jY (show ∃ n os,(WD.setCell ⟨blk,off+y,none⟩ (encStr dk[a]!)).setCell ⟨blk,off+a,none⟩ (encStr dk[y]!)=sortWorld encStr w blk off n (swp dk y a) os from HFIN.out _ _ hw5);clear HU HEU HED HD HSW HL hs hw5 HW7;go_wp2_with fail;rw [HS7.out,Oper.upon_value];go_wp2_with fail;go_ret2;exact ⟨by rw [HP.out,HR.out];first|done|rfl,by rw [HP.out,HR.out];exact HEND.out⟩
           ·have HEU:=jY (show z=scanUp (fun x=>ltStr x dk[a]!) dk j i from by rw [<- HSC.out,scanUp_end _ _ _ _ (.inl hle)]);have HU:=HX;clear HX HSC;generalize wr=WU at *;go_wp2_with fail
            go_loopw [11] (fun vi wr2=>∃ y:Nat,vi=.int .i64 y/\(z<=y+1/\y<=j)/\SW encStr w1 blk off dk wr2/\scanDown (fun x=>!ltStr x dk[a]!) dk z y=scanDown (fun x=>!ltStr x dk[a]!) dk z j) (fun vi _=>(intOf vi).toNat+1-z)
            case atStart=>exact ⟨j,rfl,by omega,HU.out,rfl⟩
            case round =>
             obtain ⟨y,rfl,hrng,hw2,hS⟩:=hrel;have HX:=jY hw2;have HSC:=jY hS;have c0:=(Z7 (o:=0) hw2 hwz (by omega)).trans HB.out.1;have c1:=(Z7 (o:=1) hw2 hwz (by omega)).trans HB.out.2;clear hw2 hS;have hle:¬ z<=y:=by omega
             have HED:=jY (show y=scanDown (fun x=>!ltStr x dk[a]!) dk z j from by rw [<- HSC.out,scanDown_end _ _ _ _ (.inl hle)]);have HD:=HX;clear HX HSC;generalize wr=WD at *;go_wp2_with fail;have hbr:y<z:=by omega
             have HR:=jY (show r0=(y,dk) from by rw [<- HO.out];exact part_break ltStr a i j dk HEU.out HED.out hbr);have hs:=HSW.out WD dk (HD.out.holds hblk1 HH.out hsk) hsk (y) (a) (by omega) (by omega);have hw5:=HD.out.swap hblk1 (y) (a) (by omega) (by omega);have HS7:=jY hs;have HW7:=jY hw5;have hz7:(swp dk (y) (a)).size=d.size:=(size_swp _ _ _).trans hsk;have HEND:=jY (show ∃ n os,(WD.setCell ⟨blk,off+y,none⟩ (encStr dk[a]!)).setCell ⟨blk,off+a,none⟩ (encStr dk[y]!)=sortWorld encStr w blk off n (swp dk y a) os from HFIN.out _ _ hw5);clear HU HEU HED HD HSW HL hs hw5 HW7;go_wp2_with fail;rw [HS7.out,Oper.upon_value];go_wp2_with fail;go_ret2;exact ⟨by rw [HP.out,HR.out];first|done|rfl,by rw [HP.out,HR.out];exact HEND.out⟩
      ·have HED:=jY (show y=scanDown (fun x=>!ltStr x dk[a]!) dk z j from by rw [<- HSC.out,scanDown_end _ _ _ _ (.inl hle)]);have HD:=HX;clear HX HSC;generalize wr=WD at *;go_wp2_with fail;have hbr:y<z:=by omega
       have HP:=jY (part_first_break ltStr d a b pv HI.out HJ.out HDK.out HEU.out HED.out hbr);have hs:=HSW.out WD dk (HD.out.holds hblk1 HH.out hsk) hsk (y) (a) (by omega) (by omega);have hw5:=HD.out.swap hblk1 (y) (a) (by omega) (by omega);have HS7:=jY hs;have HW7:=jY hw5;have hz7:(swp dk (y) (a)).size=d.size:=(size_swp _ _ _).trans hsk;have HEND:=jY (show ∃ n os,(WD.setCell ⟨blk,off+y,none⟩ (encStr dk[a]!)).setCell ⟨blk,off+a,none⟩ (encStr dk[y]!)=sortWorld encStr w blk off n (swp dk y a) os from HFIN.out _ _ hw5);clear HU HEU HED HD HSW HL hs hw5 HW7 HI HJ HDK;go_wp2_with fail;rw [HS7.out,Oper.upon_value];go_wp2_with fail;go_ret2;exact ⟨by rw [HP.out];first|done|rfl,by rw [HP.out];exact HEND.out⟩
  ·have HEU:=jY (show z=scanUp (fun x=>ltStr x dk[a]!) dk j i from by rw [<- HSC.out,scanUp_end _ _ _ _ (.inl hle)]);have HU:=HX;clear HX HSC;generalize wr=WU at *;go_wp2_with fail
   go_loopw [11] (fun vi wr2=>∃ y:Nat,vi=.int .i64 y/\(z<=y+1/\y<=j)/\SW encStr w1 blk off dk wr2/\scanDown (fun x=>!ltStr x dk[a]!) dk z y=scanDown (fun x=>!ltStr x dk[a]!) dk z j) (fun vi _=>(intOf vi).toNat+1-z)
   case atStart=>exact ⟨j,rfl,by omega,HU.out,rfl⟩
   case round =>
    obtain ⟨y,rfl,hrng,hw2,hS⟩:=hrel;have HX:=jY hw2;have HSC:=jY hS;have c0:=(Z7 (o:=0) hw2 hwz (by omega)).trans HB.out.1;have c1:=(Z7 (o:=1) hw2 hwz (by omega)).trans HB.out.2;clear hw2 hS;have hle:¬ z<=y:=by omega
    have HED:=jY (show y=scanDown (fun x=>!ltStr x dk[a]!) dk z j from by rw [<- HSC.out,scanDown_end _ _ _ _ (.inl hle)]);have HD:=HX;clear HX HSC;generalize wr=WD at *;go_wp2_with fail;have hbr:y<z:=by omega
    have HP:=jY (part_first_break ltStr d a b pv HI.out HJ.out HDK.out HEU.out HED.out hbr);have hs:=HSW.out WD dk (HD.out.holds hblk1 HH.out hsk) hsk (y) (a) (by omega) (by omega);have hw5:=HD.out.swap hblk1 (y) (a) (by omega) (by omega);have HS7:=jY hs;have HW7:=jY hw5;have hz7:(swp dk (y) (a)).size=d.size:=(size_swp _ _ _).trans hsk;have HEND:=jY (show ∃ n os,(WD.setCell ⟨blk,off+y,none⟩ (encStr dk[a]!)).setCell ⟨blk,off+a,none⟩ (encStr dk[y]!)=sortWorld encStr w blk off n (swp dk y a) os from HFIN.out _ _ hw5);clear HU HEU HED HD HSW HL hs hw5 HW7 HI HJ HDK;go_wp2_with fail;rw [HS7.out,Oper.upon_value];go_wp2_with fail;go_ret2;exact ⟨by rw [HP.out];first|done|rfl,by rw [HP.out];exact HEND.out⟩
end
end Go.Proofs.YtcklcmafohlflaaGreatDoor.St
