/- Texts of one kind in one: DtIs. -/
import Derived.Test.YtlckdfoflimahaaGreatDoorQDtFind21
set_option maxRecDepth 200000
set_option maxHeartbeats 8000000
namespace Go.Proofs.YtlckdfoflimahaaGreatDoor.Dc.Dt
open Go.RowKit Go.Shelf
attribute [local go_sem] Oper.semAt_some
def ptrOf(a:Addr):Value:=.pointer (some a)
def Is(W:World)(p:Nat)(S:Nat→Prop)(seed:Nat)(m:ByteArray→Option Addr)(n:Sh):Prop :=
 ∃ D,Rep tyP W p S seed D∧Like tyP seed D (fun k=>(m k).map ptrOf)∧D.shape=n
def putP(m:ByteArray→Option Addr)(key:ByteArray)(v:Addr):ByteArray→Option Addr:=fun k=>if k=key then some v else m k
def remP(m:ByteArray→Option Addr)(key:ByteArray):ByteArray→Option Addr:=fun k=>if k=key then none else m k
def IsNow(S:Nat→Prop)(W:World)(p seed:Nat)(m:ByteArray→Option Addr)(n:Sh)(W':World):Prop:=Is W' p (grow tyP S W W') seed m n∧Far S W W'
theorem Is.far{S S1:Nat→Prop}{W W':World}{p seed:Nat}{n:Sh}{m:ByteArray→Option Addr}(h:Is W p S seed m n)(f:Far S1 W W')(hd:∀ k,S k→¬ S1 k):Is W' p S seed m n:=by
 obtain ⟨D,h1,h2,h3⟩:=h
 exact ⟨D,h1.far f hd,h2,h3⟩
theorem Is.cells{S:Nat→Prop}{W:World}{p seed:Nat}{n:Sh}{m:ByteArray→Option Addr}(h:Is W p S seed m n):∀ k,S k→CellB tyP W k:=by obtain ⟨D,h1,_⟩:=h;exact h1.cells
theorem Is.lt{S:Nat→Prop}{W:World}{p seed:Nat}{n:Sh}{m:ByteArray→Option Addr}(h:Is W p S seed m n):∀ k,S k→k<W.heap.size:=fun k hk=>(h.cells k hk).lt
theorem IsNow.of{S:Nat→Prop}{W W':World}{p seed:Nat}{n:Sh}{m:ByteArray→Option Addr}{D:Dc}(h:Went tyP S W p seed D W')(hl:Like tyP seed D (fun k=>(m k).map ptrOf))(hn:D.shape=n):IsNow S W p seed m n W':=⟨⟨D,h.1,hl,hn⟩,h.2⟩
section
variable {S:Nat→Prop} {p seed:Nat} {n:Sh} {m:ByteArray→Option Addr} {w:World}
theorem map_put(m:ByteArray→Option Addr)(key:ByteArray)(v:Addr):(fun k=>(putP m key v k).map ptrOf)=putM (fun k=>(m k).map ptrOf) key (ptrOf v):=by
 funext k
 unfold putP putM
 split <;> rfl
theorem map_rem(m:ByteArray→Option Addr)(key:ByteArray):(fun k=>(remP m key k).map ptrOf)=remM (fun k=>(m k).map ptrOf) key:=by
 funext k
 unfold remP remM
 split <;> rfl
theorem new_is(sd:Nat)(w:World):Calls Tryz.prog 78 #[.int .u32 sd] w fun e w'=>∃ q,e=.returned (.pointer (some ⟨q,0,none⟩))∧Is w' q (fresh tyP w w') sd (fun _=>none) ⟨4,0,0,0⟩∧Below w.heap.size w w' :=
 (new_any sd w).mono fun _ _ ⟨q,h1,h2,h3⟩=>⟨q,h1,⟨newD,h2,Like.new _ _,rfl⟩,h3⟩
theorem get_is(hsd:seed<4294967296)(h:Is w p S seed m n)(hn:n.n≤1000000)(key:ByteArray)(hk:key.size≤281474976710656) :
   Calls Tryz.prog 109 #[.pointer (some ⟨p,0,none⟩),.string key] w fun e w'=>e=.returned (.tuple #[.pointer (m key),.bool (m key).isSome])∧IsNow S w p seed m n.step1 w':=by
 obtain ⟨D,h1,h2,h3⟩:=h
 have hn':D.n≤1000000:=by rw [← h3] at hn;exact hn
 refine (get_any hsd h1 h2.1.ok hn' key hk).mono fun e w' ⟨he,hw⟩=>?_
 obtain ⟨q1,q2,q3,q4⟩:=(h2.step 1).hit key
 refine ⟨?_,IsNow.of hw (h2.step 1) ((shape_step h2.1.ok 1).trans (by rw [h3];rfl))⟩
 rw [he,q1]
 congr 2
 cases hm:m key with
 | none =>
   rw [q3 (by simp only [hm];rfl)]
   rfl
 | some v =>
   obtain ⟨y,hy⟩:=q4 (by simp only [hm];rfl)
   have:=q2 y hy
   simp only [hm,Option.map_some,Option.some.injEq] at this
   rw [hy]
   simp only [ptrV,← this,ptrOf]
   rfl
theorem set_is(hsd:seed<4294967296)(h:Is w p S seed m n)(hn:n.n+1≤1000000)(key:ByteArray)(hk:key.size≤281474976710656)(v:Addr) :
   Calls Tryz.prog 119 #[.pointer (some ⟨p,0,none⟩),.string key,.pointer (some v)] w fun e w'=>e=.returned (.bool (!(m key).isSome))∧IsNow S w p seed (putP m key v) (n.set (m key).isSome) w':=by
 obtain ⟨D,h1,h2,h3⟩:=h
 have hn':D.n+1≤1000000:=by rw [← h3] at hn;exact hn
 refine (set_any hsd h1 h2.1.ok hn' key hk (some v)).mono fun e w' ⟨he,hw⟩=>?_
 obtain ⟨q1,_⟩:=(h2.step 1).hit key
 obtain ⟨g1,_⟩:=h2.set key (ptrOf v) ⟨some v,rfl⟩
 have g2:=shape_set h2.1.ok (sumN seed key.data.toList) key (.pointer (some v))
 rw [← map_put] at g1
 simp only [Option.isSome_map] at q1
 exact ⟨by rw [he,q1],IsNow.of hw g1 (by rw [g2,h3,q1])⟩
theorem del_is(hsd:seed<4294967296)(h:Is w p S seed m n)(hn:n.n≤1000000)(key:ByteArray)(hk:key.size≤281474976710656) :
   Calls Tryz.prog 117 #[.pointer (some ⟨p,0,none⟩),.string key] w fun e w'=>e=.returned (.bool (m key).isSome)∧IsNow S w p seed (remP m key) (n.del (m key).isSome) w'∧((m key).isSome=true→0<n.n):=by
 obtain ⟨D,h1,h2,h3⟩:=h
 have hn':D.n≤1000000:=by rw [← h3] at hn;exact hn
 refine (del_any hsd h1 h2.1.ok hn' key hk).mono fun e w' ⟨he,hw⟩=>?_
 obtain ⟨q1,_⟩:=(h2.step 1).hit key
 obtain ⟨g1,_,g3⟩:=h2.del key
 have g2:=shape_del h2.1.ok (sumN seed key.data.toList) key
 rw [← map_rem] at g1
 simp only [Option.isSome_map] at q1 g3
 exact ⟨by rw [he,q1],IsNow.of hw g1 (by rw [g2,h3,q1]),fun e=>by rw [← h3];exact g3 e⟩
theorem len_is(h:Is w p S seed m n):Calls Tryz.prog 62 #[.pointer (some ⟨p,0,none⟩)] w fun e w'=>e=.returned (.int .i64 n.n)∧w'=w:=by
 obtain ⟨D,h1,h2,h3⟩:=h
 rw [← h3]
 exact len_any h1
theorem sizes_is(h:Is w p S seed m n):Calls Tryz.prog 108 #[.pointer (some ⟨p,0,none⟩)] w fun e w'=>e=.returned (.tuple #[.int .i64 n.A,.int .i64 n.B,.int .i64 n.At])∧Below w.heap.size w w':=by
 obtain ⟨D,h1,h2,h3⟩:=h
 rw [← h3]
 exact sizes_of h1
theorem step_is(h:Is w p S seed m n)(hn:n.n≤1000000)(q:Int):Calls Tryz.prog 81 #[.pointer (some ⟨p,0,none⟩),.int .i64 q] w fun e w'=>e=.returned (.int .i64 (min q.toNat n.left:Nat))∧IsNow S w p seed m (Sh.steps q.toNat n) w':=by
 obtain ⟨D,h1,h2,h3⟩:=h
 have hn':D.n≤1000000:=by rw [← h3] at hn;exact hn
 refine (step_any h1 h2.1.ok hn' q).mono fun e w' ⟨he,hw⟩=>⟨by rw [he,← h3,shape_left],IsNow.of hw (h2.step _) ((shape_step h2.1.ok _).trans (by rw [h3]))⟩
end
end Go.Proofs.YtlckdfoflimahaaGreatDoor.Dc.Dt
