/- Stretches of a t -/
import Derived.Test.YtpdnofhackjfdaaGreatDoorP21
set_option linter.all false
set_option maxRecDepth 100000
set_option maxHeartbeats 8000000
namespace Go.Proofs.YtpdnofhackjfdaaGreatDoor
open Go.Proofs.Tryz
variable {r:iT} {G aq st v:Int} {gs:List Int} {ms:List MS} {aO ws:List Nat} {vs:List Sv} {m:MS} {B B1 L c d hi i k lo mb o o1 ob u:Nat} {f:Nat->Bool} {H:Prop} {bv fv rv:Value} {w w' wr:World}
structure CX where
 s:ByteArray
 aE:Int
 ah:Int
 bh:Int
 op:Bool
def CX.n(c:CX):Nat:=(aJ c.s).length
def CX.bF(c:CX)(i:Nat):Int:=(iA c.s).bF i
def CX.ahead(c:CX)(i:Nat):Int:=if i=0 then c.ah else c.bF (i-1)
def CX.gZ(c:CX)(i:Nat):Int:=if i<c.n then c.bF i else c.bh
def CX.aZ(c:CX)(i:Nat):Int:=c.aE+(bd c.s i:Int)
def qO(ms:List MS)(c:CX):Nat->Int->Nat->List Int->iT
 |0,_,_,_=>none
 |d+1,u,i,gs=>
  if c.op&&decide (c.n<=i)then some (i,gs)else
  match ms[u.toNat]? with
  |none=>none
  |some m=>
   if m.kind=0 then some (i,gs)
   else if m.kind=1 then(if decide (i<c.n)&&fW m.sp m.fo m.nt (c.bF i)then qO ms c d m.next (i+1) gs else none)
   else if m.kind=2 then(if fi m.eM (c.ahead i) (c.gZ i)then qO ms c d m.next i gs else none)
   else if m.kind=3 then qO ms c d m.next i (gs.set m.slot.toNat (c.aZ i))
   else(qO ms c d m.next i gs).or (qO ms c d m.bj i gs)
def sw(ms:List MS)(c:CX)(u:Int)(i:Nat):Nat:=(c.n-i)*(ms.length+1)+u.toNat+1
theorem XJ{c:CX}{u:Int}(hd:sw ms c u i<=d+1)(hi:i<c.n)(hv:v<ms.length):sw ms c v (i+1)<=d:=by
 unfold sw at*;obtain⟨k,hk⟩:∃k,c.n-i=k+1:=⟨c.n-i-1,by omega⟩
 rw[hk,Fh]at hd;rw[show c.n-(i+1)=k by omega];omega
theorem Ki{c:CX}(hd:sw ms c u i<=d+1)(h0:0<=v)(hv:v<u):sw ms c v i<=d:=by
 unfold sw at*;have:(u:Int).toNat=u:=Az u;omega
theorem Vn(hg:fg ms)(c:CX):∀(d e:Nat) (u:Nat) (i:Nat) (gs:List Int),sw ms c u i<=d->sw ms c u i<=e->u<ms.length->i<=c.n->qO ms c d u i gs=qO ms c e u i gs
 |0,e,u,i,gs,h,_,_,_=>by unfold sw at h;omega
 |d+1,0,u,i,gs,_,h,_,_=>by unfold sw at h;omega
 |d+1,e+1,u,i,gs,hd,he,hu,hi=>by
  unfold qO;simp only[Az];rw[Ae hu];have hm:ms[u]? =some ms[u]:=Ae hu;generalize ms[u]=m at hm⊢;obtain⟨⟨k0,k4⟩,g1,g2,g3⟩:=hg u m hm;dsimp only
  have T:∀v:Int,0<=v->v<u->∀gs,qO ms c d v i gs=qO ms c e v i gs:=fun v h0 hv gs=>by
   obtain⟨k,rfl⟩:=Au h0;exact Vn hg c d e k i gs (Ki hd h0 hv) (Ki he h0 hv) (by omega) hi
  congr 1
  by_cases e0:m.kind=0
  ·rw[if_pos e0,if_pos e0]
  ·rw[if_neg e0,if_neg e0];by_cases e1:m.kind=1
   ·rw[if_pos e1,if_pos e1];by_cases ht:(decide (i<c.n)&&fW m.sp m.fo m.nt (c.bF i))=true
    ·rw[if_pos ht,if_pos ht];have az:i<c.n:=by simp at ht;exact ht.1
     have hn:=g1 e1;obtain⟨k,hk⟩:=Au hn.1;rw[hk];exact Vn hg c d e k (i+1) gs (XJ hd az (by omega)) (XJ he az (by omega)) (by omega) az
    ·rw[if_neg ht,if_neg ht]
   ·rw[if_neg e1,if_neg e1];have hn:=g2 (by omega);by_cases e2:m.kind=2
    ·rw[if_pos e2,if_pos e2,T _ hn.1 hn.2]
    ·rw[if_neg e2,if_neg e2];by_cases e3:m.kind=3
     ·rw[if_pos e3,if_pos e3,T _ hn.1 hn.2]
     ·rw[if_neg e3,if_neg e3];have ho:=g3 (by omega);rw[T _ hn.1 hn.2,T _ ho.1 ho.2]
def dd(ms:List MS)(c:CX)(u:Int)(i:Nat)(gs:List Int):iT:=qO ms c (sw ms c u i) u i gs
theorem OC(hg:fg ms)(c:CX)(h0:0<=v)(hv:v<ms.length)(hi:i<=c.n)(hd:sw ms c v i<=d):qO ms c d v i gs=dd ms c v i gs:=by
 obtain⟨k,rfl⟩:=Au h0;exact Vn hg c d _ k i gs hd (Ab _) (by omega) hi
theorem zO{c:CX}{u:Int}(ho:c.op=true)(hi:c.n<=i):dd ms c u i gs=some (i,gs):=by
 unfold dd sw qO;rw[if_pos (by simp[ho,hi])]
theorem oU(hg:fg ms)(c:CX)(hi:i<=c.n)(hm:ms[u]? =some m)(ht:(c.op&&decide (c.n<=i))=false)(gs:List Int):
 (m.kind=0->dd ms c u i gs=some (i,gs))/\
 (m.kind=1->dd ms c u i gs=if(decide (i<c.n)&&fW m.sp m.fo m.nt (c.bF i))=true then dd ms c m.next (i+1) gs else none)/\
 (m.kind=2->dd ms c u i gs=if fi m.eM (c.ahead i) (c.gZ i)=true then dd ms c m.next i gs else none)/\
 (m.kind=3->dd ms c u i gs=dd ms c m.next i (gs.set m.slot.toNat (c.aZ i)))/\
 (m.kind=4->dd ms c u i gs=(dd ms c m.next i gs).or (dd ms c m.bj i gs)):=by
 have hu:=(Ai.1 hm).1;obtain⟨⟨k0,k4⟩,g1,g2,g3⟩:=hg u m hm;obtain⟨d,hd⟩:∃d,sw ms c u i=d+1:=⟨_,rfl⟩
 have E:dd ms c u i gs=qO ms c (d+1) u i gs:=by unfold dd;rw[hd]
 rw[E];unfold qO;rw[ht,Az,hm];simp only[Aq,if_false];refine⟨fun e=>by rw[if_pos e],fun e=>?_,fun e=>?_,fun e=>?_,fun e=>?_⟩
 ·have hn:=g1 e;rw[if_neg (by omega),if_pos e];by_cases h:(decide (i<c.n)&&fW m.sp m.fo m.nt (c.bF i))=true
  ·rw[if_pos h,if_pos h];have az:i<c.n:=by simp at h;exact h.1
   exact OC hg c hn.1 hn.2 az (XJ (u:=(u:Int)) (by omega) az hn.2)
  ·rw[if_neg h,if_neg h]
 ·have hn:=g2 (by omega);rw[if_neg (by omega),if_neg (by omega),if_pos e,OC hg c hn.1 (by omega) hi (Ki (by omega) hn.1 hn.2)]
 ·have hn:=g2 (by omega);rw[if_neg (by omega),if_neg (by omega),if_neg (by omega),if_pos e,OC hg c hn.1 (by omega) hi (Ki (by omega) hn.1 hn.2)]
 ·have hn:=g2 (by omega);have ho:=g3 e;rw[if_neg (by omega),if_neg (by omega),if_neg (by omega),if_neg (by omega),OC hg c hn.1 (by omega) hi (Ki (by omega) hn.1 hn.2),OC hg c ho.1 (by omega) hi (Ki (by omega) ho.1 ho.2)]
theorem QL(hg:fg ms)(n:Nat){Q:Nat->Nat->Prop}
 (h:∀(u i:Nat) (m:MS),i<=n->ms[u]? =some m->(∀v:Nat,v<u->Q v i)->(∀v:Nat,v<ms.length->i<n->Q v (i+1))->Q u i):∀(d i:Nat),n-i<=d->i<=n->∀u,u<ms.length->Q u i:=by
 intro d;induction d with
 |zero=>
  intro i hd hi u;induction u using Nat.strongRecOn with
  |_ u ih=>exact fun hu=>h u i _ hi (Ae hu) (fun v hv=>ih v hv (by omega)) (fun v _ az=>absurd az (by omega))
 |succ d ihd=>
  intro i hd hi u;induction u using Nat.strongRecOn with
  |_ u ih=>exact fun hu=>h u i _ hi (Ae hu) (fun v hv=>ih v hv (by omega)) (fun v hv az=>ihd (i+1) (by omega) az v hv)
theorem R6{α β:Type}(f:α->β)(a b:Option α):(a.or b).map f=(a.map f).or (b.map f):=by cases a<;>rfl
theorem ae1(hg:fg ms)(c:CX)(hu:u<ms.length)(hi:i<=c.n)(gs dA:List Int):(dd ms c u i gs).map (·.1)=(dd ms c u i dA).map (·.1):=by
 refine QL hg c.n (Q:=fun u i=>∀gs dA,(dd ms c u i gs).map (·.1)=(dd ms c u i dA).map (·.1)) (fun u i m hi hm Ic Ie gs dA=>?_) _ i (Ab _) hi u hu gs dA
 cases ht:(c.op&&decide (c.n<=i))with
 |true=>simp at ht;rw[zO ht.1 ht.2,zO ht.1 ht.2];rfl
 |false=>
  obtain⟨⟨k0,k4⟩,g1,g2,g3⟩:=hg u m hm;obtain⟨a0,a1,a2,a3,a4⟩:=oU hg c hi hm ht gs;obtain⟨b0,b1,b2,b3,b4⟩:=oU hg c hi hm ht dA
  have T:∀v:Int,0<=v->v<u->∀gs dA,(dd ms c v i gs).map (·.1)=(dd ms c v i dA).map (·.1):=fun v h0 hv=>by
   obtain⟨k,rfl⟩:=Au h0;exact Ic k (by omega)
  by_cases e0:m.kind=0
  ·rw[a0 e0,b0 e0];rfl
  ·by_cases e1:m.kind=1
   ·rw[a1 e1,b1 e1];by_cases h:(decide (i<c.n)&&fW m.sp m.fo m.nt (c.bF i))=true
    ·rw[if_pos h,if_pos h];have az:i<c.n:=by simp at h;exact h.1
     have hn:=g1 e1;obtain⟨k,hk⟩:=Au hn.1;rw[hk];exact Ie k (by omega) az _ _
    ·rw[if_neg h,if_neg h]
   ·have hn:=g2 (by omega);by_cases e2:m.kind=2
    ·rw[a2 e2,b2 e2];by_cases h:fi m.eM (c.ahead i) (c.gZ i)=true
     ·rw[if_pos h,if_pos h];exact T _ hn.1 hn.2 _ _
     ·rw[if_neg h,if_neg h]
    ·by_cases e3:m.kind=3
     ·rw[a3 e3,b3 e3];exact T _ hn.1 hn.2 _ _
     ·have e4:m.kind=4:=(by omega);have ho:=g3 e4;rw[a4 e4,b4 e4,R6,R6,T _ hn.1 hn.2 gs dA,T _ ho.1 ho.2 gs dA]
def dV(ms:List MS)(c:CX)(u:Int)(i:Nat):Bool:=(dd ms c u i []).isSome
theorem On(hg:fg ms)(c:CX)(hu:u<ms.length)(hi:i<=c.n)(gs:List Int):dV ms c u i=(dd ms c u i gs).isSome:=by
 have:=ae1 hg c hu hi [] gs;unfold dV
 cases h1:dd ms c (u:Int) i []<;>cases h2:dd ms c (u:Int) i gs<;>rw[h1,h2]at this<;>first|rfl|cases this
theorem aml{c:CX}{u:Int}(ho:c.op=true)(hi:c.n<=i):dV ms c u i=true:=by unfold dV;rw[zO ho hi];rfl
theorem amk(hg:fg ms)(c:CX)(hi:i<=c.n)(hm:ms[u]? =some m)(ht:(c.op&&decide (c.n<=i))=false):
 (m.kind=0->dV ms c u i=true)/\
 (m.kind=1->dV ms c u i=((decide (i<c.n)&&fW m.sp m.fo m.nt (c.bF i))&&dV ms c m.next (i+1)))/\
 (m.kind=2->dV ms c u i=(dV ms c m.next i&&fi m.eM (c.ahead i) (c.gZ i)))/\
 (m.kind=3->dV ms c u i=dV ms c m.next i)/\(m.kind=4->dV ms c u i=(dV ms c m.next i||dV ms c m.bj i)):=by
 have hu:=(Ai.1 hm).1;obtain⟨⟨k0,k4⟩,g1,g2,g3⟩:=hg u m hm;obtain⟨a0,a1,a2,a3,a4⟩:=oU hg c hi hm ht [];refine⟨fun e=>by unfold dV;rw[a0 e];rfl,fun e=>?_,fun e=>?_,fun e=>?_,fun e=>?_⟩
 ·unfold dV;rw[a1 e];by_cases h:(decide (i<c.n)&&fW m.sp m.fo m.nt (c.bF i))=true
  ·rw[if_pos h,h,Fb]
  ·rw[if_neg h,Eq.2 h];rfl
 ·unfold dV;rw[a2 e];by_cases h:fi m.eM (c.ahead i) (c.gZ i)=true
  ·rw[if_pos h,h,Bool.and_true]
  ·rw[if_neg h,Eq.2 h,Bool.and_false];rfl
 ·have hn:=g2 (by omega);obtain⟨k,hk⟩:=Au hn.1;have h1:=On hg c (u:=k) (by omega) hi (([]:List Int).set m.slot.toNat (c.aZ i));rw[hk,h1,<-hk,<-a3 e];rfl
 ·unfold dV;rw[a4 e]
  cases dd ms c m.next i []<;>rfl
def lF(ms:List MS)(c:CX)(u:Int)(i:Nat):Option Nat:=(dd ms c u i []).map (·.1)
theorem QB(hg:fg ms)(c:CX)(hu:u<ms.length)(hi:i<=c.n)(gs:List Int):lF ms c u i=(dd ms c u i gs).map (·.1):=ae1 hg c hu hi [] gs
theorem Mo(hg:fg ms)(c:CX)(hi:i<c.n):tQ ms (lF ms c) i (c.ahead i) (c.bF i):=by
 have ht:(c.op&&decide (c.n<=i))=false:=by
  have:decide (c.n<=i)=false:=Bg (by omega);rw[this,Bool.and_false]
 have hb:c.gZ i=c.bF i:=if_pos hi;refine⟨fun u m hm e=>?_,fun u m hm e=>?_,fun u m hm e=>?_,fun u m hm e=>?_,fun u m hm e=>?_⟩<;>obtain⟨a0,a1,a2,a3,a4⟩:=oU hg c (by omega) hm ht []<;>obtain⟨⟨k0,k4⟩,g1,g2,g3⟩:=hg u m hm<;>have hu:=(Ai.1 hm).1
 ·unfold lF;rw[a0 e];rfl
 ·unfold lF;rw[a1 e];have:decide (i<c.n)=true:=C2 hi;rw[this,Fb];by_cases h:fW m.sp m.fo m.nt (c.bF i)=true
  ·rw[if_pos h,if_pos h]
  ·rw[if_neg h,if_neg h];rfl
 ·unfold lF;rw[a2 e,hb];by_cases h:fi m.eM (c.ahead i) (c.bF i)=true
  ·rw[if_pos h,if_pos h]
  ·rw[if_neg h,if_neg h];rfl
 ·have hn:=g2 (by omega);obtain⟨k,hk⟩:=Au hn.1;have h1:=QB hg c (u:=k) (i:=i) (by omega) (by omega) (([]:List Int).set m.slot.toNat (c.aZ i));rw[hk,h1,<-hk,<-a3 e];rfl
 ·unfold lF;rw[a4 e,R6]
theorem DV(hg:fg ms)(c:CX)(hu:u<ms.length)(hi:i<=c.n)(gs:List Int):∀j dA,dd ms c u i gs=some (j,dA)->i<=j/\j<=c.n/\dA.length=gs.length:=by
 refine QL hg c.n (Q:=fun u i=>∀gs j dA,dd ms c u i gs=some (j,dA)->i<=j/\j<=c.n/\dA.length=gs.length) (fun u i m hi hm Ic Ie gs j dA hr=>?_) _ i (Ab _) hi u hu gs
 cases ht:(c.op&&decide (c.n<=i))with
 |true=>
  simp only[Cq,A5]at ht;rw[zO ht.1 ht.2]at hr;simp only[Bd,Cp]at hr;exact⟨by omega,by omega,by rw[hr.2]⟩
 |false=>
  obtain⟨⟨k0,k4⟩,g1,g2,g3⟩:=hg u m hm;obtain⟨a0,a1,a2,a3,a4⟩:=oU hg c hi hm ht gs
  have T:∀v:Int,0<=v->v<u->∀gs j dA,dd ms c v i gs=some (j,dA)->i<=j/\j<=c.n/\dA.length=gs.length:=fun v h0 hv=>by
   obtain⟨k,rfl⟩:=Au h0;exact Ic k (by omega)
  by_cases e0:m.kind=0
  ·rw[a0 e0]at hr;simp only[Bd,Cp]at hr;exact⟨by omega,by omega,by rw[hr.2]⟩
  ·by_cases e1:m.kind=1
   ·rw[a1 e1]at hr;by_cases h:(decide (i<c.n)&&fW m.sp m.fo m.nt (c.bF i))=true
    ·rw[if_pos h]at hr;have az:i<c.n:=by simp at h;exact h.1
     have hn:=g1 e1;obtain⟨k,hk⟩:=Au hn.1;rw[hk]at hr;have:=Ie k (by omega) az _ _ _ hr;exact⟨by omega,this.2⟩
    ·rw[if_neg h]at hr;cases hr
   ·have hn:=g2 (by omega);by_cases e2:m.kind=2
    ·rw[a2 e2]at hr;by_cases h:fi m.eM (c.ahead i) (c.gZ i)=true
     ·rw[if_pos h]at hr;exact T _ hn.1 hn.2 _ _ _ hr
     ·rw[if_neg h]at hr;cases hr
    ·by_cases e3:m.kind=3
     ·rw[a3 e3]at hr;have:=T _ hn.1 hn.2 _ _ _ hr;rw[Bp]at this;exact this
     ·have e4:m.kind=4:=(by omega);have ho:=g3 e4;rw[a4 e4]at hr
      cases h1:dd ms c m.next i gs with
      |some v=>rw[h1]at hr;simp only[Ec,Bd]at hr;rw[hr]at h1;exact T _ hn.1 hn.2 _ _ _ h1
      |none=>rw[h1]at hr;simp only[Ed]at hr;exact T _ ho.1 ho.2 _ _ _ hr
theorem aof(hg:fg ms)(c:CX)(hi:i<=c.n)(hm:ms[u]? =some m)(ht:(c.op&&decide (c.n<=i))=false)(h:dd ms c u i gs=r):
 (m.kind=0/\r=some (i,gs))\/
 (m.kind=1/\(decide (i<c.n)&&fW m.sp m.fo m.nt (c.bF i))=true/\dd ms c m.next (i+1) gs=r)\/
 (m.kind=1/\(decide (i<c.n)&&fW m.sp m.fo m.nt (c.bF i))=false/\r=none)\/
 (m.kind=2/\fi m.eM (c.ahead i) (c.gZ i)=true/\dd ms c m.next i gs=r)\/
 (m.kind=2/\fi m.eM (c.ahead i) (c.gZ i)=false/\r=none)\/
 (m.kind=3/\dd ms c m.next i (gs.set m.slot.toNat (c.aZ i))=r)\/
 (m.kind=4/\∃v,r=some v/\dd ms c m.next i gs=some v)\/
 (m.kind=4/\dd ms c m.next i gs=none/\dd ms c m.bj i gs=r):=by
 obtain⟨⟨k0,k4⟩,_⟩:=hg u m hm;obtain⟨a0,a1,a2,a3,a4⟩:=oU hg c hi hm ht gs;by_cases e0:m.kind=0
 ·exact Or.inl ⟨e0,by rw[<-h,a0 e0]⟩
 ·by_cases e1:m.kind=1
  ·rw[a1 e1]at h
   cases hb:(decide (i<c.n)&&fW m.sp m.fo m.nt (c.bF i))with
   |true=>rw[hb,if_pos rfl]at h;exact Or.inr (Or.inl ⟨e1,rfl,h⟩)
   |false=>rw[hb,if_neg (by simp)]at h;exact Or.inr (Or.inr (Or.inl ⟨e1,rfl,h.symm⟩))
  ·by_cases e2:m.kind=2
   ·rw[a2 e2]at h
    cases hb:fi m.eM (c.ahead i) (c.gZ i)with
    |true=>rw[hb,if_pos rfl]at h;exact Or.inr (Or.inr (Or.inr (Or.inl ⟨e2,rfl,h⟩)))
    |false=>rw[hb,if_neg (by simp)]at h;exact Or.inr (Or.inr (Or.inr (Or.inr (Or.inl ⟨e2,rfl,h.symm⟩))))
   ·by_cases e3:m.kind=3
    ·exact Or.inr (Or.inr (Or.inr (Or.inr (Or.inr (Or.inl ⟨e3,by rw[<-h,a3 e3]⟩)))))
    ·have e4:m.kind=4:=(by omega);rw[a4 e4]at h
     cases hx:dd ms c m.next i gs with
     |some v=>rw[hx]at h;exact Or.inr (Or.inr (Or.inr (Or.inr (Or.inr (Or.inr (Or.inl ⟨e4,v,h.symm,rfl⟩))))))
     |none=>rw[hx,Ed]at h;exact Or.inr (Or.inr (Or.inr (Or.inr (Or.inr (Or.inr (Or.inr ⟨e4,rfl,h⟩))))))
def aQ(s:ByteArray):CX:=⟨s,0,-1,-1,false⟩
theorem afV(s:ByteArray)(e:Int)(hi:i<=(aQ s).n):fi e ((aQ s).ahead i) ((aQ s).gZ i)=Gv (iA s) e i:=by
 rw[<-aj9 s e hi];have h1:(aQ s).ahead i=LY s i:=rfl
 have h2:(aQ s).gZ i=(iA s).bF i:=by
  unfold CX.gZ;by_cases h:i<(aQ s).n
  ·rw[if_pos h];rfl
  ·rw[if_neg h,Yo (s:=s) (Fo h)];rfl
 rw[h1,h2]
theorem ae4(hg:fg ms)(s:ByteArray){u:Int}(h:cT ms (iA s) u i gs r):i<=(aJ s).length->dd ms (aQ s) u i gs=r:=by
 induction h with
 |done u m i gs h hk=>exact fun hi=>(oU hg (aQ s) hi h rfl gs).1 hk
 |jz u m i gs r h hk ht hn ih=>
  intro hi;have J0:(decide (i<(aQ s).n)&&fW m.sp m.fo m.nt ((aQ s).bF i))=true:=ht;rw[(oU hg (aQ s) hi h rfl gs).2.1 hk,if_pos J0];exact ih (by simp only[Cq,A5]at ht;exact ht.1)
 |jf u m i gs h hk ht=>
  intro hi;have J0:¬(decide (i<(aQ s).n)&&fW m.sp m.fo m.nt ((aQ s).bF i))=true:=by rw[show(decide (i<(aQ s).n)&&fW m.sp m.fo m.nt ((aQ s).bF i))=false from ht];simp
  rw[(oU hg (aQ s) hi h rfl gs).2.1 hk,if_neg J0]
 |SV u m i gs r h hk he hn ih=>
  intro hi;rw[(oU hg (aQ s) hi h rfl gs).2.2.1 hk,afV s _ hi,if_pos he];exact ih hi
 |SU u m i gs h hk he=>
  intro hi;rw[(oU hg (aQ s) hi h rfl gs).2.2.1 hk,afV s _ hi,he];rfl
 |mark u m i gs r h hk hn ih=>
  intro hi;have hb:(aQ s).aZ i=(iA s).aZ i:=by rw[Mb];unfold CX.aZ aQ;simp
  rw[(oU hg (aQ s) hi h rfl gs).2.2.2.1 hk,hb];exact ih hi
 |BJ u m i gs v h hk hn ih=>
  intro hi;rw[(oU hg (aQ s) hi h rfl gs).2.2.2.2 hk,ih hi];rfl
 |BH u m i gs r h hk hn ho ih uK=>
  intro hi;rw[(oU hg (aQ s) hi h rfl gs).2.2.2.2 hk,ih hi,uK hi];rfl
open Go.RowKit Go.Maps
def Iw(sv:Value)(st G:Int)(x:CX)(bv fv:Value)(aq:Int)(rv:Value):Array Value:=#[sv,GW st,GW G,.string x.s,GW x.aE,.int .i32 x.ah,.int .i32 x.bh,.bool x.op,bv,fv,GW aq,rv]
theorem zZ(h:k<ws.length):(dr ws).toArray[k]? =some (.int .u64 (ws.getD k 0:Nat)):=by
 unfold dr;simp[Af,Ae h]
theorem afR(ws:List Nat)(k x:Nat):(dr ws).toArray.setIfInBounds k (.int .u64 (x:Int))=(dr (ws.set k x)).toArray:=by
 unfold dr;simp[Fj]
theorem ajj(h:au w B (dr (splice ws o aO)).toArray 207)(hL:aO.length=L)(hw:gu aO)(ho:o+L<=ws.length)(hu:u/64<L)(kI:u<100000):
 Calls prog 90 #[.slice (some (GB B o)) L c,GW (u:Int)] w fun e w'=>e=.returned (.bool (gz aO 0 u))/\w'=w:=by
 subst hL;have hc:=h.cell (o+u/64);rw[zZ (by rw[Dh _ _ _ ho];omega),zT _ _ _ ho,if_pos (by omega),show o+u/64-o=0+u/64 by omega]at hc;exact VV w B o aO.length c _ u (hw.getD _) hu kI hc
theorem ajk{nx:List Nat}(hw:gu nx)(hc:w.cell? ⟨B,o+u/64,none⟩=some (.int .u64 (nx.getD (u/64) 0:Nat)))(hu:u/64<L)(kI:u<100000):
 Calls prog 90 #[.slice (some (GB B o)) L c,GW (u:Int)] w fun e w'=>e=.returned (.bool (gz nx 0 u))/\w'=w:=by
 have:=VV w B o L c _ u (hw.getD _) hu kI hc;unfold gz;rw[Ba];exact this
theorem anM(h:au w B (dr (splice ws o aO)).toArray 207)(hL:aO.length=L)(hw:gu aO)(ho:o+L<=ws.length)(hu:u/64<L)(kI:u<100000):
 Calls prog 114 #[.slice (some (GB B o)) L c,GW (u:Int)] w fun e w'=>e=.returned (.tuple #[])/\au w' B (dr (splice ws o (tK aO 0 u))).toArray 207/\aa (fun i=>i=B) w w':=by
 subst hL;have az:o+u/64<(splice ws o aO).length:=by rw[Dh _ _ _ ho];omega
 have hc:=h.cell (o+u/64);rw[zZ az]at hc
 have hx:(splice ws o aO).getD (o+u/64) 0<18446744073709551616:=by
  rw[zT _ _ _ ho,if_pos (by omega)];exact hw.getD _
 refine(anL w B o aO.length c _ u hx hu kI hc (h.frozen _)).mono ?_;rintro e w' ⟨h1,rfl⟩;refine⟨h1,?_,(aa.drew (aa.refl (fun i=>i=B) w)).setCell (p:=⟨B,o+u/64,none⟩) (Or.inl rfl) _⟩;have hb:au w.drew B (dr (splice ws o aO)).toArray 207:=h;have:=hb.setCell (o+u/64) (.int .u64 (((splice ws o aO).getD (o+u/64) 0|||2^ (u % 64):Nat):Int));rw[afR]at this;rw[<-anK ho hu];exact this
theorem CX.ame{x:CX}(h:i<(aJ x.s).length):(x.op&&decide (x.n<=i))=false:=by
 rw[show decide (x.n<=i)=false from Bg (by unfold CX.n;omega),Bool.and_false]
theorem agA(w:World)(x:CX)(i:Nat)(hi:i<=x.n)(hs:x.s.size<=1000000000)(hT:iM w):Calls prog 111 #[.agg #[.string x.s,GW x.aE,.int .i32 x.ah,.int .i32 x.bh,.bool x.op],GW (bd x.s i:Int)] w fun e w'=>
 e=.returned (.tuple #[.int .i32 (x.ahead i),.int .i32 (x.gZ i)])/\aa ai w w':=by
 refine(agB w x.s (bd x.s i) x.aE x.ah x.bh x.op (i_ x.s i) hs hT).mono ?_;rintro e w' ⟨rfl,hk⟩;refine⟨?_,hk⟩
 have e1:(if 0<bd x.s i then((Lib.decodeLastL (x.s.extract 0 (bd x.s i)).data.toList).1:Int)else x.ah)=x.ahead i:=by
  unfold CX.ahead;by_cases h0:i=0
  ·subst h0;rw[sS,if_neg (by omega),if_pos rfl]
  ·obtain⟨j,rfl⟩:∃j,i=j+1:=⟨i-1,by omega⟩
   have hj:j<(aJ x.s).length:=by unfold CX.n at hi;omega
   have:=(pY hj).1;rw[if_pos (by omega),if_neg (by omega),adf hj,Cz];rfl
 have e2:(if bd x.s i<x.s.size then((Lib.decodeGo (x.s.extract (bd x.s i) x.s.size)).1:Int)else x.bh)=x.gZ i:=by
  unfold CX.gZ;by_cases az:i<x.n
  ·have:=xu (s:=x.s) az;rw[if_pos this,if_pos az,UV x.s _ this];unfold CX.bF;rw[SF (s:=x.s) az]
  ·have hb:=nI (s:=x.s) (i:=i) (by unfold CX.n at az;omega);rw[if_neg (by omega),if_neg az]
 rw[e1,e2]
structure AO(w:World)(ob lo hi mb c:Nat)(vs:List Sv)(ms:List MS)(x:CX)(st G:Int)(bv fv:Value)(aq:Int)(rv:Value):Prop where
 o:au w ob (Iw (.slice (some (GB mb 0)) ms.length c) st G x bv fv aq rv) 170
 iz:jk w mb vs ms
 wR:∀i,(h:i<vs.length)->(h':i<ms.length)->gG w lo hi vs[i] ms[i]
 le:hi<=w.heap.size
 jS:iM w
theorem AO.kept{x:CX}{K:Nat->Prop}(h:AO w ob lo hi mb c vs ms x st G bv fv aq rv)(k:aa K w w')(h1:¬K ob)(h2:¬K mb)(h3:∀i,lo<=i->i<hi->¬K i)(h4:¬K 0)(h5:¬K 1):AO w' ob lo hi mb c vs ms x st G bv fv aq rv:=
 ⟨h.o.kept k h1,h.iz.kept k h2,fun i a b=>(h.wR i a b).kept k h3 h.le,Bh h.le k.size,h.jS.kept k h4 h5⟩
def OS(ob lo hi mb B:Nat):Prop:=B≠ob/\B≠mb/\¬(lo<=B/\B<hi)/\B≠0/\B≠1
theorem AO.row{x:CX}(h:AO w ob lo hi mb c vs ms x st G bv fv aq rv)(k:aa (fun i=>i=B) w w')(ha:OS ob lo hi mb B):AO w' ob lo hi mb c vs ms x st G bv fv aq rv:=
 h.kept k (fun e=>ha.1 e.symm) (fun e=>ha.2.1 e.symm) (fun i h1 h2 e=>ha.2.2.1 (by subst e;exact⟨h1,h2⟩)) (fun e=>ha.2.2.2.1 e.symm) (fun e=>ha.2.2.2.2 e.symm)
def aal(w:World)(B1 o1 B2 o2 L:Nat)(ws:List Nat)(Q:List Nat->Prop):Prop:=
 ∀W aO,aa (fun i=>i=B1) w W->aO.length=L->gu aO->au W B1 (dr (splice ws o1 aO)).toArray 207->∃nx:List Nat,gu nx/\(∀k,k<L->W.cell? ⟨B2,o2+k,none⟩=some (.int .u64 (nx.getD k 0:Nat)))/\Q nx
def sO(w wr:World)(B1 o1 L:Nat)(ws aO:List Nat)(k:Nat)(H:Prop)(f:Nat->Bool):Prop:=
 aO.length=L/\gu aO/\au wr B1 (dr (splice ws o1 aO)).toArray 207/\aa (fun i=>i=B1) w wr/\(H->∀u,u/64<L->gz aO 0 u=(decide (u<k)&&f u))
theorem sO.put(h:sO w wr B1 o1 L ws aO k H f)(hk:k/64<L)(hb:au w' B1 (dr (splice ws o1 (tK aO 0 k))).toArray 207)(hw:aa (fun i=>i=B1) wr w')(hf:H->f k=true):sO w w' B1 o1 L ws (tK aO 0 k) (k+1) H f:=by
 obtain⟨h1,h2,h3,h4,h5⟩:=h;refine⟨by rw[Sw,h1],h2.put _ _,hb,h4.trans hw,fun hH u hu=>?_⟩;rw[agS (by omega),h5 hH u hu];by_cases e:u=k
 ·subst e;simp[hf hH]
 ·have e1:decide (u<k+1)=decide (u<k):=by rw[decide_eq_decide];omega
  rw[e1];simp[e]
theorem sO.skip(h:sO w wr B1 o1 L ws aO k H f)(hw:aa ai wr w')(hf:H->f k=false):sO w w' B1 o1 L ws aO (k+1) H f:=by
 obtain⟨h1,h2,h3,h4,h5⟩:=h;refine⟨h1,h2,h3.kept hw (fun h=>h),h4.trans (hw.mono (fun _ h=>h.elim)),fun hH u hu=>?_⟩;rw[h5 hH u hu];by_cases e:u=k
 ·subst e;simp[hf hH]
 ·have e1:decide (u<k+1)=decide (u<k):=by rw[decide_eq_decide];omega
  rw[e1]
theorem sO.later(h:sO w wr B1 o1 L ws aO k H f)(hw:aa ai wr w'):sO w w' B1 o1 L ws aO k H f:=by
 obtain⟨h1,h2,h3,h4,h5⟩:=h;exact⟨h1,h2,h3.kept hw (fun h=>h),h4.trans (hw.mono (fun _ h=>h.elim)),h5⟩
theorem aeO{x:CX}{G2:Int}(hR:AO w ob lo hi mb c vs ms x st G bv fv aq rv)(hg:fg ms)(hq:iJ G2 ms)(dy:ms.length<=4001)(hs:x.s.size<=1000000000)
 (hi':i<=x.n)(qj:(x.op&&decide (x.n<=i))=false)(hL:L=ms.length/64+1)
 {c1:Nat}(hB:au w B1 (dr ws).toArray 207)(ho:o1+L<=ws.length)(ha:OS ob lo hi mb B1)
 {B2 o2 c2:Nat}(pF:aal w B1 o1 B2 o2 L ws (fun nx=>H->∀u:Nat,u<ms.length->gz nx 0 u=(decide (i<x.n)&&dV ms x u (i+1)))):
 Calls prog 88 #[BT ob 0,.slice (some (GB B1 o1)) L c1,.slice (some (GB B2 o2)) L c2,GW (bd x.s i:Int)] w fun e w'=>e=.returned (.tuple #[])/\aa (fun i=>i=B1) w w'/\∃aO,aO.length=L/\gu aO/\au w' B1 (dr (splice ws o1 aO)).toArray 207/\(H->∀u:Nat,u<ms.length->gz aO 0 u=dV ms x u i):=by
 have HR:=ab hR;have oe:=ab pF;have HG:=ab hg;have HQ:=ab hq;have HA:=ab ha;have HB:=ab hB;have TZ:=ab ho;have ta:Hid (L=ms.length/64+1):=hL;have QU:L≠0:=by omega
 have Q8:bd x.s i<=1000000000:=by have:=i_ x.s i;omega
 have Zk:=ab fun(W:World) (hT:iM W)=>agA W x i hi' hs hT
 have HI:=ab hi';have LC:=ab qj;clear hR pF hg hq ha hB ho hL hi' qj;go_in;go_wp2_with (refine aqc rfl (.tmp 13) 173 rfl 207 underlying173 ?z B1 o1 L c1 rfl QU ws 207 HB.o TZ.o ?_)
 case z=>exact zeroValue207 _
 intro w1 jM aU;have R1:=ab (HR.o.row aU HA.o);have q0:w1.cell? (GB ob 3)=some (.string x.s):=R1.o.o.cell 3;have q1:w1.cell? (GB ob 4)=some (GW x.aE):=R1.o.o.cell 4;have q2:w1.cell? (GB ob 5)=some (.int .i32 x.ah):=R1.o.o.cell 5;have q3:w1.cell? (GB ob 6)=some (.int .i32 x.bh):=R1.o.o.cell 6;have q4:w1.cell? (GB ob 7)=some (.bool x.op):=R1.o.o.cell 7;have gF:=ab jM;have qB:=ab aU;clear jM aU;go_wp2_with fail;refine(Zk.o _ R1.o.jS).mono ?_;rintro e w2 ⟨rfl,aS⟩;have dD:Hid (sO w w2 B1 o1 L ws (List.replicate L 0) 0 H (fun u=>dV ms x u i)):=⟨by simp,gu.KM L,gF.o.kept aS (fun h=>h),qB.o.trans (aS.mono (fun _ h=>h.elim)),fun _ u _=>by rw[aaJ];simp⟩;have q5:w2.cell? (GB ob 0)=some (.slice (some (GB mb 0)) ms.length c):=(R1.o.o.kept aS (fun h=>h)).cell 0;clear gF qB aS q0 q1 q2 q3 q4 R1 Zk HB;generalize MV:x.ahead i=ah;generalize CD:x.gZ i=bh;have HAH:=ab MV;have Zu:=ab CD;clear MV CD;go_wp2_with fail;go_loopg [29] ms.length (fun kk v wr=>∃(k:Nat) (aO:List Nat),v=GW (k:Int)/\k<=ms.length/\kk=ms.length-k/\Hid (sO w wr B1 o1 L ws aO k H (fun u=>dV ms x u i)))
 case atStart=>exact⟨0,_,rfl,Al _,rfl,dD⟩
 case round=>
  obtain⟨k,aO,rfl,hk,eE,HC⟩:=hrel;clear dD q5;by_cases az:k<ms.length
  ·have jP:(k:Int)<(ms.length:Int):=(by omega);have Rr:=ab (HR.o.row HC.o.2.2.2.1 HA.o);have q5:wr.cell? (GB ob 0)=some (.slice (some (GB mb 0)) ms.length c):=Rr.o.o.cell 0;obtain⟨q,⟨tr,qY⟩,zt,mG⟩:=Rr.o.iz.at az;obtain⟨d0,d1,d2,d3,d4,d5⟩:=mG wr Rr.o.iz;have jc:=Rr.o.wR k tr az;rw[qY]at jc;have HO:=ab (amk HG.o x HI.o (Ae az) LC.o);have HM:=ab (HG.o k _ (Ae az));have xe:=ab (HQ.o _ (A6 az));generalize hm:ms[k]=m at*;have LA:=ab jc;have ek:=jc.k;have eed:=jc.ed;have BC:=jc.nx;have BD:=jc.ot;clear hm mG qY tr zt jc;obtain⟨qk,bV,cA,bY,bM,fF,DS,DT⟩:=q;simp only at d0 d1 d2 d3 d4 d5 ek eed BC BD;subst ek eed BC BD;have uz:k/64<L:=by have:=ta.o;omega
   have vw:=(ab fun(W:World) (h:sO w W B1 o1 L ws aO k H (fun u=>dV ms x u i))=>anM (c:=c1) h.2.2.1 h.1 h.2.1 TZ.o uz (by omega));have IT:Hid (∀(W:World) (u:Nat),sO w W B1 o1 L ws aO k H (fun u=>dV ms x u i)->u<ms.length->Calls prog 90 #[.slice (some (GB B1 o1)) L c1,GW (u:Int)] W fun e w'=>e=.returned (.bool (gz aO 0 u))/\w'=W):=fun W u h hu=>ajj h.2.2.1 h.1 h.2.1 TZ.o (by have:=ta.o;omega) (by omega)
   have Y7:Hid (H->∀u:Nat,u<k->gz aO 0 u=dV ms x u i):=fun hH u hu=>by
    rw[HC.o.2.2.2.2 hH u (by have:=ta.o;omega)];simp[hu]
   have aqF:=LA.o.kr;by_cases e0:m.kind=0
   ·rw[e0]at d0;go_wp2_with fail;refine(vw.o _ HC.o).mono ?_;rintro e w5 ⟨rfl,gI,cS⟩;have aA:=ab (HC.o.put uz gI cS (fun hH=>HO.o.1 e0));clear gI cS;go_wp2_with fail;go_roundg (ms.length-(k+1))
    case measure=>omega
    case rel=>exact⟨k+1,_,by simp,by omega,rfl,aA⟩
   ·by_cases e1:m.kind=1
    ·rw[e1]at d0;obtain⟨S,bs,rfl,a2,a3,a4,a5,a6⟩:=LA.o.set e1;have HT:=ab (a4.YR (xe.o.1 e1));have hN:=HM.o.2.1 e1;obtain⟨mn,dP⟩:∃mn:Nat,m.next=(mn:Int):=⟨m.next.toNat,by omega⟩
     rw[dP]at d4;have zp:mn<ms.length:=(by omega);have ke:Hid (dV ms x k i=((decide (i<x.n)&&fW m.sp m.fo m.nt (x.bF i))&&dV ms x (mn:Int) (i+1))):=by have:=HO.o.2.1 e1;rw[dP]at this;exact this
     have TK:Hid (i<x.n->cu S bh=fW m.sp m.fo m.nt (x.bF i)):=fun h=>by have hr:bh=x.bF i:=(by rw[<-Zu.o];exact if_pos h);rw[hr];have:=SG (s:=x.s) h;exact HT.o.2 _ this.1 this.2
     have F:=aae wr bV bY bs S bh (fun aB=>⟨(a2 aB).1,by have:=(a2 aB).2.2;have:=Rr.o.le;omega⟩) a3 HT.o.1 a6;clear a2 a3 a4 a5 dP hN
     cases eD:cu S bh with
     |false=>
      rw[eD]at F;have F:=ab F
      have NO:Hid (H->dV ms x k i=false):=fun hH=>by
       rw[ke.o];by_cases hl:i<x.n
       ·rw[<-TK.o hl,eD];simp
       ·simp[hl]
      clear eD TK ke;go_wp2_with fail;refine(F.o).mono ?_;rintro e w3 ⟨rfl,bm⟩;have tR:=ab (HC.o.later bm);clear bm;go_wp2_with fail;have aA:=ab (tR.o.skip (aa.refl _ _) (fun hH=>NO.o hH));go_roundg (ms.length-(k+1))
      case measure=>omega
      case rel=>exact⟨k+1,_,by simp,by omega,rfl,aA⟩
     |true=>
      rw[eD]at F;have F:=ab F;go_wp2_with fail;refine(F.o).mono ?_;rintro e w3 ⟨rfl,bm⟩;have tR:=ab (HC.o.later bm);have R3:=ab (Rr.o.kept bm (fun h=>h) (fun h=>h) (fun _ _ _ h=>h) (fun h=>h) (fun h=>h));have g4:w3.cell? ⟨mb,k*6+4,none⟩=some (GW (mn:Int)):=(bm.cell (p:=⟨mb,k*6+4,none⟩) Rr.o.iz.lt (fun h=>h)).trans d4;clear bm F;obtain⟨nx,JT,Nm,hQ⟩:=oe.o w3 aO tR.o.2.2.2.1 tR.o.1 tR.o.2.1 tR.o.2.2.1;have PC:=(ab fun hH=>hQ hH mn zp);have F2:=ajk (c:=c2) (L:=L) (u:=mn) JT (Nm (mn/64) (by have:=ta.o;omega)) (by have:=ta.o;omega) (by omega);clear Nm hQ JT
      cases iX:gz nx 0 mn with
      |false=>
       rw[iX]at F2;have F2:=ab F2
       have NO:Hid (H->dV ms x k i=false):=fun hH=>by
        rw[ke.o];by_cases hl:i<x.n
        ·have:=PC.o hH;rw[iX]at this;have h2:dV ms x (mn:Int) (i+1)=false:=(by simpa[hl]using this.symm);rw[h2];simp
        ·simp[hl]
       clear iX eD TK ke PC;go_wp2_with fail;refine(F2.o).mono ?_;rintro e w4 ⟨rfl,rfl⟩;clear F2;go_wp2_with fail;have aA:=ab (tR.o.skip (aa.refl _ _) (fun hH=>NO.o hH));go_roundg (ms.length-(k+1))
       case measure=>omega
       case rel=>exact⟨k+1,_,by simp,by omega,rfl,aA⟩
      |true=>
       rw[iX]at F2;have F2:=ab F2
       have yL:Hid (H->dV ms x k i=true):=fun hH=>by
        rw[ke.o];have:=PC.o hH;rw[iX]at this
        have hl:i<x.n:=by
         refine Fy fun hl=>?_
         simp[hl]at this
        simp[hl]at this
        rw[<-this,<-TK.o hl,eD];simp[hl]
       clear iX eD TK ke PC;go_wp2_with fail;refine(F2.o).mono ?_;rintro e w4 ⟨rfl,rfl⟩;clear F2;go_wp2_with fail;refine(vw.o _ tR.o).mono ?_;rintro e w5 ⟨rfl,gI,cS⟩;have aA:=ab (tR.o.put uz gI cS (fun hH=>yL.o hH));clear gI cS;go_wp2_with fail;go_roundg (ms.length-(k+1))
       case measure=>omega
       case rel=>exact⟨k+1,_,by simp,by omega,rfl,aA⟩
    ·have hN:=HM.o.2.2.1 (by omega);obtain⟨mn,dP⟩:∃mn:Nat,m.next=(mn:Int):=⟨m.next.toNat,by omega⟩
     rw[dP]at d4;have ajY:mn<k:=(by omega);have F:=IT.o wr mn HC.o (by omega);have BN:=(ab fun hH=>Y7.o hH mn ajY);by_cases e2:m.kind=2
     ·rw[e2]at d0;have ke:Hid (dV ms x k i=(dV ms x (mn:Int) i&&fi m.eM (x.ahead i) (x.gZ i))):=by have:=HO.o.2.2.1 e2;rw[dP]at this;exact this
      clear dP hN
      cases iX:gz aO 0 mn with
      |false=>
       rw[iX]at F;have F:=ab F
       have NO:Hid (H->dV ms x k i=false):=fun hH=>by
        rw[ke.o,<-BN.o hH,iX];simp
       clear iX BN ke;go_wp2_with fail;refine(F.o).mono ?_;rintro e w4 ⟨rfl,rfl⟩;clear F;go_wp2_with fail;have aA:=ab (HC.o.skip (aa.refl _ _) (fun hH=>NO.o hH));go_roundg (ms.length-(k+1))
       case measure=>omega
       case rel=>exact⟨k+1,_,by simp,by omega,rfl,aA⟩
      |true=>
       rw[iX]at F;have F:=ab F;have F2:=acA wr m.eM ah bh;have HE:Hid (fi m.eM ah bh=fi m.eM (x.ahead i) (x.gZ i)):=by show _=_;rw[HAH.o,Zu.o]
       cases hh:fi m.eM ah bh with
       |false=>
        rw[hh]at F2;have F2:=ab F2
        have NO:Hid (H->dV ms x k i=false):=fun hH=>by
         rw[ke.o,<-BN.o hH,iX,<-HE.o,hh];simp
        clear iX BN ke hh HE;go_wp2_with fail;refine(F.o).mono ?_;rintro e w4 ⟨rfl,rfl⟩;clear F;go_wp2_with fail;refine(F2.o).mono ?_;rintro e w4 ⟨rfl,rfl⟩;clear F2;go_wp2_with fail;have aA:=ab (HC.o.skip (aa.refl _ _) (fun hH=>NO.o hH));go_roundg (ms.length-(k+1))
        case measure=>omega
        case rel=>exact⟨k+1,_,by simp,by omega,rfl,aA⟩
       |true=>
        rw[hh]at F2;have F2:=ab F2
        have yL:Hid (H->dV ms x k i=true):=fun hH=>by
         rw[ke.o,<-BN.o hH,iX,<-HE.o,hh];simp
        clear iX BN ke hh HE;go_wp2_with fail;refine(F.o).mono ?_;rintro e w4 ⟨rfl,rfl⟩;clear F;go_wp2_with fail;refine(F2.o).mono ?_;rintro e w4 ⟨rfl,rfl⟩;clear F2;go_wp2_with fail;refine(vw.o _ HC.o).mono ?_;rintro e w5 ⟨rfl,gI,cS⟩;have aA:=ab (HC.o.put uz gI cS (fun hH=>yL.o hH));clear gI cS;go_wp2_with fail;go_roundg (ms.length-(k+1))
        case measure=>omega
        case rel=>exact⟨k+1,_,by simp,by omega,rfl,aA⟩
     ·by_cases e3:m.kind=3
      ·rw[e3]at d0;have ke:Hid (dV ms x k i=dV ms x (mn:Int) i):=by have:=HO.o.2.2.2.1 e3;rw[dP]at this;exact this
       clear dP hN
       cases iX:gz aO 0 mn with
       |false=>
        rw[iX]at F;have F:=ab F
        have NO:Hid (H->dV ms x k i=false):=fun hH=>by
         rw[ke.o,<-BN.o hH,iX]
        clear iX BN ke;go_wp2_with fail;refine(F.o).mono ?_;rintro e w4 ⟨rfl,rfl⟩;clear F;go_wp2_with fail;have aA:=ab (HC.o.skip (aa.refl _ _) (fun hH=>NO.o hH));go_roundg (ms.length-(k+1))
        case measure=>omega
        case rel=>exact⟨k+1,_,by simp,by omega,rfl,aA⟩
       |true=>
        rw[iX]at F;have F:=ab F
        have yL:Hid (H->dV ms x k i=true):=fun hH=>by
         rw[ke.o,<-BN.o hH,iX]
        clear iX BN ke;go_wp2_with fail;refine(F.o).mono ?_;rintro e w4 ⟨rfl,rfl⟩;clear F;go_wp2_with fail;refine(vw.o _ HC.o).mono ?_;rintro e w5 ⟨rfl,gI,cS⟩;have aA:=ab (HC.o.put uz gI cS (fun hH=>yL.o hH));clear gI cS;go_wp2_with fail;go_roundg (ms.length-(k+1))
        case measure=>omega
        case rel=>exact⟨k+1,_,by simp,by omega,rfl,aA⟩
      ·have e4:m.kind=4:=(by omega);rw[e4]at d0;have xD:=HM.o.2.2.2 e4;obtain⟨mo,fD⟩:∃mo:Nat,m.bj=(mo:Int):=⟨m.bj.toNat,by omega⟩
       rw[fD]at d5;have ajZ:mo<k:=(by omega);have F2:=IT.o wr mo HC.o (by omega);have BO:=(ab fun hH=>Y7.o hH mo ajZ);have ke:Hid (dV ms x k i=(dV ms x (mn:Int) i||dV ms x (mo:Int) i)):=by have:=HO.o.2.2.2.2 e4;rw[dP,fD]at this;exact this
       clear dP hN fD xD
       cases iX:gz aO 0 mn with
       |true=>
        rw[iX]at F;have F:=ab F
        have yL:Hid (H->dV ms x k i=true):=fun hH=>by
         rw[ke.o,<-BN.o hH,iX];simp
        clear iX BN ke F2 BO;go_wp2_with fail;refine(F.o).mono ?_;rintro e w4 ⟨rfl,rfl⟩;clear F;go_wp2_with fail;refine(vw.o _ HC.o).mono ?_;rintro e w5 ⟨rfl,gI,cS⟩;have aA:=ab (HC.o.put uz gI cS (fun hH=>yL.o hH));clear gI cS;go_wp2_with fail;go_roundg (ms.length-(k+1))
        case measure=>omega
        case rel=>exact⟨k+1,_,by simp,by omega,rfl,aA⟩
       |false=>
        rw[iX]at F;have F:=ab F
        cases y9:gz aO 0 mo with
        |false=>
         rw[y9]at F2;have F2:=ab F2
         have NO:Hid (H->dV ms x k i=false):=fun hH=>by
          rw[ke.o,<-BN.o hH,<-BO.o hH,iX,y9];simp
         clear iX BN ke BO y9;go_wp2_with fail;refine(F.o).mono ?_;rintro e w4 ⟨rfl,rfl⟩;clear F;go_wp2_with fail;refine(F2.o).mono ?_;rintro e w4 ⟨rfl,rfl⟩;clear F2;go_wp2_with fail;have aA:=ab (HC.o.skip (aa.refl _ _) (fun hH=>NO.o hH));go_roundg (ms.length-(k+1))
         case measure=>omega
         case rel=>exact⟨k+1,_,by simp,by omega,rfl,aA⟩
        |true=>
         rw[y9]at F2;have F2:=ab F2
         have yL:Hid (H->dV ms x k i=true):=fun hH=>by
          rw[ke.o,<-BN.o hH,<-BO.o hH,iX,y9];simp
         clear iX BN ke BO y9;go_wp2_with fail;refine(F.o).mono ?_;rintro e w4 ⟨rfl,rfl⟩;clear F;go_wp2_with fail;refine(F2.o).mono ?_;rintro e w4 ⟨rfl,rfl⟩;clear F2;go_wp2_with fail;refine(vw.o _ HC.o).mono ?_;rintro e w5 ⟨rfl,gI,cS⟩;have aA:=ab (HC.o.put uz gI cS (fun hH=>yL.o hH));clear gI cS;go_wp2_with fail;go_roundg (ms.length-(k+1))
         case measure=>omega
         case rel=>exact⟨k+1,_,by simp,by omega,rfl,aA⟩
  ·have gK:k=ms.length:=(by omega);have jP:¬(k:Int)<(ms.length:Int):=by omega
   have aA:Hid (aa (fun i=>i=B1) w wr/\∃aO,aO.length=L/\gu aO/\au wr B1 (dr (splice ws o1 aO)).toArray 207/\(H->∀u:Nat,u<ms.length->gz aO 0 u=dV ms x u i)):=
    ⟨HC.o.2.2.2.1,aO,HC.o.1,HC.o.2.1,HC.o.2.2.1,fun hH u hu=>by rw[HC.o.2.2.2.2 hH u (by have:=ta.o;omega)];simp;omega⟩
   clear gK HC;go_wp2_with fail;go_end0;exact⟨rfl,aA.o⟩
