/- Stretches of a t -/
import Derived.Test.YtpdnofhackjfdaaGreatDoorP21
set_option linter.all false
set_option maxRecDepth 100000
set_option maxHeartbeats 8000000
namespace Go.Proofs.YtpdnofhackjfdaaGreatDoor
open Go.Proofs.Tryz
variable {r:ik} {G aj st v:Int} {gs:List Int} {ms:List MS} {aM ws:List Nat} {vs:List Sv} {m:MS} {B B1 L c d hi i k lo mb o o1 ob u:Nat} {f:Nat->Bool} {H:Prop} {bv fv rv:Value} {w w' wr:World}
structure CX where
 s:ByteArray
 aB:Int
 ah:Int
 bh:Int
 op:Bool
def CX.n(c:CX):Nat:=(aF c.s).length
def CX.bl(c:CX)(i:Nat):Int:=(fP c.s).bl i
def CX.ahead(c:CX)(i:Nat):Int:=if i=0 then c.ah else c.bl (i-1)
def CX.gM(c:CX)(i:Nat):Int:=if i<c.n then c.bl i else c.bh
def CX.aY(c:CX)(i:Nat):Int:=c.aB+(bd c.s i:Int)
def qw(ms:List MS)(c:CX):Nat->Int->Nat->List Int->ik
 |0,_,_,_=>none
 |d+1,u,i,gs=>
  if c.op&&decide (c.n<=i)then some (i,gs)else
  match ms[u.toNat]? with
  |none=>none
  |some m=>
   if m.kind=0 then some (i,gs)
   else if m.kind=1 then(if decide (i<c.n)&&eV m.sp m.fo m.nt (c.bl i)then qw ms c d m.next (i+1) gs else none)
   else if m.kind=2 then(if e_ m.eE (c.ahead i) (c.gM i)then qw ms c d m.next i gs else none)
   else if m.kind=3 then qw ms c d m.next i (gs.set m.slot.toNat (c.aY i))
   else(qw ms c d m.next i gs).or (qw ms c d m.a_ i gs)
def rS(ms:List MS)(c:CX)(u:Int)(i:Nat):Nat:=(c.n-i)*(ms.length+1)+u.toNat+1
theorem Wo{c:CX}{u:Int}(hd:rS ms c u i<=d+1)(hi:i<c.n)(hv:v<ms.length):rS ms c v (i+1)<=d:=by
 unfold rS at*;obtain⟨k,hk⟩:∃k,c.n-i=k+1:=⟨c.n-i-1,by omega⟩
 rw[hk,Fi]at hd;rw[show c.n-(i+1)=k by omega];omega
theorem JH{c:CX}(hd:rS ms c u i<=d+1)(h0:0<=v)(hv:v<u):rS ms c v i<=d:=by
 unfold rS at*;have:(u:Int).toNat=u:=Ay u;omega
theorem Ud(hg:eW ms)(c:CX):∀(d e:Nat) (u:Nat) (i:Nat) (gs:List Int),rS ms c u i<=d->rS ms c u i<=e->u<ms.length->i<=c.n->qw ms c d u i gs=qw ms c e u i gs
 |0,e,u,i,gs,h,_,_,_=>by unfold rS at h;omega
 |d+1,0,u,i,gs,_,h,_,_=>by unfold rS at h;omega
 |d+1,e+1,u,i,gs,hd,he,hu,hi=>by
  unfold qw;simp only[Ay];rw[Ae hu];have hm:ms[u]? =some ms[u]:=Ae hu;generalize ms[u]=m at hm⊢;obtain⟨⟨k0,k4⟩,g1,g2,g3⟩:=hg u m hm;dsimp only
  have T:∀v:Int,0<=v->v<u->∀gs,qw ms c d v i gs=qw ms c e v i gs:=fun v h0 hv gs=>by
   obtain⟨k,rfl⟩:=Au h0;exact Ud hg c d e k i gs (JH hd h0 hv) (JH he h0 hv) (by omega) hi
  congr 1
  by_cases e0:m.kind=0
  ·rw[if_pos e0,if_pos e0]
  ·rw[if_neg e0,if_neg e0];by_cases e1:m.kind=1
   ·rw[if_pos e1,if_pos e1];by_cases ht:(decide (i<c.n)&&eV m.sp m.fo m.nt (c.bl i))=true
    ·rw[if_pos ht,if_pos ht];have aw:i<c.n:=by simp at ht;exact ht.1
     have hn:=g1 e1;obtain⟨k,hk⟩:=Au hn.1;rw[hk];exact Ud hg c d e k (i+1) gs (Wo hd aw (by omega)) (Wo he aw (by omega)) (by omega) aw
    ·rw[if_neg ht,if_neg ht]
   ·rw[if_neg e1,if_neg e1];have hn:=g2 (by omega);by_cases e2:m.kind=2
    ·rw[if_pos e2,if_pos e2,T _ hn.1 hn.2]
    ·rw[if_neg e2,if_neg e2];by_cases e3:m.kind=3
     ·rw[if_pos e3,if_pos e3,T _ hn.1 hn.2]
     ·rw[if_neg e3,if_neg e3];have ho:=g3 (by omega);rw[T _ hn.1 hn.2,T _ ho.1 ho.2]
def cZ(ms:List MS)(c:CX)(u:Int)(i:Nat)(gs:List Int):ik:=qw ms c (rS ms c u i) u i gs
theorem Ny(hg:eW ms)(c:CX)(h0:0<=v)(hv:v<ms.length)(hi:i<=c.n)(hd:rS ms c v i<=d):qw ms c d v i gs=cZ ms c v i gs:=by
 obtain⟨k,rfl⟩:=Au h0;exact Ud hg c d _ k i gs hd (Ab _) (by omega) hi
theorem yX{c:CX}{u:Int}(ho:c.op=true)(hi:c.n<=i):cZ ms c u i gs=some (i,gs):=by
 unfold cZ rS qw;rw[if_pos (by simp[ho,hi])]
theorem oN(hg:eW ms)(c:CX)(hi:i<=c.n)(hm:ms[u]? =some m)(ht:(c.op&&decide (c.n<=i))=false)(gs:List Int):
 (m.kind=0->cZ ms c u i gs=some (i,gs))/\
 (m.kind=1->cZ ms c u i gs=if(decide (i<c.n)&&eV m.sp m.fo m.nt (c.bl i))=true then cZ ms c m.next (i+1) gs else none)/\
 (m.kind=2->cZ ms c u i gs=if e_ m.eE (c.ahead i) (c.gM i)=true then cZ ms c m.next i gs else none)/\
 (m.kind=3->cZ ms c u i gs=cZ ms c m.next i (gs.set m.slot.toNat (c.aY i)))/\
 (m.kind=4->cZ ms c u i gs=(cZ ms c m.next i gs).or (cZ ms c m.a_ i gs)):=by
 have hu:=(Ag.1 hm).1;obtain⟨⟨k0,k4⟩,g1,g2,g3⟩:=hg u m hm;obtain⟨d,hd⟩:∃d,rS ms c u i=d+1:=⟨_,rfl⟩
 have E:cZ ms c u i gs=qw ms c (d+1) u i gs:=by unfold cZ;rw[hd]
 rw[E];unfold qw;rw[ht,Ay,hm];simp only[Aq,if_false];refine⟨fun e=>by rw[if_pos e],fun e=>?_,fun e=>?_,fun e=>?_,fun e=>?_⟩
 ·have hn:=g1 e;rw[if_neg (by omega),if_pos e];by_cases h:(decide (i<c.n)&&eV m.sp m.fo m.nt (c.bl i))=true
  ·rw[if_pos h,if_pos h];have aw:i<c.n:=by simp at h;exact h.1
   exact Ny hg c hn.1 hn.2 aw (Wo (u:=(u:Int)) (by omega) aw hn.2)
  ·rw[if_neg h,if_neg h]
 ·have hn:=g2 (by omega);rw[if_neg (by omega),if_neg (by omega),if_pos e,Ny hg c hn.1 (by omega) hi (JH (by omega) hn.1 hn.2)]
 ·have hn:=g2 (by omega);rw[if_neg (by omega),if_neg (by omega),if_neg (by omega),if_pos e,Ny hg c hn.1 (by omega) hi (JH (by omega) hn.1 hn.2)]
 ·have hn:=g2 (by omega);have ho:=g3 e;rw[if_neg (by omega),if_neg (by omega),if_neg (by omega),if_neg (by omega),Ny hg c hn.1 (by omega) hi (JH (by omega) hn.1 hn.2),Ny hg c ho.1 (by omega) hi (JH (by omega) ho.1 ho.2)]
theorem Pp(hg:eW ms)(n:Nat){Q:Nat->Nat->Prop}
 (h:∀(u i:Nat) (m:MS),i<=n->ms[u]? =some m->(∀v:Nat,v<u->Q v i)->(∀v:Nat,v<ms.length->i<n->Q v (i+1))->Q u i):∀(d i:Nat),n-i<=d->i<=n->∀u,u<ms.length->Q u i:=by
 intro d;induction d with
 |zero=>
  intro i hd hi u;induction u using Nat.strongRecOn with
  |_ u ih=>exact fun hu=>h u i _ hi (Ae hu) (fun v hv=>ih v hv (by omega)) (fun v _ aw=>absurd aw (by omega))
 |succ d ihd=>
  intro i hd hi u;induction u using Nat.strongRecOn with
  |_ u ih=>exact fun hu=>h u i _ hi (Ae hu) (fun v hv=>ih v hv (by omega)) (fun v hv aw=>ihd (i+1) (by omega) aw v hv)
theorem QS{α β:Type}(f:α->β)(a b:Option α):(a.or b).map f=(a.map f).or (b.map f):=by cases a<;>rfl
theorem aef(hg:eW ms)(c:CX)(hu:u<ms.length)(hi:i<=c.n)(gs dB:List Int):(cZ ms c u i gs).map (·.1)=(cZ ms c u i dB).map (·.1):=by
 refine Pp hg c.n (Q:=fun u i=>∀gs dB,(cZ ms c u i gs).map (·.1)=(cZ ms c u i dB).map (·.1)) (fun u i m hi hm GM GN gs dB=>?_) _ i (Ab _) hi u hu gs dB
 cases ht:(c.op&&decide (c.n<=i))with
 |true=>simp at ht;rw[yX ht.1 ht.2,yX ht.1 ht.2];rfl
 |false=>
  obtain⟨⟨k0,k4⟩,g1,g2,g3⟩:=hg u m hm;obtain⟨a0,a1,a2,a3,a4⟩:=oN hg c hi hm ht gs;obtain⟨b0,b1,b2,b3,b4⟩:=oN hg c hi hm ht dB
  have T:∀v:Int,0<=v->v<u->∀gs dB,(cZ ms c v i gs).map (·.1)=(cZ ms c v i dB).map (·.1):=fun v h0 hv=>by
   obtain⟨k,rfl⟩:=Au h0;exact GM k (by omega)
  by_cases e0:m.kind=0
  ·rw[a0 e0,b0 e0];rfl
  ·by_cases e1:m.kind=1
   ·rw[a1 e1,b1 e1];by_cases h:(decide (i<c.n)&&eV m.sp m.fo m.nt (c.bl i))=true
    ·rw[if_pos h,if_pos h];have aw:i<c.n:=by simp at h;exact h.1
     have hn:=g1 e1;obtain⟨k,hk⟩:=Au hn.1;rw[hk];exact GN k (by omega) aw _ _
    ·rw[if_neg h,if_neg h]
   ·have hn:=g2 (by omega);by_cases e2:m.kind=2
    ·rw[a2 e2,b2 e2];by_cases h:e_ m.eE (c.ahead i) (c.gM i)=true
     ·rw[if_pos h,if_pos h];exact T _ hn.1 hn.2 _ _
     ·rw[if_neg h,if_neg h]
    ·by_cases e3:m.kind=3
     ·rw[a3 e3,b3 e3];exact T _ hn.1 hn.2 _ _
     ·have e4:m.kind=4:=(by omega);have ho:=g3 e4;rw[a4 e4,b4 e4,QS,QS,T _ hn.1 hn.2 gs dB,T _ ho.1 ho.2 gs dB]
def dP(ms:List MS)(c:CX)(u:Int)(i:Nat):Bool:=(cZ ms c u i []).isSome
theorem Nk(hg:eW ms)(c:CX)(hu:u<ms.length)(hi:i<=c.n)(gs:List Int):dP ms c u i=(cZ ms c u i gs).isSome:=by
 have:=aef hg c hu hi [] gs;unfold dP
 cases h1:cZ ms c (u:Int) i []<;>cases h2:cZ ms c (u:Int) i gs<;>rw[h1,h2]at this<;>first|rfl|cases this
theorem alQ{c:CX}{u:Int}(ho:c.op=true)(hi:c.n<=i):dP ms c u i=true:=by unfold dP;rw[yX ho hi];rfl
theorem alP(hg:eW ms)(c:CX)(hi:i<=c.n)(hm:ms[u]? =some m)(ht:(c.op&&decide (c.n<=i))=false):
 (m.kind=0->dP ms c u i=true)/\
 (m.kind=1->dP ms c u i=((decide (i<c.n)&&eV m.sp m.fo m.nt (c.bl i))&&dP ms c m.next (i+1)))/\
 (m.kind=2->dP ms c u i=(dP ms c m.next i&&e_ m.eE (c.ahead i) (c.gM i)))/\
 (m.kind=3->dP ms c u i=dP ms c m.next i)/\(m.kind=4->dP ms c u i=(dP ms c m.next i||dP ms c m.a_ i)):=by
 have hu:=(Ag.1 hm).1;obtain⟨⟨k0,k4⟩,g1,g2,g3⟩:=hg u m hm;obtain⟨a0,a1,a2,a3,a4⟩:=oN hg c hi hm ht [];refine⟨fun e=>by unfold dP;rw[a0 e];rfl,fun e=>?_,fun e=>?_,fun e=>?_,fun e=>?_⟩
 ·unfold dP;rw[a1 e];by_cases h:(decide (i<c.n)&&eV m.sp m.fo m.nt (c.bl i))=true
  ·rw[if_pos h,h,D9]
  ·rw[if_neg h,En.2 h];rfl
 ·unfold dP;rw[a2 e];by_cases h:e_ m.eE (c.ahead i) (c.gM i)=true
  ·rw[if_pos h,h,Bool.and_true]
  ·rw[if_neg h,En.2 h,Bool.and_false];rfl
 ·have hn:=g2 (by omega);obtain⟨k,hk⟩:=Au hn.1;have h1:=Nk hg c (u:=k) (by omega) hi (([]:List Int).set m.slot.toNat (c.aY i));rw[hk,h1,<-hk,<-a3 e];rfl
 ·unfold dP;rw[a4 e]
  cases cZ ms c m.next i []<;>rfl
def lq(ms:List MS)(c:CX)(u:Int)(i:Nat):Option Nat:=(cZ ms c u i []).map (·.1)
theorem Pf(hg:eW ms)(c:CX)(hu:u<ms.length)(hi:i<=c.n)(gs:List Int):lq ms c u i=(cZ ms c u i gs).map (·.1):=aef hg c hu hi [] gs
theorem Lx(hg:eW ms)(c:CX)(hi:i<c.n):tC ms (lq ms c) i (c.ahead i) (c.bl i):=by
 have ht:(c.op&&decide (c.n<=i))=false:=by
  have:decide (c.n<=i)=false:=Bh (by omega);rw[this,Bool.and_false]
 have hb:c.gM i=c.bl i:=if_pos hi;refine⟨fun u m hm e=>?_,fun u m hm e=>?_,fun u m hm e=>?_,fun u m hm e=>?_,fun u m hm e=>?_⟩<;>obtain⟨a0,a1,a2,a3,a4⟩:=oN hg c (by omega) hm ht []<;>obtain⟨⟨k0,k4⟩,g1,g2,g3⟩:=hg u m hm<;>have hu:=(Ag.1 hm).1
 ·unfold lq;rw[a0 e];rfl
 ·unfold lq;rw[a1 e];have:decide (i<c.n)=true:=Cz hi;rw[this,D9];by_cases h:eV m.sp m.fo m.nt (c.bl i)=true
  ·rw[if_pos h,if_pos h]
  ·rw[if_neg h,if_neg h];rfl
 ·unfold lq;rw[a2 e,hb];by_cases h:e_ m.eE (c.ahead i) (c.bl i)=true
  ·rw[if_pos h,if_pos h]
  ·rw[if_neg h,if_neg h];rfl
 ·have hn:=g2 (by omega);obtain⟨k,hk⟩:=Au hn.1;have h1:=Pf hg c (u:=k) (i:=i) (by omega) (by omega) (([]:List Int).set m.slot.toNat (c.aY i));rw[hk,h1,<-hk,<-a3 e];rfl
 ·unfold lq;rw[a4 e,QS]
theorem Hp(hg:eW ms)(c:CX)(hu:u<ms.length)(hi:i<=c.n)(gs:List Int):∀j dB,cZ ms c u i gs=some (j,dB)->i<=j/\j<=c.n/\dB.length=gs.length:=by
 refine Pp hg c.n (Q:=fun u i=>∀gs j dB,cZ ms c u i gs=some (j,dB)->i<=j/\j<=c.n/\dB.length=gs.length) (fun u i m hi hm GM GN gs j dB hr=>?_) _ i (Ab _) hi u hu gs
 cases ht:(c.op&&decide (c.n<=i))with
 |true=>
  simp only[Co,Az]at ht;rw[yX ht.1 ht.2]at hr;simp only[Ba,Cm]at hr;exact⟨by omega,by omega,by rw[hr.2]⟩
 |false=>
  obtain⟨⟨k0,k4⟩,g1,g2,g3⟩:=hg u m hm;obtain⟨a0,a1,a2,a3,a4⟩:=oN hg c hi hm ht gs
  have T:∀v:Int,0<=v->v<u->∀gs j dB,cZ ms c v i gs=some (j,dB)->i<=j/\j<=c.n/\dB.length=gs.length:=fun v h0 hv=>by
   obtain⟨k,rfl⟩:=Au h0;exact GM k (by omega)
  by_cases e0:m.kind=0
  ·rw[a0 e0]at hr;simp only[Ba,Cm]at hr;exact⟨by omega,by omega,by rw[hr.2]⟩
  ·by_cases e1:m.kind=1
   ·rw[a1 e1]at hr;by_cases h:(decide (i<c.n)&&eV m.sp m.fo m.nt (c.bl i))=true
    ·rw[if_pos h]at hr;have aw:i<c.n:=by simp at h;exact h.1
     have hn:=g1 e1;obtain⟨k,hk⟩:=Au hn.1;rw[hk]at hr;have:=GN k (by omega) aw _ _ _ hr;exact⟨by omega,this.2⟩
    ·rw[if_neg h]at hr;cases hr
   ·have hn:=g2 (by omega);by_cases e2:m.kind=2
    ·rw[a2 e2]at hr;by_cases h:e_ m.eE (c.ahead i) (c.gM i)=true
     ·rw[if_pos h]at hr;exact T _ hn.1 hn.2 _ _ _ hr
     ·rw[if_neg h]at hr;cases hr
    ·by_cases e3:m.kind=3
     ·rw[a3 e3]at hr;have:=T _ hn.1 hn.2 _ _ _ hr;rw[Bm]at this;exact this
     ·have e4:m.kind=4:=(by omega);have ho:=g3 e4;rw[a4 e4]at hr
      cases h1:cZ ms c m.next i gs with
      |some v=>rw[h1]at hr;simp only[Ed,Ba]at hr;rw[hr]at h1;exact T _ hn.1 hn.2 _ _ _ h1
      |none=>rw[h1]at hr;simp only[Ee]at hr;exact T _ ho.1 ho.2 _ _ _ hr
theorem anL(hg:eW ms)(c:CX)(hi:i<=c.n)(hm:ms[u]? =some m)(ht:(c.op&&decide (c.n<=i))=false)(h:cZ ms c u i gs=r):
 (m.kind=0/\r=some (i,gs))\/
 (m.kind=1/\(decide (i<c.n)&&eV m.sp m.fo m.nt (c.bl i))=true/\cZ ms c m.next (i+1) gs=r)\/
 (m.kind=1/\(decide (i<c.n)&&eV m.sp m.fo m.nt (c.bl i))=false/\r=none)\/
 (m.kind=2/\e_ m.eE (c.ahead i) (c.gM i)=true/\cZ ms c m.next i gs=r)\/
 (m.kind=2/\e_ m.eE (c.ahead i) (c.gM i)=false/\r=none)\/
 (m.kind=3/\cZ ms c m.next i (gs.set m.slot.toNat (c.aY i))=r)\/
 (m.kind=4/\∃v,r=some v/\cZ ms c m.next i gs=some v)\/
 (m.kind=4/\cZ ms c m.next i gs=none/\cZ ms c m.a_ i gs=r):=by
 obtain⟨⟨k0,k4⟩,_⟩:=hg u m hm;obtain⟨a0,a1,a2,a3,a4⟩:=oN hg c hi hm ht gs;by_cases e0:m.kind=0
 ·exact Or.inl ⟨e0,by rw[<-h,a0 e0]⟩
 ·by_cases e1:m.kind=1
  ·rw[a1 e1]at h
   cases hb:(decide (i<c.n)&&eV m.sp m.fo m.nt (c.bl i))with
   |true=>rw[hb,if_pos rfl]at h;exact Or.inr (Or.inl ⟨e1,rfl,h⟩)
   |false=>rw[hb,if_neg (by simp)]at h;exact Or.inr (Or.inr (Or.inl ⟨e1,rfl,h.symm⟩))
  ·by_cases e2:m.kind=2
   ·rw[a2 e2]at h
    cases hb:e_ m.eE (c.ahead i) (c.gM i)with
    |true=>rw[hb,if_pos rfl]at h;exact Or.inr (Or.inr (Or.inr (Or.inl ⟨e2,rfl,h⟩)))
    |false=>rw[hb,if_neg (by simp)]at h;exact Or.inr (Or.inr (Or.inr (Or.inr (Or.inl ⟨e2,rfl,h.symm⟩))))
   ·by_cases e3:m.kind=3
    ·exact Or.inr (Or.inr (Or.inr (Or.inr (Or.inr (Or.inl ⟨e3,by rw[<-h,a3 e3]⟩)))))
    ·have e4:m.kind=4:=(by omega);rw[a4 e4]at h
     cases hx:cZ ms c m.next i gs with
     |some v=>rw[hx]at h;exact Or.inr (Or.inr (Or.inr (Or.inr (Or.inr (Or.inr (Or.inl ⟨e4,v,h.symm,rfl⟩))))))
     |none=>rw[hx,Ee]at h;exact Or.inr (Or.inr (Or.inr (Or.inr (Or.inr (Or.inr (Or.inr ⟨e4,rfl,h⟩))))))
def aO(s:ByteArray):CX:=⟨s,0,-1,-1,false⟩
theorem ae7(s:ByteArray)(e:Int)(hi:i<=(aO s).n):e_ e ((aO s).ahead i) ((aO s).gM i)=EO (fP s) e i:=by
 rw[<-ajx s e hi];have h1:(aO s).ahead i=Lc s i:=rfl
 have h2:(aO s).gM i=(fP s).bl i:=by
  unfold CX.gM;by_cases h:i<(aO s).n
  ·rw[if_pos h];rfl
  ·rw[if_neg h,Xc (s:=s) (Fo h)];rfl
 rw[h1,h2]
theorem anO(hg:eW ms)(s:ByteArray){u:Int}(h:cR ms (fP s) u i gs r):i<=(aF s).length->cZ ms (aO s) u i gs=r:=by
 induction h with
 |done u m i gs h hk=>exact fun hi=>(oN hg (aO s) hi h rfl gs).1 hk
 |js u m i gs r h hk ht hn ih=>
  intro hi;have BH:(decide (i<(aO s).n)&&eV m.sp m.fo m.nt ((aO s).bl i))=true:=ht;rw[(oN hg (aO s) hi h rfl gs).2.1 hk,if_pos BH];exact ih (by simp only[Co,Az]at ht;exact ht.1)
 |ja u m i gs h hk ht=>
  intro hi;have BH:¬(decide (i<(aO s).n)&&eV m.sp m.fo m.nt ((aO s).bl i))=true:=by rw[show(decide (i<(aO s).n)&&eV m.sp m.fo m.nt ((aO s).bl i))=false from ht];simp
  rw[(oN hg (aO s) hi h rfl gs).2.1 hk,if_neg BH]
 |RI u m i gs r h hk he hn ih=>
  intro hi;rw[(oN hg (aO s) hi h rfl gs).2.2.1 hk,ae7 s _ hi,if_pos he];exact ih hi
 |RH u m i gs h hk he=>
  intro hi;rw[(oN hg (aO s) hi h rfl gs).2.2.1 hk,ae7 s _ hi,he];rfl
 |mark u m i gs r h hk hn ih=>
  intro hi;have hb:(aO s).aY i=(fP s).aY i:=by rw[Ll];unfold CX.aY aO;simp
  rw[(oN hg (aO s) hi h rfl gs).2.2.2.1 hk,hb];exact ih hi
 |zY u m i gs v h hk hn ih=>
  intro hi;rw[(oN hg (aO s) hi h rfl gs).2.2.2.2 hk,ih hi];rfl
 |zX u m i gs r h hk hn ho ih uj=>
  intro hi;rw[(oN hg (aO s) hi h rfl gs).2.2.2.2 hk,ih hi,uj hi];rfl
open Go.RowKit Go.Maps
def Hg(sv:Value)(st G:Int)(x:CX)(bv fv:Value)(aj:Int)(rv:Value):Array Value:=#[sv,.int .i64 st,.int .i64 G,.string x.s,.int .i64 x.aB,.int .i32 x.ah,.int .i32 x.bh,.bool x.op,bv,fv,.int .i64 aj,rv]
theorem zi(h:k<ws.length):(dg ws).toArray[k]? =some (.int .u64 (ws.getD k 0:Nat)):=by
 unfold dg;simp[Af,Ae h]
theorem ae3(ws:List Nat)(k x:Nat):(dg ws).toArray.setIfInBounds k (.int .u64 (x:Int))=(dg (ws.set k x)).toArray:=by
 unfold dg;simp[Fk]
theorem aiH(h:aq w B (dg (splice ws o aM)).toArray 207)(hL:aM.length=L)(hw:fY aM)(ho:o+L<=ws.length)(hu:u/64<L)(jY:u<100000):
 Calls prog 90 #[.slice (some ⟨B,o,none⟩) L c,.int .i64 (u:Int)] w fun e w'=>e=.returned (.bool (gd aM 0 u))/\w'=w:=by
 subst hL;have hc:=h.cell (o+u/64);rw[zi (by rw[Dg _ _ _ ho];omega),y_ _ _ _ ho,if_pos (by omega),show o+u/64-o=0+u/64 by omega]at hc;exact UI w B o aM.length c _ u (hw.getD _) hu jY hc
theorem aiI{nx:List Nat}(hw:fY nx)(hc:w.cell? ⟨B,o+u/64,none⟩=some (.int .u64 (nx.getD (u/64) 0:Nat)))(hu:u/64<L)(jY:u<100000):
 Calls prog 90 #[.slice (some ⟨B,o,none⟩) L c,.int .i64 (u:Int)] w fun e w'=>e=.returned (.bool (gd nx 0 u))/\w'=w:=by
 have:=UI w B o L c _ u (hw.getD _) hu jY hc;unfold gd;rw[Bf];exact this
theorem ang(h:aq w B (dg (splice ws o aM)).toArray 207)(hL:aM.length=L)(hw:fY aM)(ho:o+L<=ws.length)(hu:u/64<L)(jY:u<100000):
 Calls prog 114 #[.slice (some ⟨B,o,none⟩) L c,.int .i64 (u:Int)] w fun e w'=>e=.returned (.tuple #[])/\aq w' B (dg (splice ws o (tw aM 0 u))).toArray 207/\aa (fun i=>i=B) w w':=by
 subst hL;have aw:o+u/64<(splice ws o aM).length:=by rw[Dg _ _ _ ho];omega
 have hc:=h.cell (o+u/64);rw[zi aw]at hc
 have hx:(splice ws o aM).getD (o+u/64) 0<18446744073709551616:=by
  rw[y_ _ _ _ ho,if_pos (by omega)];exact hw.getD _
 refine(anf w B o aM.length c _ u hx hu jY hc (h.frozen _)).mono ?_;rintro e w' ⟨h1,rfl⟩;refine⟨h1,?_,(aa.drew (aa.refl (fun i=>i=B) w)).setCell (p:=⟨B,o+u/64,none⟩) (Or.inl rfl) _⟩;have hb:aq w.drew B (dg (splice ws o aM)).toArray 207:=h;have:=hb.setCell (o+u/64) (.int .u64 (((splice ws o aM).getD (o+u/64) 0|||2^ (u % 64):Nat):Int));rw[ae3]at this;rw[<-ane ho hu];exact this
theorem CX.alJ{x:CX}(h:i<(aF x.s).length):(x.op&&decide (x.n<=i))=false:=by
 rw[show decide (x.n<=i)=false from Bh (by unfold CX.n;omega),Bool.and_false]
theorem afN(w:World)(x:CX)(i:Nat)(hi:i<=x.n)(hs:x.s.size<=1000000000)(hT:jf w):Calls prog 111 #[.agg #[.string x.s,.int .i64 x.aB,.int .i32 x.ah,.int .i32 x.bh,.bool x.op],.int .i64 (bd x.s i:Int)] w fun e w'=>
 e=.returned (.tuple #[.int .i32 (x.ahead i),.int .i32 (x.gM i)])/\aa af w w':=by
 refine(afO w x.s (bd x.s i) x.aB x.ah x.bh x.op (iQ x.s i) hs hT).mono ?_;rintro e w' ⟨rfl,hk⟩;refine⟨?_,hk⟩
 have e1:(if 0<bd x.s i then((Lib.decodeLastL (x.s.extract 0 (bd x.s i)).data.toList).1:Int)else x.ah)=x.ahead i:=by
  unfold CX.ahead;by_cases h0:i=0
  ·subst h0;rw[sB,if_neg (by omega),if_pos rfl]
  ·obtain⟨j,rfl⟩:∃j,i=j+1:=⟨i-1,by omega⟩
   have hj:j<(aF x.s).length:=by unfold CX.n at hi;omega
   have:=(pJ hj).1;rw[if_pos (by omega),if_neg (by omega),acv hj,Cv];rfl
 have e2:(if bd x.s i<x.s.size then((Lib.decodeGo (x.s.extract (bd x.s i) x.s.size)).1:Int)else x.bh)=x.gM i:=by
  unfold CX.gM;by_cases aw:i<x.n
  ·have:=u2 (s:=x.s) aw;rw[if_pos this,if_pos aw,TJ x.s _ this];unfold CX.bl;rw[Nz (s:=x.s) aw]
  ·have hb:=mP (s:=x.s) (i:=i) (by unfold CX.n at aw;omega);rw[if_neg (by omega),if_neg aw]
 rw[e1,e2]
structure zF(w:World)(ob lo hi mb c:Nat)(vs:List Sv)(ms:List MS)(x:CX)(st G:Int)(bv fv:Value)(aj:Int)(rv:Value):Prop where
 o:aq w ob (Hg (.slice (some ⟨mb,0,none⟩) ms.length c) st G x bv fv aj rv) 170
 iw:je w mb vs ms
 we:∀i,(h:i<vs.length)->(h':i<ms.length)->gu w lo hi vs[i] ms[i]
 le:hi<=w.heap.size
 j8:jf w
theorem zF.kept{x:CX}{K:Nat->Prop}(h:zF w ob lo hi mb c vs ms x st G bv fv aj rv)(k:aa K w w')(h1:¬K ob)(h2:¬K mb)(h3:∀i,lo<=i->i<hi->¬K i)(h4:¬K 0)(h5:¬K 1):zF w' ob lo hi mb c vs ms x st G bv fv aj rv:=
 ⟨h.o.kept k h1,h.iw.kept k h2,fun i a b=>(h.we i a b).kept k h3 h.le,Bb h.le k.size,h.j8.kept k h4 h5⟩
def NR(ob lo hi mb B:Nat):Prop:=B≠ob/\B≠mb/\¬(lo<=B/\B<hi)/\B≠0/\B≠1
theorem zF.row{x:CX}(h:zF w ob lo hi mb c vs ms x st G bv fv aj rv)(k:aa (fun i=>i=B) w w')(ha:NR ob lo hi mb B):zF w' ob lo hi mb c vs ms x st G bv fv aj rv:=
 h.kept k (fun e=>ha.1 e.symm) (fun e=>ha.2.1 e.symm) (fun i h1 h2 e=>ha.2.2.1 (by subst e;exact⟨h1,h2⟩)) (fun e=>ha.2.2.2.1 e.symm) (fun e=>ha.2.2.2.2 e.symm)
def Zf(w:World)(B1 o1 B2 o2 L:Nat)(ws:List Nat)(Q:List Nat->Prop):Prop:=
 ∀W aM,aa (fun i=>i=B1) w W->aM.length=L->fY aM->aq W B1 (dg (splice ws o1 aM)).toArray 207->∃nx:List Nat,fY nx/\(∀k,k<L->W.cell? ⟨B2,o2+k,none⟩=some (.int .u64 (nx.getD k 0:Nat)))/\Q nx
def sr(w wr:World)(B1 o1 L:Nat)(ws aM:List Nat)(k:Nat)(H:Prop)(f:Nat->Bool):Prop:=
 aM.length=L/\fY aM/\aq wr B1 (dg (splice ws o1 aM)).toArray 207/\aa (fun i=>i=B1) w wr/\(H->∀u,u/64<L->gd aM 0 u=(decide (u<k)&&f u))
theorem sr.put(h:sr w wr B1 o1 L ws aM k H f)(hk:k/64<L)(hb:aq w' B1 (dg (splice ws o1 (tw aM 0 k))).toArray 207)(hw:aa (fun i=>i=B1) wr w')(hf:H->f k=true):sr w w' B1 o1 L ws (tw aM 0 k) (k+1) H f:=by
 obtain⟨h1,h2,h3,h4,h5⟩:=h;refine⟨by rw[Ro,h1],h2.put _ _,hb,h4.trans hw,fun hH u hu=>?_⟩;rw[af3 (by omega),h5 hH u hu];by_cases e:u=k
 ·subst e;simp[hf hH]
 ·have e1:decide (u<k+1)=decide (u<k):=by rw[decide_eq_decide];omega
  rw[e1];simp[e]
theorem sr.skip(h:sr w wr B1 o1 L ws aM k H f)(hw:aa af wr w')(hf:H->f k=false):sr w w' B1 o1 L ws aM (k+1) H f:=by
 obtain⟨h1,h2,h3,h4,h5⟩:=h;refine⟨h1,h2,h3.kept hw (fun h=>h),h4.trans (hw.mono (fun _ h=>h.elim)),fun hH u hu=>?_⟩;rw[h5 hH u hu];by_cases e:u=k
 ·subst e;simp[hf hH]
 ·have e1:decide (u<k+1)=decide (u<k):=by rw[decide_eq_decide];omega
  rw[e1]
theorem sr.later(h:sr w wr B1 o1 L ws aM k H f)(hw:aa af wr w'):sr w w' B1 o1 L ws aM k H f:=by
 obtain⟨h1,h2,h3,h4,h5⟩:=h;exact⟨h1,h2,h3.kept hw (fun h=>h),h4.trans (hw.mono (fun _ h=>h.elim)),h5⟩
theorem ad3{x:CX}{G2:Int}(hR:zF w ob lo hi mb c vs ms x st G bv fv aj rv)(hg:eW ms)(hq:iL G2 ms)(dw:ms.length<=4001)(hs:x.s.size<=1000000000)
 (hi':i<=x.n)(pQ:(x.op&&decide (x.n<=i))=false)(hL:L=ms.length/64+1)
 {c1:Nat}(hB:aq w B1 (dg ws).toArray 207)(ho:o1+L<=ws.length)(ha:NR ob lo hi mb B1)
 {B2 o2 c2:Nat}(pk:Zf w B1 o1 B2 o2 L ws (fun nx=>H->∀u:Nat,u<ms.length->gd nx 0 u=(decide (i<x.n)&&dP ms x u (i+1)))):
 Calls prog 88 #[.pointer (some ⟨ob,0,none⟩),.slice (some ⟨B1,o1,none⟩) L c1,.slice (some ⟨B2,o2,none⟩) L c2,.int .i64 (bd x.s i:Int)] w fun e w'=>e=.returned (.tuple #[])/\aa (fun i=>i=B1) w w'/\∃aM,aM.length=L/\fY aM/\aq w' B1 (dg (splice ws o1 aM)).toArray 207/\(H->∀u:Nat,u<ms.length->gd aM 0 u=dP ms x u i):=by
 have HR:=ab hR;have nX:=ab pk;have HG:=ab hg;have HQ:=ab hq;have HA:=ab ha;have HB:=ab hB;have SA:=ab ho;have sK:Hid (L=ms.length/64+1):=hL;have Pz:L≠0:=by omega
 have PQ:bd x.s i<=1000000000:=by have:=iQ x.s i;omega
 have X9:=ab fun(W:World) (hT:jf W)=>afN W x i hi' hs hT
 have HI:=ab hi';have KM:=ab pQ;clear hR pk hg hq ha hB ho hL hi' pQ;go_in;go_wp2_with (refine apG rfl (.tmp 13) 173 rfl 207 underlying173 ?z B1 o1 L c1 rfl Pz ws 207 HB.o SA.o ?_)
 case z=>exact zeroValue207 _
 intro w1 iW aU;have R1:=ab (HR.o.row aU HA.o);have q0:w1.cell? ⟨ob,3,none⟩=some (.string x.s):=R1.o.o.cell 3;have q1:w1.cell? ⟨ob,4,none⟩=some (.int .i64 x.aB):=R1.o.o.cell 4;have q2:w1.cell? ⟨ob,5,none⟩=some (.int .i32 x.ah):=R1.o.o.cell 5;have q3:w1.cell? ⟨ob,6,none⟩=some (.int .i32 x.bh):=R1.o.o.cell 6;have q4:w1.cell? ⟨ob,7,none⟩=some (.bool x.op):=R1.o.o.cell 7;have ix:=ab iW;have Ie:=ab aU;clear iW aU;go_wp2_with fail;refine(X9.o _ R1.o.j8).mono ?_;rintro e w2 ⟨rfl,aN⟩;have du:Hid (sr w w2 B1 o1 L ws (List.replicate L 0) 0 H (fun u=>dP ms x u i)):=⟨by simp,fY.J4 L,ix.o.kept aN (fun h=>h),Ie.o.trans (aN.mono (fun _ h=>h.elim)),fun _ u _=>by rw[ZX];simp⟩;have q5:w2.cell? ⟨ob,0,none⟩=some (.slice (some ⟨mb,0,none⟩) ms.length c):=(R1.o.o.kept aN (fun h=>h)).cell 0;clear ix Ie aN q0 q1 q2 q3 q4 R1 X9 HB;generalize L7:x.ahead i=ah;generalize AI:x.gM i=bh;have HAH:=ab L7;have Yi:=ab AI;clear L7 AI;go_wp2_with fail;go_loopg [29] ms.length (fun kk v wr=>∃(k:Nat) (aM:List Nat),v=.int .i64 (k:Int)/\k<=ms.length/\kk=ms.length-k/\Hid (sr w wr B1 o1 L ws aM k H (fun u=>dP ms x u i)))
 case atStart=>exact⟨0,_,rfl,Ao _,rfl,du⟩
 case round=>
  obtain⟨k,aM,rfl,hk,eZ,HC⟩:=hrel;clear du q5;by_cases aw:k<ms.length
  ·have iX:(k:Int)<(ms.length:Int):=(by omega);have Rr:=ab (HR.o.row HC.o.2.2.2.1 HA.o);have q5:wr.cell? ⟨ob,0,none⟩=some (.slice (some ⟨mb,0,none⟩) ms.length c):=Rr.o.o.cell 0;obtain⟨q,⟨sV,qF⟩,yC,mu⟩:=Rr.o.iw.at aw;obtain⟨d0,d1,d2,d3,d4,d5⟩:=mu wr Rr.o.iw;have iU:=Rr.o.we k sV aw;rw[qF]at iU;have HO:=ab (alP HG.o x HI.o (Ae aw) KM.o);have HM:=ab (HG.o k _ (Ae aw));have wA:=ab (HQ.o _ (A5 aw));generalize hm:ms[k]=m at*;have KJ:=ab iU;have ek:=iU.k;have eed:=iU.ed;have zR:=iU.nx;have zS:=iU.ot;clear hm mu qF sV yC iU;obtain⟨qk,bS,cd,bT,bI,fi,CO,CP⟩:=q;simp only at d0 d1 d2 d3 d4 d5 ek eed zR zS;subst ek eed zR zS;have ua:k/64<L:=by have:=sK.o;omega
   have uR:=(ab fun(W:World) (h:sr w W B1 o1 L ws aM k H (fun u=>dP ms x u i))=>ang (c:=c1) h.2.2.1 h.1 h.2.1 SA.o ua (by omega));have H7:Hid (∀(W:World) (u:Nat),sr w W B1 o1 L ws aM k H (fun u=>dP ms x u i)->u<ms.length->Calls prog 90 #[.slice (some ⟨B1,o1,none⟩) L c1,.int .i64 (u:Int)] W fun e w'=>e=.returned (.bool (gd aM 0 u))/\w'=W):=fun W u h hu=>aiH h.2.2.1 h.1 h.2.1 SA.o (by have:=sK.o;omega) (by omega)
   have XT:Hid (H->∀u:Nat,u<k->gd aM 0 u=dP ms x u i):=fun hH u hu=>by
    rw[HC.o.2.2.2.2 hH u (by have:=sK.o;omega)];simp[hu]
   have aqb:=KJ.o.kr;by_cases e0:m.kind=0
   ·rw[e0]at d0;go_wp2_with fail;refine(uR.o _ HC.o).mono ?_;rintro e w5 ⟨rfl,gx,cW⟩;have ax:=ab (HC.o.put ua gx cW (fun hH=>HO.o.1 e0));clear gx cW;go_wp2_with fail;go_roundg (ms.length-(k+1))
    case measure=>omega
    case rel=>exact⟨k+1,_,by simp,by omega,rfl,ax⟩
   ·by_cases e1:m.kind=1
    ·rw[e1]at d0;obtain⟨S,bs,rfl,a2,a3,a4,a5,a6⟩:=KJ.o.set e1;have HT:=ab (a4.XF (wA.o.1 e1));have hN:=HM.o.2.1 e1;obtain⟨mn,dJ⟩:∃mn:Nat,m.next=(mn:Int):=⟨m.next.toNat,by omega⟩
     rw[dJ]at d4;have yA:mn<ms.length:=(by omega);have ke:Hid (dP ms x k i=((decide (i<x.n)&&eV m.sp m.fo m.nt (x.bl i))&&dP ms x (mn:Int) (i+1))):=by have:=HO.o.2.1 e1;rw[dJ]at this;exact this
     have TK:Hid (i<x.n->bV S bh=eV m.sp m.fo m.nt (x.bl i)):=fun h=>by have hr:bh=x.bl i:=(by rw[<-Yi.o];exact if_pos h);rw[hr];have:=Rv (s:=x.s) h;exact HT.o.2 _ this.1 this.2
     have F:=Y6 wr bS bT bs S bh (fun az=>⟨(a2 az).1,by have:=(a2 az).2.2;have:=Rr.o.le;omega⟩) a3 HT.o.1 a6;clear a2 a3 a4 a5 dJ hN
     cases dR:bV S bh with
     |false=>
      rw[dR]at F;have F:=ab F
      have NO:Hid (H->dP ms x k i=false):=fun hH=>by
       rw[ke.o];by_cases hl:i<x.n
       ·rw[<-TK.o hl,dR];simp
       ·simp[hl]
      clear dR TK ke;go_wp2_with fail;refine(F.o).mono ?_;rintro e w3 ⟨rfl,bA⟩;have tE:=ab (HC.o.later bA);clear bA;go_wp2_with fail;have ax:=ab (tE.o.skip (aa.refl _ _) (fun hH=>NO.o hH));go_roundg (ms.length-(k+1))
      case measure=>omega
      case rel=>exact⟨k+1,_,by simp,by omega,rfl,ax⟩
     |true=>
      rw[dR]at F;have F:=ab F;go_wp2_with fail;refine(F.o).mono ?_;rintro e w3 ⟨rfl,bA⟩;have tE:=ab (HC.o.later bA);have R3:=ab (Rr.o.kept bA (fun h=>h) (fun h=>h) (fun _ _ _ h=>h) (fun h=>h) (fun h=>h));have g4:w3.cell? ⟨mb,k*6+4,none⟩=some (.int .i64 (mn:Int)):=(bA.cell (p:=⟨mb,k*6+4,none⟩) Rr.o.iw.lt (fun h=>h)).trans d4;clear bA F;obtain⟨nx,Jg,Jd,hQ⟩:=nX.o w3 aM tE.o.2.2.2.1 tE.o.1 tE.o.2.1 tE.o.2.2.1;have Ow:=(ab fun hH=>hQ hH mn yA);have F2:=aiI (c:=c2) (L:=L) (u:=mn) Jg (Jd (mn/64) (by have:=sK.o;omega)) (by have:=sK.o;omega) (by omega);clear Jd hQ Jg
      cases iH:gd nx 0 mn with
      |false=>
       rw[iH]at F2;have F2:=ab F2
       have NO:Hid (H->dP ms x k i=false):=fun hH=>by
        rw[ke.o];by_cases hl:i<x.n
        ·have:=Ow.o hH;rw[iH]at this;have h2:dP ms x (mn:Int) (i+1)=false:=(by simpa[hl]using this.symm);rw[h2];simp
        ·simp[hl]
       clear iH dR TK ke Ow;go_wp2_with fail;refine(F2.o).mono ?_;rintro e w4 ⟨rfl,rfl⟩;clear F2;go_wp2_with fail;have ax:=ab (tE.o.skip (aa.refl _ _) (fun hH=>NO.o hH));go_roundg (ms.length-(k+1))
       case measure=>omega
       case rel=>exact⟨k+1,_,by simp,by omega,rfl,ax⟩
      |true=>
       rw[iH]at F2;have F2:=ab F2
       have yd:Hid (H->dP ms x k i=true):=fun hH=>by
        rw[ke.o];have:=Ow.o hH;rw[iH]at this
        have hl:i<x.n:=by
         refine Fy fun hl=>?_
         simp[hl]at this
        simp[hl]at this
        rw[<-this,<-TK.o hl,dR];simp[hl]
       clear iH dR TK ke Ow;go_wp2_with fail;refine(F2.o).mono ?_;rintro e w4 ⟨rfl,rfl⟩;clear F2;go_wp2_with fail;refine(uR.o _ tE.o).mono ?_;rintro e w5 ⟨rfl,gx,cW⟩;have ax:=ab (tE.o.put ua gx cW (fun hH=>yd.o hH));clear gx cW;go_wp2_with fail;go_roundg (ms.length-(k+1))
       case measure=>omega
       case rel=>exact⟨k+1,_,by simp,by omega,rfl,ax⟩
    ·have hN:=HM.o.2.2.1 (by omega);obtain⟨mn,dJ⟩:∃mn:Nat,m.next=(mn:Int):=⟨m.next.toNat,by omega⟩
     rw[dJ]at d4;have ajn:mn<k:=(by omega);have F:=H7.o wr mn HC.o (by omega);have BN:=(ab fun hH=>XT.o hH mn ajn);by_cases e2:m.kind=2
     ·rw[e2]at d0;have ke:Hid (dP ms x k i=(dP ms x (mn:Int) i&&e_ m.eE (x.ahead i) (x.gM i))):=by have:=HO.o.2.2.1 e2;rw[dJ]at this;exact this
      clear dJ hN
      cases iH:gd aM 0 mn with
      |false=>
       rw[iH]at F;have F:=ab F
       have NO:Hid (H->dP ms x k i=false):=fun hH=>by
        rw[ke.o,<-BN.o hH,iH];simp
       clear iH BN ke;go_wp2_with fail;refine(F.o).mono ?_;rintro e w4 ⟨rfl,rfl⟩;clear F;go_wp2_with fail;have ax:=ab (HC.o.skip (aa.refl _ _) (fun hH=>NO.o hH));go_roundg (ms.length-(k+1))
       case measure=>omega
       case rel=>exact⟨k+1,_,by simp,by omega,rfl,ax⟩
      |true=>
       rw[iH]at F;have F:=ab F;have F2:=abP wr m.eE ah bh;have HE:Hid (e_ m.eE ah bh=e_ m.eE (x.ahead i) (x.gM i)):=by show _=_;rw[HAH.o,Yi.o]
       cases hh:e_ m.eE ah bh with
       |false=>
        rw[hh]at F2;have F2:=ab F2
        have NO:Hid (H->dP ms x k i=false):=fun hH=>by
         rw[ke.o,<-BN.o hH,iH,<-HE.o,hh];simp
        clear iH BN ke hh HE;go_wp2_with fail;refine(F.o).mono ?_;rintro e w4 ⟨rfl,rfl⟩;clear F;go_wp2_with fail;refine(F2.o).mono ?_;rintro e w4 ⟨rfl,rfl⟩;clear F2;go_wp2_with fail;have ax:=ab (HC.o.skip (aa.refl _ _) (fun hH=>NO.o hH));go_roundg (ms.length-(k+1))
        case measure=>omega
        case rel=>exact⟨k+1,_,by simp,by omega,rfl,ax⟩
       |true=>
        rw[hh]at F2;have F2:=ab F2
        have yd:Hid (H->dP ms x k i=true):=fun hH=>by
         rw[ke.o,<-BN.o hH,iH,<-HE.o,hh];simp
        clear iH BN ke hh HE;go_wp2_with fail;refine(F.o).mono ?_;rintro e w4 ⟨rfl,rfl⟩;clear F;go_wp2_with fail;refine(F2.o).mono ?_;rintro e w4 ⟨rfl,rfl⟩;clear F2;go_wp2_with fail;refine(uR.o _ HC.o).mono ?_;rintro e w5 ⟨rfl,gx,cW⟩;have ax:=ab (HC.o.put ua gx cW (fun hH=>yd.o hH));clear gx cW;go_wp2_with fail;go_roundg (ms.length-(k+1))
        case measure=>omega
        case rel=>exact⟨k+1,_,by simp,by omega,rfl,ax⟩
     ·by_cases e3:m.kind=3
      ·rw[e3]at d0;have ke:Hid (dP ms x k i=dP ms x (mn:Int) i):=by have:=HO.o.2.2.2.1 e3;rw[dJ]at this;exact this
       clear dJ hN
       cases iH:gd aM 0 mn with
       |false=>
        rw[iH]at F;have F:=ab F
        have NO:Hid (H->dP ms x k i=false):=fun hH=>by
         rw[ke.o,<-BN.o hH,iH]
        clear iH BN ke;go_wp2_with fail;refine(F.o).mono ?_;rintro e w4 ⟨rfl,rfl⟩;clear F;go_wp2_with fail;have ax:=ab (HC.o.skip (aa.refl _ _) (fun hH=>NO.o hH));go_roundg (ms.length-(k+1))
        case measure=>omega
        case rel=>exact⟨k+1,_,by simp,by omega,rfl,ax⟩
       |true=>
        rw[iH]at F;have F:=ab F
        have yd:Hid (H->dP ms x k i=true):=fun hH=>by
         rw[ke.o,<-BN.o hH,iH]
        clear iH BN ke;go_wp2_with fail;refine(F.o).mono ?_;rintro e w4 ⟨rfl,rfl⟩;clear F;go_wp2_with fail;refine(uR.o _ HC.o).mono ?_;rintro e w5 ⟨rfl,gx,cW⟩;have ax:=ab (HC.o.put ua gx cW (fun hH=>yd.o hH));clear gx cW;go_wp2_with fail;go_roundg (ms.length-(k+1))
        case measure=>omega
        case rel=>exact⟨k+1,_,by simp,by omega,rfl,ax⟩
      ·have e4:m.kind=4:=(by omega);rw[e4]at d0;have wS:=HM.o.2.2.2 e4;obtain⟨mo,gI⟩:∃mo:Nat,m.a_=(mo:Int):=⟨m.a_.toNat,by omega⟩
       rw[gI]at d5;have ajo:mo<k:=(by omega);have F2:=H7.o wr mo HC.o (by omega);have BO:=(ab fun hH=>XT.o hH mo ajo);have ke:Hid (dP ms x k i=(dP ms x (mn:Int) i||dP ms x (mo:Int) i)):=by have:=HO.o.2.2.2.2 e4;rw[dJ,gI]at this;exact this
       clear dJ hN gI wS
       cases iH:gd aM 0 mn with
       |true=>
        rw[iH]at F;have F:=ab F
        have yd:Hid (H->dP ms x k i=true):=fun hH=>by
         rw[ke.o,<-BN.o hH,iH];simp
        clear iH BN ke F2 BO;go_wp2_with fail;refine(F.o).mono ?_;rintro e w4 ⟨rfl,rfl⟩;clear F;go_wp2_with fail;refine(uR.o _ HC.o).mono ?_;rintro e w5 ⟨rfl,gx,cW⟩;have ax:=ab (HC.o.put ua gx cW (fun hH=>yd.o hH));clear gx cW;go_wp2_with fail;go_roundg (ms.length-(k+1))
        case measure=>omega
        case rel=>exact⟨k+1,_,by simp,by omega,rfl,ax⟩
       |false=>
        rw[iH]at F;have F:=ab F
        cases yp:gd aM 0 mo with
        |false=>
         rw[yp]at F2;have F2:=ab F2
         have NO:Hid (H->dP ms x k i=false):=fun hH=>by
          rw[ke.o,<-BN.o hH,<-BO.o hH,iH,yp];simp
         clear iH BN ke BO yp;go_wp2_with fail;refine(F.o).mono ?_;rintro e w4 ⟨rfl,rfl⟩;clear F;go_wp2_with fail;refine(F2.o).mono ?_;rintro e w4 ⟨rfl,rfl⟩;clear F2;go_wp2_with fail;have ax:=ab (HC.o.skip (aa.refl _ _) (fun hH=>NO.o hH));go_roundg (ms.length-(k+1))
         case measure=>omega
         case rel=>exact⟨k+1,_,by simp,by omega,rfl,ax⟩
        |true=>
         rw[yp]at F2;have F2:=ab F2
         have yd:Hid (H->dP ms x k i=true):=fun hH=>by
          rw[ke.o,<-BN.o hH,<-BO.o hH,iH,yp];simp
         clear iH BN ke BO yp;go_wp2_with fail;refine(F.o).mono ?_;rintro e w4 ⟨rfl,rfl⟩;clear F;go_wp2_with fail;refine(F2.o).mono ?_;rintro e w4 ⟨rfl,rfl⟩;clear F2;go_wp2_with fail;refine(uR.o _ HC.o).mono ?_;rintro e w5 ⟨rfl,gx,cW⟩;have ax:=ab (HC.o.put ua gx cW (fun hH=>yd.o hH));clear gx cW;go_wp2_with fail;go_roundg (ms.length-(k+1))
         case measure=>omega
         case rel=>exact⟨k+1,_,by simp,by omega,rfl,ax⟩
  ·have gy:k=ms.length:=(by omega);have iX:¬(k:Int)<(ms.length:Int):=by omega
   have ax:Hid (aa (fun i=>i=B1) w wr/\∃aM,aM.length=L/\fY aM/\aq wr B1 (dg (splice ws o1 aM)).toArray 207/\(H->∀u:Nat,u<ms.length->gd aM 0 u=dP ms x u i)):=
    ⟨HC.o.2.2.2.1,aM,HC.o.1,HC.o.2.1,HC.o.2.2.1,fun hH u hu=>by rw[HC.o.2.2.2.2 hH u (by have:=sK.o;omega)];simp;omega⟩
   clear gy HC;go_wp2_with fail;go_end0;exact⟨rfl,ax.o⟩
