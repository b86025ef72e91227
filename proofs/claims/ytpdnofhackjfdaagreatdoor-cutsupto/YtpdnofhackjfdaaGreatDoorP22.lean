/- Stretches of a text, with what stands around them, as plain -/
import Derived.Test.YtpdnofhackjfdaaGreatDoorP21
set_option linter.all false
set_option maxRecDepth 100000
set_option maxHeartbeats 8000000
namespace Go.Proofs.YtpdnofhackjfdaaGreatDoor
open Go.Proofs.Tryz
variable {r:iH} {G ak st v:Int} {gs:List Int} {ms:List MS} {aL ws:List Nat} {vs:List Sv} {m:MS} {B B1 L c d hi i k lo mb o o1 ob u:Nat} {f:Nat->Bool} {H:Prop} {bv fv rv:Value} {w w' wr:World}
structure CX where
 s:ByteArray
 aB:Int
 ah:Int
 bh:Int
 op:Bool
def CX.n(c:CX):Nat:=(aF c.s).length
def CX.bu(c:CX)(i:Nat):Int:=(ig c.s).bu i
def CX.ahead(c:CX)(i:Nat):Int:=if i=0 then c.ah else c.bu (i-1)
def CX.gM(c:CX)(i:Nat):Int:=if i<c.n then c.bu i else c.bh
def CX.aW(c:CX)(i:Nat):Int:=c.aB+(bd c.s i:Int)
def qq(ms:List MS)(c:CX):Nat->Int->Nat->List Int->iH
 |0,_,_,_=>none
 |d+1,u,i,gs=>
  if c.op&&decide (c.n<=i)then some (i,gs)else
  match ms[u.toNat]? with
  |none=>none
  |some m=>
   if m.kind=0 then some (i,gs)
   else if m.kind=1 then(if decide (i<c.n)&&fP m.sp m.fo m.nt (c.bu i)then qq ms c d m.next (i+1) gs else none)
   else if m.kind=2 then(if eU m.eo (c.ahead i) (c.gM i)then qq ms c d m.next i gs else none)
   else if m.kind=3 then qq ms c d m.next i (gs.set m.slot.toNat (c.aW i))
   else(qq ms c d m.next i gs).or (qq ms c d m.a_ i gs)
def rT(ms:List MS)(c:CX)(u:Int)(i:Nat):Nat:=(c.n-i)*(ms.length+1)+u.toNat+1
theorem V9{c:CX}{u:Int}(hd:rT ms c u i<=d+1)(hi:i<c.n)(hv:v<ms.length):rT ms c v (i+1)<=d:=by
 unfold rT at*;obtain⟨k,hk⟩:∃k,c.n-i=k+1:=⟨c.n-i-1,by omega⟩
 rw[hk,Fc]at hd;rw[show c.n-(i+1)=k by omega];omega
theorem Jq{c:CX}(hd:rT ms c u i<=d+1)(h0:0<=v)(hv:v<u):rT ms c v i<=d:=by
 unfold rT at*;have:(u:Int).toNat=u:=Ay u;omega
theorem T1(hg:eR ms)(c:CX):∀(d e:Nat) (u:Nat) (i:Nat) (gs:List Int),rT ms c u i<=d->rT ms c u i<=e->u<ms.length->i<=c.n->qq ms c d u i gs=qq ms c e u i gs
 |0,e,u,i,gs,h,_,_,_=>by unfold rT at h;omega
 |d+1,0,u,i,gs,_,h,_,_=>by unfold rT at h;omega
 |d+1,e+1,u,i,gs,hd,he,hu,hi=>by
  unfold qq;simp only[Ay];rw[Ae hu];have hm:ms[u]? =some ms[u]:=Ae hu;generalize ms[u]=m at hm⊢;obtain⟨⟨k0,k4⟩,g1,g2,g3⟩:=hg u m hm;dsimp only
  have T:∀v:Int,0<=v->v<u->∀gs,qq ms c d v i gs=qq ms c e v i gs:=fun v h0 hv gs=>by
   obtain⟨k,rfl⟩:=Au h0;exact T1 hg c d e k i gs (Jq hd h0 hv) (Jq he h0 hv) (by omega) hi
  congr 1
  by_cases e0:m.kind=0
  ·rw[if_pos e0,if_pos e0]
  ·rw[if_neg e0,if_neg e0];by_cases e1:m.kind=1
   ·rw[if_pos e1,if_pos e1];by_cases ht:(decide (i<c.n)&&fP m.sp m.fo m.nt (c.bu i))=true
    ·rw[if_pos ht,if_pos ht];have aw:i<c.n:=by simp at ht;exact ht.1
     have hn:=g1 e1;obtain⟨k,hk⟩:=Au hn.1;rw[hk];exact T1 hg c d e k (i+1) gs (V9 hd aw (by omega)) (V9 he aw (by omega)) (by omega) aw
    ·rw[if_neg ht,if_neg ht]
   ·rw[if_neg e1,if_neg e1];have hn:=g2 (by omega);by_cases e2:m.kind=2
    ·rw[if_pos e2,if_pos e2,T _ hn.1 hn.2]
    ·rw[if_neg e2,if_neg e2];by_cases e3:m.kind=3
     ·rw[if_pos e3,if_pos e3,T _ hn.1 hn.2]
     ·rw[if_neg e3,if_neg e3];have ho:=g3 (by omega);rw[T _ hn.1 hn.2,T _ ho.1 ho.2]
def cW(ms:List MS)(c:CX)(u:Int)(i:Nat)(gs:List Int):iH:=qq ms c (rT ms c u i) u i gs
theorem Nl(hg:eR ms)(c:CX)(h0:0<=v)(hv:v<ms.length)(hi:i<=c.n)(hd:rT ms c v i<=d):qq ms c d v i gs=cW ms c v i gs:=by
 obtain⟨k,rfl⟩:=Au h0;exact T1 hg c d _ k i gs hd (Ab _) (by omega) hi
theorem yX{c:CX}{u:Int}(ho:c.op=true)(hi:c.n<=i):cW ms c u i gs=some (i,gs):=by
 unfold cW rT qq;rw[if_pos (by simp[ho,hi])]
theorem oE(hg:eR ms)(c:CX)(hi:i<=c.n)(hm:ms[u]? =some m)(ht:(c.op&&decide (c.n<=i))=false)(gs:List Int):
 (m.kind=0->cW ms c u i gs=some (i,gs))/\
 (m.kind=1->cW ms c u i gs=if(decide (i<c.n)&&fP m.sp m.fo m.nt (c.bu i))=true then cW ms c m.next (i+1) gs else none)/\
 (m.kind=2->cW ms c u i gs=if eU m.eo (c.ahead i) (c.gM i)=true then cW ms c m.next i gs else none)/\
 (m.kind=3->cW ms c u i gs=cW ms c m.next i (gs.set m.slot.toNat (c.aW i)))/\
 (m.kind=4->cW ms c u i gs=(cW ms c m.next i gs).or (cW ms c m.a_ i gs)):=by
 have hu:=(Ah.1 hm).1;obtain⟨⟨k0,k4⟩,g1,g2,g3⟩:=hg u m hm;obtain⟨d,hd⟩:∃d,rT ms c u i=d+1:=⟨_,rfl⟩
 have E:cW ms c u i gs=qq ms c (d+1) u i gs:=by unfold cW;rw[hd]
 rw[E];unfold qq;rw[ht,Ay,hm];simp only[Aq,if_false];refine⟨fun e=>by rw[if_pos e],fun e=>?_,fun e=>?_,fun e=>?_,fun e=>?_⟩
 ·have hn:=g1 e;rw[if_neg (by omega),if_pos e];by_cases h:(decide (i<c.n)&&fP m.sp m.fo m.nt (c.bu i))=true
  ·rw[if_pos h,if_pos h];have aw:i<c.n:=by simp at h;exact h.1
   exact Nl hg c hn.1 hn.2 aw (V9 (u:=(u:Int)) (by omega) aw hn.2)
  ·rw[if_neg h,if_neg h]
 ·have hn:=g2 (by omega);rw[if_neg (by omega),if_neg (by omega),if_pos e,Nl hg c hn.1 (by omega) hi (Jq (by omega) hn.1 hn.2)]
 ·have hn:=g2 (by omega);rw[if_neg (by omega),if_neg (by omega),if_neg (by omega),if_pos e,Nl hg c hn.1 (by omega) hi (Jq (by omega) hn.1 hn.2)]
 ·have hn:=g2 (by omega);have ho:=g3 e;rw[if_neg (by omega),if_neg (by omega),if_neg (by omega),if_neg (by omega),Nl hg c hn.1 (by omega) hi (Jq (by omega) hn.1 hn.2),Nl hg c ho.1 (by omega) hi (Jq (by omega) ho.1 ho.2)]
theorem Pg(hg:eR ms)(n:Nat){Q:Nat->Nat->Prop}
 (h:∀(u i:Nat) (m:MS),i<=n->ms[u]? =some m->(∀v:Nat,v<u->Q v i)->(∀v:Nat,v<ms.length->i<n->Q v (i+1))->Q u i):∀(d i:Nat),n-i<=d->i<=n->∀u,u<ms.length->Q u i:=by
 intro d;induction d with
 |zero=>
  intro i hd hi u;induction u using Nat.strongRecOn with
  |_ u ih=>exact fun hu=>h u i _ hi (Ae hu) (fun v hv=>ih v hv (by omega)) (fun v _ aw=>absurd aw (by omega))
 |succ d ihd=>
  intro i hd hi u;induction u using Nat.strongRecOn with
  |_ u ih=>exact fun hu=>h u i _ hi (Ae hu) (fun v hv=>ih v hv (by omega)) (fun v hv aw=>ihd (i+1) (by omega) aw v hv)
theorem QH{α β:Type}(f:α->β)(a b:Option α):(a.or b).map f=(a.map f).or (b.map f):=by cases a<;>rfl
theorem aef(hg:eR ms)(c:CX)(hu:u<ms.length)(hi:i<=c.n)(gs dp:List Int):(cW ms c u i gs).map (·.1)=(cW ms c u i dp).map (·.1):=by
 refine Pg hg c.n (Q:=fun u i=>∀gs dp,(cW ms c u i gs).map (·.1)=(cW ms c u i dp).map (·.1)) (fun u i m hi hm Gt Gu gs dp=>?_) _ i (Ab _) hi u hu gs dp
 cases ht:(c.op&&decide (c.n<=i))with
 |true=>simp at ht;rw[yX ht.1 ht.2,yX ht.1 ht.2];rfl
 |false=>
  obtain⟨⟨k0,k4⟩,g1,g2,g3⟩:=hg u m hm;obtain⟨a0,a1,a2,a3,a4⟩:=oE hg c hi hm ht gs;obtain⟨b0,b1,b2,b3,b4⟩:=oE hg c hi hm ht dp
  have T:∀v:Int,0<=v->v<u->∀gs dp,(cW ms c v i gs).map (·.1)=(cW ms c v i dp).map (·.1):=fun v h0 hv=>by
   obtain⟨k,rfl⟩:=Au h0;exact Gt k (by omega)
  by_cases e0:m.kind=0
  ·rw[a0 e0,b0 e0];rfl
  ·by_cases e1:m.kind=1
   ·rw[a1 e1,b1 e1];by_cases h:(decide (i<c.n)&&fP m.sp m.fo m.nt (c.bu i))=true
    ·rw[if_pos h,if_pos h];have aw:i<c.n:=by simp at h;exact h.1
     have hn:=g1 e1;obtain⟨k,hk⟩:=Au hn.1;rw[hk];exact Gu k (by omega) aw _ _
    ·rw[if_neg h,if_neg h]
   ·have hn:=g2 (by omega);by_cases e2:m.kind=2
    ·rw[a2 e2,b2 e2];by_cases h:eU m.eo (c.ahead i) (c.gM i)=true
     ·rw[if_pos h,if_pos h];exact T _ hn.1 hn.2 _ _
     ·rw[if_neg h,if_neg h]
    ·by_cases e3:m.kind=3
     ·rw[a3 e3,b3 e3];exact T _ hn.1 hn.2 _ _
     ·have e4:m.kind=4:=(by omega);have ho:=g3 e4;rw[a4 e4,b4 e4,QH,QH,T _ hn.1 hn.2 gs dp,T _ ho.1 ho.2 gs dp]
def dM(ms:List MS)(c:CX)(u:Int)(i:Nat):Bool:=(cW ms c u i []).isSome
theorem M_(hg:eR ms)(c:CX)(hu:u<ms.length)(hi:i<=c.n)(gs:List Int):dM ms c u i=(cW ms c u i gs).isSome:=by
 have:=aef hg c hu hi [] gs;unfold dM
 cases h1:cW ms c (u:Int) i []<;>cases h2:cW ms c (u:Int) i gs<;>rw[h1,h2]at this<;>first|rfl|cases this
theorem alr{c:CX}{u:Int}(ho:c.op=true)(hi:c.n<=i):dM ms c u i=true:=by unfold dM;rw[yX ho hi];rfl
theorem alq(hg:eR ms)(c:CX)(hi:i<=c.n)(hm:ms[u]? =some m)(ht:(c.op&&decide (c.n<=i))=false):
 (m.kind=0->dM ms c u i=true)/\
 (m.kind=1->dM ms c u i=((decide (i<c.n)&&fP m.sp m.fo m.nt (c.bu i))&&dM ms c m.next (i+1)))/\
 (m.kind=2->dM ms c u i=(dM ms c m.next i&&eU m.eo (c.ahead i) (c.gM i)))/\
 (m.kind=3->dM ms c u i=dM ms c m.next i)/\(m.kind=4->dM ms c u i=(dM ms c m.next i||dM ms c m.a_ i)):=by
 have hu:=(Ah.1 hm).1;obtain⟨⟨k0,k4⟩,g1,g2,g3⟩:=hg u m hm;obtain⟨a0,a1,a2,a3,a4⟩:=oE hg c hi hm ht [];refine⟨fun e=>by unfold dM;rw[a0 e];rfl,fun e=>?_,fun e=>?_,fun e=>?_,fun e=>?_⟩
 ·unfold dM;rw[a1 e];by_cases h:(decide (i<c.n)&&fP m.sp m.fo m.nt (c.bu i))=true
  ·rw[if_pos h,h,E0]
  ·rw[if_neg h,Ej.2 h];rfl
 ·unfold dM;rw[a2 e];by_cases h:eU m.eo (c.ahead i) (c.gM i)=true
  ·rw[if_pos h,h,Bool.and_true]
  ·rw[if_neg h,Ej.2 h,Bool.and_false];rfl
 ·have hn:=g2 (by omega);obtain⟨k,hk⟩:=Au hn.1;have h1:=M_ hg c (u:=k) (by omega) hi (([]:List Int).set m.slot.toNat (c.aW i));rw[hk,h1,<-hk,<-a3 e];rfl
 ·unfold dM;rw[a4 e]
  cases cW ms c m.next i []<;>rfl
def ln(ms:List MS)(c:CX)(u:Int)(i:Nat):Option Nat:=(cW ms c u i []).map (·.1)
theorem O0(hg:eR ms)(c:CX)(hu:u<ms.length)(hi:i<=c.n)(gs:List Int):ln ms c u i=(cW ms c u i gs).map (·.1):=aef hg c hu hi [] gs
theorem Lh(hg:eR ms)(c:CX)(hi:i<c.n):tz ms (ln ms c) i (c.ahead i) (c.bu i):=by
 have ht:(c.op&&decide (c.n<=i))=false:=by
  have:decide (c.n<=i)=false:=Bd (by omega);rw[this,Bool.and_false]
 have hb:c.gM i=c.bu i:=if_pos hi;refine⟨fun u m hm e=>?_,fun u m hm e=>?_,fun u m hm e=>?_,fun u m hm e=>?_,fun u m hm e=>?_⟩<;>obtain⟨a0,a1,a2,a3,a4⟩:=oE hg c (by omega) hm ht []<;>obtain⟨⟨k0,k4⟩,g1,g2,g3⟩:=hg u m hm<;>have hu:=(Ah.1 hm).1
 ·unfold ln;rw[a0 e];rfl
 ·unfold ln;rw[a1 e];have:decide (i<c.n)=true:=Cx hi;rw[this,E0];by_cases h:fP m.sp m.fo m.nt (c.bu i)=true
  ·rw[if_pos h,if_pos h]
  ·rw[if_neg h,if_neg h];rfl
 ·unfold ln;rw[a2 e,hb];by_cases h:eU m.eo (c.ahead i) (c.bu i)=true
  ·rw[if_pos h,if_pos h]
  ·rw[if_neg h,if_neg h];rfl
 ·have hn:=g2 (by omega);obtain⟨k,hk⟩:=Au hn.1;have h1:=O0 hg c (u:=k) (i:=i) (by omega) (by omega) (([]:List Int).set m.slot.toNat (c.aW i));rw[hk,h1,<-hk,<-a3 e];rfl
 ·unfold ln;rw[a4 e,QH]
theorem BZ(hg:eR ms)(c:CX)(hu:u<ms.length)(hi:i<=c.n)(gs:List Int):∀j dp,cW ms c u i gs=some (j,dp)->i<=j/\j<=c.n/\dp.length=gs.length:=by
 refine Pg hg c.n (Q:=fun u i=>∀gs j dp,cW ms c u i gs=some (j,dp)->i<=j/\j<=c.n/\dp.length=gs.length) (fun u i m hi hm Gt Gu gs j dp hr=>?_) _ i (Ab _) hi u hu gs
 cases ht:(c.op&&decide (c.n<=i))with
 |true=>
  simp only[Cm,Az]at ht;rw[yX ht.1 ht.2]at hr;simp only[A9,Ck]at hr;exact⟨by omega,by omega,by rw[hr.2]⟩
 |false=>
  obtain⟨⟨k0,k4⟩,g1,g2,g3⟩:=hg u m hm;obtain⟨a0,a1,a2,a3,a4⟩:=oE hg c hi hm ht gs
  have T:∀v:Int,0<=v->v<u->∀gs j dp,cW ms c v i gs=some (j,dp)->i<=j/\j<=c.n/\dp.length=gs.length:=fun v h0 hv=>by
   obtain⟨k,rfl⟩:=Au h0;exact Gt k (by omega)
  by_cases e0:m.kind=0
  ·rw[a0 e0]at hr;simp only[A9,Ck]at hr;exact⟨by omega,by omega,by rw[hr.2]⟩
  ·by_cases e1:m.kind=1
   ·rw[a1 e1]at hr;by_cases h:(decide (i<c.n)&&fP m.sp m.fo m.nt (c.bu i))=true
    ·rw[if_pos h]at hr;have aw:i<c.n:=by simp at h;exact h.1
     have hn:=g1 e1;obtain⟨k,hk⟩:=Au hn.1;rw[hk]at hr;have:=Gu k (by omega) aw _ _ _ hr;exact⟨by omega,this.2⟩
    ·rw[if_neg h]at hr;cases hr
   ·have hn:=g2 (by omega);by_cases e2:m.kind=2
    ·rw[a2 e2]at hr;by_cases h:eU m.eo (c.ahead i) (c.gM i)=true
     ·rw[if_pos h]at hr;exact T _ hn.1 hn.2 _ _ _ hr
     ·rw[if_neg h]at hr;cases hr
    ·by_cases e3:m.kind=3
     ·rw[a3 e3]at hr;have:=T _ hn.1 hn.2 _ _ _ hr;rw[Bk]at this;exact this
     ·have e4:m.kind=4:=(by omega);have ho:=g3 e4;rw[a4 e4]at hr
      cases h1:cW ms c m.next i gs with
      |some v=>rw[h1]at hr;simp only[D8,A9]at hr;rw[hr]at h1;exact T _ hn.1 hn.2 _ _ _ h1
      |none=>rw[h1]at hr;simp only[D9]at hr;exact T _ ho.1 ho.2 _ _ _ hr
theorem anf(hg:eR ms)(c:CX)(hi:i<=c.n)(hm:ms[u]? =some m)(ht:(c.op&&decide (c.n<=i))=false)(h:cW ms c u i gs=r):
 (m.kind=0/\r=some (i,gs))\/
 (m.kind=1/\(decide (i<c.n)&&fP m.sp m.fo m.nt (c.bu i))=true/\cW ms c m.next (i+1) gs=r)\/
 (m.kind=1/\(decide (i<c.n)&&fP m.sp m.fo m.nt (c.bu i))=false/\r=none)\/
 (m.kind=2/\eU m.eo (c.ahead i) (c.gM i)=true/\cW ms c m.next i gs=r)\/
 (m.kind=2/\eU m.eo (c.ahead i) (c.gM i)=false/\r=none)\/
 (m.kind=3/\cW ms c m.next i (gs.set m.slot.toNat (c.aW i))=r)\/
 (m.kind=4/\∃v,r=some v/\cW ms c m.next i gs=some v)\/
 (m.kind=4/\cW ms c m.next i gs=none/\cW ms c m.a_ i gs=r):=by
 obtain⟨⟨k0,k4⟩,_⟩:=hg u m hm;obtain⟨a0,a1,a2,a3,a4⟩:=oE hg c hi hm ht gs;by_cases e0:m.kind=0
 ·exact Or.inl ⟨e0,by rw[<-h,a0 e0]⟩
 ·by_cases e1:m.kind=1
  ·rw[a1 e1]at h
   cases hb:(decide (i<c.n)&&fP m.sp m.fo m.nt (c.bu i))with
   |true=>rw[hb,if_pos rfl]at h;exact Or.inr (Or.inl ⟨e1,rfl,h⟩)
   |false=>rw[hb,if_neg (by simp)]at h;exact Or.inr (Or.inr (Or.inl ⟨e1,rfl,h.symm⟩))
  ·by_cases e2:m.kind=2
   ·rw[a2 e2]at h
    cases hb:eU m.eo (c.ahead i) (c.gM i)with
    |true=>rw[hb,if_pos rfl]at h;exact Or.inr (Or.inr (Or.inr (Or.inl ⟨e2,rfl,h⟩)))
    |false=>rw[hb,if_neg (by simp)]at h;exact Or.inr (Or.inr (Or.inr (Or.inr (Or.inl ⟨e2,rfl,h.symm⟩))))
   ·by_cases e3:m.kind=3
    ·exact Or.inr (Or.inr (Or.inr (Or.inr (Or.inr (Or.inl ⟨e3,by rw[<-h,a3 e3]⟩)))))
    ·have e4:m.kind=4:=(by omega);rw[a4 e4]at h
     cases hx:cW ms c m.next i gs with
     |some v=>rw[hx]at h;exact Or.inr (Or.inr (Or.inr (Or.inr (Or.inr (Or.inr (Or.inl ⟨e4,v,h.symm,rfl⟩))))))
     |none=>rw[hx,D9]at h;exact Or.inr (Or.inr (Or.inr (Or.inr (Or.inr (Or.inr (Or.inr ⟨e4,rfl,h⟩))))))
def aM(s:ByteArray):CX:=⟨s,0,-1,-1,false⟩
theorem afc(s:ByteArray)(e:Int)(hi:i<=(aM s).n):eU e ((aM s).ahead i) ((aM s).gM i)=DU (ig s) e i:=by
 rw[<-ajg s e hi];have h1:(aM s).ahead i=KJ s i:=rfl
 have h2:(aM s).gM i=(ig s).bu i:=by
  unfold CX.gM;by_cases h:i<(aM s).n
  ·rw[if_pos h];rfl
  ·rw[if_neg h,WT (s:=s) (Fh h)];rfl
 rw[h1,h2]
theorem aei(hg:eR ms)(s:ByteArray){u:Int}(h:cM ms (ig s) u i gs r):i<=(aF s).length->cW ms (aM s) u i gs=r:=by
 induction h with
 |done u m i gs h hk=>exact fun hi=>(oE hg (aM s) hi h rfl gs).1 hk
 |jr u m i gs r h hk ht hn ih=>
  intro hi;have I_:(decide (i<(aM s).n)&&fP m.sp m.fo m.nt ((aM s).bu i))=true:=ht;rw[(oE hg (aM s) hi h rfl gs).2.1 hk,if_pos I_];exact ih (by simp only[Cm,Az]at ht;exact ht.1)
 |iX u m i gs h hk ht=>
  intro hi;have I_:¬(decide (i<(aM s).n)&&fP m.sp m.fo m.nt ((aM s).bu i))=true:=by rw[show(decide (i<(aM s).n)&&fP m.sp m.fo m.nt ((aM s).bu i))=false from ht];simp
  rw[(oE hg (aM s) hi h rfl gs).2.1 hk,if_neg I_]
 |Rv u m i gs r h hk he hn ih=>
  intro hi;rw[(oE hg (aM s) hi h rfl gs).2.2.1 hk,afc s _ hi,if_pos he];exact ih hi
 |Ru u m i gs h hk he=>
  intro hi;rw[(oE hg (aM s) hi h rfl gs).2.2.1 hk,afc s _ hi,he];rfl
 |mark u m i gs r h hk hn ih=>
  intro hi;have hb:(aM s).aW i=(ig s).aW i:=by rw[KU];unfold CX.aW aM;simp
  rw[(oE hg (aM s) hi h rfl gs).2.2.2.1 hk,hb];exact ih hi
 |zT u m i gs v h hk hn ih=>
  intro hi;rw[(oE hg (aM s) hi h rfl gs).2.2.2.2 hk,ih hi];rfl
 |zS u m i gs r h hk hn ho ih uh=>
  intro hi;rw[(oE hg (aM s) hi h rfl gs).2.2.2.2 hk,ih hi,uh hi];rfl
open Go.RowKit Go.Maps
def GQ(sv:Value)(st G:Int)(x:CX)(bv fv:Value)(ak:Int)(rv:Value):Array Value:=#[sv,.int .i64 st,.int .i64 G,.string x.s,.int .i64 x.aB,.int .i32 x.ah,.int .i32 x.bh,.bool x.op,bv,fv,.int .i64 ak,rv]
theorem zg(h:k<ws.length):(de ws).toArray[k]? =some (.int .u64 (ws.getD k 0:Nat)):=by
 unfold de;simp[Af,Ae h]
theorem ae8(ws:List Nat)(k x:Nat):(de ws).toArray.setIfInBounds k (.int .u64 (x:Int))=(de (ws.set k x)).toArray:=by
 unfold de;simp[Fe]
theorem aiu(h:aq w B (de (splice ws o aL)).toArray 207)(hL:aL.length=L)(hw:fW aL)(ho:o+L<=ws.length)(hu:u/64<L)(ku:u<100000):
 Calls prog 90 #[.slice (some ⟨B,o,none⟩) L c,.int .i64 (u:Int)] w fun e w'=>e=.returned (.bool (gh aL 0 u))/\w'=w:=by
 subst hL;have hc:=h.cell (o+u/64);rw[zg (by rw[Dd _ _ _ ho];omega),y_ _ _ _ ho,if_pos (by omega),show o+u/64-o=0+u/64 by omega]at hc;exact Uv w B o aL.length c _ u (hw.getD _) hu ku hc
theorem aiv{nx:List Nat}(hw:fW nx)(hc:w.cell? ⟨B,o+u/64,none⟩=some (.int .u64 (nx.getD (u/64) 0:Nat)))(hu:u/64<L)(ku:u<100000):
 Calls prog 90 #[.slice (some ⟨B,o,none⟩) L c,.int .i64 (u:Int)] w fun e w'=>e=.returned (.bool (gh nx 0 u))/\w'=w:=by
 have:=Uv w B o L c _ u (hw.getD _) hu ku hc;unfold gh;rw[Ba];exact this
theorem amO(h:aq w B (de (splice ws o aL)).toArray 207)(hL:aL.length=L)(hw:fW aL)(ho:o+L<=ws.length)(hu:u/64<L)(ku:u<100000):
 Calls prog 114 #[.slice (some ⟨B,o,none⟩) L c,.int .i64 (u:Int)] w fun e w'=>e=.returned (.tuple #[])/\aq w' B (de (splice ws o (tj aL 0 u))).toArray 207/\aa (fun i=>i=B) w w':=by
 subst hL;have aw:o+u/64<(splice ws o aL).length:=by rw[Dd _ _ _ ho];omega
 have hc:=h.cell (o+u/64);rw[zg aw]at hc
 have hx:(splice ws o aL).getD (o+u/64) 0<18446744073709551616:=by
  rw[y_ _ _ _ ho,if_pos (by omega)];exact hw.getD _
 refine(amN w B o aL.length c _ u hx hu ku hc (h.frozen _)).mono ?_;rintro e w' ⟨h1,rfl⟩;refine⟨h1,?_,(aa.drew (aa.refl (fun i=>i=B) w)).setCell (p:=⟨B,o+u/64,none⟩) (Or.inl rfl) _⟩;have hb:aq w.drew B (de (splice ws o aL)).toArray 207:=h;have:=hb.setCell (o+u/64) (.int .u64 (((splice ws o aL).getD (o+u/64) 0|||2^ (u % 64):Nat):Int));rw[ae8]at this;rw[<-amM ho hu];exact this
theorem CX.alj{x:CX}(h:i<(aF x.s).length):(x.op&&decide (x.n<=i))=false:=by
 rw[show decide (x.n<=i)=false from Bd (by unfold CX.n;omega),Bool.and_false]
theorem afQ(w:World)(x:CX)(i:Nat)(hi:i<=x.n)(hs:x.s.size<=1000000000)(hT:ik w):Calls prog 111 #[.agg #[.string x.s,.int .i64 x.aB,.int .i32 x.ah,.int .i32 x.bh,.bool x.op],.int .i64 (bd x.s i:Int)] w fun e w'=>
 e=.returned (.tuple #[.int .i32 (x.ahead i),.int .i32 (x.gM i)])/\aa af w w':=by
 refine(afR w x.s (bd x.s i) x.aB x.ah x.bh x.op (iP x.s i) hs hT).mono ?_;rintro e w' ⟨rfl,hk⟩;refine⟨?_,hk⟩
 have e1:(if 0<bd x.s i then((Lib.decodeLastL (x.s.extract 0 (bd x.s i)).data.toList).1:Int)else x.ah)=x.ahead i:=by
  unfold CX.ahead;by_cases h0:i=0
  ·subst h0;rw[sC,if_neg (by omega),if_pos rfl]
  ·obtain⟨j,rfl⟩:∃j,i=j+1:=⟨i-1,by omega⟩
   have hj:j<(aF x.s).length:=by unfold CX.n at hi;omega
   have:=(pE hj).1;rw[if_pos (by omega),if_neg (by omega),acz hj,Ct];rfl
 have e2:(if bd x.s i<x.s.size then((Lib.decodeGo (x.s.extract (bd x.s i) x.s.size)).1:Int)else x.bh)=x.gM i:=by
  unfold CX.gM;by_cases aw:i<x.n
  ·have:=wL (s:=x.s) aw;rw[if_pos this,if_pos aw,Tx x.s _ this];unfold CX.bu;rw[Ri (s:=x.s) aw]
  ·have hb:=nf (s:=x.s) (i:=i) (by unfold CX.n at aw;omega);rw[if_neg (by omega),if_neg aw]
 rw[e1,e2]
structure zB(w:World)(ob lo hi mb c:Nat)(vs:List Sv)(ms:List MS)(x:CX)(st G:Int)(bv fv:Value)(ak:Int)(rv:Value):Prop where
 out:aq w ob (GQ (.slice (some ⟨mb,0,none⟩) ms.length c) st G x bv fv ak rv) 170
 ic:jc w mb vs ms
 vZ:∀i,(h:i<vs.length)->(h':i<ms.length)->gw w lo hi vs[i] ms[i]
 le:hi<=w.heap.size
 jK:ik w
theorem zB.kept{x:CX}{K:Nat->Prop}(h:zB w ob lo hi mb c vs ms x st G bv fv ak rv)(k:aa K w w')(h1:¬K ob)(h2:¬K mb)(h3:∀i,lo<=i->i<hi->¬K i)(h4:¬K 0)(h5:¬K 1):zB w' ob lo hi mb c vs ms x st G bv fv ak rv:=
 ⟨h.out.kept k h1,h.ic.kept k h2,fun i a b=>(h.vZ i a b).kept k h3 h.le,Be h.le k.size,h.jK.kept k h4 h5⟩
def NC(ob lo hi mb B:Nat):Prop:=B≠ob/\B≠mb/\¬(lo<=B/\B<hi)/\B≠0/\B≠1
theorem zB.row{x:CX}(h:zB w ob lo hi mb c vs ms x st G bv fv ak rv)(k:aa (fun i=>i=B) w w')(ha:NC ob lo hi mb B):zB w' ob lo hi mb c vs ms x st G bv fv ak rv:=
 h.kept k (fun e=>ha.1 e.symm) (fun e=>ha.2.1 e.symm) (fun i h1 h2 e=>ha.2.2.1 (by subst e;exact⟨h1,h2⟩)) (fun e=>ha.2.2.2.1 e.symm) (fun e=>ha.2.2.2.2 e.symm)
def Zg(w:World)(B1 o1 B2 o2 L:Nat)(ws:List Nat)(Q:List Nat->Prop):Prop:=
 ∀W aL,aa (fun i=>i=B1) w W->aL.length=L->fW aL->aq W B1 (de (splice ws o1 aL)).toArray 207->∃nx:List Nat,fW nx/\(∀k,k<L->W.cell? ⟨B2,o2+k,none⟩=some (.int .u64 (nx.getD k 0:Nat)))/\Q nx
def sw(w wr:World)(B1 o1 L:Nat)(ws aL:List Nat)(k:Nat)(H:Prop)(f:Nat->Bool):Prop:=
 aL.length=L/\fW aL/\aq wr B1 (de (splice ws o1 aL)).toArray 207/\aa (fun i=>i=B1) w wr/\(H->∀u,u/64<L->gh aL 0 u=(decide (u<k)&&f u))
theorem sw.put(h:sw w wr B1 o1 L ws aL k H f)(hk:k/64<L)(hb:aq w' B1 (de (splice ws o1 (tj aL 0 k))).toArray 207)(hw:aa (fun i=>i=B1) wr w')(hf:H->f k=true):sw w w' B1 o1 L ws (tj aL 0 k) (k+1) H f:=by
 obtain⟨h1,h2,h3,h4,h5⟩:=h;refine⟨by rw[Ra,h1],h2.put _ _,hb,h4.trans hw,fun hH u hu=>?_⟩;rw[af5 (by omega),h5 hH u hu];by_cases e:u=k
 ·subst e;simp[hf hH]
 ·have e1:decide (u<k+1)=decide (u<k):=by rw[decide_eq_decide];omega
  rw[e1];simp[e]
theorem sw.skip(h:sw w wr B1 o1 L ws aL k H f)(hw:aa af wr w')(hf:H->f k=false):sw w w' B1 o1 L ws aL (k+1) H f:=by
 obtain⟨h1,h2,h3,h4,h5⟩:=h;refine⟨h1,h2,h3.kept hw (fun h=>h),h4.trans (hw.mono (fun _ h=>h.elim)),fun hH u hu=>?_⟩;rw[h5 hH u hu];by_cases e:u=k
 ·subst e;simp[hf hH]
 ·have e1:decide (u<k+1)=decide (u<k):=by rw[decide_eq_decide];omega
  rw[e1]
theorem sw.later(h:sw w wr B1 o1 L ws aL k H f)(hw:aa af wr w'):sw w w' B1 o1 L ws aL k H f:=by
 obtain⟨h1,h2,h3,h4,h5⟩:=h;exact⟨h1,h2,h3.kept hw (fun h=>h),h4.trans (hw.mono (fun _ h=>h.elim)),h5⟩
theorem ad4{x:CX}{G2:Int}(hR:zB w ob lo hi mb c vs ms x st G bv fv ak rv)(hg:eR ms)(hq:iz G2 ms)(dh:ms.length<=4001)(hs:x.s.size<=1000000000)
 (hi':i<=x.n)(pN:(x.op&&decide (x.n<=i))=false)(hL:L=ms.length/64+1)
 {c1:Nat}(hB:aq w B1 (de ws).toArray 207)(ho:o1+L<=ws.length)(ha:NC ob lo hi mb B1)
 {B2 o2 c2:Nat}(o_:Zg w B1 o1 B2 o2 L ws (fun nx=>H->∀u:Nat,u<ms.length->gh nx 0 u=(decide (i<x.n)&&dM ms x u (i+1)))):
 Calls prog 88 #[.pointer (some ⟨ob,0,none⟩),.slice (some ⟨B1,o1,none⟩) L c1,.slice (some ⟨B2,o2,none⟩) L c2,.int .i64 (bd x.s i:Int)] w fun e w'=>e=.returned (.tuple #[])/\aa (fun i=>i=B1) w w'/\∃aL,aL.length=L/\fW aL/\aq w' B1 (de (splice ws o1 aL)).toArray 207/\(H->∀u:Nat,u<ms.length->gh aL 0 u=dM ms x u i):=by
 have HR:=ab hR;have nQ:=ab o_;have HG:=ab hg;have HQ:=ab hq;have HA:=ab ha;have HB:=ab hB;have Sn:=ab ho;have sK:Hid (L=ms.length/64+1):=hL;have Pp:L≠0:=by omega
 have Pz:bd x.s i<=1000000000:=by have:=iP x.s i;omega
 have X4:=ab fun(W:World) (hT:ik W)=>afQ W x i hi' hs hT
 have HI:=ab hi';have Kr:=ab pN;clear hR o_ hg hq ha hB ho hL hi' pN;go_in;go_wp2_with (refine aoY rfl (.tmp 13) 173 rfl 207 underlying173 ?z B1 o1 L c1 rfl Pp ws 207 HB.out Sn.out ?_)
 case z=>exact zeroValue207 _
 intro w1 jD aT;have R1:=ab (HR.out.row aT HA.out);have q0:w1.cell? ⟨ob,3,none⟩=some (.string x.s):=R1.out.out.cell 3;have q1:w1.cell? ⟨ob,4,none⟩=some (.int .i64 x.aB):=R1.out.out.cell 4;have q2:w1.cell? ⟨ob,5,none⟩=some (.int .i32 x.ah):=R1.out.out.cell 5;have q3:w1.cell? ⟨ob,6,none⟩=some (.int .i32 x.bh):=R1.out.out.cell 6;have q4:w1.cell? ⟨ob,7,none⟩=some (.bool x.op):=R1.out.out.cell 7;have iA:=ab jD;have Ht:=ab aT;clear jD aT;go_wp2_with fail;refine(X4.out _ R1.out.jK).mono ?_;rintro e w2 ⟨rfl,aO⟩;have dr:Hid (sw w w2 B1 o1 L ws (List.replicate L 0) 0 H (fun u=>dM ms x u i)):=⟨by simp,fW.JN L,iA.out.kept aO (fun h=>h),Ht.out.trans (aO.mono (fun _ h=>h.elim)),fun _ u _=>by rw[ZZ];simp⟩;have q5:w2.cell? ⟨ob,0,none⟩=some (.slice (some ⟨mb,0,none⟩) ms.length c):=(R1.out.out.kept aO (fun h=>h)).cell 0;clear iA Ht aO q0 q1 q2 q3 q4 R1 X4 HB;generalize LJ:x.ahead i=ah;generalize AE:x.gM i=bh;have HAH:=ab LJ;have Yg:=ab AE;clear LJ AE;go_wp2_with fail;go_loopg [29] ms.length (fun kk v wr=>∃(k:Nat) (aL:List Nat),v=.int .i64 (k:Int)/\k<=ms.length/\kk=ms.length-k/\Hid (sw w wr B1 o1 L ws aL k H (fun u=>dM ms x u i)))
 case atStart=>exact⟨0,_,rfl,Am _,rfl,dr⟩
 case round=>
  obtain⟨k,aL,rfl,hk,eT,HC⟩:=hrel;clear dr q5;by_cases aw:k<ms.length
  ·have jH:(k:Int)<(ms.length:Int):=(by omega);have Rr:=ab (HR.out.row HC.out.2.2.2.1 HA.out);have q5:wr.cell? ⟨ob,0,none⟩=some (.slice (some ⟨mb,0,none⟩) ms.length c):=Rr.out.out.cell 0;obtain⟨q,⟨sV,qE⟩,yD,mi⟩:=Rr.out.ic.at aw;obtain⟨d0,d1,d2,d3,d4,d5⟩:=mi wr Rr.out.ic;have iS:=Rr.out.vZ k sV aw;rw[qE]at iS;have HO:=ab (alq HG.out x HI.out (Ae aw) Kr.out);have HM:=ab (HG.out k _ (Ae aw));have wv:=ab (HQ.out _ (A5 aw));generalize hm:ms[k]=m at*;have Kp:=ab iS;have ek:=iS.k;have eed:=iS.ed;have zN:=iS.nx;have zO:=iS.ot;clear hm mi qE sV yD iS;obtain⟨qk,bP,b_,bQ,bH,ff,BV,BY⟩:=q;simp only at d0 d1 d2 d3 d4 d5 ek eed zN zO;subst ek eed zN zO;have tY:k/64<L:=by have:=sK.out;omega
   have uT:=(ab fun(W:World) (h:sw w W B1 o1 L ws aL k H (fun u=>dM ms x u i))=>amO (c:=c1) h.2.2.1 h.1 h.2.1 Sn.out tY (by omega));have Hp:Hid (∀(W:World) (u:Nat),sw w W B1 o1 L ws aL k H (fun u=>dM ms x u i)->u<ms.length->Calls prog 90 #[.slice (some ⟨B1,o1,none⟩) L c1,.int .i64 (u:Int)] W fun e w'=>e=.returned (.bool (gh aL 0 u))/\w'=W):=fun W u h hu=>aiu h.2.2.1 h.1 h.2.1 Sn.out (by have:=sK.out;omega) (by omega)
   have XK:Hid (H->∀u:Nat,u<k->gh aL 0 u=dM ms x u i):=fun hH u hu=>by
    rw[HC.out.2.2.2.2 hH u (by have:=sK.out;omega)];simp[hu]
   have apD:=Kp.out.kr;by_cases e0:m.kind=0
   ·rw[e0]at d0;go_wp2_with fail;refine(uT.out _ HC.out).mono ?_;rintro e w5 ⟨rfl,gy,cV⟩;have ax:=ab (HC.out.put tY gy cV (fun hH=>HO.out.1 e0));clear gy cV;go_wp2_with fail;go_roundg (ms.length-(k+1))
    case measure=>omega
    case rel=>exact⟨k+1,_,by simp,by omega,rfl,ax⟩
   ·by_cases e1:m.kind=1
    ·rw[e1]at d0;obtain⟨S,bs,rfl,a2,a3,a4,a5,a6⟩:=Kp.out.set e1;have HT:=ab (a4.Xu (wv.out.1 e1));have hN:=HM.out.2.1 e1;obtain⟨mn,dG⟩:∃mn:Nat,m.next=(mn:Int):=⟨m.next.toNat,by omega⟩
     rw[dG]at d4;have yC:mn<ms.length:=(by omega);have jX:Hid (dM ms x k i=((decide (i<x.n)&&fP m.sp m.fo m.nt (x.bu i))&&dM ms x (mn:Int) (i+1))):=by have:=HO.out.2.1 e1;rw[dG]at this;exact this
     have TK:Hid (i<x.n->bU S bh=fP m.sp m.fo m.nt (x.bu i)):=fun h=>by have hr:bh=x.bu i:=(by rw[<-Yg.out];exact if_pos h);rw[hr];have:=Rj (s:=x.s) h;exact HT.out.2 _ this.1 this.2
     have F:=Y6 wr bP bQ bs S bh (fun az=>⟨(a2 az).1,by have:=(a2 az).2.2;have:=Rr.out.le;omega⟩) a3 HT.out.1 a6;clear a2 a3 a4 a5 dG hN
     cases dR:bU S bh with
     |false=>
      rw[dR]at F;have F:=ab F
      have NO:Hid (H->dM ms x k i=false):=fun hH=>by
       rw[jX.out];by_cases hl:i<x.n
       ·rw[<-TK.out hl,dR];simp
       ·simp[hl]
      clear dR TK jX;go_wp2_with fail;refine(F.out).mono ?_;rintro e w3 ⟨rfl,bA⟩;have tA:=ab (HC.out.later bA);clear bA;go_wp2_with fail;have ax:=ab (tA.out.skip (aa.refl _ _) (fun hH=>NO.out hH));go_roundg (ms.length-(k+1))
      case measure=>omega
      case rel=>exact⟨k+1,_,by simp,by omega,rfl,ax⟩
     |true=>
      rw[dR]at F;have F:=ab F;go_wp2_with fail;refine(F.out).mono ?_;rintro e w3 ⟨rfl,bA⟩;have tA:=ab (HC.out.later bA);have R3:=ab (Rr.out.kept bA (fun h=>h) (fun h=>h) (fun _ _ _ h=>h) (fun h=>h) (fun h=>h));have g4:w3.cell? ⟨mb,k*6+4,none⟩=some (.int .i64 (mn:Int)):=(bA.cell (p:=⟨mb,k*6+4,none⟩) Rr.out.ic.lt (fun h=>h)).trans d4;clear bA F;obtain⟨nx,I2,Mb,hQ⟩:=nQ.out w3 aL tA.out.2.2.2.1 tA.out.1 tA.out.2.1 tA.out.2.2.1;have Oj:=(ab fun hH=>hQ hH mn yC);have F2:=aiv (c:=c2) (L:=L) (u:=mn) I2 (Mb (mn/64) (by have:=sK.out;omega)) (by have:=sK.out;omega) (by omega);clear Mb hQ I2
      cases iL:gh nx 0 mn with
      |false=>
       rw[iL]at F2;have F2:=ab F2
       have NO:Hid (H->dM ms x k i=false):=fun hH=>by
        rw[jX.out];by_cases hl:i<x.n
        ·have:=Oj.out hH;rw[iL]at this;have h2:dM ms x (mn:Int) (i+1)=false:=(by simpa[hl]using this.symm);rw[h2];simp
        ·simp[hl]
       clear iL dR TK jX Oj;go_wp2_with fail;refine(F2.out).mono ?_;rintro e w4 ⟨rfl,rfl⟩;clear F2;go_wp2_with fail;have ax:=ab (tA.out.skip (aa.refl _ _) (fun hH=>NO.out hH));go_roundg (ms.length-(k+1))
       case measure=>omega
       case rel=>exact⟨k+1,_,by simp,by omega,rfl,ax⟩
      |true=>
       rw[iL]at F2;have F2:=ab F2
       have ye:Hid (H->dM ms x k i=true):=fun hH=>by
        rw[jX.out];have:=Oj.out hH;rw[iL]at this
        have hl:i<x.n:=by
         refine Fs fun hl=>?_
         simp[hl]at this
        simp[hl]at this
        rw[<-this,<-TK.out hl,dR];simp[hl]
       clear iL dR TK jX Oj;go_wp2_with fail;refine(F2.out).mono ?_;rintro e w4 ⟨rfl,rfl⟩;clear F2;go_wp2_with fail;refine(uT.out _ tA.out).mono ?_;rintro e w5 ⟨rfl,gy,cV⟩;have ax:=ab (tA.out.put tY gy cV (fun hH=>ye.out hH));clear gy cV;go_wp2_with fail;go_roundg (ms.length-(k+1))
       case measure=>omega
       case rel=>exact⟨k+1,_,by simp,by omega,rfl,ax⟩
    ·have hN:=HM.out.2.2.1 (by omega);obtain⟨mn,dG⟩:∃mn:Nat,m.next=(mn:Int):=⟨m.next.toNat,by omega⟩
     rw[dG]at d4;have ai7:mn<k:=(by omega);have F:=Hp.out wr mn HC.out (by omega);have BN:=(ab fun hH=>XK.out hH mn ai7);by_cases e2:m.kind=2
     ·rw[e2]at d0;have jX:Hid (dM ms x k i=(dM ms x (mn:Int) i&&eU m.eo (x.ahead i) (x.gM i))):=by have:=HO.out.2.2.1 e2;rw[dG]at this;exact this
      clear dG hN
      cases iL:gh aL 0 mn with
      |false=>
       rw[iL]at F;have F:=ab F
       have NO:Hid (H->dM ms x k i=false):=fun hH=>by
        rw[jX.out,<-BN.out hH,iL];simp
       clear iL BN jX;go_wp2_with fail;refine(F.out).mono ?_;rintro e w4 ⟨rfl,rfl⟩;clear F;go_wp2_with fail;have ax:=ab (HC.out.skip (aa.refl _ _) (fun hH=>NO.out hH));go_roundg (ms.length-(k+1))
       case measure=>omega
       case rel=>exact⟨k+1,_,by simp,by omega,rfl,ax⟩
      |true=>
       rw[iL]at F;have F:=ab F;have F2:=abT wr m.eo ah bh;have HE:Hid (eU m.eo ah bh=eU m.eo (x.ahead i) (x.gM i)):=by show _=_;rw[HAH.out,Yg.out]
       cases hh:eU m.eo ah bh with
       |false=>
        rw[hh]at F2;have F2:=ab F2
        have NO:Hid (H->dM ms x k i=false):=fun hH=>by
         rw[jX.out,<-BN.out hH,iL,<-HE.out,hh];simp
        clear iL BN jX hh HE;go_wp2_with fail;refine(F.out).mono ?_;rintro e w4 ⟨rfl,rfl⟩;clear F;go_wp2_with fail;refine(F2.out).mono ?_;rintro e w4 ⟨rfl,rfl⟩;clear F2;go_wp2_with fail;have ax:=ab (HC.out.skip (aa.refl _ _) (fun hH=>NO.out hH));go_roundg (ms.length-(k+1))
        case measure=>omega
        case rel=>exact⟨k+1,_,by simp,by omega,rfl,ax⟩
       |true=>
        rw[hh]at F2;have F2:=ab F2
        have ye:Hid (H->dM ms x k i=true):=fun hH=>by
         rw[jX.out,<-BN.out hH,iL,<-HE.out,hh];simp
        clear iL BN jX hh HE;go_wp2_with fail;refine(F.out).mono ?_;rintro e w4 ⟨rfl,rfl⟩;clear F;go_wp2_with fail;refine(F2.out).mono ?_;rintro e w4 ⟨rfl,rfl⟩;clear F2;go_wp2_with fail;refine(uT.out _ HC.out).mono ?_;rintro e w5 ⟨rfl,gy,cV⟩;have ax:=ab (HC.out.put tY gy cV (fun hH=>ye.out hH));clear gy cV;go_wp2_with fail;go_roundg (ms.length-(k+1))
        case measure=>omega
        case rel=>exact⟨k+1,_,by simp,by omega,rfl,ax⟩
     ·by_cases e3:m.kind=3
      ·rw[e3]at d0;have jX:Hid (dM ms x k i=dM ms x (mn:Int) i):=by have:=HO.out.2.2.2.1 e3;rw[dG]at this;exact this
       clear dG hN
       cases iL:gh aL 0 mn with
       |false=>
        rw[iL]at F;have F:=ab F
        have NO:Hid (H->dM ms x k i=false):=fun hH=>by
         rw[jX.out,<-BN.out hH,iL]
        clear iL BN jX;go_wp2_with fail;refine(F.out).mono ?_;rintro e w4 ⟨rfl,rfl⟩;clear F;go_wp2_with fail;have ax:=ab (HC.out.skip (aa.refl _ _) (fun hH=>NO.out hH));go_roundg (ms.length-(k+1))
        case measure=>omega
        case rel=>exact⟨k+1,_,by simp,by omega,rfl,ax⟩
       |true=>
        rw[iL]at F;have F:=ab F
        have ye:Hid (H->dM ms x k i=true):=fun hH=>by
         rw[jX.out,<-BN.out hH,iL]
        clear iL BN jX;go_wp2_with fail;refine(F.out).mono ?_;rintro e w4 ⟨rfl,rfl⟩;clear F;go_wp2_with fail;refine(uT.out _ HC.out).mono ?_;rintro e w5 ⟨rfl,gy,cV⟩;have ax:=ab (HC.out.put tY gy cV (fun hH=>ye.out hH));clear gy cV;go_wp2_with fail;go_roundg (ms.length-(k+1))
        case measure=>omega
        case rel=>exact⟨k+1,_,by simp,by omega,rfl,ax⟩
      ·have e4:m.kind=4:=(by omega);rw[e4]at d0;have wS:=HM.out.2.2.2 e4;obtain⟨mo,fL⟩:∃mo:Nat,m.a_=(mo:Int):=⟨m.a_.toNat,by omega⟩
       rw[fL]at d5;have ai8:mo<k:=(by omega);have F2:=Hp.out wr mo HC.out (by omega);have BO:=(ab fun hH=>XK.out hH mo ai8);have jX:Hid (dM ms x k i=(dM ms x (mn:Int) i||dM ms x (mo:Int) i)):=by have:=HO.out.2.2.2.2 e4;rw[dG,fL]at this;exact this
       clear dG hN fL wS
       cases iL:gh aL 0 mn with
       |true=>
        rw[iL]at F;have F:=ab F
        have ye:Hid (H->dM ms x k i=true):=fun hH=>by
         rw[jX.out,<-BN.out hH,iL];simp
        clear iL BN jX F2 BO;go_wp2_with fail;refine(F.out).mono ?_;rintro e w4 ⟨rfl,rfl⟩;clear F;go_wp2_with fail;refine(uT.out _ HC.out).mono ?_;rintro e w5 ⟨rfl,gy,cV⟩;have ax:=ab (HC.out.put tY gy cV (fun hH=>ye.out hH));clear gy cV;go_wp2_with fail;go_roundg (ms.length-(k+1))
        case measure=>omega
        case rel=>exact⟨k+1,_,by simp,by omega,rfl,ax⟩
       |false=>
        rw[iL]at F;have F:=ab F
        cases yr:gh aL 0 mo with
        |false=>
         rw[yr]at F2;have F2:=ab F2
         have NO:Hid (H->dM ms x k i=false):=fun hH=>by
          rw[jX.out,<-BN.out hH,<-BO.out hH,iL,yr];simp
         clear iL BN jX BO yr;go_wp2_with fail;refine(F.out).mono ?_;rintro e w4 ⟨rfl,rfl⟩;clear F;go_wp2_with fail;refine(F2.out).mono ?_;rintro e w4 ⟨rfl,rfl⟩;clear F2;go_wp2_with fail;have ax:=ab (HC.out.skip (aa.refl _ _) (fun hH=>NO.out hH));go_roundg (ms.length-(k+1))
         case measure=>omega
         case rel=>exact⟨k+1,_,by simp,by omega,rfl,ax⟩
        |true=>
         rw[yr]at F2;have F2:=ab F2
         have ye:Hid (H->dM ms x k i=true):=fun hH=>by
          rw[jX.out,<-BN.out hH,<-BO.out hH,iL,yr];simp
         clear iL BN jX BO yr;go_wp2_with fail;refine(F.out).mono ?_;rintro e w4 ⟨rfl,rfl⟩;clear F;go_wp2_with fail;refine(F2.out).mono ?_;rintro e w4 ⟨rfl,rfl⟩;clear F2;go_wp2_with fail;refine(uT.out _ HC.out).mono ?_;rintro e w5 ⟨rfl,gy,cV⟩;have ax:=ab (HC.out.put tY gy cV (fun hH=>ye.out hH));clear gy cV;go_wp2_with fail;go_roundg (ms.length-(k+1))
         case measure=>omega
         case rel=>exact⟨k+1,_,by simp,by omega,rfl,ax⟩
  ·have gA:k=ms.length:=(by omega);have jH:¬(k:Int)<(ms.length:Int):=by omega
   have ax:Hid (aa (fun i=>i=B1) w wr/\∃aL,aL.length=L/\fW aL/\aq wr B1 (de (splice ws o1 aL)).toArray 207/\(H->∀u:Nat,u<ms.length->gh aL 0 u=dM ms x u i)):=
    ⟨HC.out.2.2.2.1,aL,HC.out.1,HC.out.2.1,HC.out.2.2.1,fun hH u hu=>by rw[HC.out.2.2.2.2 hH u (by have:=sK.out;omega)];simp;omega⟩
   clear gA HC;go_wp2_with fail;go_end0;exact⟨rfl,ax.out⟩
end Go.Proofs.YtpdnofhackjfdaaGreatDoor
