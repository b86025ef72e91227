/- The events within a stretch of a text; what the threads of a -/
import Derived.Test.YtpdnofhackjfdaaGreatDoorP26
set_option linter.all false
set_option maxRecDepth 100000
namespace Go.Proofs.YtpdnofhackjfdaaGreatDoor
open Go.Proofs.Tryz
variable {op:Bool} {X:ByteArray} {c:CX} {told:Int} {E:Int->Nat->Option Nat} {gs:List Int} {ms:List MS} {l:List bF} {i i0 j n st:Nat} {T:Nat->iH} {b uq:Nat->Int} {mt:Option (Int×Nat)}
def j9(T:Nat->iH)(n:Nat)(b:Nat->Int)(op:Bool):Nat->Nat->Int->List Ev×Nat×Int
 |0,i,told=>([],i,told)
 |k+1,i,told=>if n<i then([],i,told)else match T i with
  |none=>j9 T n b op k (i+1) told
  |some v=>if op&&decide (n<=v.1)then([],i,told)
   else if i=v.1 then(if told=b v.1 then j9 T n b op k (v.1+1) told else(⟨i,v.1,v.2⟩::(j9 T n b op k (v.1+1) (b v.1)).1,(j9 T n b op k (v.1+1) (b v.1)).2))
   else(⟨i,v.1,v.2⟩::(j9 T n b op k v.1 (b v.1)).1,(j9 T n b op k v.1 (b v.1)).2)
def eM(T:Nat->iH)(n:Nat)(b:Nat->Int)(op:Bool)(i:Nat)(told:Int):List Ev×Nat×Int:=j9 T n b op (n+1-i) i told
theorem TE(hT:nO T n):∀(k l i:Nat) (told:Int),n+1-i<=k->k<=l->j9 T n b op l i told=j9 T n b op k i told:=by
 intro k;induction k with
 |zero=>
  intro l i told h1 h2
  cases l with
  |zero=>rfl
  |succ l=>unfold j9;rw[if_pos (by omega)]
 |succ k ih=>
  intro l i told h1 h2;obtain⟨l,rfl⟩:∃l',l=l'+1:=⟨l-1,by omega⟩
  unfold j9;by_cases hn:n<i
  ·rw[if_pos hn,if_pos hn]
  ·rw[if_neg hn,if_neg hn]
   cases e:T i with
   |none=>exact ih l (i+1) told (by omega) (by omega)
   |some v=>
    obtain⟨j,gs⟩:=v;have hf:=hT i j gs (by omega) e;simp only;by_cases cQ:i=j
    ·rw[if_pos cQ,if_pos cQ,ih l (j+1) told (by omega) (by omega),ih l (j+1) (b j) (by omega) (by omega)]
    ·rw[if_neg cQ,if_neg cQ,ih l j (b j) (by omega) (by omega)]
theorem Li(h:n<i):eM T n b op i told=([],i,told):=by
 unfold eM;rw[show n+1-i=0 by omega];rfl
theorem Iv(h:i<=n)(e:T i=none):eM T n b op i told=eM T n b op (i+1) told:=by
 unfold eM;rw[show n+1-i=(n+1-(i+1))+1 by omega];conv=>lhs;unfold j9
 rw[if_neg (by omega),e]
theorem aaO(h:i<=n)(e:T i=some (j,gs))(hj:n<=j):eM T n b true i told=([],i,told):=by
 unfold eM;rw[show n+1-i=(n-i)+1 by omega];unfold j9;rw[if_neg (by omega),e];simp only;rw[if_pos (by simp[hj])]
theorem Iw(hT:nO T n)(h:i<=n)(e:T i=some (j,gs))(ho:(op&&decide (n<=j))=false):
 eM T n b op i told=if i=j then(if told=b j then eM T n b op (j+1) told else(⟨i,j,gs⟩::(eM T n b op (j+1) (b j)).1,(eM T n b op (j+1) (b j)).2))else(⟨i,j,gs⟩::(eM T n b op j (b j)).1,(eM T n b op j (b j)).2):=by
 have hf:=hT i j gs h e;unfold eM;rw[show n+1-i=(n-i)+1 by omega];conv=>lhs;unfold j9
 rw[if_neg (by omega),e];simp only;rw[ho];simp only[Aq,if_false];by_cases cQ:i=j
 ·rw[if_pos cQ,if_pos cQ,TE hT (n+1-(j+1)) (n-i) (j+1) told (by omega) (by omega),TE hT (n+1-(j+1)) (n-i) (j+1) (b j) (by omega) (by omega)]
 ·rw[if_neg cQ,if_neg cQ,TE hT (n+1-j) (n-i) j (b j) (by omega) (by omega)]
theorem TD{a:Nat}(PL:i<=a)(han:a<=n+1)(h:∀k,i<=k->k<a->T k=none):eM T n b op i told=eM T n b op a told:=by
 obtain⟨d,rfl⟩:∃d,a=i+d:=⟨a-i,by omega⟩
 clear PL;induction d with
 |zero=>rfl
 |succ d ih=>
  rw[ih (by omega) (fun k h1 h2=>h k h1 (by omega)),Iv (by omega) (h (i+d) (by omega) (by omega))];rfl
def RH(b:Nat->Int):Option Nat->Int
 |none=> -1
 |some k=>b k
theorem ahy(hb:∀i j,i<=n->j<=n->b i=b j->i=j)(h0:∀i,0<=b i):∀(k i:Nat) (told:Option Nat),(∀p,told=some p->p<=n)->nO T n->(j9 T n b false k i (RH b told)).1=cS T n k i told:=by
 intro k;induction k with
 |zero=>intro i told _ _;rfl
 |succ k ih=>
  intro i told ht hT;unfold j9 cS;by_cases hn:n<i
  ·rw[if_pos hn,if_pos hn]
  ·rw[if_neg hn,if_neg hn]
   cases e:T i with
   |none=>exact ih (i+1) told ht hT
   |some v=>
    obtain⟨j,gs⟩:=v;have hf:=hT i j gs (by omega) e;simp only[Eo,Aq,if_false]
    have E:(RH b told=b j) ↔told=some j:=by
     cases told with
     |none=>exact⟨fun h=>by have:=h0 j;simp only[RH]at h;omega,fun h=>(by cases h)⟩
     |some p=>exact⟨fun h=>by rw[hb p j (ht p rfl) hf.2 h],fun h=>by cases h;rfl⟩
    have I:=ih (j+1) (some j) (fun p hp=>by cases hp;exact hf.2) hT;have I':=ih j (some j) (fun p hp=>by cases hp;exact hf.2) hT;simp only[RH]at I I';by_cases cQ:i=j
    ·rw[if_pos cQ,if_pos cQ];by_cases h:told=some j
     ·rw[if_pos (E.2 h),if_pos h];exact ih (j+1) told ht hT
     ·rw[if_neg (fun h'=>h (E.1 h')),if_neg h,I]
    ·rw[if_neg cQ,if_neg cQ,I']
def vY(i0:Nat)(e:Ev):Ev:=⟨i0+e.a,i0+e.b,e.gs⟩
def gH(G:Nat):List Int:=List.replicate (2*G) (-1)
def eG(ms:List MS)(c:CX)(st:Nat)(G:Nat)(i:Nat):iH:=cW ms c (st:Int) i (gH G)
theorem wh(hg:eR ms)(c:CX)(bt:st<ms.length)(G:Nat):nO (eG ms c st G) c.n:=fun i j gs hi h=>by
 have:=BZ hg c bt hi _ _ _ h;exact⟨this.1,this.2.1⟩
def aN(X:ByteArray)(i:Nat):Int:=(bd X i:Int)
theorem alu(hg:eR ms){i1:Nat}(h:jZ X c i0 i1)(ho:c.op=true)(bt:st<ms.length)(G:Nat):∀(d k:Nat) (told:Int),c.n+1-k<=d->k<=c.n->
 (eM (eG ms (aM X) st G) (aF X).length (aN X) false (i0+k) told).1=(eM (eG ms c st G) c.n c.aW true k told).1.map (vY i0)++(eM (eG ms (aM X) st G) (aF X).length (aN X) false (i0+(eM (eG ms c st G) c.n c.aW true k told).2.1) (eM (eG ms c st G) c.n c.aW true k told).2.2).1/\
 k<=(eM (eG ms c st G) c.n c.aW true k told).2.1/\(eM (eG ms c st G) c.n c.aW true k told).2.1<=c.n/\
 (∀j gs,eG ms c st G k=some (j,gs)->j<c.n->k<(eM (eG ms c st G) c.n c.aW true k told).2.1):=by
 intro d;induction d with
 |zero=>intro k told h1 h2;omega
 |succ d ih=>
  intro k told hd hk;have hn:=h.n;have hl:=h.le;have qz:=h.yH;have S:=WW hg h bt hk (gH G);have IK:i0+k<=(aF X).length:=by omega
  have Pu:nO (eG ms (aM X) st G) (aF X).length:=wh hg (aM X) bt G;have Pv:nO (eG ms c st G) c.n:=wh hg c bt G
  cases e:eG ms c st G k with
  |none=>
   have eX:eG ms (aM X) st G (i0+k)=none:=S.no_ ho e
   have tZ:k≠c.n:=fun hx=>by
    have:eG ms c st G k=some (k,gH G):=yX ho (by omega);rw[this]at e;cases e
   rw[Iv hk e,Iv IK eX];have:=ih (k+1) told (by omega) (by omega);rw[Dn];exact⟨this.1,by omega,this.2.2.1,fun j gs hx=>(by cases hx)⟩
  |some v=>
   obtain⟨j,gs⟩:=v;have hf:=Pv k j gs hk e;by_cases hj:c.n<=j
   ·rw[aaO hk e hj];exact⟨by simp,Ab _,hk,fun j' dp hx LZ=>by simp only[A9,Ck]at hx;omega⟩
   ·have eX:eG ms (aM X) st G (i0+k)=some (i0+j,gs):=S.so_ ho j gs e (by omega);have AM:(true&&decide (c.n<=j))=false:=by simp;omega
    rw[Iw Pv hk e AM,Iw Pu IK eX rfl]
    have hb:c.aW j=aN X (i0+j):=by
     rw[h.aW (by omega)];unfold CX.aW aM aN;simp
    rw[hb];by_cases IW:k=j
    ·rw[if_pos IW,if_pos (show i0+k=i0+j by omega)];by_cases ht:told=aN X (i0+j)
     ·rw[if_pos ht,if_pos ht];have:=ih (j+1) told (by omega) (by omega);rw[Dn];exact⟨this.1,by omega,this.2.2.1,fun _ _ _ _=>by omega⟩
     ·rw[if_neg ht,if_neg ht];have:=ih (j+1) (aN X (i0+j)) (by omega) (by omega);rw[Dn];refine⟨?_,by simp only;omega,this.2.2.1,fun _ _ _ _=>by simp only;omega⟩;simp only[Cc,C1];rw[this.1];rfl
    ·rw[if_neg IW,if_neg (show¬i0+k=i0+j by omega)];have:=ih j (aN X (i0+j)) (by omega) (by omega);refine⟨?_,by simp only;omega,this.2.2.1,fun _ _ _ _=>by simp only;omega⟩;simp only[Cc,C1];rw[this.1];rfl
theorem agW(hg:eR ms)(h:jZ X c i0 (aF X).length)(ho:c.op=false)(bt:st<ms.length)(G:Nat):∀(d k:Nat) (told:Int),c.n+1-k<=d->
 (eM (eG ms (aM X) st G) (aF X).length (aN X) false (i0+k) told).1=(eM (eG ms c st G) c.n c.aW false k told).1.map (vY i0):=by
 intro d;induction d with
 |zero=>
  intro k told hd;have hn:=h.n;have hl:=h.le;rw[Li (by omega),Li (by omega)];rfl
 |succ d ih=>
  intro k told hd;have hn:=h.n;have hl:=h.le;by_cases hk:k<=c.n
  ·have S:=WW hg h bt hk (gH G);have IK:i0+k<=(aF X).length:=(by omega);have Pu:nO (eG ms (aM X) st G) (aF X).length:=wh hg (aM X) bt G;have Pv:nO (eG ms c st G) c.n:=wh hg c bt G
   cases e:eG ms (aM X) st G (i0+k)with
   |none=>
    have ec:eG ms c st G k=none:=S.off ho e;rw[Iv hk ec,Iv IK e,Dn];exact ih (k+1) told (by omega)
   |some v=>
    obtain⟨j,gs⟩:=v;have hf:=Pu _ j gs IK e;have ec:eG ms c st G k=some (j-i0,gs):=S.in_ ho j gs e hf.2;rw[Iw Pv hk ec rfl,Iw Pu IK e rfl]
    have hb:c.aW (j-i0)=aN X j:=by
     rw[h.aW (by omega),show i0+(j-i0)=j by omega];unfold CX.aW aM aN;simp
    rw[hb];by_cases IW:i0+k=j
    ·rw[if_pos IW,if_pos (show k=j-i0 by omega)];by_cases ht:told=aN X j
     ·rw[if_pos ht,if_pos ht];have:=ih (j-i0+1) told (by omega);rw[show i0+(j-i0+1)=j+1 by omega]at this;exact this
     ·rw[if_neg ht,if_neg ht];have:=ih (j-i0+1) (aN X j) (by omega);rw[show i0+(j-i0+1)=j+1 by omega]at this;simp only[Cc];rw[this,vY,show i0+(j-i0)=j by omega]
    ·rw[if_neg IW,if_neg (show¬k=j-i0 by omega)];have:=ih (j-i0) (aN X j) (by omega);rw[show i0+(j-i0)=j by omega]at this;simp only[Cc];rw[this,vY,show i0+(j-i0)=j by omega]
  ·rw[Li (by omega),Li (by omega)];rfl
def V7(E:Int->Nat->Option Nat)(st:Int)(uq:Nat->Int)(n:Nat):Nat->Nat->Option (Int×Nat)
 |0,_=>none
 |d+1,i=>if n<i then none else((E st i).map fun j=>(uq i,j)).or (V7 E st uq n d (i+1))
def qL(E:Int->Nat->Option Nat)(st:Int)(uq:Nat->Int)(n i:Nat):Option (Int×Nat):=V7 E st uq n (n+1-i) i
theorem V8{st:Int}(h:i<=n):qL E st uq n i=((E st i).map fun j=>(uq i,j)).or (qL E st uq n (i+1)):=by
 unfold qL;rw[show n+1-i=(n+1-(i+1))+1 by omega];conv=>lhs;unfold V7
 rw[if_neg (by omega)]
theorem acN{st:Int}(h:n<i):qL E st uq n i=none:=by
 unfold qL;rw[show n+1-i=0 by omega];rfl
theorem MY{st:Int}:∀(d i:Nat),n+1-i<=d->∀s j,qL E st uq n i=some (s,j)->∃a,i<=a/\a<=n/\s=uq a/\E st a=some j/\∀k,i<=k->k<a->E st k=none:=by
 intro d;induction d with
 |zero=>intro i h s j e;rw[acN (by omega)]at e;cases e
 |succ d ih=>
  intro i h s j e;by_cases hn:n<i
  ·rw[acN hn]at e;cases e
  ·rw[V8 (by omega)]at e
   cases h1:E st i with
   |some q=>
    rw[h1]at e;simp only[C7,D8,A9,Ck]at e;exact⟨i,Ab _,by omega,e.1.symm,by rw[h1,e.2],fun k a b=>by omega⟩
   |none=>
    rw[h1]at e;simp only[Option.map_none,D9]at e;obtain⟨a,h2,h3,h4,h5,h6⟩:=ih (i+1) (by omega) s j e;refine⟨a,by omega,h3,h4,h5,fun k aT aO=>?_⟩;by_cases wY:k=i
    ·rw[wY];exact h1
    ·exact h6 k (by omega) aO
theorem akT{st:Int}:∀(d i:Nat),n+1-i<=d->qL E st uq n i=none->∀k,i<=k->k<=n->E st k=none:=by
 intro d;induction d with
 |zero=>intro i h e k h1 h2;omega
 |succ d ih=>
  intro i h e k h1 h2;rw[V8 (by omega)]at e
  cases h3:E st i with
  |some q=>rw[h3]at e;cases e
  |none=>
   rw[h3]at e;by_cases wY:k=i
   ·rw[wY];exact h3
   ·exact ih (i+1) (by omega) e k (by omega) h2
def pw(ms:List MS)(a a':Int):Prop:=∀(u:Nat) (m:MS),ms[u]? =some m->m.kind=2->∀b,eU m.eo a b=eU m.eo a' b
theorem tz.ahead{a a' b:Int}(h:tz ms E i a b)(he:pw ms a a'):tz ms E i a' b:=⟨h.done,h.take,fun u m hm hk=>by rw[<-he u m hm hk];exact h.qT u m hm hk,h.mark,h.lJ⟩
def pV(X:ByteArray)(r:Nat):CX:=⟨X.extract (bd X 0) (bd X r),(bd X 0:Int),-1,-1,true⟩
theorem adh{r:Nat}(h:r<=(aF X).length):jZ X (pV X r) 0 r:=⟨rfl,rfl,Am _,h,fun _ _=>rfl,fun h=>(by cases h)⟩
structure pz(ms:List MS)(X:ByteArray)(st b i:Nat)(l:List bF)(mt:Option (Int×Nat)):Prop where
 aU:zE ms l
 Ny:∀t∈l,∃k,b<=k/\k<i/\t.2=aN X k
 QM:∀s j,mt=some (s,j)->j<i/\(∃k,b<=k/\k<=j/\s=aN X k)/\∀t∈l,t.2<=s
 le:b<=i/\i<=(aF X).length
 eq:∀(E:Int->Nat->Option Nat) (n:Nat),(∀k,b<=k->k<i->tz ms E k ((aM X).ahead k) ((aM X).bu k))->i<=n+1->qL E st (aN X) n b=(firstT E i l).or (mt.or (qL E st (aN X) n i))
theorem pz.begin(ms:List MS)(X:ByteArray)(st b:Nat)(hb:b<=(aF X).length):pz ms X st b b [] none:=
 ⟨⟨by simp,by simp⟩,by simp,fun s j h=>(by cases h),⟨Ab _,hb⟩,fun E n _ _=>rfl⟩
def uv(i:Nat)(dn:Option Int)(mt:Option (Int×Nat)):Option (Int×Nat):=(dn.map fun s=>(s,i)).or mt
def jT(st:Nat)(p:Int)(mt:Bool)(l:List bF):List bF:=if mt then l else l++[((st:Int),p)]
theorem Ip(X:ByteArray)(h:i<=j):aN X i<=aN X j:=by have:=fY X h;unfold aN;omega
theorem pz.step(hg:eR ms){b:Nat}(h:pz ms X st b i l mt)(bt:st<ms.length)(hi:i<(aF X).length){ah:Int}(ha:pw ms ((aM X).ahead i) ah):
 pz ms X st b (i+1) (aZ ms ah ((aM X).bu i) (jT st (aN X i) mt.isSome l)).1 (uv i (aZ ms ah ((aM X).bu i) (jT st (aN X i) mt.isSome l)).2 mt):=by
 have hL:zE ms (jT st (aN X i) mt.isSome l):=by
  unfold jT
  cases mt with
  |some m=>exact h.aU
  |none=>
   refine⟨fun t ht=>?_,?_⟩
   ·simp only[Do,Aq,if_false,Ap,Bm]at ht;rcases ht with ht|rfl
    ·exact h.aU.1 t ht
    ·exact⟨by simp,by simp only;omega⟩
   ·simp only[Do,Aq,if_false,Ch,Cc,Fy];rw[B7];refine⟨h.aU.2,by simp,fun a Ur c hc=>?_⟩;obtain⟨t,ht,rfl⟩:=Bf.1 Ur;simp only[Bm]at hc;obtain⟨k,aT,aO,bA⟩:=h.Ny t ht;rw[hc,bA];exact Ip X (by omega)
 have hS:∀t∈jT st (aN X i) mt.isSome l,∃k,b<=k/\k<i+1/\t.2=aN X k:=fun t ht=>by
  unfold jT at ht;split at ht
  ·obtain⟨k,h1,h2,h3⟩:=h.Ny t ht;exact⟨k,h1,by omega,h3⟩
  ·simp only[Ap,Bm]at ht;rcases ht with ht|rfl
   ·obtain⟨k,h1,h2,h3⟩:=h.Ny t ht;exact⟨k,h1,by omega,h3⟩
   ·exact⟨i,h.le.1,by omega,rfl⟩
 have Lx:tz ms (ln ms (aM X)) i ((aM X).ahead i) ((aM X).bu i):=Lh hg (aM X) hi;obtain⟨_,s1,s2,s3⟩:=Xi hg (Lx.ahead ha) hL;refine⟨s1,fun t ht=>?_,fun s j hm=>?_,⟨by have:=h.le;omega,by omega⟩,fun E n hE hn=>?_⟩
 ·obtain⟨q,hq,km⟩:=s2 t ht;obtain⟨k,h1,h2,h3⟩:=hS q hq;exact⟨k,h1,h2,by rw[<-km,h3]⟩
 ·unfold uv at hm
  cases hd:(aZ ms ah ((aM X).bu i) (jT st (aN X i) mt.isSome l)).2 with
  |some s'=>
   rw[hd]at hm;simp only[C7,D8,A9,Ck]at hm;obtain⟨⟨q,hq,km⟩,h4⟩:=s3 s' hd;obtain⟨k,h1,h2,h3⟩:=hS q hq;exact⟨by omega,⟨k,h1,by omega,by rw[<-hm.1,<-km,h3]⟩,fun t ht=>by rw[<-hm.1];exact h4 t ht⟩
  |none=>
   rw[hd]at hm;simp only[Option.map_none,D9]at hm;obtain⟨h1,h2,h3⟩:=h.QM s j hm;refine⟨by omega,h2,fun t ht=>?_⟩;obtain⟨q,hq,km⟩:=s2 t ht;rw[<-km];have hl:jT st (aN X i) mt.isSome l=l:=by rw[hm];rfl
   rw[hl]at hq;exact h3 q hq
 ·have hEi:tz ms E i ((aM X).ahead i) ((aM X).bu i):=hE i h.le.1 (by omega);obtain⟨s0,_,_,_⟩:=Xi hg (hEi.ahead ha) hL;rw[h.eq E n (fun k h1 h2=>hE k h1 (by omega)) (by omega)];unfold uv
  cases mt with
  |some m=>
   have hl:jT st (aN X i) (some m).isSome l=l:=rfl;rw[hl]at s0⊢;rw[s0,Dz,Dz];rfl
  |none=>
   have hl:jT st (aN X i) (none:Option (Int×Nat)).isSome l=l++[((st:Int),aN X i)]:=rfl;rw[hl]at s0⊢;rw[D9,Option.or_none,V8 (by omega),<-Dz,<-TH,<-O_,s0,Dz]
theorem pz.agJ(hg:eR ms){b:Nat}{s:Int}(h:pz ms X st b i [] (some (s,j)))(bt:st<ms.length)(G:Nat):
 ∃a gs,b<=a/\a<=j/\j<i/\s=aN X a/\eG ms (aM X) st G a=some (j,gs)/\(∀k,b<=k->k<a->eG ms (aM X) st G k=none)/\∀r,i<=r->r<=(aF X).length->∃dp,eG ms (pV X r) st G a=some (j,dp):=by
 have hl:=h.le;have hj:=(h.QM s j rfl).1;have e1:=h.eq (ln ms (aM X)) (aF X).length (fun k h1 h2=>Lh hg (aM X) (show k<(aF X).length by omega)) (by omega);have tL:qL (ln ms (aM X)) st (aN X) (aF X).length b=some (s,j):=e1;obtain⟨a,h1,h2,h3,h4,h5⟩:=MY _ b (Ab _) s j tL;have E1:∀k,k<=(aF X).length->ln ms (aM X) st k=(eG ms (aM X) st G k).map (·.1):=fun k hk=>O0 hg (aM X) bt hk _
 rw[E1 a h2]at h4;obtain⟨⟨j',gs⟩,hv,nI⟩:=Eb.1 h4;simp only at nI;subst nI;have kh:=wh hg (aM X) bt G a j' gs h2 hv;refine⟨a,gs,h1,kh.1,hj,h3,hv,fun k k1 k2=>?_,fun r hr rK=>?_⟩
 ·have:=h5 k k1 k2;rw[E1 k (by omega)]at this
  cases hx:eG ms (aM X) st G k with
  |none=>rfl
  |some v=>rw[hx]at this;cases this
 ·have hS:=adh rK;have hn:(pV X r).n=r:=hS.n
  have e2:=h.eq (ln ms (pV X r)) r (fun k h1 h2=>by
   have hk:tz ms (ln ms (pV X r)) k ((pV X r).ahead k) ((pV X r).bu k):=Lh hg (pV X r) (by omega);have I5:(pV X r).bu k=(aM X).bu k:=by have:=hS.bu (k:=k) (by omega);rwa[Ba]at this
   have wU:(pV X r).ahead k=(aM X).ahead k:=by
    unfold CX.ahead;by_cases h0:k=0
    ·rw[if_pos h0,if_pos h0];rfl
    ·rw[if_neg h0,if_neg h0];have:=hS.bu (k:=k-1) (by omega);rwa[Ba]at this
   rw[I5,wU]at hk;exact hk) (by omega)
  have Tz:qL (ln ms (pV X r)) st (aN X) r b=some (s,j'):=e2;obtain⟨a',q1,q2,q3,q4,q5⟩:=MY _ b (Ab _) s j' Tz
  have haa:a'=a:=by
   rw[q3]at h3;unfold aN at h3;exact ON (by omega) h2 (by omega)
  subst haa;rw[show ln ms (pV X r) st a'=(eG ms (pV X r) st G a').map (·.1)from O0 hg (pV X r) bt (by omega) _]at q4;obtain⟨⟨j2,Lv⟩,kT,Gp⟩:=Eb.1 q4;simp only at Gp;subst Gp;exact⟨Lv,kT⟩
theorem pz.zV(hg:eR ms){b:Nat}(h:pz ms X st b i l mt)(bt:st<ms.length)(G:Nat)(hc:l=[]->mt=none):
 ∃f,b<=f/\f<=i/\((l.head?.map (·.2)).getD (aN X i))=aN X f/\∀k,b<=k->k<f->eG ms (aM X) st G k=none:=by
 have hl:=h.le;have e1:=h.eq (ln ms (aM X)) (aF X).length (fun k h1 h2=>Lh hg (aM X) (show k<(aF X).length by omega)) (by omega)
 have E1:∀k,k<=(aF X).length->ln ms (aM X) st k=none->eG ms (aM X) st G k=none:=fun k hk hn=>by
  rw[show ln ms (aM X) st k=(eG ms (aM X) st G k).map (·.1)from O0 hg (aM X) bt hk _]at hn
  cases hx:eG ms (aM X) st G k with
  |none=>rfl
  |some v=>rw[hx]at hn;cases hn
 have Kv:∀f,b<=f->f<=i->(∀s j,qL (ln ms (aM X)) st (aN X) (aF X).length b=some (s,j)->aN X f<=s)->∀k,b<=k->k<f->eG ms (aM X) st G k=none:=fun f f1 f2 hf k k1 k2=>by
  cases hm:qL (ln ms (aM X)) st (aN X) (aF X).length b with
  |none=>exact E1 k (by omega) (akT _ b (Ab _) hm k k1 (by omega))
  |some v=>
   obtain⟨s,j⟩:=v;obtain⟨a,h1,h2,h3,h4,h5⟩:=MY _ b (Ab _) s j hm;have:=hf s j hm;by_cases sP:k<a
   ·exact E1 k (by omega) (h5 k k1 sP)
   ·exfalso
    have aw:bd X a<bd X f:=zJ (show a<f by omega) (by omega);rw[h3]at this;unfold aN at this;omega
 cases l with
 |nil=>
  refine⟨i,hl.1,Ab _,rfl,Kv i hl.1 (Ab _) (fun s j hm=>?_)⟩;rw[hm,hc rfl]at e1;have tL:qL (ln ms (aM X)) st (aN X) (aF X).length i=some (s,j):=e1.symm;obtain⟨a,h1,h2,h3,h4,h5⟩:=MY _ i (Ab _) s j tL;rw[h3];exact Ip X h1
 |cons t ts=>
  obtain⟨f,f1,f2,f3⟩:=h.Ny t (by simp);refine⟨f,f1,by omega,f3,Kv f f1 (by omega) (fun s j hm=>?_)⟩;rw[hm]at e1;have hp:=h.aU.2;simp only[Cc,Cs]at hp
  cases h6:firstT (ln ms (aM X)) i (t::ts)with
  |some v=>
   rw[h6]at e1;simp only[D8,A9]at e1;subst e1;unfold firstT at h6;obtain⟨q,hq,km⟩:=List.exists_of_findSome?_eq_some h6;obtain⟨j2,lL,IV⟩:=Eb.1 km;simp only[Ck]at IV;rw[<-f3,<-IV.1];rcases Cn.1 hq with rfl|hq
   ·exact Cg _
   ·exact hp.1 _ (Bf.2 ⟨q,hq,rfl⟩)
  |none=>
   rw[h6]at e1;simp only[D9]at e1
   cases iF:mt with
   |some m=>
    rw[iF]at e1;simp only[D8,A9]at e1;subst e1;rw[<-f3];exact(h.QM s j iF).2.2 t (by simp)
   |none=>
    rw[iF]at e1;have tL:qL (ln ms (aM X)) st (aN X) (aF X).length i=some (s,j):=e1.symm;obtain⟨a,h1,h2,h3,h4,h5⟩:=MY _ i (Ab _) s j tL;rw[h3];exact Ip X (by omega)
end Go.Proofs.YtpdnofhackjfdaaGreatDoor
