/- The events withi -/
import Derived.Test.YtpdnofhackjfdaaGreatDoorP26
set_option linter.all false
set_option maxRecDepth 100000
namespace Go.Proofs.YtpdnofhackjfdaaGreatDoor
open Go.Proofs.Tryz
variable {op:Bool} {X:ByteArray} {c:CX} {told:Int} {E:Int->Nat->Option Nat} {gs:List Int} {ms:List MS} {l:List bG} {i i0 j n st:Nat} {T:Nat->ik} {b ur:Nat->Int} {mt:Option (Int×Nat)}
def ko(T:Nat->ik)(n:Nat)(b:Nat->Int)(op:Bool):Nat->Nat->Int->List Ev×Nat×Int
 |0,i,told=>([],i,told)
 |k+1,i,told=>if n<i then([],i,told)else match T i with
  |none=>ko T n b op k (i+1) told
  |some v=>if op&&decide (n<=v.1)then([],i,told)
   else if i=v.1 then(if told=b v.1 then ko T n b op k (v.1+1) told else(⟨i,v.1,v.2⟩::(ko T n b op k (v.1+1) (b v.1)).1,(ko T n b op k (v.1+1) (b v.1)).2))
   else(⟨i,v.1,v.2⟩::(ko T n b op k v.1 (b v.1)).1,(ko T n b op k v.1 (b v.1)).2)
def eP(T:Nat->ik)(n:Nat)(b:Nat->Int)(op:Bool)(i:Nat)(told:Int):List Ev×Nat×Int:=ko T n b op (n+1-i) i told
theorem TR(hT:mJ T n):∀(k l i:Nat) (told:Int),n+1-i<=k->k<=l->ko T n b op l i told=ko T n b op k i told:=by
 intro k;induction k with
 |zero=>
  intro l i told h1 h2
  cases l with
  |zero=>rfl
  |succ l=>unfold ko;rw[if_pos (by omega)]
 |succ k ih=>
  intro l i told h1 h2;obtain⟨l,rfl⟩:∃l',l=l'+1:=⟨l-1,by omega⟩
  unfold ko;by_cases hn:n<i
  ·rw[if_pos hn,if_pos hn]
  ·rw[if_neg hn,if_neg hn]
   cases e:T i with
   |none=>exact ih l (i+1) told (by omega) (by omega)
   |some v=>
    obtain⟨j,gs⟩:=v;have hf:=hT i j gs (by omega) e;simp only;by_cases cy:i=j
    ·rw[if_pos cy,if_pos cy,ih l (j+1) told (by omega) (by omega),ih l (j+1) (b j) (by omega) (by omega)]
    ·rw[if_neg cy,if_neg cy,ih l j (b j) (by omega) (by omega)]
theorem Ly(h:n<i):eP T n b op i told=([],i,told):=by
 unfold eP;rw[show n+1-i=0 by omega];rfl
theorem IN(h:i<=n)(e:T i=none):eP T n b op i told=eP T n b op (i+1) told:=by
 unfold eP;rw[show n+1-i=(n+1-(i+1))+1 by omega];conv=>lhs;unfold ko
 rw[if_neg (by omega),e]
theorem aaK(h:i<=n)(e:T i=some (j,gs))(hj:n<=j):eP T n b true i told=([],i,told):=by
 unfold eP;rw[show n+1-i=(n-i)+1 by omega];unfold ko;rw[if_neg (by omega),e];simp only;rw[if_pos (by simp[hj])]
theorem IP(hT:mJ T n)(h:i<=n)(e:T i=some (j,gs))(ho:(op&&decide (n<=j))=false):
 eP T n b op i told=if i=j then(if told=b j then eP T n b op (j+1) told else(⟨i,j,gs⟩::(eP T n b op (j+1) (b j)).1,(eP T n b op (j+1) (b j)).2))else(⟨i,j,gs⟩::(eP T n b op j (b j)).1,(eP T n b op j (b j)).2):=by
 have hf:=hT i j gs h e;unfold eP;rw[show n+1-i=(n-i)+1 by omega];conv=>lhs;unfold ko
 rw[if_neg (by omega),e];simp only;rw[ho];simp only[Aq,if_false];by_cases cy:i=j
 ·rw[if_pos cy,if_pos cy,TR hT (n+1-(j+1)) (n-i) (j+1) told (by omega) (by omega),TR hT (n+1-(j+1)) (n-i) (j+1) (b j) (by omega) (by omega)]
 ·rw[if_neg cy,if_neg cy,TR hT (n+1-j) (n-i) j (b j) (by omega) (by omega)]
theorem TP{a:Nat}(Qb:i<=a)(han:a<=n+1)(h:∀k,i<=k->k<a->T k=none):eP T n b op i told=eP T n b op a told:=by
 obtain⟨d,rfl⟩:∃d,a=i+d:=⟨a-i,by omega⟩
 clear Qb;induction d with
 |zero=>rfl
 |succ d ih=>
  rw[ih (by omega) (fun k h1 h2=>h k h1 (by omega)),IN (by omega) (h (i+d) (by omega) (by omega))];rfl
def RU(b:Nat->Int):Option Nat->Int
 |none=> -1
 |some k=>b k
theorem ahz(hb:∀i j,i<=n->j<=n->b i=b j->i=j)(h0:∀i,0<=b i):∀(k i:Nat) (told:Option Nat),(∀p,told=some p->p<=n)->mJ T n->(ko T n b false k i (RU b told)).1=cO T n k i told:=by
 intro k;induction k with
 |zero=>intro i told _ _;rfl
 |succ k ih=>
  intro i told ht hT;unfold ko cO;by_cases hn:n<i
  ·rw[if_pos hn,if_pos hn]
  ·rw[if_neg hn,if_neg hn]
   cases e:T i with
   |none=>exact ih (i+1) told ht hT
   |some v=>
    obtain⟨j,gs⟩:=v;have hf:=hT i j gs (by omega) e;simp only[Ew,Aq,if_false]
    have E:(RU b told=b j) ↔told=some j:=by
     cases told with
     |none=>exact⟨fun h=>by have:=h0 j;simp only[RU]at h;omega,fun h=>(by cases h)⟩
     |some p=>exact⟨fun h=>by rw[hb p j (ht p rfl) hf.2 h],fun h=>by cases h;rfl⟩
    have I:=ih (j+1) (some j) (fun p hp=>by cases hp;exact hf.2) hT;have I':=ih j (some j) (fun p hp=>by cases hp;exact hf.2) hT;simp only[RU]at I I';by_cases cy:i=j
    ·rw[if_pos cy,if_pos cy];by_cases h:told=some j
     ·rw[if_pos (E.2 h),if_pos h];exact ih (j+1) told ht hT
     ·rw[if_neg (fun h'=>h (E.1 h')),if_neg h,I]
    ·rw[if_neg cy,if_neg cy,I']
def v_(i0:Nat)(e:Ev):Ev:=⟨i0+e.a,i0+e.b,e.gs⟩
def gK(G:Nat):List Int:=List.replicate (2*G) (-1)
def eJ(ms:List MS)(c:CX)(st:Nat)(G:Nat)(i:Nat):ik:=cZ ms c (st:Int) i (gK G)
theorem xI(hg:eW ms)(c:CX)(bC:st<ms.length)(G:Nat):mJ (eJ ms c st G) c.n:=fun i j gs hi h=>by
 have:=Hp hg c bC hi _ _ _ h;exact⟨this.1,this.2.1⟩
def aK(X:ByteArray)(i:Nat):Int:=(bd X i:Int)
theorem alV(hg:eW ms){i1:Nat}(h:ki X c i0 i1)(ho:c.op=true)(bC:st<ms.length)(G:Nat):∀(d k:Nat) (told:Int),c.n+1-k<=d->k<=c.n->
 (eP (eJ ms (aO X) st G) (aF X).length (aK X) false (i0+k) told).1=(eP (eJ ms c st G) c.n c.aY true k told).1.map (v_ i0)++(eP (eJ ms (aO X) st G) (aF X).length (aK X) false (i0+(eP (eJ ms c st G) c.n c.aY true k told).2.1) (eP (eJ ms c st G) c.n c.aY true k told).2.2).1/\
 k<=(eP (eJ ms c st G) c.n c.aY true k told).2.1/\(eP (eJ ms c st G) c.n c.aY true k told).2.1<=c.n/\
 (∀j gs,eJ ms c st G k=some (j,gs)->j<c.n->k<(eP (eJ ms c st G) c.n c.aY true k told).2.1):=by
 intro d;induction d with
 |zero=>intro k told h1 h2;omega
 |succ d ih=>
  intro k told hd hk;have hn:=h.n;have hl:=h.le;have w_:=h.yH;have S:=Xf hg h bC hk (gK G);have IZ:i0+k<=(aF X).length:=by omega
  have PG:mJ (eJ ms (aO X) st G) (aF X).length:=xI hg (aO X) bC G;have PH:mJ (eJ ms c st G) c.n:=xI hg c bC G
  cases e:eJ ms c st G k with
  |none=>
   have eX:eJ ms (aO X) st G (i0+k)=none:=S.no_ ho e
   have rH:k≠c.n:=fun hx=>by
    have:eJ ms c st G k=some (k,gK G):=yX ho (by omega);rw[this]at e;cases e
   rw[IN hk e,IN IZ eX];have:=ih (k+1) told (by omega) (by omega);rw[Di];exact⟨this.1,by omega,this.2.2.1,fun j gs hx=>(by cases hx)⟩
  |some v=>
   obtain⟨j,gs⟩:=v;have hf:=PH k j gs hk e;by_cases hj:c.n<=j
   ·rw[aaK hk e hj];exact⟨by simp,Ab _,hk,fun j' dB hx Mi=>by simp only[Ba,Cm]at hx;omega⟩
   ·have eX:eJ ms (aO X) st G (i0+k)=some (i0+j,gs):=S.so_ ho j gs e (by omega);have AW:(true&&decide (c.n<=j))=false:=by simp;omega
    rw[IP PH hk e AW,IP PG IZ eX rfl]
    have hb:c.aY j=aK X (i0+j):=by
     rw[h.aY (by omega)];unfold CX.aY aO aK;simp
    rw[hb];by_cases Ja:k=j
    ·rw[if_pos Ja,if_pos (show i0+k=i0+j by omega)];by_cases ht:told=aK X (i0+j)
     ·rw[if_pos ht,if_pos ht];have:=ih (j+1) told (by omega) (by omega);rw[Di];exact⟨this.1,by omega,this.2.2.1,fun _ _ _ _=>by omega⟩
     ·rw[if_neg ht,if_neg ht];have:=ih (j+1) (aK X (i0+j)) (by omega) (by omega);rw[Di];refine⟨?_,by simp only;omega,this.2.2.1,fun _ _ _ _=>by simp only;omega⟩;simp only[Bw,C0];rw[this.1];rfl
    ·rw[if_neg Ja,if_neg (show¬i0+k=i0+j by omega)];have:=ih j (aK X (i0+j)) (by omega) (by omega);refine⟨?_,by simp only;omega,this.2.2.1,fun _ _ _ _=>by simp only;omega⟩;simp only[Bw,C0];rw[this.1];rfl
theorem agX(hg:eW ms)(h:ki X c i0 (aF X).length)(ho:c.op=false)(bC:st<ms.length)(G:Nat):∀(d k:Nat) (told:Int),c.n+1-k<=d->
 (eP (eJ ms (aO X) st G) (aF X).length (aK X) false (i0+k) told).1=(eP (eJ ms c st G) c.n c.aY false k told).1.map (v_ i0):=by
 intro d;induction d with
 |zero=>
  intro k told hd;have hn:=h.n;have hl:=h.le;rw[Ly (by omega),Ly (by omega)];rfl
 |succ d ih=>
  intro k told hd;have hn:=h.n;have hl:=h.le;by_cases hk:k<=c.n
  ·have S:=Xf hg h bC hk (gK G);have IZ:i0+k<=(aF X).length:=(by omega);have PG:mJ (eJ ms (aO X) st G) (aF X).length:=xI hg (aO X) bC G;have PH:mJ (eJ ms c st G) c.n:=xI hg c bC G
   cases e:eJ ms (aO X) st G (i0+k)with
   |none=>
    have ec:eJ ms c st G k=none:=S.off ho e;rw[IN hk ec,IN IZ e,Di];exact ih (k+1) told (by omega)
   |some v=>
    obtain⟨j,gs⟩:=v;have hf:=PG _ j gs IZ e;have ec:eJ ms c st G k=some (j-i0,gs):=S.in_ ho j gs e hf.2;rw[IP PH hk ec rfl,IP PG IZ e rfl]
    have hb:c.aY (j-i0)=aK X j:=by
     rw[h.aY (by omega),show i0+(j-i0)=j by omega];unfold CX.aY aO aK;simp
    rw[hb];by_cases Ja:i0+k=j
    ·rw[if_pos Ja,if_pos (show k=j-i0 by omega)];by_cases ht:told=aK X j
     ·rw[if_pos ht,if_pos ht];have:=ih (j-i0+1) told (by omega);rw[show i0+(j-i0+1)=j+1 by omega]at this;exact this
     ·rw[if_neg ht,if_neg ht];have:=ih (j-i0+1) (aK X j) (by omega);rw[show i0+(j-i0+1)=j+1 by omega]at this;simp only[Bw];rw[this,v_,show i0+(j-i0)=j by omega]
    ·rw[if_neg Ja,if_neg (show¬k=j-i0 by omega)];have:=ih (j-i0) (aK X j) (by omega);rw[show i0+(j-i0)=j by omega]at this;simp only[Bw];rw[this,v_,show i0+(j-i0)=j by omega]
  ·rw[Ly (by omega),Ly (by omega)];rfl
def Wm(E:Int->Nat->Option Nat)(st:Int)(ur:Nat->Int)(n:Nat):Nat->Nat->Option (Int×Nat)
 |0,_=>none
 |d+1,i=>if n<i then none else((E st i).map fun j=>(ur i,j)).or (Wm E st ur n d (i+1))
def qM(E:Int->Nat->Option Nat)(st:Int)(ur:Nat->Int)(n i:Nat):Option (Int×Nat):=Wm E st ur n (n+1-i) i
theorem Wn{st:Int}(h:i<=n):qM E st ur n i=((E st i).map fun j=>(ur i,j)).or (qM E st ur n (i+1)):=by
 unfold qM;rw[show n+1-i=(n+1-(i+1))+1 by omega];conv=>lhs;unfold Wm
 rw[if_neg (by omega)]
theorem acM{st:Int}(h:n<i):qM E st ur n i=none:=by
 unfold qM;rw[show n+1-i=0 by omega];rfl
theorem Nd{st:Int}:∀(d i:Nat),n+1-i<=d->∀s j,qM E st ur n i=some (s,j)->∃a,i<=a/\a<=n/\s=ur a/\E st a=some j/\∀k,i<=k->k<a->E st k=none:=by
 intro d;induction d with
 |zero=>intro i h s j e;rw[acM (by omega)]at e;cases e
 |succ d ih=>
  intro i h s j e;by_cases hn:n<i
  ·rw[acM hn]at e;cases e
  ·rw[Wn (by omega)]at e
   cases h1:E st i with
   |some q=>
    rw[h1]at e;simp only[C9,Ed,Ba,Cm]at e;exact⟨i,Ab _,by omega,e.1.symm,by rw[h1,e.2],fun k a b=>by omega⟩
   |none=>
    rw[h1]at e;simp only[Option.map_none,Ee]at e;obtain⟨a,h2,h3,h4,h5,h6⟩:=ih (i+1) (by omega) s j e;refine⟨a,by omega,h3,h4,h5,fun k aU aN=>?_⟩;by_cases wZ:k=i
    ·rw[wZ];exact h1
    ·exact h6 k (by omega) aN
theorem ald{st:Int}:∀(d i:Nat),n+1-i<=d->qM E st ur n i=none->∀k,i<=k->k<=n->E st k=none:=by
 intro d;induction d with
 |zero=>intro i h e k h1 h2;omega
 |succ d ih=>
  intro i h e k h1 h2;rw[Wn (by omega)]at e
  cases h3:E st i with
  |some q=>rw[h3]at e;cases e
  |none=>
   rw[h3]at e;by_cases wZ:k=i
   ·rw[wZ];exact h3
   ·exact ih (i+1) (by omega) e k (by omega) h2
def pD(ms:List MS)(a a':Int):Prop:=∀(u:Nat) (m:MS),ms[u]? =some m->m.kind=2->∀b,e_ m.eE a b=e_ m.eE a' b
theorem tC.ahead{a a' b:Int}(h:tC ms E i a b)(he:pD ms a a'):tC ms E i a' b:=⟨h.done,h.take,fun u m hm hk=>by rw[<-he u m hm hk];exact h.qV u m hm hk,h.mark,h.lL⟩
def pX(X:ByteArray)(r:Nat):CX:=⟨X.extract (bd X 0) (bd X r),(bd X 0:Int),-1,-1,true⟩
theorem adf{r:Nat}(h:r<=(aF X).length):ki X (pX X r) 0 r:=⟨rfl,rfl,Ao _,h,fun _ _=>rfl,fun h=>(by cases h)⟩
structure pF(ms:List MS)(X:ByteArray)(st b i:Nat)(l:List bG)(mt:Option (Int×Nat)):Prop where
 aV:zH ms l
 NJ:∀t∈l,∃k,b<=k/\k<i/\t.2=aK X k
 QX:∀s j,mt=some (s,j)->j<i/\(∃k,b<=k/\k<=j/\s=aK X k)/\∀t∈l,t.2<=s
 le:b<=i/\i<=(aF X).length
 eq:∀(E:Int->Nat->Option Nat) (n:Nat),(∀k,b<=k->k<i->tC ms E k ((aO X).ahead k) ((aO X).bl k))->i<=n+1->qM E st (aK X) n b=(firstT E i l).or (mt.or (qM E st (aK X) n i))
theorem pF.begin(ms:List MS)(X:ByteArray)(st b:Nat)(hb:b<=(aF X).length):pF ms X st b b [] none:=
 ⟨⟨by simp,by simp⟩,by simp,fun s j h=>(by cases h),⟨Ab _,hb⟩,fun E n _ _=>rfl⟩
def tj(i:Nat)(dn:Option Int)(mt:Option (Int×Nat)):Option (Int×Nat):=(dn.map fun s=>(s,i)).or mt
def jA(st:Nat)(p:Int)(mt:Bool)(l:List bG):List bG:=if mt then l else l++[((st:Int),p)]
theorem IE(X:ByteArray)(h:i<=j):aK X i<=aK X j:=by have:=fR X h;unfold aK;omega
theorem pF.step(hg:eW ms){b:Nat}(h:pF ms X st b i l mt)(bC:st<ms.length)(hi:i<(aF X).length){ah:Int}(ha:pD ms ((aO X).ahead i) ah):
 pF ms X st b (i+1) (aZ ms ah ((aO X).bl i) (jA st (aK X i) mt.isSome l)).1 (tj i (aZ ms ah ((aO X).bl i) (jA st (aK X i) mt.isSome l)).2 mt):=by
 have hL:zH ms (jA st (aK X i) mt.isSome l):=by
  unfold jA
  cases mt with
  |some m=>exact h.aV
  |none=>
   refine⟨fun t ht=>?_,?_⟩
   ·simp only[Dc,Aq,if_false,Al,Bo]at ht;rcases ht with ht|rfl
    ·exact h.aV.1 t ht
    ·exact⟨by simp,by simp only;omega⟩
   ·simp only[Dc,Aq,if_false,Ci,Bw,Ge];rw[B7];refine⟨h.aV.2,by simp,fun a UE c hc=>?_⟩;obtain⟨t,ht,rfl⟩:=Bg.1 UE;simp only[Bo]at hc;obtain⟨k,aU,aN,bA⟩:=h.NJ t ht;rw[hc,bA];exact IE X (by omega)
 have hS:∀t∈jA st (aK X i) mt.isSome l,∃k,b<=k/\k<i+1/\t.2=aK X k:=fun t ht=>by
  unfold jA at ht;split at ht
  ·obtain⟨k,h1,h2,h3⟩:=h.NJ t ht;exact⟨k,h1,by omega,h3⟩
  ·simp only[Al,Bo]at ht;rcases ht with ht|rfl
   ·obtain⟨k,h1,h2,h3⟩:=h.NJ t ht;exact⟨k,h1,by omega,h3⟩
   ·exact⟨i,h.le.1,by omega,rfl⟩
 have Uo:tC ms (lq ms (aO X)) i ((aO X).ahead i) ((aO X).bl i):=Lx hg (aO X) hi;obtain⟨_,s1,s2,s3⟩:=Xt hg (Uo.ahead ha) hL;refine⟨s1,fun t ht=>?_,fun s j hm=>?_,⟨by have:=h.le;omega,by omega⟩,fun E n hE hn=>?_⟩
 ·obtain⟨q,hq,kC⟩:=s2 t ht;obtain⟨k,h1,h2,h3⟩:=hS q hq;exact⟨k,h1,h2,by rw[<-kC,h3]⟩
 ·unfold tj at hm
  cases hd:(aZ ms ah ((aO X).bl i) (jA st (aK X i) mt.isSome l)).2 with
  |some s'=>
   rw[hd]at hm;simp only[C9,Ed,Ba,Cm]at hm;obtain⟨⟨q,hq,kC⟩,h4⟩:=s3 s' hd;obtain⟨k,h1,h2,h3⟩:=hS q hq;exact⟨by omega,⟨k,h1,by omega,by rw[<-hm.1,<-kC,h3]⟩,fun t ht=>by rw[<-hm.1];exact h4 t ht⟩
  |none=>
   rw[hd]at hm;simp only[Option.map_none,Ee]at hm;obtain⟨h1,h2,h3⟩:=h.QX s j hm;refine⟨by omega,h2,fun t ht=>?_⟩;obtain⟨q,hq,kC⟩:=s2 t ht;rw[<-kC];have hl:jA st (aK X i) mt.isSome l=l:=by rw[hm];rfl
   rw[hl]at hq;exact h3 q hq
 ·have hEi:tC ms E i ((aO X).ahead i) ((aO X).bl i):=hE i h.le.1 (by omega);obtain⟨s0,_,_,_⟩:=Xt hg (hEi.ahead ha) hL;rw[h.eq E n (fun k h1 h2=>hE k h1 (by omega)) (by omega)];unfold tj
  cases mt with
  |some m=>
   have hl:jA st (aK X i) (some m).isSome l=l:=rfl;rw[hl]at s0⊢;rw[s0,D6,D6];rfl
  |none=>
   have hl:jA st (aK X i) (none:Option (Int×Nat)).isSome l=l++[((st:Int),aK X i)]:=rfl;rw[hl]at s0⊢;rw[Ee,Option.or_none,Wn (by omega),<-D6,<-TV,<-Pi,s0,D6]
theorem pF.agL(hg:eW ms){b:Nat}{s:Int}(h:pF ms X st b i [] (some (s,j)))(bC:st<ms.length)(G:Nat):
 ∃a gs,b<=a/\a<=j/\j<i/\s=aK X a/\eJ ms (aO X) st G a=some (j,gs)/\(∀k,b<=k->k<a->eJ ms (aO X) st G k=none)/\∀r,i<=r->r<=(aF X).length->∃dB,eJ ms (pX X r) st G a=some (j,dB):=by
 have hl:=h.le;have hj:=(h.QX s j rfl).1;have e1:=h.eq (lq ms (aO X)) (aF X).length (fun k h1 h2=>Lx hg (aO X) (show k<(aF X).length by omega)) (by omega);have sD:qM (lq ms (aO X)) st (aK X) (aF X).length b=some (s,j):=e1;obtain⟨a,h1,h2,h3,h4,h5⟩:=Nd _ b (Ab _) s j sD;have E1:∀k,k<=(aF X).length->lq ms (aO X) st k=(eJ ms (aO X) st G k).map (·.1):=fun k hk=>Pf hg (aO X) bC hk _
 rw[E1 a h2]at h4;obtain⟨⟨j',gs⟩,hv,nP⟩:=Eg.1 h4;simp only at nP;subst nP;have mq:=xI hg (aO X) bC G a j' gs h2 hv;refine⟨a,gs,h1,mq.1,hj,h3,hv,fun k k1 k2=>?_,fun r hr sW=>?_⟩
 ·have:=h5 k k1 k2;rw[E1 k (by omega)]at this
  cases hx:eJ ms (aO X) st G k with
  |none=>rfl
  |some v=>rw[hx]at this;cases this
 ·have hS:=adf sW;have hn:(pX X r).n=r:=hS.n
  have e2:=h.eq (lq ms (pX X r)) r (fun k h1 h2=>by
   have hk:tC ms (lq ms (pX X r)) k ((pX X r).ahead k) ((pX X r).bl k):=Lx hg (pX X r) (by omega);have A_:(pX X r).bl k=(aO X).bl k:=by have:=hS.bl (k:=k) (by omega);rwa[Bf]at this
   have wU:(pX X r).ahead k=(aO X).ahead k:=by
    unfold CX.ahead;by_cases h0:k=0
    ·rw[if_pos h0,if_pos h0];rfl
    ·rw[if_neg h0,if_neg h0];have:=hS.bl (k:=k-1) (by omega);rwa[Bf]at this
   rw[A_,wU]at hk;exact hk) (by omega)
  have TM:qM (lq ms (pX X r)) st (aK X) r b=some (s,j'):=e2;obtain⟨a',q1,q2,q3,q4,q5⟩:=Nd _ b (Ab _) s j' TM
  have haa:a'=a:=by
   rw[q3]at h3;unfold aK at h3;exact OY (by omega) h2 (by omega)
  subst haa;rw[show lq ms (pX X r) st a'=(eJ ms (pX X r) st G a').map (·.1)from Pf hg (pX X r) bC (by omega) _]at q4;obtain⟨⟨j2,LO⟩,kX,GJ⟩:=Eg.1 q4;simp only at GJ;subst GJ;exact⟨LO,kX⟩
theorem pF.wQ(hg:eW ms){b:Nat}(h:pF ms X st b i l mt)(bC:st<ms.length)(G:Nat)(hc:l=[]->mt=none):
 ∃f,b<=f/\f<=i/\((l.head?.map (·.2)).getD (aK X i))=aK X f/\∀k,b<=k->k<f->eJ ms (aO X) st G k=none:=by
 have hl:=h.le;have e1:=h.eq (lq ms (aO X)) (aF X).length (fun k h1 h2=>Lx hg (aO X) (show k<(aF X).length by omega)) (by omega)
 have E1:∀k,k<=(aF X).length->lq ms (aO X) st k=none->eJ ms (aO X) st G k=none:=fun k hk hn=>by
  rw[show lq ms (aO X) st k=(eJ ms (aO X) st G k).map (·.1)from Pf hg (aO X) bC hk _]at hn
  cases hx:eJ ms (aO X) st G k with
  |none=>rfl
  |some v=>rw[hx]at hn;cases hn
 have KS:∀f,b<=f->f<=i->(∀s j,qM (lq ms (aO X)) st (aK X) (aF X).length b=some (s,j)->aK X f<=s)->∀k,b<=k->k<f->eJ ms (aO X) st G k=none:=fun f f1 f2 hf k k1 k2=>by
  cases hm:qM (lq ms (aO X)) st (aK X) (aF X).length b with
  |none=>exact E1 k (by omega) (ald _ b (Ab _) hm k k1 (by omega))
  |some v=>
   obtain⟨s,j⟩:=v;obtain⟨a,h1,h2,h3,h4,h5⟩:=Nd _ b (Ab _) s j hm;have:=hf s j hm;by_cases sQ:k<a
   ·exact E1 k (by omega) (h5 k k1 sQ)
   ·exfalso
    have aw:bd X a<bd X f:=zM (show a<f by omega) (by omega);rw[h3]at this;unfold aK at this;omega
 cases l with
 |nil=>
  refine⟨i,hl.1,Ab _,rfl,KS i hl.1 (Ab _) (fun s j hm=>?_)⟩;rw[hm,hc rfl]at e1;have sD:qM (lq ms (aO X)) st (aK X) (aF X).length i=some (s,j):=e1.symm;obtain⟨a,h1,h2,h3,h4,h5⟩:=Nd _ i (Ab _) s j sD;rw[h3];exact IE X h1
 |cons t ts=>
  obtain⟨f,f1,f2,f3⟩:=h.NJ t (by simp);refine⟨f,f1,by omega,f3,KS f f1 (by omega) (fun s j hm=>?_)⟩;rw[hm]at e1;have hp:=h.aV.2;simp only[Bw,Cu]at hp
  cases h6:firstT (lq ms (aO X)) i (t::ts)with
  |some v=>
   rw[h6]at e1;simp only[Ed,Ba]at e1;subst e1;unfold firstT at h6;obtain⟨q,hq,kC⟩:=List.exists_of_findSome?_eq_some h6;obtain⟨j2,lN,I_⟩:=Eg.1 kC;simp only[Cm]at I_;rw[<-f3,<-I_.1];rcases Cg.1 hq with rfl|hq
   ·exact Ce _
   ·exact hp.1 _ (Bg.2 ⟨q,hq,rfl⟩)
  |none=>
   rw[h6]at e1;simp only[Ee]at e1
   cases iA:mt with
   |some m=>
    rw[iA]at e1;simp only[Ed,Ba]at e1;subst e1;rw[<-f3];exact(h.QX s j iA).2.2 t (by simp)
   |none=>
    rw[iA]at e1;have sD:qM (lq ms (aO X)) st (aK X) (aF X).length i=some (s,j):=e1.symm;obtain⟨a,h1,h2,h3,h4,h5⟩:=Nd _ i (Ab _) s j sD;rw[h3];exact IE X (by omega)
