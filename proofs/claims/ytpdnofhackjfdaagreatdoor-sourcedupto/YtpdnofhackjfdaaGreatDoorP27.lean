/- The events withi -/
import Derived.Test.YtpdnofhackjfdaaGreatDoorP26
set_option linter.all false
set_option maxRecDepth 100000
namespace Go.Proofs.YtpdnofhackjfdaaGreatDoor
open Go.Proofs.Tryz
variable {op:Bool} {X:ByteArray} {c:CX} {told:Int} {E:Int->Nat->Option Nat} {gs:List Int} {ms:List MS} {l:List bJ} {i i0 j n st:Nat} {T:Nat->iT} {b uO:Nat->Int} {mt:Option (Int×Nat)}
def kt(T:Nat->iT)(n:Nat)(b:Nat->Int)(op:Bool):Nat->Nat->Int->List Ev×Nat×Int
 |0,i,told=>([],i,told)
 |k+1,i,told=>if n<i then([],i,told)else match T i with
  |none=>kt T n b op k (i+1) told
  |some v=>if op&&decide (n<=v.1)then([],i,told)
   else if i=v.1 then(if told=b v.1 then kt T n b op k (v.1+1) told else(⟨i,v.1,v.2⟩::(kt T n b op k (v.1+1) (b v.1)).1,(kt T n b op k (v.1+1) (b v.1)).2))
   else(⟨i,v.1,v.2⟩::(kt T n b op k v.1 (b v.1)).1,(kt T n b op k v.1 (b v.1)).2)
def e_(T:Nat->iT)(n:Nat)(b:Nat->Int)(op:Bool)(i:Nat)(told:Int):List Ev×Nat×Int:=kt T n b op (n+1-i) i told
theorem U4(hT:oc T n):∀(k l i:Nat) (told:Int),n+1-i<=k->k<=l->kt T n b op l i told=kt T n b op k i told:=by
 intro k;induction k with
 |zero=>
  intro l i told h1 h2
  cases l with
  |zero=>rfl
  |succ l=>unfold kt;rw[if_pos (by omega)]
 |succ k ih=>
  intro l i told h1 h2;obtain⟨l,rfl⟩:∃l',l=l'+1:=⟨l-1,by omega⟩
  unfold kt;by_cases hn:n<i
  ·rw[if_pos hn,if_pos hn]
  ·rw[if_neg hn,if_neg hn]
   cases e:T i with
   |none=>exact ih l (i+1) told (by omega) (by omega)
   |some v=>
    obtain⟨j,gs⟩:=v;have hf:=hT i j gs (by omega) e;simp only;by_cases cY:i=j
    ·rw[if_pos cY,if_pos cY,ih l (j+1) told (by omega) (by omega),ih l (j+1) (b j) (by omega) (by omega)]
    ·rw[if_neg cY,if_neg cY,ih l j (b j) (by omega) (by omega)]
theorem Mp(h:n<i):e_ T n b op i told=([],i,told):=by
 unfold e_;rw[show n+1-i=0 by omega];rfl
theorem Jn(h:i<=n)(e:T i=none):e_ T n b op i told=e_ T n b op (i+1) told:=by
 unfold e_;rw[show n+1-i=(n+1-(i+1))+1 by omega];conv=>lhs;unfold kt
 rw[if_neg (by omega),e]
theorem abt(h:i<=n)(e:T i=some (j,gs))(hj:n<=j):e_ T n b true i told=([],i,told):=by
 unfold e_;rw[show n+1-i=(n-i)+1 by omega];unfold kt;rw[if_neg (by omega),e];simp only;rw[if_pos (by simp[hj])]
theorem Jo(hT:oc T n)(h:i<=n)(e:T i=some (j,gs))(ho:(op&&decide (n<=j))=false):
 e_ T n b op i told=if i=j then(if told=b j then e_ T n b op (j+1) told else(⟨i,j,gs⟩::(e_ T n b op (j+1) (b j)).1,(e_ T n b op (j+1) (b j)).2))else(⟨i,j,gs⟩::(e_ T n b op j (b j)).1,(e_ T n b op j (b j)).2):=by
 have hf:=hT i j gs h e;unfold e_;rw[show n+1-i=(n-i)+1 by omega];conv=>lhs;unfold kt
 rw[if_neg (by omega),e];simp only;rw[ho];simp only[Aq,if_false];by_cases cY:i=j
 ·rw[if_pos cY,if_pos cY,U4 hT (n+1-(j+1)) (n-i) (j+1) told (by omega) (by omega),U4 hT (n+1-(j+1)) (n-i) (j+1) (b j) (by omega) (by omega)]
 ·rw[if_neg cY,if_neg cY,U4 hT (n+1-j) (n-i) j (b j) (by omega) (by omega)]
theorem U3{a:Nat}(Rg:i<=a)(han:a<=n+1)(h:∀k,i<=k->k<a->T k=none):e_ T n b op i told=e_ T n b op a told:=by
 obtain⟨d,rfl⟩:∃d,a=i+d:=⟨a-i,by omega⟩
 clear Rg;induction d with
 |zero=>rfl
 |succ d ih=>
  rw[ih (by omega) (fun k h1 h2=>h k h1 (by omega)),Jn (by omega) (h (i+d) (by omega) (by omega))];rfl
def Tg(b:Nat->Int):Option Nat->Int
 |none=> -1
 |some k=>b k
theorem aip(hb:∀i j,i<=n->j<=n->b i=b j->i=j)(h0:∀i,0<=b i):∀(k i:Nat) (told:Option Nat),(∀p,told=some p->p<=n)->oc T n->(kt T n b false k i (Tg b told)).1=c_ T n k i told:=by
 intro k;induction k with
 |zero=>intro i told _ _;rfl
 |succ k ih=>
  intro i told ht hT;unfold kt c_;by_cases hn:n<i
  ·rw[if_pos hn,if_pos hn]
  ·rw[if_neg hn,if_neg hn]
   cases e:T i with
   |none=>exact ih (i+1) told ht hT
   |some v=>
    obtain⟨j,gs⟩:=v;have hf:=hT i j gs (by omega) e;simp only[Ew,Aq,if_false]
    have E:(Tg b told=b j) ↔told=some j:=by
     cases told with
     |none=>exact⟨fun h=>by have:=h0 j;simp only[Tg]at h;omega,fun h=>(by cases h)⟩
     |some p=>exact⟨fun h=>by rw[hb p j (ht p rfl) hf.2 h],fun h=>by cases h;rfl⟩
    have I:=ih (j+1) (some j) (fun p hp=>by cases hp;exact hf.2) hT;have I':=ih j (some j) (fun p hp=>by cases hp;exact hf.2) hT;simp only[Tg]at I I';by_cases cY:i=j
    ·rw[if_pos cY,if_pos cY];by_cases h:told=some j
     ·rw[if_pos (E.2 h),if_pos h];exact ih (j+1) told ht hT
     ·rw[if_neg (fun h'=>h (E.1 h')),if_neg h,I]
    ·rw[if_neg cY,if_neg cY,I']
def wQ(i0:Nat)(e:Ev):Ev:=⟨i0+e.a,i0+e.b,e.gs⟩
def gR(G:Nat):List Int:=List.replicate (2*G) (-1)
def eV(ms:List MS)(c:CX)(st:Nat)(G:Nat)(i:Nat):iT:=dd ms c (st:Int) i (gR G)
theorem wV(hg:fg ms)(c:CX)(bD:st<ms.length)(G:Nat):oc (eV ms c st G) c.n:=fun i j gs hi h=>by
 have:=DV hg c bD hi _ _ _ h;exact⟨this.1,this.2.1⟩
def aR(X:ByteArray)(i:Nat):Int:=(bd X i:Int)
theorem amn(hg:fg ms){i1:Nat}(h:ki X c i0 i1)(ho:c.op=true)(bD:st<ms.length)(G:Nat):∀(d k:Nat) (told:Int),c.n+1-k<=d->k<=c.n->
 (e_ (eV ms (aQ X) st G) (aJ X).length (aR X) false (i0+k) told).1=(e_ (eV ms c st G) c.n c.aZ true k told).1.map (wQ i0)++(e_ (eV ms (aQ X) st G) (aJ X).length (aR X) false (i0+(e_ (eV ms c st G) c.n c.aZ true k told).2.1) (e_ (eV ms c st G) c.n c.aZ true k told).2.2).1/\
 k<=(e_ (eV ms c st G) c.n c.aZ true k told).2.1/\(e_ (eV ms c st G) c.n c.aZ true k told).2.1<=c.n/\
 (∀j gs,eV ms c st G k=some (j,gs)->j<c.n->k<(e_ (eV ms c st G) c.n c.aZ true k told).2.1):=by
 intro d;induction d with
 |zero=>intro k told h1 h2;omega
 |succ d ih=>
  intro k told hd hk;have hn:=h.n;have hl:=h.le;have tm:=h.zy;have S:=Yr hg h bD hk (gR G);have JB:i0+k<=(aJ X).length:=by omega
  have QY:oc (eV ms (aQ X) st G) (aJ X).length:=wV hg (aQ X) bD G;have QZ:oc (eV ms c st G) c.n:=wV hg c bD G
  cases e:eV ms c st G k with
  |none=>
   have eX:eV ms (aQ X) st G (i0+k)=none:=S.no_ ho e
   have uA:k≠c.n:=fun hx=>by
    have:eV ms c st G k=some (k,gR G):=zO ho (by omega);rw[this]at e;cases e
   rw[Jn hk e,Jn JB eX];have:=ih (k+1) told (by omega) (by omega);rw[Dt];exact⟨this.1,by omega,this.2.2.1,fun j gs hx=>(by cases hx)⟩
  |some v=>
   obtain⟨j,gs⟩:=v;have hf:=QZ k j gs hk e;by_cases hj:c.n<=j
   ·rw[abt hk e hj];exact⟨by simp,Ab _,hk,fun j' dA hx Nb=>by simp only[Bd,Cp]at hx;omega⟩
   ·have eX:eV ms (aQ X) st G (i0+k)=some (i0+j,gs):=S.so_ ho j gs e (by omega);have CP:(true&&decide (c.n<=j))=false:=by simp;omega
    rw[Jo QZ hk e CP,Jo QY JB eX rfl]
    have hb:c.aZ j=aR X (i0+j):=by
     rw[h.aZ (by omega)];unfold CX.aZ aQ aR;simp
    rw[hb];by_cases JO:k=j
    ·rw[if_pos JO,if_pos (show i0+k=i0+j by omega)];by_cases ht:told=aR X (i0+j)
     ·rw[if_pos ht,if_pos ht];have:=ih (j+1) told (by omega) (by omega);rw[Dt];exact⟨this.1,by omega,this.2.2.1,fun _ _ _ _=>by omega⟩
     ·rw[if_neg ht,if_neg ht];have:=ih (j+1) (aR X (i0+j)) (by omega) (by omega);rw[Dt];refine⟨?_,by simp only;omega,this.2.2.1,fun _ _ _ _=>by simp only;omega⟩;simp only[Ch,C4];rw[this.1];rfl
    ·rw[if_neg JO,if_neg (show¬i0+k=i0+j by omega)];have:=ih j (aR X (i0+j)) (by omega) (by omega);refine⟨?_,by simp only;omega,this.2.2.1,fun _ _ _ _=>by simp only;omega⟩;simp only[Ch,C4];rw[this.1];rfl
theorem ahK(hg:fg ms)(h:ki X c i0 (aJ X).length)(ho:c.op=false)(bD:st<ms.length)(G:Nat):∀(d k:Nat) (told:Int),c.n+1-k<=d->
 (e_ (eV ms (aQ X) st G) (aJ X).length (aR X) false (i0+k) told).1=(e_ (eV ms c st G) c.n c.aZ false k told).1.map (wQ i0):=by
 intro d;induction d with
 |zero=>
  intro k told hd;have hn:=h.n;have hl:=h.le;rw[Mp (by omega),Mp (by omega)];rfl
 |succ d ih=>
  intro k told hd;have hn:=h.n;have hl:=h.le;by_cases hk:k<=c.n
  ·have S:=Yr hg h bD hk (gR G);have JB:i0+k<=(aJ X).length:=(by omega);have QY:oc (eV ms (aQ X) st G) (aJ X).length:=wV hg (aQ X) bD G;have QZ:oc (eV ms c st G) c.n:=wV hg c bD G
   cases e:eV ms (aQ X) st G (i0+k)with
   |none=>
    have ec:eV ms c st G k=none:=S.off ho e;rw[Jn hk ec,Jn JB e,Dt];exact ih (k+1) told (by omega)
   |some v=>
    obtain⟨j,gs⟩:=v;have hf:=QY _ j gs JB e;have ec:eV ms c st G k=some (j-i0,gs):=S.in_ ho j gs e hf.2;rw[Jo QZ hk ec rfl,Jo QY JB e rfl]
    have hb:c.aZ (j-i0)=aR X j:=by
     rw[h.aZ (by omega),show i0+(j-i0)=j by omega];unfold CX.aZ aQ aR;simp
    rw[hb];by_cases JO:i0+k=j
    ·rw[if_pos JO,if_pos (show k=j-i0 by omega)];by_cases ht:told=aR X j
     ·rw[if_pos ht,if_pos ht];have:=ih (j-i0+1) told (by omega);rw[show i0+(j-i0+1)=j+1 by omega]at this;exact this
     ·rw[if_neg ht,if_neg ht];have:=ih (j-i0+1) (aR X j) (by omega);rw[show i0+(j-i0+1)=j+1 by omega]at this;simp only[Ch];rw[this,wQ,show i0+(j-i0)=j by omega]
    ·rw[if_neg JO,if_neg (show¬k=j-i0 by omega)];have:=ih (j-i0) (aR X j) (by omega);rw[show i0+(j-i0)=j by omega]at this;simp only[Ch];rw[this,wQ,show i0+(j-i0)=j by omega]
  ·rw[Mp (by omega),Mp (by omega)];rfl
def XH(E:Int->Nat->Option Nat)(st:Int)(uO:Nat->Int)(n:Nat):Nat->Nat->Option (Int×Nat)
 |0,_=>none
 |d+1,i=>if n<i then none else((E st i).map fun j=>(uO i,j)).or (XH E st uO n d (i+1))
def ru(E:Int->Nat->Option Nat)(st:Int)(uO:Nat->Int)(n i:Nat):Option (Int×Nat):=XH E st uO n (n+1-i) i
theorem XI{st:Int}(h:i<=n):ru E st uO n i=((E st i).map fun j=>(uO i,j)).or (ru E st uO n (i+1)):=by
 unfold ru;rw[show n+1-i=(n+1-(i+1))+1 by omega];conv=>lhs;unfold XH
 rw[if_neg (by omega)]
theorem adw{st:Int}(h:n<i):ru E st uO n i=none:=by
 unfold ru;rw[show n+1-i=0 by omega];rfl
theorem Og{st:Int}:∀(d i:Nat),n+1-i<=d->∀s j,ru E st uO n i=some (s,j)->∃a,i<=a/\a<=n/\s=uO a/\E st a=some j/\∀k,i<=k->k<a->E st k=none:=by
 intro d;induction d with
 |zero=>intro i h s j e;rw[adw (by omega)]at e;cases e
 |succ d ih=>
  intro i h s j e;by_cases hn:n<i
  ·rw[adw hn]at e;cases e
  ·rw[XI (by omega)]at e
   cases h1:E st i with
   |some q=>
    rw[h1]at e;simp only[Da,Ec,Bd,Cp]at e;exact⟨i,Ab _,by omega,e.1.symm,by rw[h1,e.2],fun k a b=>by omega⟩
   |none=>
    rw[h1]at e;simp only[Option.map_none,Ed]at e;obtain⟨a,h2,h3,h4,h5,h6⟩:=ih (i+1) (by omega) s j e;refine⟨a,by omega,h3,h4,h5,fun k aU aS=>?_⟩;by_cases xJ:k=i
    ·rw[xJ];exact h1
    ·exact h6 k (by omega) aS
theorem alN{st:Int}:∀(d i:Nat),n+1-i<=d->ru E st uO n i=none->∀k,i<=k->k<=n->E st k=none:=by
 intro d;induction d with
 |zero=>intro i h e k h1 h2;omega
 |succ d ih=>
  intro i h e k h1 h2;rw[XI (by omega)]at e
  cases h3:E st i with
  |some q=>rw[h3]at e;cases e
  |none=>
   rw[h3]at e;by_cases xJ:k=i
   ·rw[xJ];exact h3
   ·exact ih (i+1) (by omega) e k (by omega) h2
def pR(ms:List MS)(a a':Int):Prop:=∀(u:Nat) (m:MS),ms[u]? =some m->m.kind=2->∀b,fi m.eM a b=fi m.eM a' b
theorem tQ.ahead{a a' b:Int}(h:tQ ms E i a b)(he:pR ms a a'):tQ ms E i a' b:=⟨h.done,h.take,fun u m hm hk=>by rw[<-he u m hm hk];exact h.rF u m hm hk,h.mark,h.lW⟩
def qt(X:ByteArray)(r:Nat):CX:=⟨X.extract (bd X 0) (bd X r),(bd X 0:Int),-1,-1,true⟩
theorem adY{r:Nat}(h:r<=(aJ X).length):ki X (qt X r) 0 r:=⟨rfl,rfl,Al _,h,fun _ _=>rfl,fun h=>(by cases h)⟩
structure pT(ms:List MS)(X:ByteArray)(st b i:Nat)(l:List bJ)(mt:Option (Int×Nat)):Prop where
 aX:AS ms l
 OO:∀t∈l,∃k,b<=k/\k<i/\t.2=aR X k
 Sa:∀s j,mt=some (s,j)->j<i/\(∃k,b<=k/\k<=j/\s=aR X k)/\∀t∈l,t.2<=s
 le:b<=i/\i<=(aJ X).length
 eq:∀(E:Int->Nat->Option Nat) (n:Nat),(∀k,b<=k->k<i->tQ ms E k ((aQ X).ahead k) ((aQ X).bF k))->i<=n+1->ru E st (aR X) n b=(firstT E i l).or (mt.or (ru E st (aR X) n i))
theorem pT.begin(ms:List MS)(X:ByteArray)(st b:Nat)(hb:b<=(aJ X).length):pT ms X st b b [] none:=
 ⟨⟨by simp,by simp⟩,by simp,fun s j h=>(by cases h),⟨Ab _,hb⟩,fun E n _ _=>rfl⟩
def uR(i:Nat)(dn:Option Int)(mt:Option (Int×Nat)):Option (Int×Nat):=(dn.map fun s=>(s,i)).or mt
def j7(st:Nat)(p:Int)(mt:Bool)(l:List bJ):List bJ:=if mt then l else l++[((st:Int),p)]
theorem Jh(X:ByteArray)(h:i<=j):aR X i<=aR X j:=by have:=fZ X h;unfold aR;omega
theorem pT.step(hg:fg ms){b:Nat}(h:pT ms X st b i l mt)(bD:st<ms.length)(hi:i<(aJ X).length){ah:Int}(ha:pR ms ((aQ X).ahead i) ah):
 pT ms X st b (i+1) (bc ms ah ((aQ X).bF i) (j7 st (aR X i) mt.isSome l)).1 (uR i (bc ms ah ((aQ X).bF i) (j7 st (aR X i) mt.isSome l)).2 mt):=by
 have hL:AS ms (j7 st (aR X i) mt.isSome l):=by
  unfold j7
  cases mt with
  |some m=>exact h.aX
  |none=>
   refine⟨fun t ht=>?_,?_⟩
   ·simp only[Du,Aq,if_false,Ap,Bq]at ht;rcases ht with ht|rfl
    ·exact h.aX.1 t ht
    ·exact⟨by simp,by simp only;omega⟩
   ·simp only[Du,Aq,if_false,Ca,Ch,Gg];rw[Cd];refine⟨h.aX.2,by simp,fun a VQ c hc=>?_⟩;obtain⟨t,ht,rfl⟩:=Be.1 VQ;simp only[Bq]at hc;obtain⟨k,aU,aS,bm⟩:=h.OO t ht;rw[hc,bm];exact Jh X (by omega)
 have hS:∀t∈j7 st (aR X i) mt.isSome l,∃k,b<=k/\k<i+1/\t.2=aR X k:=fun t ht=>by
  unfold j7 at ht;split at ht
  ·obtain⟨k,h1,h2,h3⟩:=h.OO t ht;exact⟨k,h1,by omega,h3⟩
  ·simp only[Ap,Bq]at ht;rcases ht with ht|rfl
   ·obtain⟨k,h1,h2,h3⟩:=h.OO t ht;exact⟨k,h1,by omega,h3⟩
   ·exact⟨i,h.le.1,by omega,rfl⟩
 have MG:tQ ms (lF ms (aQ X)) i ((aQ X).ahead i) ((aQ X).bF i):=Mo hg (aQ X) hi;obtain⟨_,s1,s2,s3⟩:=YF hg (MG.ahead ha) hL;refine⟨s1,fun t ht=>?_,fun s j hm=>?_,⟨by have:=h.le;omega,by omega⟩,fun E n hE hn=>?_⟩
 ·obtain⟨q,hq,kE⟩:=s2 t ht;obtain⟨k,h1,h2,h3⟩:=hS q hq;exact⟨k,h1,h2,by rw[<-kE,h3]⟩
 ·unfold uR at hm
  cases hd:(bc ms ah ((aQ X).bF i) (j7 st (aR X i) mt.isSome l)).2 with
  |some s'=>
   rw[hd]at hm;simp only[Da,Ec,Bd,Cp]at hm;obtain⟨⟨q,hq,kE⟩,h4⟩:=s3 s' hd;obtain⟨k,h1,h2,h3⟩:=hS q hq;exact⟨by omega,⟨k,h1,by omega,by rw[<-hm.1,<-kE,h3]⟩,fun t ht=>by rw[<-hm.1];exact h4 t ht⟩
  |none=>
   rw[hd]at hm;simp only[Option.map_none,Ed]at hm;obtain⟨h1,h2,h3⟩:=h.Sa s j hm;refine⟨by omega,h2,fun t ht=>?_⟩;obtain⟨q,hq,kE⟩:=s2 t ht;rw[<-kE];have hl:j7 st (aR X i) mt.isSome l=l:=by rw[hm];rfl
   rw[hl]at hq;exact h3 q hq
 ·have hEi:tQ ms E i ((aQ X).ahead i) ((aQ X).bF i):=hE i h.le.1 (by omega);obtain⟨s0,_,_,_⟩:=YF hg (hEi.ahead ha) hL;rw[h.eq E n (fun k h1 h2=>hE k h1 (by omega)) (by omega)];unfold uR
  cases mt with
  |some m=>
   have hl:j7 st (aR X i) (some m).isSome l=l:=rfl;rw[hl]at s0⊢;rw[s0,D7,D7];rfl
  |none=>
   have hl:j7 st (aR X i) (none:Option (Int×Nat)).isSome l=l++[((st:Int),aR X i)]:=rfl;rw[hl]at s0⊢;rw[Ed,Option.or_none,XI (by omega),<-D7,<-U7,<-QE,s0,D7]
theorem pT.ahy(hg:fg ms){b:Nat}{s:Int}(h:pT ms X st b i [] (some (s,j)))(bD:st<ms.length)(G:Nat):
 ∃a gs,b<=a/\a<=j/\j<i/\s=aR X a/\eV ms (aQ X) st G a=some (j,gs)/\(∀k,b<=k->k<a->eV ms (aQ X) st G k=none)/\∀r,i<=r->r<=(aJ X).length->∃dA,eV ms (qt X r) st G a=some (j,dA):=by
 have hl:=h.le;have hj:=(h.Sa s j rfl).1;have e1:=h.eq (lF ms (aQ X)) (aJ X).length (fun k h1 h2=>Mo hg (aQ X) (show k<(aJ X).length by omega)) (by omega);have ue:ru (lF ms (aQ X)) st (aR X) (aJ X).length b=some (s,j):=e1;obtain⟨a,h1,h2,h3,h4,h5⟩:=Og _ b (Ab _) s j ue;have E1:∀k,k<=(aJ X).length->lF ms (aQ X) st k=(eV ms (aQ X) st G k).map (·.1):=fun k hk=>QB hg (aQ X) bD hk _
 rw[E1 a h2]at h4;obtain⟨⟨j',gs⟩,hv,nV⟩:=Ef.1 h4;simp only at nV;subst nV;have kC:=wV hg (aQ X) bD G a j' gs h2 hv;refine⟨a,gs,h1,kC.1,hj,h3,hv,fun k k1 k2=>?_,fun r hr qZ=>?_⟩
 ·have:=h5 k k1 k2;rw[E1 k (by omega)]at this
  cases hx:eV ms (aQ X) st G k with
  |none=>rfl
  |some v=>rw[hx]at this;cases this
 ·have hS:=adY qZ;have hn:(qt X r).n=r:=hS.n
  have e2:=h.eq (lF ms (qt X r)) r (fun k h1 h2=>by
   have hk:tQ ms (lF ms (qt X r)) k ((qt X r).ahead k) ((qt X r).bF k):=Mo hg (qt X r) (by omega);have WN:(qt X r).bF k=(aQ X).bF k:=by have:=hS.bF (k:=k) (by omega);rwa[Ba]at this
   have xF:(qt X r).ahead k=(aQ X).ahead k:=by
    unfold CX.ahead;by_cases h0:k=0
    ·rw[if_pos h0,if_pos h0];rfl
    ·rw[if_neg h0,if_neg h0];have:=hS.bF (k:=k-1) (by omega);rwa[Ba]at this
   rw[WN,xF]at hk;exact hk) (by omega)
  have UX:ru (lF ms (qt X r)) st (aR X) r b=some (s,j'):=e2;obtain⟨a',q1,q2,q3,q4,q5⟩:=Og _ b (Ab _) s j' UX
  have haa:a'=a:=by
   rw[q3]at h3;unfold aR at h3;exact Qm (by omega) h2 (by omega)
  subst haa;rw[show lF ms (qt X r) st a'=(eV ms (qt X r) st G a').map (·.1)from QB hg (qt X r) bD (by omega) _]at q4;obtain⟨⟨j2,MD⟩,lj,H_⟩:=Ef.1 q4;simp only at H_;subst H_;exact⟨MD,lj⟩
theorem pT.BL(hg:fg ms){b:Nat}(h:pT ms X st b i l mt)(bD:st<ms.length)(G:Nat)(hc:l=[]->mt=none):
 ∃f,b<=f/\f<=i/\((l.head?.map (·.2)).getD (aR X i))=aR X f/\∀k,b<=k->k<f->eV ms (aQ X) st G k=none:=by
 have hl:=h.le;have e1:=h.eq (lF ms (aQ X)) (aJ X).length (fun k h1 h2=>Mo hg (aQ X) (show k<(aJ X).length by omega)) (by omega)
 have E1:∀k,k<=(aJ X).length->lF ms (aQ X) st k=none->eV ms (aQ X) st G k=none:=fun k hk hn=>by
  rw[show lF ms (aQ X) st k=(eV ms (aQ X) st G k).map (·.1)from QB hg (aQ X) bD hk _]at hn
  cases hx:eV ms (aQ X) st G k with
  |none=>rfl
  |some v=>rw[hx]at hn;cases hn
 have LK:∀f,b<=f->f<=i->(∀s j,ru (lF ms (aQ X)) st (aR X) (aJ X).length b=some (s,j)->aR X f<=s)->∀k,b<=k->k<f->eV ms (aQ X) st G k=none:=fun f f1 f2 hf k k1 k2=>by
  cases hm:ru (lF ms (aQ X)) st (aR X) (aJ X).length b with
  |none=>exact E1 k (by omega) (alN _ b (Ab _) hm k k1 (by omega))
  |some v=>
   obtain⟨s,j⟩:=v;obtain⟨a,h1,h2,h3,h4,h5⟩:=Og _ b (Ab _) s j hm;have:=hf s j hm;by_cases ti:k<a
   ·exact E1 k (by omega) (h5 k k1 ti)
   ·exfalso
    have az:bd X a<bd X f:=AX (show a<f by omega) (by omega);rw[h3]at this;unfold aR at this;omega
 cases l with
 |nil=>
  refine⟨i,hl.1,Ab _,rfl,LK i hl.1 (Ab _) (fun s j hm=>?_)⟩;rw[hm,hc rfl]at e1;have ue:ru (lF ms (aQ X)) st (aR X) (aJ X).length i=some (s,j):=e1.symm;obtain⟨a,h1,h2,h3,h4,h5⟩:=Og _ i (Ab _) s j ue;rw[h3];exact Jh X h1
 |cons t ts=>
  obtain⟨f,f1,f2,f3⟩:=h.OO t (by simp);refine⟨f,f1,by omega,f3,LK f f1 (by omega) (fun s j hm=>?_)⟩;rw[hm]at e1;have hp:=h.aX.2;simp only[Ch,Cy]at hp
  cases h6:firstT (lF ms (aQ X)) i (t::ts)with
  |some v=>
   rw[h6]at e1;simp only[Ec,Bd]at e1;subst e1;unfold firstT at h6;obtain⟨q,hq,kE⟩:=List.exists_of_findSome?_eq_some h6;obtain⟨j2,lY,zh⟩:=Ef.1 kE;simp only[Cp]at zh;rw[<-f3,<-zh.1];rcases Ct.1 hq with rfl|hq
   ·exact Cm _
   ·exact hp.1 _ (Be.2 ⟨q,hq,rfl⟩)
  |none=>
   rw[h6]at e1;simp only[Ed]at e1
   cases iQ:mt with
   |some m=>
    rw[iQ]at e1;simp only[Ec,Bd]at e1;subst e1;rw[<-f3];exact(h.Sa s j iQ).2.2 t (by simp)
   |none=>
    rw[iQ]at e1;have ue:ru (lF ms (aQ X)) st (aR X) (aJ X).length i=some (s,j):=e1.symm;obtain⟨a,h1,h2,h3,h4,h5⟩:=Og _ i (Ab _) s j ue;rw[h3];exact Jh X (by omega)
