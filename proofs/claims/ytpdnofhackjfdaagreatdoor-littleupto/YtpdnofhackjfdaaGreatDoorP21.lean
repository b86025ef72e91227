/- The events of a  -/
import Derived.Test.YtpdnofhackjfdaaGreatDoorP20
set_option linter.all false
set_option maxRecDepth 100000
namespace Go.Proofs.YtpdnofhackjfdaaGreatDoor
open Go.Proofs.Tryz
variable {C:CT} {k:aH} {a b:aH×aH} {f:aH×aH->aH×aH} {ah bh lo:Int} {E:Int->Nat->Option Nat} {gs:List Int} {ms:List MS} {G i j n u:Nat} {T:Nat->ik} {O:Nat->Prop} {told:Option Nat} {x:TX} {V:VS} {w:World}
def mi:aH:=fun i gs=>some (i,gs)
def CU(C:CT)(G:Nat)(x:TX)(i:Nat):ik:=(pZ x C (mi,mi)).2 i (List.replicate (2*G) (-1))
structure Ev where
 a:Nat
 b:Nat
 gs:List Int
def cO(T:Nat->ik)(n:Nat):Nat->Nat->Option Nat->List Ev
 |0,_,_=>[]
 |k+1,i,told=>if n<i then []else match T i with
  |none=>cO T n k (i+1) told
  |some v=>if i=v.1 then(if told=some v.1 then cO T n k (v.1+1) told else⟨i,v.1,v.2⟩::cO T n k (v.1+1) (some v.1))else⟨i,v.1,v.2⟩::cO T n k v.1 (some v.1)
def mJ(T:Nat->ik)(n:Nat):Prop:=∀i j gs,i<=n->T i=some (j,gs)->i<=j/\j<=n
theorem TT(hT:mJ T n):∀(k l i:Nat) (told:Option Nat),n+1-i<=k->k<=l->cO T n l i told=cO T n k i told:=by
 intro k;induction k with
 |zero=>
  intro l i told h1 h2
  cases l with
  |zero=>rfl
  |succ l=>unfold cO;rw[if_pos (by omega)]
 |succ k ih=>
  intro l i told h1 h2;obtain⟨l,rfl⟩:∃l',l=l'+1:=⟨l-1,by omega⟩
  unfold cO;by_cases hn:n<i
  ·rw[if_pos hn,if_pos hn]
  ·rw[if_neg hn,if_neg hn]
   cases e:T i with
   |none=>exact ih l (i+1) told (by omega) (by omega)
   |some v=>
    obtain⟨j,gs⟩:=v;have hf:=hT i j gs (by omega) e;simp only;by_cases cy:i=j
    ·rw[if_pos cy,if_pos cy,ih l (j+1) told (by omega) (by omega),ih l (j+1) (some j) (by omega) (by omega)]
    ·rw[if_neg cy,if_neg cy,ih l j (some j) (by omega) (by omega)]
def sH(T:Nat->ik)(n i:Nat)(told:Option Nat):List Ev:=cO T n (n+1-i) i told
theorem ahF(h:n<i):sH T n i told=[]:=by
 unfold sH;rw[show n+1-i=0 by omega];rfl
theorem aaL(h:i<=n)(e:T i=none):sH T n i told=sH T n (i+1) told:=by
 unfold sH;rw[show n+1-i=(n+1-(i+1))+1 by omega];conv=>lhs;unfold cO
 rw[if_neg (by omega),e]
theorem ahG(hT:mJ T n)(h:i<=n)(e:T i=some (j,gs)):
 sH T n i told=if i=j then(if told=some j then sH T n (j+1) told else⟨i,j,gs⟩::sH T n (j+1) (some j))else⟨i,j,gs⟩::sH T n j (some j):=by
 have hf:=hT i j gs h e;unfold sH;rw[show n+1-i=(n-i)+1 by omega];conv=>lhs;unfold cO
 rw[if_neg (by omega),e];simp only;by_cases cy:i=j
 ·rw[if_pos cy,if_pos cy,TT hT (n+1-(j+1)) (n-i) (j+1) told (by omega) (by omega),TT hT (n+1-(j+1)) (n-i) (j+1) (some j) (by omega) (by omega)]
 ·rw[if_neg cy,if_neg cy,TT hT (n+1-j) (n-i) j (some j) (by omega) (by omega)]
def Kb(lo hi:Int)(gs:List Int)(g:Nat):Prop:=(gs.getD (2*g) (-1)= -1/\gs.getD (2*g+1) (-1)= -1)\/(lo<=gs.getD (2*g) (-1)/\gs.getD (2*g) (-1)<=gs.getD (2*g+1) (-1)/\gs.getD (2*g+1) (-1)<=hi)
def KP(x:TX)(lo:Int)(G:Nat)(O:Nat->Prop)(i:Nat)(gs:List Int):Prop:=gs.length=2*G/\∀g,g<G->(¬O g->Kb lo (x.aY i) gs g)/\(O g->lo<=gs.getD (2*g) (-1)/\gs.getD (2*g) (-1)<=x.aY i)
def PK(x:TX)(lo:Int)(G:Nat)(O:Nat->Prop)(K:aH):Prop:=∀i gs,i<=x.l.length->lo<=x.aY i->KP x lo G O i gs->∀j dB,K i gs=some (j,dB)->i<=j/\j<=x.l.length/\KP x lo G (fun _=>False) j dB
def PP(x:TX)(lo:Int)(G:Nat)(O:Nat->Prop)(K:aH×aH):Prop:=PK x lo G O K.1/\PK x lo G O K.2
def EA(x:TX):Prop:=∀i j,i<=j->x.aY i<=x.aY j
theorem KP.later(hx:EA x)(h:KP x lo G O i gs)(cy:i<=j):KP x lo G O j gs:=by
 have hb:=hx i j cy;refine⟨h.1,fun g hg=>⟨fun hO=>?_,fun hO=>?_⟩⟩
 ·rcases(h.2 g hg).1 hO with h1|h1
  ·exact Or.inl h1
  ·exact Or.inr ⟨h1.1,h1.2.1,by omega⟩
 ·have:=(h.2 g hg).2 hO;omega
theorem PK.fT(x:TX)(lo:Int)(G:Nat)(O:Nat->Prop):PK x lo G O fT:=fun i gs _ _ _ j dB h=>by cases h
theorem PK.lL{a b:aH}(ha:PK x lo G O a)(hb:PK x lo G O b):PK x lo G O (g_ a b):=fun i gs h1 h2 h3 j dB h=>by
 unfold g_ at h
 cases e:a i gs with
 |none=>rw[e]at h;exact hb i gs h1 h2 h3 j dB h
 |some v=>rw[e]at h;cases h;exact ha i gs h1 h2 h3 j dB e
theorem PP.lL(ha:PP x lo G O a)(hb:PP x lo G O b):PP x lo G O (ou a b):=⟨ha.1.lL hb.1,ha.2.lL hb.2⟩
theorem PP.EP(lz:Bool)(ha:PP x lo G O a)(hb:PP x lo G O b):PP x lo G O (qq lz a b):=by
 unfold qq
 cases lz
 ·exact ha.lL hb
 ·exact hb.lL ha
theorem PK.take(hx:EA x)(sp:bF)(fo nt:Bool)(hk:PK x lo G O k):PK x lo G O (qW x sp fo nt k):=fun i gs h1 h2 h3 j dB h=>by
 unfold qW at h;split at h
 ·rename_i c
  have aw:i<x.l.length:=by simp at c;exact c.1
  have:=hk (i+1) gs aw (by have:=hx i (i+1) (by omega);omega) (h3.later hx (by omega)) j dB h;exact⟨by omega,this.2⟩
 ·cases h
theorem PK.qV(ed:Int)(hk:PK x lo G O k):PK x lo G O (zc x ed k):=fun i gs h1 h2 h3 j dB h=>by
 unfold zc at h;split at h
 ·exact hk i gs h1 h2 h3 j dB h
 ·cases h
theorem aa4(l:List Int)(k:Nat)(v d:Int)(h:k<l.length):(l.set k v).getD k d=v:=by simp[Af,h]
theorem LL(l:List Int)(k m:Nat)(v d:Int)(h:k≠m):(l.set k v).getD m d=l.getD m d:=by
 simp[Af,h]
theorem PK.Lp(g:Nat)(hg:g<G)(hk:PK x lo G O k):PK x lo G (fun q=>O q\/q=g) (yM x (2*g+1) k):=fun i gs h1 h2 h3 j dB h=>by
 unfold yM at h;refine hk i _ h1 h2 ?_ j dB h;refine⟨by simp[h3.1],fun q hq=>?_⟩;by_cases e:q=g
 ·subst e;have hl:2*q+1<gs.length:=by have:=h3.1;omega
  have h4:=(h3.2 q hq).2 (Or.inr rfl);rw[Kb,aa4 _ _ _ _ hl,LL _ _ _ _ _ (by omega)];exact⟨fun _=>Or.inr ⟨h4.1,h4.2,Ce _⟩,fun _=>h4⟩
 ·rw[Kb,LL _ _ _ _ _ (by omega),LL _ _ _ _ _ (by omega)];exact⟨fun hO=>(h3.2 q hq).1 (fun hx=>hx.elim hO e),fun hO=>(h3.2 q hq).2 (Or.inl hO)⟩
theorem PK.open(g:Nat)(hg:g<G)(hk:PK x lo G (fun q=>O q\/q=g) k):PK x lo G O (yM x (2*g) k):=fun i gs h1 h2 h3 j dB h=>by
 unfold yM at h;refine hk i _ h1 h2 ?_ j dB h;refine⟨by simp[h3.1],fun q hq=>?_⟩;by_cases e:q=g
 ·subst e;have hl:2*q<gs.length:=by have:=h3.1;omega
  rw[aa4 _ _ _ _ hl];exact⟨fun hO=>absurd (Or.inr rfl) hO,fun _=>⟨h2,Ce _⟩⟩
 ·rw[Kb,LL _ _ _ _ _ (by omega),LL _ _ _ _ _ (by omega)];exact⟨fun hO=>(h3.2 q hq).1 (fun hx=>hO (Or.inl hx)),fun hO=>(h3.2 q hq).2 (hO.resolve_right e)⟩
def PF(x:TX)(lo:Int)(G:Nat)(f:aH×aH->aH×aH):Prop:=∀O K,PP x lo G O K->PP x lo G O (f K)
theorem PF.iter(hf:PF x lo G f):∀m,PF x lo G (oF f m)
 |0=>fun O K h=>h
 |m+1=>fun O K h=>hf O _ (PF.iter hf m O K h)
theorem PF.nR(hf:PF x lo G f)(lz:Bool){nx:aH×aH}(hn:PP x lo G O nx):∀m,PP x lo G O (oF (yQ f lz nx) m nx)
 |0=>hn
 |m+1=>(hf O _ (PF.nR hf lz hn m)).EP lz hn
theorem PF.again(hf:PF x lo G f)(lz:Bool){rest:aH}(hr:PK x lo G O rest):∀m,PK x lo G O (ju f lz rest m)
 |0=>PK.fT x lo G O
 |m+1=>by
  have h1:=(hf O (fT,ju f lz rest m) ⟨PK.fT x lo G O,PF.again hf lz hr m⟩).1;unfold ju
  cases lz
  ·exact h1.lL hr
  ·exact hr.lL h1
theorem PF.loop(hf:PF x lo G f)(lz:Bool):PF x lo G (uu x f lz):=fun O K h=>by
 have h1:=(hf O (fT,ju f lz K.2 (x.l.length+1)) ⟨PK.fT x lo G O,hf.again lz h.2 _⟩).1;unfold uu;exact PP.EP lz ⟨h1,h1⟩ h
theorem PF.wh(hf:PF x lo G f)(a b:Int)(lz:Bool):PF x lo G (zh x f a b lz):=fun O K h=>by
 unfold zh;split
 ·exact hf.iter _ O _ (hf.loop lz O K h)
 ·exact hf.iter _ O _ (hf.nR lz h _)
mutual
theorem ND(x:TX)(hx:EA x)(lo:Int)(G:Nat):∀C:CT,C.gN G->PF x lo G (pZ x C)
 |.node k sp fo nt ed gr a b lz cP,hg=>by
  unfold CT.gN at hg;obtain⟨g1,g2,g3⟩:=hg;have sL:=anW x hx lo G cP g3;have FE:=aev x hx lo G cP g3;have E_:=aes x hx lo G cP g3;unfold pZ;by_cases k0:k=0
  ·simp only[k0,if_true];exact fun O K h=>⟨PK.take hx sp fo nt h.2,PK.take hx sp fo nt h.2⟩
  ·by_cases k1:k=1
   ·simp only[k1,if_true,Int.reduceEq,if_false];exact fun O K h=>⟨PK.qV ed h.1,PK.qV ed h.2⟩
   ·by_cases k2:k=2
    ·simp only[k2,if_true,Int.reduceEq,if_false];by_cases g0:gr=0
     ·simp only[g0,if_true];exact sL
     ·simp only[g0,if_false];intro O K h;have aw:gr.toNat-1<G:=(by omega);have h1:=sL (fun q=>O q\/q=gr.toNat-1) (Hb x (2*(gr.toNat-1)+1) K) ⟨PK.Lp _ aw h.1,PK.Lp _ aw h.2⟩;exact⟨PK.open _ aw h1.1,PK.open _ aw h1.2⟩
    ·simp only[k0,k1,k2,if_false];by_cases k3:k=3
     ·simp only[k3,if_true];exact FE
     ·by_cases k4:k=4
      ·simp only[k4,if_true,Int.reduceEq,if_false];exact E_
      ·simp only[k3,k4,if_false];exact sL.wh a b lz
theorem anW(x:TX)(hx:EA x)(lo:Int)(G:Nat):∀cs:List CT,CT.fu G cs->PF x lo G (xC x cs)
 | [],_=>fun O K h=>by unfold xC;exact h
 |c::cs,hg=>by
  unfold CT.fu at hg;unfold xC;exact ND x hx lo G c hg.1
theorem aev(x:TX)(hx:EA x)(lo:Int)(G:Nat):∀cs:List CT,CT.fu G cs->PF x lo G (qT x cs)
 | [],_=>fun O K h=>by unfold qT;exact h
 |c::cs,hg=>by
  unfold CT.fu at hg;unfold qT;have h1:=ND x hx lo G c hg.1;have h2:=aev x hx lo G cs hg.2;exact fun O K h=>h1 O _ (h2 O K h)
theorem aes(x:TX)(hx:EA x)(lo:Int)(G:Nat):∀cs:List CT,CT.fu G cs->PF x lo G (vY x cs)
 | [],_=>fun O K h=>by unfold vY;exact⟨PK.fT x lo G O,PK.fT x lo G O⟩
 | [c],hg=>by
   unfold CT.fu at hg;unfold vY;exact ND x hx lo G c hg.1
 |c::d::cs,hg=>by
  unfold CT.fu at hg;unfold vY;have h1:=ND x hx lo G c hg.1;have h2:=aes x hx lo G (d::cs) hg.2;exact fun O K h=>(h1 O K h).lL (h2 O K h)
end
theorem ao9(s:ByteArray):EA (fP s):=fun i j h=>by rw[Ll,Ll];have:=fR s h;omega
theorem aa3(n k:Nat):(List.replicate n (-1:Int)).getD k (-1)= -1:=by
 rw[Af,Cr];split<;>rfl
theorem aoW(hg:C.gN G)(s:ByteArray)(hi:i<=(aF s).length)(h:CU C G (fP s) i=some (j,gs)):i<=j/\j<=(aF s).length/\gs.length=2*G/\∀g,g<G->Kb (bd s i) (bd s j) gs g:=by
 have h1:=(ND (fP s) (ao9 s) (bd s i) G C hg (fun _=>False) (mi,mi) ⟨fun i gs a b c j dB h=>by cases h;exact⟨Ab _,a,c⟩,fun i gs a b c j dB h=>by cases h;exact⟨Ab _,a,c⟩⟩).2;obtain⟨a,b,c,d⟩:=h1 i (List.replicate (2*G) (-1)) hi (by rw[Ll];exact Ce _) ⟨by simp,fun g _=>⟨fun _=>Or.inl ⟨aa3 _ _,aa3 _ _⟩,fun h=>h.elim⟩⟩ j gs h;refine⟨a,b,c,fun g nL=>?_⟩;have:=(d g nL).1 (fun h=>h);rw[Ll]at this;exact this
theorem aoX(hg:C.gN G)(s:ByteArray):mJ (CU C G (fP s)) (aF s).length:=fun i j gs hi h=>by
 have:=aoW hg s hi h;exact⟨this.1,this.2.1⟩
theorem so.fL{G:Int}(h:so C V j)(hq:iL G (eY C).1):eW (sorted (eY C).1 V):=by
 obtain⟨R,h1,h2,h3⟩:=h.inv;exact aoh h1 h2 (fun m hm=>(hq m hm).2.2) (fun t ht=>h.num t (Or.inr ht))
theorem so.iC{G:Int}(h:so C V j)(dD:C.ok)(aP:C.sz<=1000)(hg:C.gN G)(x:TX)(hu:V.num.getD j 0=(u:Int))(hi:i<=x.l.length)(gs:List Int):cR (sorted (eY C).1 V) x (u:Int) i gs ((pZ x C (mi,mi)).2 i gs):=by
 obtain⟨R,h1,h2,h3⟩:=h.inv;have hx:da [bN].length (0,0):=by unfold da;simp
 have g:=(od C dD aP).grow [bN] (0,0)
 have h0:(eY C).1[0]? =some bN:=by
  have:=LM g.2 (j:=0) (by simp);exact this
 have hr:=(((Lg x G C dD aP hg).1.iC [bN] (0,0) hx (eY C).1 (fun _ _ _=>rfl) (mi,mi) i hi).2 (fun j rG lN gs=>cR.done 0 bN j gs h0 rfl)) gs;have kD:cR (eY C).1 x (eY C).2.2 i gs ((pZ x C (mi,mi)).2 i gs):=hr;rw[h.first]at kD;obtain⟨u',MI⟩:=h.num j (Or.inl rfl);have e:V.num.getD j 0=(u':Int):=vR MI;have e2:u'=u:=by omega
 subst e2;exact aoj h1 h2 (fun t ht=>h.num t (Or.inr ht)) kD u' (by simpa using MI)
open Go.RowKit Go.Maps
theorem jf.lt(h:jf w):0<w.heap.size/\1<w.heap.size:=
 ⟨Bk _ _ (h.1 0 (by omega)),Bk _ _ (h.2 0 (by omega)).1⟩
structure jt(w:World)(lo hi mb c:Nat)(vs:List Sv)(ms:List MS):Prop where
 iw:je w mb vs ms
 we:∀i,(h:i<vs.length)->(h':i<ms.length)->gu w lo hi vs[i] ms[i]
 le:hi<=w.heap.size
 j8:jf w
theorem jt.kept{w':World}{lo hi mb c:Nat}{vs:List Sv}(h:jt w lo hi mb c vs ms)(k:aa af w w'):jt w' lo hi mb c vs ms:=
 ⟨h.iw.kept k (fun h=>h),fun i a b=>(h.we i a b).kept k (fun _ _ _ h=>h) h.le,Bb h.le k.size,h.j8.jZ k⟩
structure tC(ms:List MS)(E:Int->Nat->Option Nat)(i:Nat)(ah bh:Int):Prop where
 done:∀(u:Nat) (m:MS),ms[u]? =some m->m.kind=0->E u i=some i
 take:∀(u:Nat) (m:MS),ms[u]? =some m->m.kind=1->E u i=if eV m.sp m.fo m.nt bh=true then E m.next (i+1)else none
 qV:∀(u:Nat) (m:MS),ms[u]? =some m->m.kind=2->E u i=if e_ m.eE ah bh=true then E m.next i else none
 mark:∀(u:Nat) (m:MS),ms[u]? =some m->m.kind=3->E u i=E m.next i
 lL:∀(u:Nat) (m:MS),ms[u]? =some m->m.kind=4->E u i=(E m.next i).or (E m.a_ i)
abbrev bG:=Int×Int
structure FS where
 seen:List Bool
 dI:List Bool
 next:List bG
def l7(m:MS)(bh st:Int)(f:FS):FS:=
 if eV m.sp m.fo m.nt bh&& !f.dI.getD m.next.toNat true then⟨f.seen,f.dI.set m.next.toNat true,f.next++[(m.next,st)]⟩else f
def gw(ms:List MS)(ah bh:Int):Nat->Int->Int->FS->FS×Bool
 |0,_,_,f=>(f,false)
 |d+1,u,st,f=>
  if f.seen.getD u.toNat true then(f,false)else
   match ms[u.toNat]? with
   |none=>(f,false)
   |some m=>
    if m.kind=0 then(⟨f.seen.set u.toNat true,f.dI,f.next⟩,true)
    else if m.kind=1 then(l7 m bh st ⟨f.seen.set u.toNat true,f.dI,f.next⟩,false)
    else if m.kind=2 then(if e_ m.eE ah bh then gw ms ah bh d m.next st ⟨f.seen.set u.toNat true,f.dI,f.next⟩else(⟨f.seen.set u.toNat true,f.dI,f.next⟩,false))
    else if m.kind=3 then gw ms ah bh d m.next st ⟨f.seen.set u.toNat true,f.dI,f.next⟩
    else if(gw ms ah bh d m.next st ⟨f.seen.set u.toNat true,f.dI,f.next⟩).2 then gw ms ah bh d m.next st ⟨f.seen.set u.toNat true,f.dI,f.next⟩
    else gw ms ah bh d m.a_ st (gw ms ah bh d m.next st ⟨f.seen.set u.toNat true,f.dI,f.next⟩).1
def iK(ms:List MS)(ah bh:Int):List bG->FS->FS×Option Int
 | [],f=>(f,none)
 |t::ts,f=>if(gw ms ah bh ms.length t.1 t.2 f).2 then((gw ms ah bh ms.length t.1 t.2 f).1,some t.2)else iK ms ah bh ts (gw ms ah bh ms.length t.1 t.2 f).1
def FS.new(n:Nat):FS:=⟨List.replicate n false,List.replicate n false,[]⟩
def aZ(ms:List MS)(ah bh:Int)(l:List bG):List bG×Option Int:=((iK ms ah bh l (FS.new ms.length)).1.next,(iK ms ah bh l (FS.new ms.length)).2)
def firstT(E:Int->Nat->Option Nat)(i:Nat)(l:List bG):Option (Int×Nat):=l.findSome? fun t=>(E t.1 i).map fun j=>(t.2,j)
theorem Pi(E:Int->Nat->Option Nat)(i:Nat)(l l':List bG):firstT E i (l++l')=(firstT E i l).or (firstT E i l'):=by
 unfold firstT;rw[List.findSome?_append]
theorem TV(E:Int->Nat->Option Nat)(i:Nat)(u st:Int):firstT E i [(u,st)]=(E u i).map fun j=>(st,j):=by
 unfold firstT;simp only[List.findSome?_cons,List.findSome?_nil]
 cases E u i<;>rfl
theorem ahT{l:List bG}{t:bG}(h:t∈l)(he:(E t.1 i).isSome):(firstT E i l).isSome:=by
 unfold firstT;rw[List.findSome?_isSome_iff];exact⟨t,h,by simpa using he⟩
def zu(E:Int->Nat->Option Nat)(i:Nat)(f:FS)(v:Nat):Prop:=(E (v:Int) i).isSome->(firstT E (i+1) f.next).isSome
def NV(f:FS):Prop:=∀v:Nat,f.dI.getD v false=true->∃t∈f.next,t.1=(v:Int)
def DX(n:Nat)(f:FS):Prop:=f.seen.length=n/\f.dI.length=n
theorem zu.eG{v:Nat}{f f':FS}{e:List bG}(h:zu E i f v)(hf:f'.next=f.next++e):zu E i f' v:=fun h1=>by
 rw[hf,Pi];have:=h h1
 cases h2:firstT E (i+1) f.next with
 |none=>rw[h2]at this;cases this
 |some v=>rfl
theorem z8(l:List Bool)(k v:Nat)(d:Bool)(h:(l.set k true).getD v d=true):v=k\/l.getD v d=true:=by
 by_cases e:v=k
 ·exact Or.inl e
 ·right
  rw[Af,Er (by omega),<-Af]at h;exact h
structure Sk(ms:List MS)(E:Int->Nat->Option Nat)(i:Nat)(u st:Int)(f:FS)(r:FS×Bool):Prop where
 eq:(firstT E (i+1) r.1.next).or (if r.2 then some (st,i)else none)=(firstT E (i+1) f.next).or ((E u i).map fun j=>(st,j))
 seen:r.2=false->∀v:Nat,r.1.seen.getD v false=true->f.seen.getD v false=true\/zu E i r.1 v
 aB:NV r.1
 NF:DX ms.length r.1
 ext:∃e:List bG,r.1.next=f.next++e/\∀t∈e,t.2=st/\0<=t.1/\t.1<ms.length
theorem or_none{α:Type}(a:Option α):a.or none=a:=by cases a<;>rfl
theorem Po{st:Int}{f:FS}{g:FS}(h:firstT E (i+1) g.next=(firstT E (i+1) f.next).or ((E (u:Int) i).map fun j=>(st,j))):zu E i g u:=fun he=>by
 rw[h];obtain⟨j,hj⟩:=Option.isSome_iff_exists.1 he;rw[hj]
 cases firstT E (i+1) f.next<;>rfl
theorem T1(hg:eW ms)(hE:tC ms E i ah bh):
 ∀(d u:Nat) (st:Int) (f:FS),u<d->u<ms.length->DX ms.length f->NV f->(∀v:Nat,v<=u->f.seen.getD v false=true->zu E i f v)->Sk ms E i u st f (gw ms ah bh d u st f)
 |0,u,st,f,h,_,_,_,_=>absurd h (by omega)
 |d+1,u,st,f,hd,hu,hs,mT,MF=>by
  have hgu:f.seen.getD u true=f.seen.getD u false:=by
   rw[Af,Af,Ae (by rw[hs.1];exact hu)];rfl
  unfold gw;simp only[Ay];by_cases h1:f.seen.getD u true=true
  ·rw[if_pos h1];refine⟨?_,fun _ v hv=>Or.inl hv,mT,hs,⟨[],by simp,by simp⟩⟩;simp only[Aq,if_false,or_none];have:=MF u (Ab _) (by rw[<-hgu];exact h1)
   cases h2:E (u:Int) i with
   |none=>simp
   |some j=>
    have h3:=this (by rw[h2];rfl)
    cases h4:firstT E (i+1) f.next with
    |none=>rw[h4]at h3;cases h3
    |some v=>rfl
  ·rw[if_neg h1,Ae hu];have hm:ms[u]? =some ms[u]:=Ae hu;generalize ms[u]=m at hm⊢;obtain⟨⟨k0,k4⟩,g1,g2,g3⟩:=hg u m hm;have cU:DX ms.length ⟨f.seen.set u true,f.dI,f.next⟩:=⟨by rw[Bm];exact hs.1,hs.2⟩;have iW:NV ⟨f.seen.set u true,f.dI,f.next⟩:=mT
   have abW:∀v:Nat,v<u->(f.seen.set u true).getD v false=true->zu E i ⟨f.seen.set u true,f.dI,f.next⟩ v:=fun v hv h=>by
    rcases z8 _ _ _ _ h with h|h
    ·omega
    ·exact MF v (by omega) h
   dsimp only;by_cases e0:m.kind=0
   ·rw[if_pos e0];exact⟨by rw[hE.done u m hm e0];rfl,fun h=>(by cases h),iW,cU,⟨[],by simp,by simp⟩⟩
   ·rw[if_neg e0];by_cases e1:m.kind=1
    ·rw[if_pos e1];have hS:=hE.take u m hm e1;have hn:=g1 e1;obtain⟨mn,dJ⟩:∃mn:Nat,m.next=(mn:Int):=⟨m.next.toNat,by omega⟩
     unfold l7;rw[dJ,Ay];have gD:mn<f.dI.length:=by rw[hs.2];omega
     have PQ:f.dI.getD mn true=f.dI.getD mn false:=by
      rw[Af,Af,Ae gD];rfl
     cases ht:eV m.sp m.fo m.nt bh with
     |false=>
      simp only[Ew,Aq,if_false];rw[ht]at hS;simp only[Aq,if_false]at hS;refine⟨by rw[hS];simp,fun _ v hv=>?_,iW,cU,⟨[],by simp,by simp⟩⟩;rcases z8 _ _ _ _ hv with h|h
      ·subst h;refine Or.inr (fun h=>?_);rw[hS]at h
       cases h
      ·exact Or.inl h
     |true=>
      rw[ht,if_pos rfl,dJ]at hS;simp only[D9]
      cases hbq:f.dI.getD mn true with
      |true=>
       simp only[Bool.not_true,Aq,if_false]
       have heq:firstT E (i+1) f.next=(firstT E (i+1) f.next).or ((E (mn:Int) (i+1)).map fun j=>(st,j)):=by
        obtain⟨t,BJ,qI⟩:=mT mn (by rw[<-PQ];exact hbq)
        cases h2:E (mn:Int) (i+1)with
        |none=>simp
        |some j=>
         have h3:=ahT (E:=E) (i:=i+1) BJ (by rw[qI,h2];rfl)
         cases h4:firstT E (i+1) f.next with
         |none=>rw[h4]at h3;cases h3
         |some v=>rfl
       refine⟨by rw[hS];simpa[or_none]using heq,fun _ v hv=>?_,iW,cU,⟨[],by simp,by simp⟩⟩;rcases z8 _ _ _ _ hv with h|h
       ·subst h;refine Or.inr (Po (f:=f) (st:=st) ?_);rw[hS];exact heq
       ·exact Or.inl h
      |false=>
       simp only[Bool.not_false,if_true];have heq:firstT E (i+1) (f.next++[((mn:Int),st)])=(firstT E (i+1) f.next).or ((E (mn:Int) (i+1)).map fun j=>(st,j)):=by rw[Pi,TV]
       refine⟨by rw[hS];simpa[or_none]using heq,fun _ v hv=>?_,fun v hv=>?_,⟨cU.1,by simp only[Bm];exact hs.2⟩,⟨[((mn:Int),st)],rfl,by simp;omega⟩⟩
       ·rcases z8 _ _ _ _ hv with h|h
        ·subst h;refine Or.inr (Po (f:=f) (st:=st) ?_);rw[hS];exact heq
        ·exact Or.inl h
       ·rcases z8 _ _ _ _ hv with h|h
        ·subst h;exact⟨((v:Int),st),by simp,rfl⟩
        ·obtain⟨t,h1,h2⟩:=mT v h;exact⟨t,by simp[h1],h2⟩
    ·rw[if_neg e1];have hn:=g2 (by omega);obtain⟨mn,dJ⟩:∃mn:Nat,m.next=(mn:Int):=⟨m.next.toNat,by omega⟩
     have IH:=T1 hg hE d mn st ⟨f.seen.set u true,f.dI,f.next⟩ (by omega) (by omega) cU iW (fun v hv h=>abW v (by omega) h)
     have Y9:∀r:FS×Bool,Sk ms E i mn st ⟨f.seen.set u true,f.dI,f.next⟩ r->E (u:Int) i=E (mn:Int) i->Sk ms E i u st f r:=fun r h Md=>by
      refine⟨by rw[Md];exact h.eq,fun hr v hv=>?_,h.aB,h.NF,h.ext⟩;rcases h.seen hr v hv with h'|h'
      ·rcases z8 _ _ _ _ h' with z_|z_
       ·subst z_;refine Or.inr (Po (f:=f) (st:=st) ?_);rw[Md,<-h.eq,hr];simp
       ·exact Or.inl z_
      ·exact Or.inr h'
     by_cases e2:m.kind=2
     ·rw[if_pos e2];have hS:=hE.qV u m hm e2
      cases hh:e_ m.eE ah bh with
      |true=>
       rw[if_pos rfl,dJ];refine Y9 _ IH ?_;rw[hS,hh,if_pos rfl,dJ]
      |false=>
       rw[hh]at hS;simp only[Aq,if_false]at hS⊢;refine⟨by rw[hS];simp,fun _ v hv=>?_,iW,cU,⟨[],by simp,by simp⟩⟩;rcases z8 _ _ _ _ hv with h|h
       ·subst h;refine Or.inr (fun h=>?_);rw[hS]at h;cases h
       ·exact Or.inl h
     ·rw[if_neg e2];by_cases e3:m.kind=3
      ·rw[if_pos e3,dJ];refine Y9 _ IH ?_;rw[hE.mark u m hm e3,dJ]
      ·have e4:m.kind=4:=(by omega);rw[if_neg e3,dJ];have ho:=g3 e4;obtain⟨mo,gI⟩:∃mo:Nat,m.a_=(mo:Int):=⟨m.a_.toNat,by omega⟩
       have hS:=hE.lL u m hm e4;rw[dJ,gI]at hS;rw[gI];generalize gw ms ah bh d (mn:Int) st ⟨f.seen.set u true,f.dI,f.next⟩=r at IH⊢
       cases hr:r.2 with
       |true=>
        rw[if_pos rfl];refine⟨?_,fun h=>(by rw[hr]at h;cases h),IH.aB,IH.NF,IH.ext⟩;have h0:=IH.eq;rw[hr]at h0;simp only[if_true]at h0;rw[hr];simp only[if_true];rw[h0,hS]
        cases h5:firstT E (i+1) f.next with
        |some v=>rfl
        |none=>
         rw[h5]at h0
         cases h6:E (mn:Int) i with
         |some j=>rfl
         |none=>
          rw[h6]at h0;exfalso
          cases h7:firstT E (i+1) r.1.next<;>rw[h7]at h0<;>cases h0
       |false=>
        simp only[Aq,if_false]
        have IO:=T1 hg hE d mo st r.1 (by omega) (by omega) IH.NF IH.aB (fun v hv h=>by
         rcases IH.seen hr v h with h'|h'
         ·obtain⟨e,yu,_⟩:=IH.ext;exact(abW v (by omega) h').eG yu
         ·exact h')
        have h0:=IH.eq;rw[hr]at h0;simp only[Aq,if_false,or_none]at h0
        have heq:(firstT E (i+1) r.1.next).or ((E (mo:Int) i).map fun j=>(st,j))=(firstT E (i+1) f.next).or ((E (u:Int) i).map fun j=>(st,j)):=by
         rw[h0,hS,D6];congr 1
         cases E (mn:Int) i<;>rfl
        obtain⟨e,yu,rF⟩:=IH.ext;obtain⟨e',PW,aiR⟩:=IO.ext;refine⟨IO.eq.trans heq,fun sW v hv=>?_,IO.aB,IO.NF,⟨e++e',by rw[PW,yu,Bd],fun t ht=>?_⟩⟩
        ·rcases IO.seen sW v hv with h'|h'
         ·rcases IH.seen hr v h' with z_|z_
          ·rcases z8 _ _ _ _ z_ with h3|h3
           ·subst h3;refine Or.inr (Po (f:=f) (st:=st) ?_);have:=IO.eq;rw[sW]at this;simp only[Aq,if_false,or_none]at this;rw[this];exact heq
           ·exact Or.inl h3
          ·exact Or.inr (z_.eG PW)
         ·exact Or.inr h'
        ·rcases Al.1 ht with h|h
         ·exact rF t h
         ·exact aiR t h
def zH(ms:List MS)(l:List bG):Prop:=(∀t∈l,0<=t.1/\t.1<ms.length)/\(l.map (·.2)).Pairwise (· <= ·)
structure afF(ms:List MS)(E:Int->Nat->Option Nat)(i:Nat)(l:List bG)(f:FS)(r:FS×Option Int):Prop where
 eq:(firstT E (i+1) r.1.next).or (r.2.map fun st=>(st,i))=(firstT E (i+1) f.next).or (firstT E i l)
 ext:∃e:List bG,r.1.next=f.next++e/\zH ms e/\(∀t∈e,∃q∈l,q.2=t.2)/\∀st,r.2=some st->(∃q∈l,q.2=st)/\∀t∈e,t.2<=st
theorem aeQ(hg:eW ms)(hE:tC ms E i ah bh):
 ∀(l:List bG) (f:FS),zH ms l->DX ms.length f->NV f->(∀v:Nat,f.seen.getD v false=true->zu E i f v)->afF ms E i l f (iK ms ah bh l f)
 | [],f,_,_,_,_=>⟨by unfold iK firstT;simp,⟨[],by unfold iK;simp,⟨by simp,by simp⟩,by simp,fun st h=>by unfold iK at h;cases h⟩⟩
 |t::ts,f,hl,hs,mT,MF=>by
  have ht:=hl.1 t (by simp);obtain⟨u,hu⟩:∃u:Nat,t.1=(u:Int):=⟨t.1.toNat,by omega⟩
  have jY:u<ms.length:=by omega
  have oE:∀q∈ts,t.2<=q.2:=fun q hq=>by
   have:=hl.2;simp only[Bw,Cu]at this;exact this.1 _ (Bg.2 ⟨q,hq,rfl⟩)
  have F:=T1 hg hE ms.length u t.2 f jY jY hs mT (fun v _ h=>MF v h);unfold iK;rw[hu];generalize gw ms ah bh ms.length (u:Int) t.2 f=r at F⊢;obtain⟨e,yu,rF⟩:=F.ext
  have Uq:zH ms e:=⟨fun q hq=>(rF q hq).2,by
   rw[List.pairwise_map];exact List.pairwise_of_forall_mem_list (fun a ha b hb=>by rw[(rF a ha).1,(rF b hb).1];exact Ce _)⟩
  have I7:firstT E i (t::ts)=((E (u:Int) i).map fun j=>(t.2,j)).or (firstT E i ts):=by
   have:=Pi E i [t] ts;rw[show t=(t.1,t.2)from rfl]at this;rw[show(t::ts)=[(t.1,t.2)]++ts from rfl,this,TV,hu]
  rw[<-show(E t.1 i)=E (u:Int) i by rw[hu]]at I7
  cases hr:r.2 with
  |true=>
   rw[if_pos rfl];have h0:=F.eq;rw[hr]at h0;simp only[if_true]at h0;refine⟨?_,⟨e,yu,Uq,fun q hq=>⟨t,by simp,by rw[(rF q hq).1]⟩,fun st h=>?_⟩⟩
   ·simp only[C9];rw[h0,I7,hu,<-D6]
    cases h5:firstT E (i+1) f.next with
    |some v=>rfl
    |none=>
     rw[h5]at h0
     cases h6:E (u:Int) i with
     |some j=>rfl
     |none=>
      rw[h6]at h0;exfalso
      cases h7:firstT E (i+1) r.1.next<;>rw[h7]at h0<;>cases h0
   ·cases h;exact⟨⟨t,by simp,rfl⟩,fun q hq=>by rw[(rF q hq).1];exact Ce _⟩
  |false=>
   simp only[Aq,if_false];have h0:=F.eq;rw[hr]at h0;simp only[Aq,if_false,or_none]at h0
   have IH:=aeQ hg hE ts r.1 ⟨fun q hq=>hl.1 q (by simp[hq]),by have:=hl.2;simp only[Bw,Cu]at this;exact this.2⟩ F.NF F.aB (fun v hv=>by
    rcases F.seen hr v hv with h'|h'
    ·exact(MF v h').eG yu
    ·exact h')
   generalize iK ms ah bh ts r.1=q at IH⊢
   obtain⟨e',PW,abf,fS,hd'⟩:=IH.ext;refine⟨?_,⟨e++e',by rw[PW,yu,Bd],⟨fun a ha=>?_,?_⟩,fun a ha=>?_,fun st h=>?_⟩⟩
   ·rw[IH.eq,h0,I7,hu,D6]
   ·rcases Al.1 ha with h|h
    ·exact Uq.1 a h
    ·exact abf.1 a h
   ·rw[Ci,B7];refine⟨Uq.2,abf.2,fun a ha b hb=>?_⟩;obtain⟨a',wU,rfl⟩:=Bg.1 ha;obtain⟨b',iW,rfl⟩:=Bg.1 hb;obtain⟨c,nI,ji⟩:=fS b' iW;rw[(rF a' wU).1,<-ji];exact oE c nI
   ·rcases Al.1 ha with h|h
    ·exact⟨t,by simp,by rw[(rF a h).1]⟩
    ·obtain⟨c,nI,ji⟩:=fS a h;exact⟨c,by simp[nI],ji⟩
   ·obtain⟨⟨c,nI,ji⟩,L_⟩:=hd' st h;refine⟨⟨c,by simp[nI],ji⟩,fun a ha=>?_⟩;rcases Al.1 ha with h|h
    ·rw[(rF a h).1,<-ji];exact oE c nI
    ·exact L_ a h
theorem aa2(n v:Nat):(List.replicate n false).getD v false=false:=by
 rw[Af,Cr];split<;>rfl
theorem Xt(hg:eW ms)(hE:tC ms E i ah bh){l:List bG}(hl:zH ms l):
 firstT E i l=(firstT E (i+1) (aZ ms ah bh l).1).or ((aZ ms ah bh l).2.map fun st=>(st,i))/\
 zH ms (aZ ms ah bh l).1/\(∀t∈ (aZ ms ah bh l).1,∃q∈l,q.2=t.2)/\∀st,(aZ ms ah bh l).2=some st->(∃q∈l,q.2=st)/\∀t∈ (aZ ms ah bh l).1,t.2<=st:=by
 have h:=aeQ hg hE l (FS.new ms.length) hl ⟨by simp[FS.new],by simp[FS.new]⟩ (fun v hv=>by rw[show(FS.new ms.length).dI=List.replicate ms.length false from rfl,aa2]at hv;cases hv) (fun v hv=>by rw[show(FS.new ms.length).seen=List.replicate ms.length false from rfl,aa2]at hv;cases hv);obtain⟨e,yu,h2,h3,h4⟩:=h.ext;have rF:(iK ms ah bh l (FS.new ms.length)).1.next=e:=by rw[yu];rfl
 refine⟨?_,by unfold aZ;rw[rF];exact h2,by unfold aZ;rw[rF];exact h3,by unfold aZ;rw[rF];exact h4⟩;have:=h.eq;unfold aZ;rw[this];rfl
