/- The events of a text as plain functions; that they stand apa -/
import Derived.Test.YtpdnofhackjfdaaGreatDoorP20
set_option linter.all false
set_option maxRecDepth 100000
namespace Go.Proofs.YtpdnofhackjfdaaGreatDoor
open Go.Proofs.Tryz
variable {C:CT} {k:aH} {a b:aH×aH} {f:aH×aH->aH×aH} {ah bh lo:Int} {E:Int->Nat->Option Nat} {gs:List Int} {ms:List MS} {G i j u:Nat} {O:Nat->Prop} {x:TX} {V:VS} {w:World}
def wO:aH:=fun i gs=>some (i,gs)
def Hf(C:CT)(G:Nat)(x:TX)(i:Nat):iH:=(tn x C (wO,wO)).2 i (List.replicate (2*G) (-1))
structure Ev where
 a:Nat
 b:Nat
 gs:List Int
def cS(T:Nat->iH)(n:Nat):Nat->Nat->Option Nat->List Ev
 |0,_,_=>[]
 |k+1,i,told=>if n<i then []else match T i with
  |none=>cS T n k (i+1) told
  |some v=>if i=v.1 then(if told=some v.1 then cS T n k (v.1+1) told else⟨i,v.1,v.2⟩::cS T n k (v.1+1) (some v.1))else⟨i,v.1,v.2⟩::cS T n k v.1 (some v.1)
def nO(T:Nat->iH)(n:Nat):Prop:=∀i j gs,i<=n->T i=some (j,gs)->i<=j/\j<=n
def Lj(T:Nat->iH)(n i:Nat)(told:Option Nat):List Ev:=cS T n (n+1-i) i told
def JU(lo hi:Int)(gs:List Int)(g:Nat):Prop:=(gs.getD (2*g) (-1)= -1/\gs.getD (2*g+1) (-1)= -1)\/(lo<=gs.getD (2*g) (-1)/\gs.getD (2*g) (-1)<=gs.getD (2*g+1) (-1)/\gs.getD (2*g+1) (-1)<=hi)
def Ks(x:TX)(lo:Int)(G:Nat)(O:Nat->Prop)(i:Nat)(gs:List Int):Prop:=gs.length=2*G/\∀g,g<G->(¬O g->JU lo (x.aW i) gs g)/\(O g->lo<=gs.getD (2*g) (-1)/\gs.getD (2*g) (-1)<=x.aW i)
def PK(x:TX)(lo:Int)(G:Nat)(O:Nat->Prop)(K:aH):Prop:=∀i gs,i<=x.l.length->lo<=x.aW i->Ks x lo G O i gs->∀j dp,K i gs=some (j,dp)->i<=j/\j<=x.l.length/\Ks x lo G (fun _=>False) j dp
def PP(x:TX)(lo:Int)(G:Nat)(O:Nat->Prop)(K:aH×aH):Prop:=PK x lo G O K.1/\PK x lo G O K.2
def DI(x:TX):Prop:=∀i j,i<=j->x.aW i<=x.aW j
theorem Ks.later(hx:DI x)(h:Ks x lo G O i gs)(cQ:i<=j):Ks x lo G O j gs:=by
 have hb:=hx i j cQ;refine⟨h.1,fun g hg=>⟨fun hO=>?_,fun hO=>?_⟩⟩
 ·rcases(h.2 g hg).1 hO with h1|h1
  ·exact Or.inl h1
  ·exact Or.inr ⟨h1.1,h1.2.1,by omega⟩
 ·have:=(h.2 g hg).2 hO;omega
theorem PK.fS(x:TX)(lo:Int)(G:Nat)(O:Nat->Prop):PK x lo G O fS:=fun i gs _ _ _ j dp h=>by cases h
theorem PK.lJ{a b:aH}(ha:PK x lo G O a)(hb:PK x lo G O b):PK x lo G O (g_ a b):=fun i gs h1 h2 h3 j dp h=>by
 unfold g_ at h
 cases e:a i gs with
 |none=>rw[e]at h;exact hb i gs h1 h2 h3 j dp h
 |some v=>rw[e]at h;cases h;exact ha i gs h1 h2 h3 j dp e
theorem PP.lJ(ha:PP x lo G O a)(hb:PP x lo G O b):PP x lo G O (n_ a b):=⟨ha.1.lJ hb.1,ha.2.lJ hb.2⟩
theorem PP.DV(lz:Bool)(ha:PP x lo G O a)(hb:PP x lo G O b):PP x lo G O (qn lz a b):=by
 unfold qn
 cases lz
 ·exact ha.lJ hb
 ·exact hb.lJ ha
theorem PK.take(hx:DI x)(sp:bD)(fo nt:Bool)(hk:PK x lo G O k):PK x lo G O (uD x sp fo nt k):=fun i gs h1 h2 h3 j dp h=>by
 unfold uD at h;split at h
 ·rename_i c
  have aw:i<x.l.length:=by simp at c;exact c.1
  have:=hk (i+1) gs aw (by have:=hx i (i+1) (by omega);omega) (h3.later hx (by omega)) j dp h;exact⟨by omega,this.2⟩
 ·cases h
theorem PK.qT(ed:Int)(hk:PK x lo G O k):PK x lo G O (za x ed k):=fun i gs h1 h2 h3 j dp h=>by
 unfold za at h;split at h
 ·exact hk i gs h1 h2 h3 j dp h
 ·cases h
theorem aba(l:List Int)(k:Nat)(v d:Int)(h:k<l.length):(l.set k v).getD k d=v:=by simp[Af,h]
theorem Ls(l:List Int)(k m:Nat)(v d:Int)(h:k≠m):(l.set k v).getD m d=l.getD m d:=by
 simp[Af,h]
theorem PK.OU(g:Nat)(hg:g<G)(hk:PK x lo G O k):PK x lo G (fun q=>O q\/q=g) (yM x (2*g+1) k):=fun i gs h1 h2 h3 j dp h=>by
 unfold yM at h;refine hk i _ h1 h2 ?_ j dp h;refine⟨by simp[h3.1],fun q hq=>?_⟩;by_cases e:q=g
 ·subst e;have hl:2*q+1<gs.length:=by have:=h3.1;omega
  have h4:=(h3.2 q hq).2 (Or.inr rfl);rw[JU,aba _ _ _ _ hl,Ls _ _ _ _ _ (by omega)];exact⟨fun _=>Or.inr ⟨h4.1,h4.2,Cg _⟩,fun _=>h4⟩
 ·rw[JU,Ls _ _ _ _ _ (by omega),Ls _ _ _ _ _ (by omega)];exact⟨fun hO=>(h3.2 q hq).1 (fun hx=>hx.elim hO e),fun hO=>(h3.2 q hq).2 (Or.inl hO)⟩
theorem PK.open(g:Nat)(hg:g<G)(hk:PK x lo G (fun q=>O q\/q=g) k):PK x lo G O (yM x (2*g) k):=fun i gs h1 h2 h3 j dp h=>by
 unfold yM at h;refine hk i _ h1 h2 ?_ j dp h;refine⟨by simp[h3.1],fun q hq=>?_⟩;by_cases e:q=g
 ·subst e;have hl:2*q<gs.length:=by have:=h3.1;omega
  rw[aba _ _ _ _ hl];exact⟨fun hO=>absurd (Or.inr rfl) hO,fun _=>⟨h2,Cg _⟩⟩
 ·rw[JU,Ls _ _ _ _ _ (by omega),Ls _ _ _ _ _ (by omega)];exact⟨fun hO=>(h3.2 q hq).1 (fun hx=>hO (Or.inl hx)),fun hO=>(h3.2 q hq).2 (hO.resolve_right e)⟩
def PF(x:TX)(lo:Int)(G:Nat)(f:aH×aH->aH×aH):Prop:=∀O K,PP x lo G O K->PP x lo G O (f K)
theorem PF.iter(hf:PF x lo G f):∀m,PF x lo G (ox f m)
 |0=>fun O K h=>h
 |m+1=>fun O K h=>hf O _ (PF.iter hf m O K h)
theorem PF.nK(hf:PF x lo G f)(lz:Bool){nx:aH×aH}(hn:PP x lo G O nx):∀m,PP x lo G O (ox (yQ f lz nx) m nx)
 |0=>hn
 |m+1=>(hf O _ (PF.nK hf lz hn m)).DV lz hn
theorem PF.again(hf:PF x lo G f)(lz:Bool){rest:aH}(hr:PK x lo G O rest):∀m,PK x lo G O (js f lz rest m)
 |0=>PK.fS x lo G O
 |m+1=>by
  have h1:=(hf O (fS,js f lz rest m) ⟨PK.fS x lo G O,PF.again hf lz hr m⟩).1;unfold js
  cases lz
  ·exact h1.lJ hr
  ·exact hr.lJ h1
theorem PF.loop(hf:PF x lo G f)(lz:Bool):PF x lo G (ur x f lz):=fun O K h=>by
 have h1:=(hf O (fS,js f lz K.2 (x.l.length+1)) ⟨PK.fS x lo G O,hf.again lz h.2 _⟩).1;unfold ur;exact PP.DV lz ⟨h1,h1⟩ h
theorem PF.we(hf:PF x lo G f)(a b:Int)(lz:Bool):PF x lo G (ze x f a b lz):=fun O K h=>by
 unfold ze;split
 ·exact hf.iter _ O _ (hf.loop lz O K h)
 ·exact hf.iter _ O _ (hf.nK lz h _)
mutual
theorem Nq(x:TX)(hx:DI x)(lo:Int)(G:Nat):∀C:CT,C.gO G->PF x lo G (tn x C)
 |.node k sp fo nt ed gr a b lz cN,hg=>by
  unfold CT.gO at hg;obtain⟨g1,g2,g3⟩:=hg;have sL:=anv x hx lo G cN g3;have ED:=aew x hx lo G cN g3;have Ep:=aet x hx lo G cN g3;unfold tn;by_cases k0:k=0
  ·simp only[k0,if_true];exact fun O K h=>⟨PK.take hx sp fo nt h.2,PK.take hx sp fo nt h.2⟩
  ·by_cases k1:k=1
   ·simp only[k1,if_true,Int.reduceEq,if_false];exact fun O K h=>⟨PK.qT ed h.1,PK.qT ed h.2⟩
   ·by_cases k2:k=2
    ·simp only[k2,if_true,Int.reduceEq,if_false];by_cases g0:gr=0
     ·simp only[g0,if_true];exact sL
     ·simp only[g0,if_false];intro O K h;have aw:gr.toNat-1<G:=(by omega);have h1:=sL (fun q=>O q\/q=gr.toNat-1) (GJ x (2*(gr.toNat-1)+1) K) ⟨PK.OU _ aw h.1,PK.OU _ aw h.2⟩;exact⟨PK.open _ aw h1.1,PK.open _ aw h1.2⟩
    ·simp only[k0,k1,k2,if_false];by_cases k3:k=3
     ·simp only[k3,if_true];exact ED
     ·by_cases k4:k=4
      ·simp only[k4,if_true,Int.reduceEq,if_false];exact Ep
      ·simp only[k3,k4,if_false];exact sL.we a b lz
theorem anv(x:TX)(hx:DI x)(lo:Int)(G:Nat):∀cs:List CT,CT.fq G cs->PF x lo G (xC x cs)
 | [],_=>fun O K h=>by unfold xC;exact h
 |c::cs,hg=>by
  unfold CT.fq at hg;unfold xC;exact Nq x hx lo G c hg.1
theorem aew(x:TX)(hx:DI x)(lo:Int)(G:Nat):∀cs:List CT,CT.fq G cs->PF x lo G (y8 x cs)
 | [],_=>fun O K h=>by unfold y8;exact h
 |c::cs,hg=>by
  unfold CT.fq at hg;unfold y8;have h1:=Nq x hx lo G c hg.1;have h2:=aew x hx lo G cs hg.2;exact fun O K h=>h1 O _ (h2 O K h)
theorem aet(x:TX)(hx:DI x)(lo:Int)(G:Nat):∀cs:List CT,CT.fq G cs->PF x lo G (xB x cs)
 | [],_=>fun O K h=>by unfold xB;exact⟨PK.fS x lo G O,PK.fS x lo G O⟩
 | [c],hg=>by
   unfold CT.fq at hg;unfold xB;exact Nq x hx lo G c hg.1
 |c::d::cs,hg=>by
  unfold CT.fq at hg;unfold xB;have h1:=Nq x hx lo G c hg.1;have h2:=aet x hx lo G (d::cs) hg.2;exact fun O K h=>(h1 O K h).lJ (h2 O K h)
end
theorem aou(s:ByteArray):DI (ig s):=fun i j h=>by rw[KU,KU];have:=fY s h;omega
theorem aa_(n k:Nat):(List.replicate n (-1:Int)).getD k (-1)= -1:=by
 rw[Af,Cz];split<;>rfl
theorem aom(hg:C.gO G)(s:ByteArray)(hi:i<=(aF s).length)(h:Hf C G (ig s) i=some (j,gs)):i<=j/\j<=(aF s).length/\gs.length=2*G/\∀g,g<G->JU (bd s i) (bd s j) gs g:=by
 have h1:=(Nq (ig s) (aou s) (bd s i) G C hg (fun _=>False) (wO,wO) ⟨fun i gs a b c j dp h=>by cases h;exact⟨Ab _,a,c⟩,fun i gs a b c j dp h=>by cases h;exact⟨Ab _,a,c⟩⟩).2;obtain⟨a,b,c,d⟩:=h1 i (List.replicate (2*G) (-1)) hi (by rw[KU];exact Cg _) ⟨by simp,fun g _=>⟨fun _=>Or.inl ⟨aa_ _ _,aa_ _ _⟩,fun h=>h.elim⟩⟩ j gs h;refine⟨a,b,c,fun g nF=>?_⟩;have:=(d g nF).1 (fun h=>h);rw[KU]at this;exact this
theorem aop(hg:C.gO G)(s:ByteArray):nO (Hf C G (ig s)) (aF s).length:=fun i j gs hi h=>by
 have:=aom hg s hi h;exact⟨this.1,this.2.1⟩
theorem ss.ft{G:Int}(h:ss C V j)(hq:iz G (e_ C).1):eR (sorted (e_ C).1 V):=by
 obtain⟨R,h1,h2,h3⟩:=h.inv;exact anN h1 h2 (fun m hm=>(hq m hm).2.2) (fun t ht=>h.num t (Or.inr ht))
theorem ss.iy{G:Int}(h:ss C V j)(df:C.ok)(aS:C.sz<=1000)(hg:C.gO G)(x:TX)(hu:V.num.getD j 0=(u:Int))(hi:i<=x.l.length)(gs:List Int):cM (sorted (e_ C).1 V) x (u:Int) i gs ((tn x C (wO,wO)).2 i gs):=by
 obtain⟨R,h1,h2,h3⟩:=h.inv;have hx:cZ [bL].length (0,0):=by unfold cZ;simp
 have g:=(nV C df aS).grow [bL] (0,0)
 have h0:(e_ C).1[0]? =some bL:=by
  have:=Lt g.2 (j:=0) (by simp);exact this
 have hr:=(((KP x G C df aS hg).1.iy [bL] (0,0) hx (e_ C).1 (fun _ _ _=>rfl) (wO,wO) i hi).2 (fun j rG lL gs=>cM.done 0 bL j gs h0 rfl)) gs;have ko:cM (e_ C).1 x (e_ C).2.2 i gs ((tn x C (wO,wO)).2 i gs):=hr;rw[h.first]at ko;obtain⟨u',Mt⟩:=h.num j (Or.inl rfl);have e:V.num.getD j 0=(u':Int):=xu Mt;have e2:u'=u:=by omega
 subst e2;exact anO h1 h2 (fun t ht=>h.num t (Or.inr ht)) ko u' (by simpa using Mt)
open Go.RowKit Go.Maps
theorem ik.lt(h:ik w):0<w.heap.size/\1<w.heap.size:=
 ⟨Bh _ _ (h.1 0 (by omega)),Bh _ _ (h.2 0 (by omega)).1⟩
structure jb(w:World)(lo hi mb c:Nat)(vs:List Sv)(ms:List MS):Prop where
 ic:jc w mb vs ms
 vZ:∀i,(h:i<vs.length)->(h':i<ms.length)->gw w lo hi vs[i] ms[i]
 le:hi<=w.heap.size
 jK:ik w
theorem jb.kept{w':World}{lo hi mb c:Nat}{vs:List Sv}(h:jb w lo hi mb c vs ms)(k:aa af w w'):jb w' lo hi mb c vs ms:=
 ⟨h.ic.kept k (fun h=>h),fun i a b=>(h.vZ i a b).kept k (fun _ _ _ h=>h) h.le,Be h.le k.size,h.jK.iU k⟩
structure tz(ms:List MS)(E:Int->Nat->Option Nat)(i:Nat)(ah bh:Int):Prop where
 done:∀(u:Nat) (m:MS),ms[u]? =some m->m.kind=0->E u i=some i
 take:∀(u:Nat) (m:MS),ms[u]? =some m->m.kind=1->E u i=if fP m.sp m.fo m.nt bh=true then E m.next (i+1)else none
 qT:∀(u:Nat) (m:MS),ms[u]? =some m->m.kind=2->E u i=if eU m.eo ah bh=true then E m.next i else none
 mark:∀(u:Nat) (m:MS),ms[u]? =some m->m.kind=3->E u i=E m.next i
 lJ:∀(u:Nat) (m:MS),ms[u]? =some m->m.kind=4->E u i=(E m.next i).or (E m.a_ i)
abbrev bF:=Int×Int
structure FS where
 seen:List Bool
 dF:List Bool
 next:List bF
def mT(m:MS)(bh st:Int)(f:FS):FS:=
 if fP m.sp m.fo m.nt bh&& !f.dF.getD m.next.toNat true then⟨f.seen,f.dF.set m.next.toNat true,f.next++[(m.next,st)]⟩else f
def gx(ms:List MS)(ah bh:Int):Nat->Int->Int->FS->FS×Bool
 |0,_,_,f=>(f,false)
 |d+1,u,st,f=>
  if f.seen.getD u.toNat true then(f,false)else
   match ms[u.toNat]? with
   |none=>(f,false)
   |some m=>
    if m.kind=0 then(⟨f.seen.set u.toNat true,f.dF,f.next⟩,true)
    else if m.kind=1 then(mT m bh st ⟨f.seen.set u.toNat true,f.dF,f.next⟩,false)
    else if m.kind=2 then(if eU m.eo ah bh then gx ms ah bh d m.next st ⟨f.seen.set u.toNat true,f.dF,f.next⟩else(⟨f.seen.set u.toNat true,f.dF,f.next⟩,false))
    else if m.kind=3 then gx ms ah bh d m.next st ⟨f.seen.set u.toNat true,f.dF,f.next⟩
    else if(gx ms ah bh d m.next st ⟨f.seen.set u.toNat true,f.dF,f.next⟩).2 then gx ms ah bh d m.next st ⟨f.seen.set u.toNat true,f.dF,f.next⟩
    else gx ms ah bh d m.a_ st (gx ms ah bh d m.next st ⟨f.seen.set u.toNat true,f.dF,f.next⟩).1
def iW(ms:List MS)(ah bh:Int):List bF->FS->FS×Option Int
 | [],f=>(f,none)
 |t::ts,f=>if(gx ms ah bh ms.length t.1 t.2 f).2 then((gx ms ah bh ms.length t.1 t.2 f).1,some t.2)else iW ms ah bh ts (gx ms ah bh ms.length t.1 t.2 f).1
def FS.new(n:Nat):FS:=⟨List.replicate n false,List.replicate n false,[]⟩
def aZ(ms:List MS)(ah bh:Int)(l:List bF):List bF×Option Int:=((iW ms ah bh l (FS.new ms.length)).1.next,(iW ms ah bh l (FS.new ms.length)).2)
def firstT(E:Int->Nat->Option Nat)(i:Nat)(l:List bF):Option (Int×Nat):=l.findSome? fun t=>(E t.1 i).map fun j=>(t.2,j)
theorem O_(E:Int->Nat->Option Nat)(i:Nat)(l l':List bF):firstT E i (l++l')=(firstT E i l).or (firstT E i l'):=by
 unfold firstT;rw[List.findSome?_append]
theorem TH(E:Int->Nat->Option Nat)(i:Nat)(u st:Int):firstT E i [(u,st)]=(E u i).map fun j=>(st,j):=by
 unfold firstT;simp only[List.findSome?_cons,List.findSome?_nil]
 cases E u i<;>rfl
theorem ahK{l:List bF}{t:bF}(h:t∈l)(he:(E t.1 i).isSome):(firstT E i l).isSome:=by
 unfold firstT;rw[List.findSome?_isSome_iff];exact⟨t,h,by simpa using he⟩
def zp(E:Int->Nat->Option Nat)(i:Nat)(f:FS)(v:Nat):Prop:=(E (v:Int) i).isSome->(firstT E (i+1) f.next).isSome
def NH(f:FS):Prop:=∀v:Nat,f.dF.getD v false=true->∃t∈f.next,t.1=(v:Int)
def DE(n:Nat)(f:FS):Prop:=f.seen.length=n/\f.dF.length=n
theorem zp.eV{v:Nat}{f f':FS}{e:List bF}(h:zp E i f v)(hf:f'.next=f.next++e):zp E i f' v:=fun h1=>by
 rw[hf,O_];have:=h h1
 cases h2:firstT E (i+1) f.next with
 |none=>rw[h2]at this;cases this
 |some v=>rfl
theorem geT(l:List Bool)(k v:Nat)(d:Bool)(h:(l.set k true).getD v d=true):v=k\/l.getD v d=true:=by
 by_cases e:v=k
 ·exact Or.inl e
 ·right
  rw[Af,Em (by omega),<-Af]at h;exact h
structure R8(ms:List MS)(E:Int->Nat->Option Nat)(i:Nat)(u st:Int)(f:FS)(r:FS×Bool):Prop where
 eq:(firstT E (i+1) r.1.next).or (if r.2 then some (st,i)else none)=(firstT E (i+1) f.next).or ((E u i).map fun j=>(st,j))
 seen:r.2=false->∀v:Nat,r.1.seen.getD v false=true->f.seen.getD v false=true\/zp E i r.1 v
 aB:NH r.1
 Nt:DE ms.length r.1
 ext:∃e:List bF,r.1.next=f.next++e/\∀t∈e,t.2=st/\0<=t.1/\t.1<ms.length
theorem or_none{α:Type}(a:Option α):a.or none=a:=by cases a<;>rfl
theorem Pf{st:Int}{f:FS}{g:FS}(h:firstT E (i+1) g.next=(firstT E (i+1) f.next).or ((E (u:Int) i).map fun j=>(st,j))):zp E i g u:=fun he=>by
 rw[h];obtain⟨j,hj⟩:=Option.isSome_iff_exists.1 he;rw[hj]
 cases firstT E (i+1) f.next<;>rfl
theorem TN(hg:eR ms)(hE:tz ms E i ah bh):
 ∀(d u:Nat) (st:Int) (f:FS),u<d->u<ms.length->DE ms.length f->NH f->(∀v:Nat,v<=u->f.seen.getD v false=true->zp E i f v)->R8 ms E i u st f (gx ms ah bh d u st f)
 |0,u,st,f,h,_,_,_,_=>absurd h (by omega)
 |d+1,u,st,f,hd,hu,hs,mJ,Mq=>by
  have hgu:f.seen.getD u true=f.seen.getD u false:=by
   rw[Af,Af,Ae (by rw[hs.1];exact hu)];rfl
  unfold gx;simp only[Ay];by_cases h1:f.seen.getD u true=true
  ·rw[if_pos h1];refine⟨?_,fun _ v hv=>Or.inl hv,mJ,hs,⟨[],by simp,by simp⟩⟩;simp only[Aq,if_false,or_none];have:=Mq u (Ab _) (by rw[<-hgu];exact h1)
   cases h2:E (u:Int) i with
   |none=>simp
   |some j=>
    have h3:=this (by rw[h2];rfl)
    cases h4:firstT E (i+1) f.next with
    |none=>rw[h4]at h3;cases h3
    |some v=>rfl
  ·rw[if_neg h1,Ae hu];have hm:ms[u]? =some ms[u]:=Ae hu;generalize ms[u]=m at hm⊢;obtain⟨⟨k0,k4⟩,g1,g2,g3⟩:=hg u m hm;have cR:DE ms.length ⟨f.seen.set u true,f.dF,f.next⟩:=⟨by rw[Bk];exact hs.1,hs.2⟩;have jD:NH ⟨f.seen.set u true,f.dF,f.next⟩:=mJ
   have abZ:∀v:Nat,v<u->(f.seen.set u true).getD v false=true->zp E i ⟨f.seen.set u true,f.dF,f.next⟩ v:=fun v hv h=>by
    rcases geT _ _ _ _ h with h|h
    ·omega
    ·exact Mq v (by omega) h
   dsimp only;by_cases e0:m.kind=0
   ·rw[if_pos e0];exact⟨by rw[hE.done u m hm e0];rfl,fun h=>(by cases h),jD,cR,⟨[],by simp,by simp⟩⟩
   ·rw[if_neg e0];by_cases e1:m.kind=1
    ·rw[if_pos e1];have hS:=hE.take u m hm e1;have hn:=g1 e1;obtain⟨mn,dG⟩:∃mn:Nat,m.next=(mn:Int):=⟨m.next.toNat,by omega⟩
     unfold mT;rw[dG,Ay];have gz:mn<f.dF.length:=by rw[hs.2];omega
     have Pz:f.dF.getD mn true=f.dF.getD mn false:=by
      rw[Af,Af,Ae gz];rfl
     cases ht:fP m.sp m.fo m.nt bh with
     |false=>
      simp only[Eo,Aq,if_false];rw[ht]at hS;simp only[Aq,if_false]at hS;refine⟨by rw[hS];simp,fun _ v hv=>?_,jD,cR,⟨[],by simp,by simp⟩⟩;rcases geT _ _ _ _ hv with h|h
      ·subst h;refine Or.inr (fun h=>?_);rw[hS]at h
       cases h
      ·exact Or.inl h
     |true=>
      rw[ht,if_pos rfl,dG]at hS;simp only[E0]
      cases hbq:f.dF.getD mn true with
      |true=>
       simp only[Bool.not_true,Aq,if_false]
       have heq:firstT E (i+1) f.next=(firstT E (i+1) f.next).or ((E (mn:Int) (i+1)).map fun j=>(st,j)):=by
        obtain⟨t,Ja,ue⟩:=mJ mn (by rw[<-Pz];exact hbq)
        cases h2:E (mn:Int) (i+1)with
        |none=>simp
        |some j=>
         have h3:=ahK (E:=E) (i:=i+1) Ja (by rw[ue,h2];rfl)
         cases h4:firstT E (i+1) f.next with
         |none=>rw[h4]at h3;cases h3
         |some v=>rfl
       refine⟨by rw[hS];simpa[or_none]using heq,fun _ v hv=>?_,jD,cR,⟨[],by simp,by simp⟩⟩;rcases geT _ _ _ _ hv with h|h
       ·subst h;refine Or.inr (Pf (f:=f) (st:=st) ?_);rw[hS];exact heq
       ·exact Or.inl h
      |false=>
       simp only[Bool.not_false,if_true];have heq:firstT E (i+1) (f.next++[((mn:Int),st)])=(firstT E (i+1) f.next).or ((E (mn:Int) (i+1)).map fun j=>(st,j)):=by rw[O_,TH]
       refine⟨by rw[hS];simpa[or_none]using heq,fun _ v hv=>?_,fun v hv=>?_,⟨cR.1,by simp only[Bk];exact hs.2⟩,⟨[((mn:Int),st)],rfl,by simp;omega⟩⟩
       ·rcases geT _ _ _ _ hv with h|h
        ·subst h;refine Or.inr (Pf (f:=f) (st:=st) ?_);rw[hS];exact heq
        ·exact Or.inl h
       ·rcases geT _ _ _ _ hv with h|h
        ·subst h;exact⟨((v:Int),st),by simp,rfl⟩
        ·obtain⟨t,h1,h2⟩:=mJ v h;exact⟨t,by simp[h1],h2⟩
    ·rw[if_neg e1];have hn:=g2 (by omega);obtain⟨mn,dG⟩:∃mn:Nat,m.next=(mn:Int):=⟨m.next.toNat,by omega⟩
     have IH:=TN hg hE d mn st ⟨f.seen.set u true,f.dF,f.next⟩ (by omega) (by omega) cR jD (fun v hv h=>abZ v (by omega) h)
     have Y9:∀r:FS×Bool,R8 ms E i mn st ⟨f.seen.set u true,f.dF,f.next⟩ r->E (u:Int) i=E (mn:Int) i->R8 ms E i u st f r:=fun r h LS=>by
      refine⟨by rw[LS];exact h.eq,fun hr v hv=>?_,h.aB,h.Nt,h.ext⟩;rcases h.seen hr v hv with h'|h'
      ·rcases geT _ _ _ _ h' with zX|zX
       ·subst zX;refine Or.inr (Pf (f:=f) (st:=st) ?_);rw[LS,<-h.eq,hr];simp
       ·exact Or.inl zX
      ·exact Or.inr h'
     by_cases e2:m.kind=2
     ·rw[if_pos e2];have hS:=hE.qT u m hm e2
      cases hh:eU m.eo ah bh with
      |true=>
       rw[if_pos rfl,dG];refine Y9 _ IH ?_;rw[hS,hh,if_pos rfl,dG]
      |false=>
       rw[hh]at hS;simp only[Aq,if_false]at hS⊢;refine⟨by rw[hS];simp,fun _ v hv=>?_,jD,cR,⟨[],by simp,by simp⟩⟩;rcases geT _ _ _ _ hv with h|h
       ·subst h;refine Or.inr (fun h=>?_);rw[hS]at h;cases h
       ·exact Or.inl h
     ·rw[if_neg e2];by_cases e3:m.kind=3
      ·rw[if_pos e3,dG];refine Y9 _ IH ?_;rw[hE.mark u m hm e3,dG]
      ·have e4:m.kind=4:=(by omega);rw[if_neg e3,dG];have ho:=g3 e4;obtain⟨mo,fL⟩:∃mo:Nat,m.a_=(mo:Int):=⟨m.a_.toNat,by omega⟩
       have hS:=hE.lJ u m hm e4;rw[dG,fL]at hS;rw[fL];generalize gx ms ah bh d (mn:Int) st ⟨f.seen.set u true,f.dF,f.next⟩=r at IH⊢
       cases hr:r.2 with
       |true=>
        rw[if_pos rfl];refine⟨?_,fun h=>(by rw[hr]at h;cases h),IH.aB,IH.Nt,IH.ext⟩;have h0:=IH.eq;rw[hr]at h0;simp only[if_true]at h0;rw[hr];simp only[if_true];rw[h0,hS]
        cases h5:firstT E (i+1) f.next with
        |some v=>rfl
        |none=>
         rw[h5]at h0
         cases h6:E (mn:Int) i with
         |some j=>rfl
         |none=>
          rw[h6]at h0;exfalso
          cases h7:firstT E (i+1) r.1.next<;>rw[h7]at h0<;>cases h0
       |false=>
        simp only[Aq,if_false]
        have IO:=TN hg hE d mo st r.1 (by omega) (by omega) IH.Nt IH.aB (fun v hv h=>by
         rcases IH.seen hr v h with h'|h'
         ·obtain⟨e,yw,_⟩:=IH.ext;exact(abZ v (by omega) h').eV yw
         ·exact h')
        have h0:=IH.eq;rw[hr]at h0;simp only[Aq,if_false,or_none]at h0
        have heq:(firstT E (i+1) r.1.next).or ((E (mo:Int) i).map fun j=>(st,j))=(firstT E (i+1) f.next).or ((E (u:Int) i).map fun j=>(st,j)):=by
         rw[h0,hS,Dz];congr 1
         cases E (mn:Int) i<;>rfl
        obtain⟨e,yw,rD⟩:=IH.ext;obtain⟨e',PC,aiE⟩:=IO.ext;refine⟨IO.eq.trans heq,fun rK v hv=>?_,IO.aB,IO.Nt,⟨e++e',by rw[PC,yw,Bw],fun t ht=>?_⟩⟩
        ·rcases IO.seen rK v hv with h'|h'
         ·rcases IH.seen hr v h' with zX|zX
          ·rcases geT _ _ _ _ zX with h3|h3
           ·subst h3;refine Or.inr (Pf (f:=f) (st:=st) ?_);have:=IO.eq;rw[rK]at this;simp only[Aq,if_false,or_none]at this;rw[this];exact heq
           ·exact Or.inl h3
          ·exact Or.inr (zX.eV PC)
         ·exact Or.inr h'
        ·rcases Ap.1 ht with h|h
         ·exact rD t h
         ·exact aiE t h
def zE(ms:List MS)(l:List bF):Prop:=(∀t∈l,0<=t.1/\t.1<ms.length)/\(l.map (·.2)).Pairwise (· <= ·)
structure afJ(ms:List MS)(E:Int->Nat->Option Nat)(i:Nat)(l:List bF)(f:FS)(r:FS×Option Int):Prop where
 eq:(firstT E (i+1) r.1.next).or (r.2.map fun st=>(st,i))=(firstT E (i+1) f.next).or (firstT E i l)
 ext:∃e:List bF,r.1.next=f.next++e/\zE ms e/\(∀t∈e,∃q∈l,q.2=t.2)/\∀st,r.2=some st->(∃q∈l,q.2=st)/\∀t∈e,t.2<=st
theorem aeS(hg:eR ms)(hE:tz ms E i ah bh):
 ∀(l:List bF) (f:FS),zE ms l->DE ms.length f->NH f->(∀v:Nat,f.seen.getD v false=true->zp E i f v)->afJ ms E i l f (iW ms ah bh l f)
 | [],f,_,_,_,_=>⟨by unfold iW firstT;simp,⟨[],by unfold iW;simp,⟨by simp,by simp⟩,by simp,fun st h=>by unfold iW at h;cases h⟩⟩
 |t::ts,f,hl,hs,mJ,Mq=>by
  have ht:=hl.1 t (by simp);obtain⟨u,hu⟩:∃u:Nat,t.1=(u:Int):=⟨t.1.toNat,by omega⟩
  have ku:u<ms.length:=by omega
  have qH:∀q∈ts,t.2<=q.2:=fun q hq=>by
   have:=hl.2;simp only[Cc,Cs]at this;exact this.1 _ (Bf.2 ⟨q,hq,rfl⟩)
  have F:=TN hg hE ms.length u t.2 f ku ku hs mJ (fun v _ h=>Mq v h);unfold iW;rw[hu];generalize gx ms ah bh ms.length (u:Int) t.2 f=r at F⊢;obtain⟨e,yw,rD⟩:=F.ext
  have Ub:zE ms e:=⟨fun q hq=>(rD q hq).2,by
   rw[List.pairwise_map];exact List.pairwise_of_forall_mem_list (fun a ha b hb=>by rw[(rD a ha).1,(rD b hb).1];exact Cg _)⟩
  have IS:firstT E i (t::ts)=((E (u:Int) i).map fun j=>(t.2,j)).or (firstT E i ts):=by
   have:=O_ E i [t] ts;rw[show t=(t.1,t.2)from rfl]at this;rw[show(t::ts)=[(t.1,t.2)]++ts from rfl,this,TH,hu]
  rw[<-show(E t.1 i)=E (u:Int) i by rw[hu]]at IS
  cases hr:r.2 with
  |true=>
   rw[if_pos rfl];have h0:=F.eq;rw[hr]at h0;simp only[if_true]at h0;refine⟨?_,⟨e,yw,Ub,fun q hq=>⟨t,by simp,by rw[(rD q hq).1]⟩,fun st h=>?_⟩⟩
   ·simp only[C7];rw[h0,IS,hu,<-Dz]
    cases h5:firstT E (i+1) f.next with
    |some v=>rfl
    |none=>
     rw[h5]at h0
     cases h6:E (u:Int) i with
     |some j=>rfl
     |none=>
      rw[h6]at h0;exfalso
      cases h7:firstT E (i+1) r.1.next<;>rw[h7]at h0<;>cases h0
   ·cases h;exact⟨⟨t,by simp,rfl⟩,fun q hq=>by rw[(rD q hq).1];exact Cg _⟩
  |false=>
   simp only[Aq,if_false];have h0:=F.eq;rw[hr]at h0;simp only[Aq,if_false,or_none]at h0
   have IH:=aeS hg hE ts r.1 ⟨fun q hq=>hl.1 q (by simp[hq]),by have:=hl.2;simp only[Cc,Cs]at this;exact this.2⟩ F.Nt F.aB (fun v hv=>by
    rcases F.seen hr v hv with h'|h'
    ·exact(Mq v h').eV yw
    ·exact h')
   generalize iW ms ah bh ts r.1=q at IH⊢
   obtain⟨e',PC,abj,fR,hd'⟩:=IH.ext;refine⟨?_,⟨e++e',by rw[PC,yw,Bw],⟨fun a ha=>?_,?_⟩,fun a ha=>?_,fun st h=>?_⟩⟩
   ·rw[IH.eq,h0,IS,hu,Dz]
   ·rcases Ap.1 ha with h|h
    ·exact Ub.1 a h
    ·exact abj.1 a h
   ·rw[Ch,B7];refine⟨Ub.2,abj.2,fun a ha b hb=>?_⟩;obtain⟨a',wU,rfl⟩:=Bf.1 ha;obtain⟨b',jD,rfl⟩:=Bf.1 hb;obtain⟨c,nD,jh⟩:=fR b' jD;rw[(rD a' wU).1,<-jh];exact qH c nD
   ·rcases Ap.1 ha with h|h
    ·exact⟨t,by simp,by rw[(rD a h).1]⟩
    ·obtain⟨c,nD,jh⟩:=fR a h;exact⟨c,by simp[nD],jh⟩
   ·obtain⟨⟨c,nD,jh⟩,LM⟩:=hd' st h;refine⟨⟨c,by simp[nD],jh⟩,fun a ha=>?_⟩;rcases Ap.1 ha with h|h
    ·rw[(rD a h).1,<-jh];exact qH c nD
    ·exact LM a h
theorem aa9(n v:Nat):(List.replicate n false).getD v false=false:=by
 rw[Af,Cz];split<;>rfl
theorem Xi(hg:eR ms)(hE:tz ms E i ah bh){l:List bF}(hl:zE ms l):
 firstT E i l=(firstT E (i+1) (aZ ms ah bh l).1).or ((aZ ms ah bh l).2.map fun st=>(st,i))/\
 zE ms (aZ ms ah bh l).1/\(∀t∈ (aZ ms ah bh l).1,∃q∈l,q.2=t.2)/\∀st,(aZ ms ah bh l).2=some st->(∃q∈l,q.2=st)/\∀t∈ (aZ ms ah bh l).1,t.2<=st:=by
 have h:=aeS hg hE l (FS.new ms.length) hl ⟨by simp[FS.new],by simp[FS.new]⟩ (fun v hv=>by rw[show(FS.new ms.length).dF=List.replicate ms.length false from rfl,aa9]at hv;cases hv) (fun v hv=>by rw[show(FS.new ms.length).seen=List.replicate ms.length false from rfl,aa9]at hv;cases hv);obtain⟨e,yw,h2,h3,h4⟩:=h.ext;have rD:(iW ms ah bh l (FS.new ms.length)).1.next=e:=by rw[yw];rfl
 refine⟨?_,by unfold aZ;rw[rD];exact h2,by unfold aZ;rw[rD];exact h3,by unfold aZ;rw[rD];exact h4⟩;have:=h.eq;unfold aZ;rw[this];rfl
end Go.Proofs.YtpdnofhackjfdaaGreatDoor
