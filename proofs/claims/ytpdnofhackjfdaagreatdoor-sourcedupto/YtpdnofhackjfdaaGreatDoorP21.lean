/- The events of a  -/
import Derived.Test.YtpdnofhackjfdaaGreatDoorP20
set_option linter.all false
set_option maxRecDepth 100000
namespace Go.Proofs.YtpdnofhackjfdaaGreatDoor
open Go.Proofs.Tryz
variable {C:CT} {k:aL} {a b:aL×aL} {f:aL×aL->aL×aL} {ah bh lo:Int} {E:Int->Nat->Option Nat} {gs:List Int} {ms:List MS} {G i j u:Nat} {O:Nat->Prop} {x:TX} {V:VS} {w:World}
def xz:aL:=fun i gs=>some (i,gs)
def IJ(C:CT)(G:Nat)(x:TX)(i:Nat):iT:=(tM x C (xz,xz)).2 i (List.replicate (2*G) (-1))
structure Ev where
 a:Nat
 b:Nat
 gs:List Int
def c_(T:Nat->iT)(n:Nat):Nat->Nat->Option Nat->List Ev
 |0,_,_=>[]
 |k+1,i,told=>if n<i then []else match T i with
  |none=>c_ T n k (i+1) told
  |some v=>if i=v.1 then(if told=some v.1 then c_ T n k (v.1+1) told else⟨i,v.1,v.2⟩::c_ T n k (v.1+1) (some v.1))else⟨i,v.1,v.2⟩::c_ T n k v.1 (some v.1)
def oc(T:Nat->iT)(n:Nat):Prop:=∀i j gs,i<=n->T i=some (j,gs)->i<=j/\j<=n
def Mq(T:Nat->iT)(n i:Nat)(told:Option Nat):List Ev:=c_ T n (n+1-i) i told
def KU(lo hi:Int)(gs:List Int)(g:Nat):Prop:=(gs.getD (2*g) (-1)= -1/\gs.getD (2*g+1) (-1)= -1)\/(lo<=gs.getD (2*g) (-1)/\gs.getD (2*g) (-1)<=gs.getD (2*g+1) (-1)/\gs.getD (2*g+1) (-1)<=hi)
def LH(x:TX)(lo:Int)(G:Nat)(O:Nat->Prop)(i:Nat)(gs:List Int):Prop:=gs.length=2*G/\∀g,g<G->(¬O g->KU lo (x.aZ i) gs g)/\(O g->lo<=gs.getD (2*g) (-1)/\gs.getD (2*g) (-1)<=x.aZ i)
def PK(x:TX)(lo:Int)(G:Nat)(O:Nat->Prop)(K:aL):Prop:=∀i gs,i<=x.l.length->lo<=x.aZ i->LH x lo G O i gs->∀j dA,K i gs=some (j,dA)->i<=j/\j<=x.l.length/\LH x lo G (fun _=>False) j dA
def PP(x:TX)(lo:Int)(G:Nat)(O:Nat->Prop)(K:aL×aL):Prop:=PK x lo G O K.1/\PK x lo G O K.2
def FW(x:TX):Prop:=∀i j,i<=j->x.aZ i<=x.aZ j
theorem LH.later(hx:FW x)(h:LH x lo G O i gs)(cY:i<=j):LH x lo G O j gs:=by
 have hb:=hx i j cY;refine⟨h.1,fun g hg=>⟨fun hO=>?_,fun hO=>?_⟩⟩
 ·rcases(h.2 g hg).1 hO with h1|h1
  ·exact Or.inl h1
  ·exact Or.inr ⟨h1.1,h1.2.1,by omega⟩
 ·have:=(h.2 g hg).2 hO;omega
theorem PK.gh(x:TX)(lo:Int)(G:Nat)(O:Nat->Prop):PK x lo G O gh:=fun i gs _ _ _ j dA h=>by cases h
theorem PK.lW{a b:aL}(ha:PK x lo G O a)(hb:PK x lo G O b):PK x lo G O (iu a b):=fun i gs h1 h2 h3 j dA h=>by
 unfold iu at h
 cases e:a i gs with
 |none=>rw[e]at h;exact hb i gs h1 h2 h3 j dA h
 |some v=>rw[e]at h;cases h;exact ha i gs h1 h2 h3 j dA e
theorem PP.lW(ha:PP x lo G O a)(hb:PP x lo G O b):PP x lo G O (oz a b):=⟨ha.1.lW hb.1,ha.2.lW hb.2⟩
theorem PP.Gw(lz:Bool)(ha:PP x lo G O a)(hb:PP x lo G O b):PP x lo G O (qL lz a b):=by
 unfold qL
 cases lz
 ·exact ha.lW hb
 ·exact hb.lW ha
theorem PK.take(hx:FW x)(sp:bI)(fo nt:Bool)(hk:PK x lo G O k):PK x lo G O (uY x sp fo nt k):=fun i gs h1 h2 h3 j dA h=>by
 unfold uY at h;split at h
 ·rename_i c
  have az:i<x.l.length:=by simp at c;exact c.1
  have:=hk (i+1) gs az (by have:=hx i (i+1) (by omega);omega) (h3.later hx (by omega)) j dA h;exact⟨by omega,this.2⟩
 ·cases h
theorem PK.rF(ed:Int)(hk:PK x lo G O k):PK x lo G O (zU x ed k):=fun i gs h1 h2 h3 j dA h=>by
 unfold zU at h;split at h
 ·exact hk i gs h1 h2 h3 j dA h
 ·cases h
theorem abR(l:List Int)(k:Nat)(v d:Int)(h:k<l.length):(l.set k v).getD k d=v:=by simp[Af,h]
theorem Mz(l:List Int)(k m:Nat)(v d:Int)(h:k≠m):(l.set k v).getD m d=l.getD m d:=by
 simp[Af,h]
theorem PK.Qv(g:Nat)(hg:g<G)(hk:PK x lo G O k):PK x lo G (fun q=>O q\/q=g) (zD x (2*g+1) k):=fun i gs h1 h2 h3 j dA h=>by
 unfold zD at h;refine hk i _ h1 h2 ?_ j dA h;refine⟨by simp[h3.1],fun q hq=>?_⟩;by_cases e:q=g
 ·subst e;have hl:2*q+1<gs.length:=by have:=h3.1;omega
  have h4:=(h3.2 q hq).2 (Or.inr rfl);rw[KU,abR _ _ _ _ hl,Mz _ _ _ _ _ (by omega)];exact⟨fun _=>Or.inr ⟨h4.1,h4.2,Cm _⟩,fun _=>h4⟩
 ·rw[KU,Mz _ _ _ _ _ (by omega),Mz _ _ _ _ _ (by omega)];exact⟨fun hO=>(h3.2 q hq).1 (fun hx=>hx.elim hO e),fun hO=>(h3.2 q hq).2 (Or.inl hO)⟩
theorem PK.open(g:Nat)(hg:g<G)(hk:PK x lo G (fun q=>O q\/q=g) k):PK x lo G O (zD x (2*g) k):=fun i gs h1 h2 h3 j dA h=>by
 unfold zD at h;refine hk i _ h1 h2 ?_ j dA h;refine⟨by simp[h3.1],fun q hq=>?_⟩;by_cases e:q=g
 ·subst e;have hl:2*q<gs.length:=by have:=h3.1;omega
  rw[abR _ _ _ _ hl];exact⟨fun hO=>absurd (Or.inr rfl) hO,fun _=>⟨h2,Cm _⟩⟩
 ·rw[KU,Mz _ _ _ _ _ (by omega),Mz _ _ _ _ _ (by omega)];exact⟨fun hO=>(h3.2 q hq).1 (fun hx=>hO (Or.inl hx)),fun hO=>(h3.2 q hq).2 (hO.resolve_right e)⟩
def PF(x:TX)(lo:Int)(G:Nat)(f:aL×aL->aL×aL):Prop:=∀O K,PP x lo G O K->PP x lo G O (f K)
theorem PF.iter(hf:PF x lo G f):∀m,PF x lo G (oN f m)
 |0=>fun O K h=>h
 |m+1=>fun O K h=>hf O _ (PF.iter hf m O K h)
theorem PF.nX(hf:PF x lo G f)(lz:Bool){nx:aL×aL}(hn:PP x lo G O nx):∀m,PP x lo G O (oN (zG f lz nx) m nx)
 |0=>hn
 |m+1=>(hf O _ (PF.nX hf lz hn m)).Gw lz hn
theorem PF.again(hf:PF x lo G f)(lz:Bool){rest:aL}(hr:PK x lo G O rest):∀m,PK x lo G O (jA f lz rest m)
 |0=>PK.gh x lo G O
 |m+1=>by
  have h1:=(hf O (gh,jA f lz rest m) ⟨PK.gh x lo G O,PF.again hf lz hr m⟩).1;unfold jA
  cases lz
  ·exact h1.lW hr
  ·exact hr.lW h1
theorem PF.loop(hf:PF x lo G f)(lz:Bool):PF x lo G (uP x f lz):=fun O K h=>by
 have h1:=(hf O (gh,jA f lz K.2 (x.l.length+1)) ⟨PK.gh x lo G O,hf.again lz h.2 _⟩).1;unfold uP;exact PP.Gw lz ⟨h1,h1⟩ h
theorem PF.wT(hf:PF x lo G f)(a b:Int)(lz:Bool):PF x lo G (zY x f a b lz):=fun O K h=>by
 unfold zY;split
 ·exact hf.iter _ O _ (hf.loop lz O K h)
 ·exact hf.iter _ O _ (hf.nX lz h _)
mutual
theorem OI(x:TX)(hx:FW x)(lo:Int)(G:Nat):∀C:CT,C.g_ G->PF x lo G (tM x C)
 |.node k sp fo nt ed gr a b lz cU,hg=>by
  unfold CT.g_ at hg;obtain⟨g1,g2,g3⟩:=hg;have tc:=aoz x hx lo G cU g3;have GJ:=afg x hx lo G cU g3;have GG:=afd x hx lo G cU g3;unfold tM;by_cases k0:k=0
  ·simp only[k0,if_true];exact fun O K h=>⟨PK.take hx sp fo nt h.2,PK.take hx sp fo nt h.2⟩
  ·by_cases k1:k=1
   ·simp only[k1,if_true,Int.reduceEq,if_false];exact fun O K h=>⟨PK.rF ed h.1,PK.rF ed h.2⟩
   ·by_cases k2:k=2
    ·simp only[k2,if_true,Int.reduceEq,if_false];by_cases g0:gr=0
     ·simp only[g0,if_true];exact tc
     ·simp only[g0,if_false];intro O K h;have az:gr.toNat-1<G:=(by omega);have h1:=tc (fun q=>O q\/q=gr.toNat-1) (Ir x (2*(gr.toNat-1)+1) K) ⟨PK.Qv _ az h.1,PK.Qv _ az h.2⟩;exact⟨PK.open _ az h1.1,PK.open _ az h1.2⟩
    ·simp only[k0,k1,k2,if_false];by_cases k3:k=3
     ·simp only[k3,if_true];exact GJ
     ·by_cases k4:k=4
      ·simp only[k4,if_true,Int.reduceEq,if_false];exact GG
      ·simp only[k3,k4,if_false];exact tc.wT a b lz
theorem aoz(x:TX)(hx:FW x)(lo:Int)(G:Nat):∀cs:List CT,CT.fI G cs->PF x lo G (yi x cs)
 | [],_=>fun O K h=>by unfold yi;exact h
 |c::cs,hg=>by
  unfold CT.fI at hg;unfold yi;exact OI x hx lo G c hg.1
theorem afg(x:TX)(hx:FW x)(lo:Int)(G:Nat):∀cs:List CT,CT.fI G cs->PF x lo G (zR x cs)
 | [],_=>fun O K h=>by unfold zR;exact h
 |c::cs,hg=>by
  unfold CT.fI at hg;unfold zR;have h1:=OI x hx lo G c hg.1;have h2:=afg x hx lo G cs hg.2;exact fun O K h=>h1 O _ (h2 O K h)
theorem afd(x:TX)(hx:FW x)(lo:Int)(G:Nat):∀cs:List CT,CT.fI G cs->PF x lo G (yh x cs)
 | [],_=>fun O K h=>by unfold yh;exact⟨PK.gh x lo G O,PK.gh x lo G O⟩
 | [c],hg=>by
   unfold CT.fI at hg;unfold yh;exact OI x hx lo G c hg.1
 |c::d::cs,hg=>by
  unfold CT.fI at hg;unfold yh;have h1:=OI x hx lo G c hg.1;have h2:=afd x hx lo G (d::cs) hg.2;exact fun O K h=>(h1 O K h).lW (h2 O K h)
end
theorem apG(s:ByteArray):FW (iA s):=fun i j h=>by rw[Mb,Mb];have:=fZ s h;omega
theorem abQ(n k:Nat):(List.replicate n (-1:Int)).getD k (-1)= -1:=by
 rw[Af,C3];split<;>rfl
theorem apz(hg:C.g_ G)(s:ByteArray)(hi:i<=(aJ s).length)(h:IJ C G (iA s) i=some (j,gs)):i<=j/\j<=(aJ s).length/\gs.length=2*G/\∀g,g<G->KU (bd s i) (bd s j) gs g:=by
 have h1:=(OI (iA s) (apG s) (bd s i) G C hg (fun _=>False) (xz,xz) ⟨fun i gs a b c j dA h=>by cases h;exact⟨Ab _,a,c⟩,fun i gs a b c j dA h=>by cases h;exact⟨Ab _,a,c⟩⟩).2;obtain⟨a,b,c,d⟩:=h1 i (List.replicate (2*G) (-1)) hi (by rw[Mb];exact Cm _) ⟨by simp,fun g _=>⟨fun _=>Or.inl ⟨abQ _ _,abQ _ _⟩,fun h=>h.elim⟩⟩ j gs h;refine⟨a,b,c,fun g nT=>?_⟩;have:=(d g nT).1 (fun h=>h);rw[Mb]at this;exact this
theorem apA(hg:C.g_ G)(s:ByteArray):oc (IJ C G (iA s)) (aJ s).length:=fun i j gs hi h=>by
 have:=apz hg s hi h;exact⟨this.1,this.2.1⟩
theorem sM.fJ{G:Int}(h:sM C V j)(hq:iJ G (fy C).1):fg (sorted (fy C).1 V):=by
 obtain⟨R,h1,h2,h3⟩:=h.inv;exact aoR h1 h2 (fun m hm=>(hq m hm).2.2) (fun t ht=>h.num t (Or.inr ht))
theorem sM.iI{G:Int}(h:sM C V j)(dB:C.ok)(aW:C.sz<=1000)(hg:C.g_ G)(x:TX)(hu:V.num.getD j 0=(u:Int))(hi:i<=x.l.length)(gs:List Int):cT (sorted (fy C).1 V) x (u:Int) i gs ((tM x C (xz,xz)).2 i gs):=by
 obtain⟨R,h1,h2,h3⟩:=h.inv;have hx:df [bS].length (0,0):=by unfold df;simp
 have g:=(oo C dB aW).grow [bS] (0,0)
 have h0:(fy C).1[0]? =some bS:=by
  have:=MA g.2 (j:=0) (by simp);exact this
 have hr:=(((L7 x G C dB aW hg).1.iI [bS] (0,0) hx (fy C).1 (fun _ _ _=>rfl) (xz,xz) i hi).2 (fun j r_ lY gs=>cT.done 0 bS j gs h0 rfl)) gs;have kF:cT (fy C).1 x (fy C).2.2 i gs ((tM x C (xz,xz)).2 i gs):=hr;rw[h.first]at kF;obtain⟨u',NH⟩:=h.num j (Or.inl rfl);have e:V.num.getD j 0=(u':Int):=x9 NH;have e2:u'=u:=by omega
 subst e2;exact aoS h1 h2 (fun t ht=>h.num t (Or.inr ht)) kF u' (by simpa using NH)
open Go.RowKit Go.Maps
theorem iM.lt(h:iM w):0<w.heap.size/\1<w.heap.size:=
 ⟨Bk _ _ (h.1 0 (by omega)),Bk _ _ (h.2 0 (by omega)).1⟩
structure jj(w:World)(lo hi mb c:Nat)(vs:List Sv)(ms:List MS):Prop where
 iz:jk w mb vs ms
 wR:∀i,(h:i<vs.length)->(h':i<ms.length)->gG w lo hi vs[i] ms[i]
 le:hi<=w.heap.size
 jS:iM w
theorem jj.kept{w':World}{lo hi mb c:Nat}{vs:List Sv}(h:jj w lo hi mb c vs ms)(k:aa ai w w'):jj w' lo hi mb c vs ms:=
 ⟨h.iz.kept k (fun h=>h),fun i a b=>(h.wR i a b).kept k (fun _ _ _ h=>h) h.le,Bh h.le k.size,h.jS.iR k⟩
structure tQ(ms:List MS)(E:Int->Nat->Option Nat)(i:Nat)(ah bh:Int):Prop where
 done:∀(u:Nat) (m:MS),ms[u]? =some m->m.kind=0->E u i=some i
 take:∀(u:Nat) (m:MS),ms[u]? =some m->m.kind=1->E u i=if fW m.sp m.fo m.nt bh=true then E m.next (i+1)else none
 rF:∀(u:Nat) (m:MS),ms[u]? =some m->m.kind=2->E u i=if fi m.eM ah bh=true then E m.next i else none
 mark:∀(u:Nat) (m:MS),ms[u]? =some m->m.kind=3->E u i=E m.next i
 lW:∀(u:Nat) (m:MS),ms[u]? =some m->m.kind=4->E u i=(E m.next i).or (E m.bj i)
abbrev bJ:=Int×Int
structure FS where
 seen:List Bool
 dO:List Bool
 next:List bJ
def ny(m:MS)(bh st:Int)(f:FS):FS:=
 if fW m.sp m.fo m.nt bh&& !f.dO.getD m.next.toNat true then⟨f.seen,f.dO.set m.next.toNat true,f.next++[(m.next,st)]⟩else f
def gH(ms:List MS)(ah bh:Int):Nat->Int->Int->FS->FS×Bool
 |0,_,_,f=>(f,false)
 |d+1,u,st,f=>
  if f.seen.getD u.toNat true then(f,false)else
   match ms[u.toNat]? with
   |none=>(f,false)
   |some m=>
    if m.kind=0 then(⟨f.seen.set u.toNat true,f.dO,f.next⟩,true)
    else if m.kind=1 then(ny m bh st ⟨f.seen.set u.toNat true,f.dO,f.next⟩,false)
    else if m.kind=2 then(if fi m.eM ah bh then gH ms ah bh d m.next st ⟨f.seen.set u.toNat true,f.dO,f.next⟩else(⟨f.seen.set u.toNat true,f.dO,f.next⟩,false))
    else if m.kind=3 then gH ms ah bh d m.next st ⟨f.seen.set u.toNat true,f.dO,f.next⟩
    else if(gH ms ah bh d m.next st ⟨f.seen.set u.toNat true,f.dO,f.next⟩).2 then gH ms ah bh d m.next st ⟨f.seen.set u.toNat true,f.dO,f.next⟩
    else gH ms ah bh d m.bj st (gH ms ah bh d m.next st ⟨f.seen.set u.toNat true,f.dO,f.next⟩).1
def je(ms:List MS)(ah bh:Int):List bJ->FS->FS×Option Int
 | [],f=>(f,none)
 |t::ts,f=>if(gH ms ah bh ms.length t.1 t.2 f).2 then((gH ms ah bh ms.length t.1 t.2 f).1,some t.2)else je ms ah bh ts (gH ms ah bh ms.length t.1 t.2 f).1
def FS.new(n:Nat):FS:=⟨List.replicate n false,List.replicate n false,[]⟩
def bc(ms:List MS)(ah bh:Int)(l:List bJ):List bJ×Option Int:=((je ms ah bh l (FS.new ms.length)).1.next,(je ms ah bh l (FS.new ms.length)).2)
def firstT(E:Int->Nat->Option Nat)(i:Nat)(l:List bJ):Option (Int×Nat):=l.findSome? fun t=>(E t.1 i).map fun j=>(t.2,j)
theorem QE(E:Int->Nat->Option Nat)(i:Nat)(l l':List bJ):firstT E i (l++l')=(firstT E i l).or (firstT E i l'):=by
 unfold firstT;rw[List.findSome?_append]
theorem U7(E:Int->Nat->Option Nat)(i:Nat)(u st:Int):firstT E i [(u,st)]=(E u i).map fun j=>(st,j):=by
 unfold firstT;simp only[List.findSome?_cons,List.findSome?_nil]
 cases E u i<;>rfl
theorem aiA{l:List bJ}{t:bJ}(h:t∈l)(he:(E t.1 i).isSome):(firstT E i l).isSome:=by
 unfold firstT;rw[List.findSome?_isSome_iff];exact⟨t,h,by simpa using he⟩
def AF(E:Int->Nat->Option Nat)(i:Nat)(f:FS)(v:Nat):Prop:=(E (v:Int) i).isSome->(firstT E (i+1) f.next).isSome
def OX(f:FS):Prop:=∀v:Nat,f.dO.getD v false=true->∃t∈f.next,t.1=(v:Int)
def FQ(n:Nat)(f:FS):Prop:=f.seen.length=n/\f.dO.length=n
theorem AF.fp{v:Nat}{f f':FS}{e:List bJ}(h:AF E i f v)(hf:f'.next=f.next++e):AF E i f' v:=fun h1=>by
 rw[hf,QE];have:=h h1
 cases h2:firstT E (i+1) f.next with
 |none=>rw[h2]at this;cases this
 |some v=>rfl
theorem BM(l:List Bool)(k v:Nat)(d:Bool)(h:(l.set k true).getD v d=true):v=k\/l.getD v d=true:=by
 by_cases e:v=k
 ·exact Or.inl e
 ·right
  rw[Af,Et (by omega),<-Af]at h;exact h
structure TC(ms:List MS)(E:Int->Nat->Option Nat)(i:Nat)(u st:Int)(f:FS)(r:FS×Bool):Prop where
 eq:(firstT E (i+1) r.1.next).or (if r.2 then some (st,i)else none)=(firstT E (i+1) f.next).or ((E u i).map fun j=>(st,j))
 seen:r.2=false->∀v:Nat,r.1.seen.getD v false=true->f.seen.getD v false=true\/AF E i r.1 v
 aE:OX r.1
 OJ:FQ ms.length r.1
 ext:∃e:List bJ,r.1.next=f.next++e/\∀t∈e,t.2=st/\0<=t.1/\t.1<ms.length
theorem or_none{α:Type}(a:Option α):a.or none=a:=by cases a<;>rfl
theorem QK{st:Int}{f:FS}{g:FS}(h:firstT E (i+1) g.next=(firstT E (i+1) f.next).or ((E (u:Int) i).map fun j=>(st,j))):AF E i g u:=fun he=>by
 rw[h];obtain⟨j,hj⟩:=Option.isSome_iff_exists.1 he;rw[hj]
 cases firstT E (i+1) f.next<;>rfl
theorem Vb(hg:fg ms)(hE:tQ ms E i ah bh):
 ∀(d u:Nat) (st:Int) (f:FS),u<d->u<ms.length->FQ ms.length f->OX f->(∀v:Nat,v<=u->f.seen.getD v false=true->AF E i f v)->TC ms E i u st f (gH ms ah bh d u st f)
 |0,u,st,f,h,_,_,_,_=>absurd h (by omega)
 |d+1,u,st,f,hd,hu,hs,nb,ND=>by
  have hgu:f.seen.getD u true=f.seen.getD u false:=by
   rw[Af,Af,Ae (by rw[hs.1];exact hu)];rfl
  unfold gH;simp only[Az];by_cases h1:f.seen.getD u true=true
  ·rw[if_pos h1];refine⟨?_,fun _ v hv=>Or.inl hv,nb,hs,⟨[],by simp,by simp⟩⟩;simp only[Aq,if_false,or_none];have:=ND u (Ab _) (by rw[<-hgu];exact h1)
   cases h2:E (u:Int) i with
   |none=>simp
   |some j=>
    have h3:=this (by rw[h2];rfl)
    cases h4:firstT E (i+1) f.next with
    |none=>rw[h4]at h3;cases h3
    |some v=>rfl
  ·rw[if_neg h1,Ae hu];have hm:ms[u]? =some ms[u]:=Ae hu;generalize ms[u]=m at hm⊢;obtain⟨⟨k0,k4⟩,g1,g2,g3⟩:=hg u m hm;have cZ:FQ ms.length ⟨f.seen.set u true,f.dO,f.next⟩:=⟨by rw[Bp];exact hs.1,hs.2⟩;have jM:OX ⟨f.seen.set u true,f.dO,f.next⟩:=nb
   have acG:∀v:Nat,v<u->(f.seen.set u true).getD v false=true->AF E i ⟨f.seen.set u true,f.dO,f.next⟩ v:=fun v hv h=>by
    rcases BM _ _ _ _ h with h|h
    ·omega
    ·exact ND v (by omega) h
   dsimp only;by_cases e0:m.kind=0
   ·rw[if_pos e0];exact⟨by rw[hE.done u m hm e0];rfl,fun h=>(by cases h),jM,cZ,⟨[],by simp,by simp⟩⟩
   ·rw[if_neg e0];by_cases e1:m.kind=1
    ·rw[if_pos e1];have hS:=hE.take u m hm e1;have hn:=g1 e1;obtain⟨mn,dP⟩:∃mn:Nat,m.next=(mn:Int):=⟨m.next.toNat,by omega⟩
     unfold ny;rw[dP,Az];have gJ:mn<f.dO.length:=by rw[hs.2];omega
     have Q8:f.dO.getD mn true=f.dO.getD mn false:=by
      rw[Af,Af,Ae gJ];rfl
     cases ht:fW m.sp m.fo m.nt bh with
     |false=>
      simp only[Ew,Aq,if_false];rw[ht]at hS;simp only[Aq,if_false]at hS;refine⟨by rw[hS];simp,fun _ v hv=>?_,jM,cZ,⟨[],by simp,by simp⟩⟩;rcases BM _ _ _ _ hv with h|h
      ·subst h;refine Or.inr (fun h=>?_);rw[hS]at h
       cases h
      ·exact Or.inl h
     |true=>
      rw[ht,if_pos rfl,dP]at hS;simp only[Fb]
      cases hbq:f.dO.getD mn true with
      |true=>
       simp only[Bool.not_true,Aq,if_false]
       have heq:firstT E (i+1) f.next=(firstT E (i+1) f.next).or ((E (mn:Int) (i+1)).map fun j=>(st,j)):=by
        obtain⟨t,J1,uH⟩:=nb mn (by rw[<-Q8];exact hbq)
        cases h2:E (mn:Int) (i+1)with
        |none=>simp
        |some j=>
         have h3:=aiA (E:=E) (i:=i+1) J1 (by rw[uH,h2];rfl)
         cases h4:firstT E (i+1) f.next with
         |none=>rw[h4]at h3;cases h3
         |some v=>rfl
       refine⟨by rw[hS];simpa[or_none]using heq,fun _ v hv=>?_,jM,cZ,⟨[],by simp,by simp⟩⟩;rcases BM _ _ _ _ hv with h|h
       ·subst h;refine Or.inr (QK (f:=f) (st:=st) ?_);rw[hS];exact heq
       ·exact Or.inl h
      |false=>
       simp only[Bool.not_false,if_true];have heq:firstT E (i+1) (f.next++[((mn:Int),st)])=(firstT E (i+1) f.next).or ((E (mn:Int) (i+1)).map fun j=>(st,j)):=by rw[QE,U7]
       refine⟨by rw[hS];simpa[or_none]using heq,fun _ v hv=>?_,fun v hv=>?_,⟨cZ.1,by simp only[Bp];exact hs.2⟩,⟨[((mn:Int),st)],rfl,by simp;omega⟩⟩
       ·rcases BM _ _ _ _ hv with h|h
        ·subst h;refine Or.inr (QK (f:=f) (st:=st) ?_);rw[hS];exact heq
        ·exact Or.inl h
       ·rcases BM _ _ _ _ hv with h|h
        ·subst h;exact⟨((v:Int),st),by simp,rfl⟩
        ·obtain⟨t,h1,h2⟩:=nb v h;exact⟨t,by simp[h1],h2⟩
    ·rw[if_neg e1];have hn:=g2 (by omega);obtain⟨mn,dP⟩:∃mn:Nat,m.next=(mn:Int):=⟨m.next.toNat,by omega⟩
     have IH:=Vb hg hE d mn st ⟨f.seen.set u true,f.dO,f.next⟩ (by omega) (by omega) cZ jM (fun v hv h=>acG v (by omega) h)
     have aaf:∀r:FS×Bool,TC ms E i mn st ⟨f.seen.set u true,f.dO,f.next⟩ r->E (u:Int) i=E (mn:Int) i->TC ms E i u st f r:=fun r h M4=>by
      refine⟨by rw[M4];exact h.eq,fun hr v hv=>?_,h.aE,h.OJ,h.ext⟩;rcases h.seen hr v hv with h'|h'
      ·rcases BM _ _ _ _ h' with BP|BP
       ·subst BP;refine Or.inr (QK (f:=f) (st:=st) ?_);rw[M4,<-h.eq,hr];simp
       ·exact Or.inl BP
      ·exact Or.inr h'
     by_cases e2:m.kind=2
     ·rw[if_pos e2];have hS:=hE.rF u m hm e2
      cases hh:fi m.eM ah bh with
      |true=>
       rw[if_pos rfl,dP];refine aaf _ IH ?_;rw[hS,hh,if_pos rfl,dP]
      |false=>
       rw[hh]at hS;simp only[Aq,if_false]at hS⊢;refine⟨by rw[hS];simp,fun _ v hv=>?_,jM,cZ,⟨[],by simp,by simp⟩⟩;rcases BM _ _ _ _ hv with h|h
       ·subst h;refine Or.inr (fun h=>?_);rw[hS]at h;cases h
       ·exact Or.inl h
     ·rw[if_neg e2];by_cases e3:m.kind=3
      ·rw[if_pos e3,dP];refine aaf _ IH ?_;rw[hE.mark u m hm e3,dP]
      ·have e4:m.kind=4:=(by omega);rw[if_neg e3,dP];have ho:=g3 e4;obtain⟨mo,fD⟩:∃mo:Nat,m.bj=(mo:Int):=⟨m.bj.toNat,by omega⟩
       have hS:=hE.lW u m hm e4;rw[dP,fD]at hS;rw[fD];generalize gH ms ah bh d (mn:Int) st ⟨f.seen.set u true,f.dO,f.next⟩=r at IH⊢
       cases hr:r.2 with
       |true=>
        rw[if_pos rfl];refine⟨?_,fun h=>(by rw[hr]at h;cases h),IH.aE,IH.OJ,IH.ext⟩;have h0:=IH.eq;rw[hr]at h0;simp only[if_true]at h0;rw[hr];simp only[if_true];rw[h0,hS]
        cases h5:firstT E (i+1) f.next with
        |some v=>rfl
        |none=>
         rw[h5]at h0
         cases h6:E (mn:Int) i with
         |some j=>rfl
         |none=>
          rw[h6]at h0;exfalso
          cases h7:firstT E (i+1) r.1.next<;>rw[h7]at h0<;>cases h0
       |false=>
        simp only[Aq,if_false]
        have IO:=Vb hg hE d mo st r.1 (by omega) (by omega) IH.OJ IH.aE (fun v hv h=>by
         rcases IH.seen hr v h with h'|h'
         ·obtain⟨e,zc,_⟩:=IH.ext;exact(acG v (by omega) h').fp zc
         ·exact h')
        have h0:=IH.eq;rw[hr]at h0;simp only[Aq,if_false,or_none]at h0
        have heq:(firstT E (i+1) r.1.next).or ((E (mo:Int) i).map fun j=>(st,j))=(firstT E (i+1) f.next).or ((E (u:Int) i).map fun j=>(st,j)):=by
         rw[h0,hS,D7];congr 1
         cases E (mn:Int) i<;>rfl
        obtain⟨e,zc,rY⟩:=IH.ext;obtain⟨e',Ra,ajt⟩:=IO.ext;refine⟨IO.eq.trans heq,fun qZ v hv=>?_,IO.aE,IO.OJ,⟨e++e',by rw[Ra,zc,Bu],fun t ht=>?_⟩⟩
        ·rcases IO.seen qZ v hv with h'|h'
         ·rcases IH.seen hr v h' with BP|BP
          ·rcases BM _ _ _ _ BP with h3|h3
           ·subst h3;refine Or.inr (QK (f:=f) (st:=st) ?_);have:=IO.eq;rw[qZ]at this;simp only[Aq,if_false,or_none]at this;rw[this];exact heq
           ·exact Or.inl h3
          ·exact Or.inr (BP.fp Ra)
         ·exact Or.inr h'
        ·rcases Ap.1 ht with h|h
         ·exact rY t h
         ·exact ajt t h
def AS(ms:List MS)(l:List bJ):Prop:=(∀t∈l,0<=t.1/\t.1<ms.length)/\(l.map (·.2)).Pairwise (· <= ·)
structure agt(ms:List MS)(E:Int->Nat->Option Nat)(i:Nat)(l:List bJ)(f:FS)(r:FS×Option Int):Prop where
 eq:(firstT E (i+1) r.1.next).or (r.2.map fun st=>(st,i))=(firstT E (i+1) f.next).or (firstT E i l)
 ext:∃e:List bJ,r.1.next=f.next++e/\AS ms e/\(∀t∈e,∃q∈l,q.2=t.2)/\∀st,r.2=some st->(∃q∈l,q.2=st)/\∀t∈e,t.2<=st
theorem afA(hg:fg ms)(hE:tQ ms E i ah bh):
 ∀(l:List bJ) (f:FS),AS ms l->FQ ms.length f->OX f->(∀v:Nat,f.seen.getD v false=true->AF E i f v)->agt ms E i l f (je ms ah bh l f)
 | [],f,_,_,_,_=>⟨by unfold je firstT;simp,⟨[],by unfold je;simp,⟨by simp,by simp⟩,by simp,fun st h=>by unfold je at h;cases h⟩⟩
 |t::ts,f,hl,hs,nb,ND=>by
  have ht:=hl.1 t (by simp);obtain⟨u,hu⟩:∃u:Nat,t.1=(u:Int):=⟨t.1.toNat,by omega⟩
  have kI:u<ms.length:=by omega
  have rj:∀q∈ts,t.2<=q.2:=fun q hq=>by
   have:=hl.2;simp only[Ch,Cy]at this;exact this.1 _ (Be.2 ⟨q,hq,rfl⟩)
  have F:=Vb hg hE ms.length u t.2 f kI kI hs nb (fun v _ h=>ND v h);unfold je;rw[hu];generalize gH ms ah bh ms.length (u:Int) t.2 f=r at F⊢;obtain⟨e,zc,rY⟩:=F.ext
  have Vy:AS ms e:=⟨fun q hq=>(rY q hq).2,by
   rw[List.pairwise_map];exact List.pairwise_of_forall_mem_list (fun a ha b hb=>by rw[(rY a ha).1,(rY b hb).1];exact Cm _)⟩
  have JK:firstT E i (t::ts)=((E (u:Int) i).map fun j=>(t.2,j)).or (firstT E i ts):=by
   have:=QE E i [t] ts;rw[show t=(t.1,t.2)from rfl]at this;rw[show(t::ts)=[(t.1,t.2)]++ts from rfl,this,U7,hu]
  rw[<-show(E t.1 i)=E (u:Int) i by rw[hu]]at JK
  cases hr:r.2 with
  |true=>
   rw[if_pos rfl];have h0:=F.eq;rw[hr]at h0;simp only[if_true]at h0;refine⟨?_,⟨e,zc,Vy,fun q hq=>⟨t,by simp,by rw[(rY q hq).1]⟩,fun st h=>?_⟩⟩
   ·simp only[Da];rw[h0,JK,hu,<-D7]
    cases h5:firstT E (i+1) f.next with
    |some v=>rfl
    |none=>
     rw[h5]at h0
     cases h6:E (u:Int) i with
     |some j=>rfl
     |none=>
      rw[h6]at h0;exfalso
      cases h7:firstT E (i+1) r.1.next<;>rw[h7]at h0<;>cases h0
   ·cases h;exact⟨⟨t,by simp,rfl⟩,fun q hq=>by rw[(rY q hq).1];exact Cm _⟩
  |false=>
   simp only[Aq,if_false];have h0:=F.eq;rw[hr]at h0;simp only[Aq,if_false,or_none]at h0
   have IH:=afA hg hE ts r.1 ⟨fun q hq=>hl.1 q (by simp[hq]),by have:=hl.2;simp only[Ch,Cy]at this;exact this.2⟩ F.OJ F.aE (fun v hv=>by
    rcases F.seen hr v hv with h'|h'
    ·exact(ND v h').fp zc
    ·exact h')
   generalize je ms ah bh ts r.1=q at IH⊢
   obtain⟨e',Ra,abZ,f_,hd'⟩:=IH.ext;refine⟨?_,⟨e++e',by rw[Ra,zc,Bu],⟨fun a ha=>?_,?_⟩,fun a ha=>?_,fun st h=>?_⟩⟩
   ·rw[IH.eq,h0,JK,hu,D7]
   ·rcases Ap.1 ha with h|h
    ·exact Vy.1 a h
    ·exact abZ.1 a h
   ·rw[Ca,Cd];refine⟨Vy.2,abZ.2,fun a ha b hb=>?_⟩;obtain⟨a',xF,rfl⟩:=Be.1 ha;obtain⟨b',jM,rfl⟩:=Be.1 hb;obtain⟨c,nR,jq⟩:=f_ b' jM;rw[(rY a' xF).1,<-jq];exact rj c nR
   ·rcases Ap.1 ha with h|h
    ·exact⟨t,by simp,by rw[(rY a h).1]⟩
    ·obtain⟨c,nR,jq⟩:=f_ a h;exact⟨c,by simp[nR],jq⟩
   ·obtain⟨⟨c,nR,jq⟩,CH⟩:=hd' st h;refine⟨⟨c,by simp[nR],jq⟩,fun a ha=>?_⟩;rcases Ap.1 ha with h|h
    ·rw[(rY a h).1,<-jq];exact rj c nR
    ·exact CH a h
theorem abP(n v:Nat):(List.replicate n false).getD v false=false:=by
 rw[Af,C3];split<;>rfl
theorem YF(hg:fg ms)(hE:tQ ms E i ah bh){l:List bJ}(hl:AS ms l):
 firstT E i l=(firstT E (i+1) (bc ms ah bh l).1).or ((bc ms ah bh l).2.map fun st=>(st,i))/\
 AS ms (bc ms ah bh l).1/\(∀t∈ (bc ms ah bh l).1,∃q∈l,q.2=t.2)/\∀st,(bc ms ah bh l).2=some st->(∃q∈l,q.2=st)/\∀t∈ (bc ms ah bh l).1,t.2<=st:=by
 have h:=afA hg hE l (FS.new ms.length) hl ⟨by simp[FS.new],by simp[FS.new]⟩ (fun v hv=>by rw[show(FS.new ms.length).dO=List.replicate ms.length false from rfl,abP]at hv;cases hv) (fun v hv=>by rw[show(FS.new ms.length).seen=List.replicate ms.length false from rfl,abP]at hv;cases hv);obtain⟨e,zc,h2,h3,h4⟩:=h.ext;have rY:(je ms ah bh l (FS.new ms.length)).1.next=e:=by rw[zc];rfl
 refine⟨?_,by unfold bc;rw[rY];exact h2,by unfold bc;rw[rY];exact h3,by unfold bc;rw[rY];exact h4⟩;have:=h.eq;unfold bc;rw[this];rfl
