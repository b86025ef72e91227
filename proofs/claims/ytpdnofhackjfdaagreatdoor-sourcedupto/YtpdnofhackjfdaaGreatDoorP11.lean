/- The program's ma -/
import Derived.Test.YtpdnofhackjfdaaGreatDoorP04
set_option linter.all false
set_option maxRecDepth 100000
namespace Go.Proofs.YtpdnofhackjfdaaGreatDoor
open Go.Proofs.Tryz
variable {s:Int} {a a' b b' c c0 d j k l n:Nat} {N N':Nat->Prop}
structure MS where
 kind:Int
 sp:bI
 fo:Bool
 nt:Bool
 eM:Int
 slot:Int
 next:Int
 bj:Int
def bS:MS:=⟨0,[],false,false,0,0,0,0⟩
def pP(sp:bI)(fo nt:Bool)(nx:Int):MS:=⟨1,sp,fo,nt,0,0,nx,0⟩
def sH(e:Int)(nx:Int):MS:=⟨2,[],false,false,e,0,nx,0⟩
def iS(s:Int)(nx:Int):MS:=⟨3,[],false,false,0,s,nx,0⟩
def ku(a b:Int):MS:=⟨4,[],false,false,0,0,a,b⟩
abbrev Ex:=Int×Int
abbrev Bl:=List MS->Ex->List MS×Ex
def fu(s:Int->MS):Bl:=fun st nx=>
 if nx.1=nx.2 then(st++[s nx.2],(st.length,st.length))
 else if nx.1= -1 then(st++[s nx.2],(-1,st.length))
 else(st++[s nx.2]++[s nx.1],(st.length+1,st.length))
def dQ(st:List MS)(a b:Int):List MS×Int:=if a= -1 then(st,b)else if b= -1 then(st,a)else(st++[ku a b],st.length)
def gP(st:List MS)(f s:Ex):List MS×Ex:=
 if f.1=f.2/\s.1=s.2 then((dQ st f.2 s.2).1,((dQ st f.2 s.2).2,(dQ st f.2 s.2).2))
 else((dQ (dQ st f.2 s.2).1 f.1 s.1).1,((dQ (dQ st f.2 s.2).1 f.1 s.1).2,(dQ st f.2 s.2).2))
def dx(lz:Bool)(st:List MS)(part rest:Ex):List MS×Ex:=if lz then gP st rest part else gP st part rest
def nG(part:Bl):Nat->Bl
 |0=>fun st nx=>(st,nx)
 |m+1=>fun st nx=>nG part m (part st nx).1 (part st nx).2
def fT(part:Bl)(lz:Bool)(nx:Ex):Nat->Bl
 |0=>fun st all=>(st,all)
 |m+1=>fun st all=>fT part lz nx m (dx lz (part st all).1 (part st all).2 nx).1 (dx lz (part st all).1 (part st all).2 nx).2
def qI(part:Bl)(lz:Bool):Bl:=fun st nx=>
 dx lz (part (st++[bS]) (-1,st.length)).1 ((part (st++[bS]) (-1,st.length)).2.1,(part (st++[bS]) (-1,st.length)).2.1) nx
def nF(part:Bl)(lz:Bool):Bl:=fun st nx=>((qI part lz st nx).1.set st.length ((qI part lz st nx).1.getD (qI part lz st nx).2.2.toNat bS),(qI part lz st nx).2)
def nH(part:Bl)(lo hi:Int)(lz:Bool):Bl:=fun st nx=>
 if hi= -1 then nG part lo.toNat (nF part lz st nx).1 (nF part lz st nx).2
 else nG part lo.toNat (fT part lz nx (hi-lo).toNat st nx).1 (fT part lz nx (hi-lo).toNat st nx).2
mutual
def bB:CT->Bl
 |.node k sp fo nt ed gr lo hi lz cU=>fun st nx=>
  if k=0 then(st++[pP sp fo nt nx.2],(st.length,st.length))
  else if k=1 then fu (sH ed) st nx
  else if k=2 then
   if gr=0 then mw cU st nx
   else fu (iS (2*(gr-1))) (mw cU (fu (iS (2*(gr-1)+1)) st nx).1 (fu (iS (2*(gr-1)+1)) st nx).2).1 (mw cU (fu (iS (2*(gr-1)+1)) st nx).1 (fu (iS (2*(gr-1)+1)) st nx).2).2
  else if k=3 then km cU st nx
  else if k=4 then jn cU st nx
  else nH (mw cU) lo hi lz st nx
def mw:List CT->Bl
 | []=>fun st nx=>(st,nx)
 |c::_=>bB c
def km:List CT->Bl
 | []=>fun st nx=>(st,nx)
 |c::cs=>fun st nx=>bB c (km cs st nx).1 (km cs st nx).2
def jn:List CT->Bl
 | []=>fun st nx=>(st,nx)
 | [c]=>bB c
 |c::d::cs=>fun st nx=>gP (bB c (jn (d::cs) st nx).1 nx).1 (bB c (jn (d::cs) st nx).1 nx).2 (jn (d::cs) st nx).2
end
mutual
def CT.sz:CT->Int
 |.node k sp fo nt ed gr lo hi lz cU=>
  min (if k=0\/k=1\/k=2 then CT.cK cU+1 else if k=4 then CT.cK cU+((cU.length:Int)-1)else if k=5 then(if hi= -1 then lo+1 else hi)*(CT.cK cU+1)else CT.cK cU) 1001
def CT.cK:List CT->Int
 | []=>0
 |c::cs=>CT.sz c+CT.cK cs
end
mutual
def CT.ok:CT->Prop
 |.node k sp fo nt ed gr lo hi lz cU=>
  (k=0\/k=1\/k=2\/k=3\/k=4\/k=5)/\(k=2\/k=5->cU.length=1)/\(k=4->cU≠ [])/\(k=5->0<=lo/\lo<=20/\ -1<=hi/\hi<=20/\(hi= -1\/lo<=hi))/\CT.eI cU
def CT.eI:List CT->Prop
 | []=>True
 |c::cs=>CT.ok c/\CT.eI cs
end
def df(n:Nat)(nx:Ex):Prop:=(0<=nx.2/\nx.2<n)/\(-1<=nx.1/\nx.1<n)
def sP(n:Nat)(m:MS):Prop:=(0<=m.next/\m.next<n)/\(0<=m.bj/\m.bj<n)
def oV(st:List MS):Prop:=∀m∈st,sP st.length m
theorem sP.mono{m:MS}(h:sP n m)(hle:n<=k):sP k m:=by unfold sP at*;omega
theorem df.mono{x:Ex}(h:df n x)(hle:n<=k):df k x:=by unfold df at*;omega
theorem oV.rE{st:List MS}(h:oV st){m:MS}(hm:sP (st.length+1) m):oV (st++[m]):=by
 intro y hy;simp only[Aj,Ax,Bf];rcases Ap.1 hy with h1|h1
 ·exact(h y h1).mono (by omega)
 ·simp at h1;subst h1;exact hm
def gY(M:List MS)(a b:Nat)(st:List MS):Prop:=∀j,a<=j->j<b->M[j]? =st[j]?
theorem take_take{a b c:List MS}(h1:b.take a.length=a)(h2:c.take b.length=b)(hl:a.length<=b.length):c.take a.length=a:=by
 have e:(c.take b.length).take a.length=c.take a.length:=by rw[Gh,En hl]
 rw[<-e,h2,h1]
theorem MA{a b:List MS}(h:b.take a.length=a)(hj:j<a.length):b[j]? =a[j]? :=by
 have e:(b.take a.length)[j]? =b[j]? :=Av hj;rw[<-e,h]
theorem gY.left{M a b:List MS}(h:gY M l b.length b)(hg:b.take a.length=a)(hle:a.length<=b.length):gY M l a.length a:=fun j h1 h2=>by
 rw[h j h1 (by omega),MA hg h2]
theorem gY.right{M a b:List MS}(h:gY M l b.length b)(hle:l<=a.length):gY M a.length b.length b:=fun j h1 h2=>h j (by omega) h2
inductive eZ(M:List MS):Int->Prop where
 |stop (s:Nat) (m:MS) (h:M[s]? =some m) (hk:m.kind≠2/\m.kind≠3/\m.kind≠4):eZ M s
 |one (s:Nat) (m:MS) (h:M[s]? =some m) (hk:m.kind=2\/m.kind=3) (hn:eZ M m.next):eZ M s
 |cM (s:Nat) (m:MS) (h:M[s]? =some m) (hk:m.kind=4) (hn:eZ M m.next) (ho:eZ M m.bj):eZ M s
theorem eZ.Kk{M:List MS}(h:eZ M s):0<=s:=by cases h<;>omega
def sI(M:List MS)(s:Int):Prop:=s= -1\/eZ M s
theorem sI.vL{M:List MS}(h:sI M s)(hs:s≠ -1):eZ M s:=h.resolve_left hs
def jV(N:Nat->Prop)(nx:Ex)(s:Int):Prop:=(∃j:Nat,s=j/\N j)\/s=nx.2\/(s=nx.1/\nx.1≠ -1)
theorem jV.mono{nx:Ex}(h:jV N nx s)(hN:∀j,N j->N' j):jV N' nx s:=by
 rcases h with⟨j,h1,h2⟩|h
 ·exact Or.inl ⟨j,h1,hN j h2⟩
 ·exact Or.inr h
def FT(P:Int->Prop)(m:MS):Prop:=(m.kind=1\/m.kind=2\/m.kind=3\/m.kind=4->P m.next)/\(m.kind=4->P m.bj)
theorem FT.mono{P Q:Int->Prop}{m:MS}(h:FT P m)(hPQ:∀s,P s->Q s):FT Q m:=⟨fun a=>hPQ _ (h.1 a),fun a=>hPQ _ (h.2 a)⟩
structure lA(M:List MS)(nx:Ex)(N:Nat->Prop)(a b:Nat)(x:Ex):Prop where
 zM:∀j,N j->a<=j/\j<b
 DD:x.1= -1\/jV N nx x.1
 sq:jV N nx x.2
 e1:sI M nx.1->sI M x.1
 e2:eZ M nx.2->eZ M x.2
 cl:∀j,N j->∃m,M[j]? =some m/\FT (jV N nx) m
 es:eZ M nx.2->sI M nx.1->∀j:Nat,N j->eZ M j
theorem lA.refl(M:List MS)(nx:Ex)(a:Nat):lA M nx (fun _=>False) a a nx where
 zM j h:=h.elim
 DD:=by
  by_cases h:nx.1= -1
  ·exact Or.inl h
  ·exact Or.inr (Or.inr (Or.inr ⟨rfl,h⟩))
 sq:=Or.inr (Or.inl rfl)
 e1 h:=h
 e2 h:=h
 cl j h:=h.elim
 es _ _ j h:=h.elim
theorem lA.zA{M:List MS}{nx x:Ex}(h:lA M nx N a b x)(hs:jV N' x s):jV (fun j=>N j\/N' j) nx s:=by
 rcases hs with⟨j,h1,h2⟩|rfl|⟨rfl,h2⟩
 ·exact Or.inl ⟨j,h1,Or.inr h2⟩
 ·exact h.sq.mono (fun j hj=>Or.inl hj)
 ·exact(h.DD.resolve_left h2).mono (fun j hj=>Or.inl hj)
theorem lA.trans{M:List MS}{nx x y:Ex}(h:lA M nx N a b x)(h':lA M x N' b c y)(lG:a<=b)(CC:b<=c):lA M nx (fun j=>N j\/N' j) a c y where
 zM j hj:=by
  rcases hj with hj|hj
  ·have:=h.zM j hj;omega
  ·have:=h'.zM j hj;omega
 DD:=h'.DD.imp_right h.zA
 sq:=h.zA h'.sq
 e1 e:=h'.e1 (h.e1 e)
 e2 e:=h'.e2 (h.e2 e)
 cl j hj:=by
  rcases hj with hj|hj
  ·obtain⟨m,h1,h2⟩:=h.cl j hj;exact⟨m,h1,h2.mono (fun s hs=>hs.mono (fun j hj=>Or.inl hj))⟩
  ·obtain⟨m,h1,h2⟩:=h'.cl j hj;exact⟨m,h1,h2.mono (fun s hs=>h.zA hs)⟩
 es e1 e2 j hj:=by
  rcases hj with hj|hj
  ·exact h.es e1 e2 j hj
  ·exact h'.es (h.e2 e1) (h.e1 e2) j hj
structure BS(f:Bl)(c:Nat):Prop where
 grow:∀st nx,st.length<=(f st nx).1.length/\(f st nx).1.take st.length=st
 bN:∀st nx,(f st nx).1.length<=st.length+c
 fQ:∀st nx,df st.length nx->df (f st nx).1.length (f st nx).2
 om:∀st nx,df st.length nx->oV st->oV (f st nx).1
 sub:∀st nx,df st.length nx->∀M,gY M st.length (f st nx).1.length (f st nx).1->∃N,lA M nx N st.length (f st nx).1.length (f st nx).2
theorem BS.fp{f:Bl}(h:BS f c)(hcd:c<=d):BS f d:=⟨h.grow,fun st nx=>by have:=h.bN st nx;omega,h.fQ,h.om,h.sub⟩
theorem BS.id:BS (fun st nx=>(st,nx)) 0 where
 grow st nx:=⟨Ab _,Bj⟩
 bN st nx:=Ab _
 fQ st nx h:=h
 om st nx _ h:=h
 sub st nx h M hM:=⟨_,lA.refl M nx st.length⟩
theorem BS.comp{f g:Bl}(hf:BS f c)(hg:BS g d):BS (fun st nx=>f (g st nx).1 (g st nx).2) (d+c) where
 grow st nx:=by
  have a:=hg.grow st nx;have b:=hf.grow (g st nx).1 (g st nx).2;exact⟨by omega,take_take a.2 b.2 a.1⟩
 bN st nx:=by
  have a:=hg.bN st nx;have b:=hf.bN (g st nx).1 (g st nx).2;show(f (g st nx).1 (g st nx).2).1.length<=_
  omega
 fQ st nx h:=hf.fQ _ _ (hg.fQ _ _ h)
 om st nx h ha:=hf.om _ _ (hg.fQ _ _ h) (hg.om _ _ h ha)
 sub st nx h M hM:=by
  have a:=hg.grow st nx;have b:=hf.grow (g st nx).1 (g st nx).2;obtain⟨N,hN⟩:=hg.sub st nx h M (hM.left b.2 b.1);obtain⟨N',VH⟩:=hf.sub (g st nx).1 (g st nx).2 (hg.fQ _ _ h) M (hM.right a.1);exact⟨_,hN.trans VH a.1 b.1⟩
theorem yV(st:List MS)(m:MS):(st++[m])[st.length]? =some m:=by simp
theorem gY.at{M st:List MS}(h:gY M a b st){m:MS}(h1:a<=j)(h2:j<b)(hm:st[j]? =some m):M[j]? =some m:=(h j h1 h2).trans hm
theorem BS.take(sp:bI)(fo nt:Bool):BS (fun st nx=>(st++[pP sp fo nt nx.2],((st.length:Int),(st.length:Int)))) 1 where
 grow st nx:=⟨by simp,by simp⟩
 bN st nx:=by simp
 fQ st nx h:=by unfold df;simp;omega
 om st nx h ha:=ha.rE (by unfold df at h;unfold sP pP;simp only;omega)
 sub st nx h M hM:=by
  have hm:M[st.length]? =some (pP sp fo nt nx.2):=hM.at (Ab _) (by simp) (yV _ _);have hE:eZ M (st.length:Int):=eZ.stop _ _ hm ⟨by simp[pP],by simp[pP],by simp[pP]⟩
  exact⟨fun j=>j=st.length,⟨fun j hj=>by subst hj;simp,Or.inr (Or.inl ⟨_,rfl,rfl⟩),Or.inl ⟨_,rfl,rfl⟩,fun _=>Or.inr hE,fun _=>hE,fun j hj=>by
   subst hj;exact⟨_,hm,fun _=>Or.inr (Or.inl rfl),fun h=>by simp[pP]at h⟩,fun _ _ j hj=>by subst hj;exact hE⟩⟩
theorem BS.su(s:Int->MS)(hk:∀n,(s n).kind=2\/(s n).kind=3)(hn:∀n,(s n).next=n/\(s n).bj=0):BS (fu s) 2 where
 grow st nx:=by
  unfold fu;split
  ·exact⟨by simp,by simp⟩
  ·split
   ·exact⟨by simp,by simp⟩
   ·exact⟨by simp,by simp⟩
 bN st nx:=by
  unfold fu;split
  ·simp
  ·split
   ·simp
   ·simp
 fQ st nx h:=by
  unfold df at h;unfold fu;split
  ·unfold df;simp;omega
  ·split
   ·unfold df;simp;omega
   ·unfold df;simp;omega
 om st nx h ha:=by
  have h1:=hn nx.2;have h2:=hn nx.1;unfold df at h;have a1:oV (st++[s nx.2]):=ha.rE (by unfold sP;rw[h1.1,h1.2];omega);unfold fu;split
  ·exact a1
  ·split
   ·exact a1
   ·exact a1.rE (by unfold sP;rw[h2.1,h2.2];simp;omega)
 sub st nx h M hM:=by
  have aS:=hk nx.2;have aU:=hk nx.1;have jZ:=hn nx.2;have pE:=hn nx.1;unfold fu at hM⊢;by_cases c1:nx.1=nx.2
  ·rw[if_pos c1]at hM⊢;have hm:M[st.length]? =some (s nx.2):=hM.at (Ab _) (by simp) (yV _ _);have hE:eZ M nx.2->eZ M (st.length:Int):=(fun e=>eZ.one _ _ hm aS (by rw[jZ.1];exact e));have h0:nx.1≠ -1:=by unfold df at h;omega
   exact⟨fun j=>j=st.length,⟨fun j hj=>by subst hj;simp,Or.inr (Or.inl ⟨_,rfl,rfl⟩),Or.inl ⟨_,rfl,rfl⟩,fun e=>Or.inr (hE (c1▸e.vL h0)),hE,fun j hj=>by
    subst hj;exact⟨_,hm,fun _=>Or.inr (Or.inl jZ.1),fun h=>by rcases aS with e|e<;>omega⟩,fun e _ j hj=>by subst hj;exact hE e⟩⟩
  ·rw[if_neg c1]at hM⊢;by_cases c2:nx.1= -1
   ·rw[if_pos c2]at hM⊢;have hm:M[st.length]? =some (s nx.2):=hM.at (Ab _) (by simp) (yV _ _);have hE:eZ M nx.2->eZ M (st.length:Int):=fun e=>eZ.one _ _ hm aS (by rw[jZ.1];exact e)
    exact⟨fun j=>j=st.length,⟨fun j hj=>by subst hj;simp,Or.inl rfl,Or.inl ⟨_,rfl,rfl⟩,fun e=>Or.inl rfl,hE,fun j hj=>by
     subst hj;exact⟨_,hm,fun _=>Or.inr (Or.inl jZ.1),fun h=>by rcases aS with e|e<;>omega⟩,fun e _ j hj=>by subst hj;exact hE e⟩⟩
   ·rw[if_neg c2]at hM⊢;have hm:M[st.length]? =some (s nx.2):=hM.at (Ab _) (by simp) (by simp)
    have f_:M[st.length+1]? =some (s nx.1):=hM.at (by omega) (by simp) (by
     have:=yV (st++[s nx.2]) (s nx.1);rw[Aj]at this;exact this)
    have hE:eZ M nx.2->eZ M (st.length:Int):=(fun e=>eZ.one _ _ hm aS (by rw[jZ.1];exact e));have hE':sI M nx.1->eZ M ((st.length+1:Nat):Int):=fun e=>eZ.one _ _ f_ aU (by rw[pE.1];exact e.vL c2)
    exact⟨fun j=>j=st.length\/j=st.length+1,⟨fun j hj=>by simp;omega,Or.inr (Or.inl ⟨st.length+1,by simp,Or.inr rfl⟩),Or.inl ⟨_,rfl,Or.inl rfl⟩,fun e=>Or.inr (by have:=hE' e;simpa using this),hE,fun j hj=>by
     rcases hj with rfl|rfl
     ·exact⟨_,hm,fun _=>Or.inr (Or.inl jZ.1),fun h=>by rcases aS with e|e<;>omega⟩
     ·exact⟨_,f_,fun _=>Or.inr (Or.inr ⟨pE.1,c2⟩),fun h=>by rcases aU with e|e<;>omega⟩,fun e e' j hj=>by
     rcases hj with rfl|rfl
     ·exact hE e
     ·exact hE' e'⟩⟩
theorem uh(st:List MS)(a b:Int):st.length<=(dQ st a b).1.length/\(dQ st a b).1.take st.length=st/\(dQ st a b).1.length<=st.length+1:=by
 unfold dQ;split
 ·exact⟨Ab _,Bj,by simp⟩
 ·split
  ·exact⟨Ab _,Bj,by simp⟩
  ·exact⟨by simp,by simp,by simp⟩
theorem abJ{st:List MS}{a b:Int}(ha: -1<=a/\a<st.length)(hb: -1<=b/\b<st.length): -1<=(dQ st a b).2/\(dQ st a b).2<(dQ st a b).1.length/\((a≠ -1\/b≠ -1)->(dQ st a b).2≠ -1)/\(oV st->oV (dQ st a b).1):=by
 unfold dQ;split
 ·exact⟨hb.1,hb.2,fun h=>by rcases h with h|h<;>omega,fun h=>h⟩
 ·split
  ·exact⟨ha.1,ha.2,fun h=>by rcases h with h|h<;>omega,fun h=>h⟩
  ·exact⟨by simp only;omega,by simp only[Aj,Ax,Bf];omega,fun _=>by simp only;omega,fun h=>h.rE (by unfold sP ku;simp only;omega)⟩
theorem Vf{M st:List MS}{nx:Ex}{a b:Int}(hM:gY M st.length (dQ st a b).1.length (dQ st a b).1)(ha:a= -1\/jV N nx a)(hb:b= -1\/jV N nx b):
 ∃N':Nat->Prop,(∀j,N' j->st.length<=j/\j<(dQ st a b).1.length)/\((dQ st a b).2= -1\/jV (fun j=>N j\/N' j) nx (dQ st a b).2)/\(jV N nx a->jV N nx b->jV (fun j=>N j\/N' j) nx (dQ st a b).2)/\
  (sI M a->sI M b->sI M (dQ st a b).2)/\(∀j,N' j->∃m,M[j]? =some m/\FT (jV N nx) m)/\(sI M a->sI M b->∀j:Nat,N' j->eZ M j):=by
 unfold dQ at*;by_cases c1:a= -1
 ·simp only[if_pos c1]at hM⊢;exact⟨fun _=>False,fun j h=>h.elim,hb.imp_right (fun h=>h.mono (fun j hj=>Or.inl hj)),fun _ h=>h.mono (fun j hj=>Or.inl hj),fun _ h=>h,fun j h=>h.elim,fun _ _ j h=>h.elim⟩
 ·simp only[if_neg c1]at hM⊢;by_cases c2:b= -1
  ·simp only[if_pos c2]at hM⊢;exact⟨fun _=>False,fun j h=>h.elim,ha.imp_right (fun h=>h.mono (fun j hj=>Or.inl hj)),fun h _=>h.mono (fun j hj=>Or.inl hj),fun h _=>h,fun j h=>h.elim,fun _ _ j h=>h.elim⟩
  ·simp only[if_neg c2]at hM⊢;have hm:M[st.length]? =some (ku a b):=hM.at (Ab _) (by simp) (yV _ _);have hE:sI M a->sI M b->eZ M (st.length:Int):=(fun e e'=>eZ.cM _ _ hm rfl (e.vL c1) (e'.vL c2));have hi:jV (fun j=>N j\/j=st.length) nx (st.length:Int):=Or.inl ⟨_,rfl,Or.inr rfl⟩
   exact⟨fun j=>j=st.length,fun j h=>by subst h;simp,Or.inr hi,fun _ _=>hi,fun e e'=>Or.inr (hE e e'),fun j h=>by
    subst h;exact⟨_,hm,fun _=>ha.resolve_left c1,fun _=>hb.resolve_left c2⟩,fun e e' j h=>by subst h;exact hE e e'⟩
theorem Gy(st:List MS)(f s:Ex):st.length<=(gP st f s).1.length/\(gP st f s).1.take st.length=st/\(gP st f s).1.length<=st.length+2:=by
 have h1:=uh st f.2 s.2;unfold gP;split
 ·exact⟨h1.1,h1.2.1,by simp only;omega⟩
 ·have h2:=uh (dQ st f.2 s.2).1 f.1 s.1;exact⟨by simp only;omega,take_take h1.2.1 h2.2.1 h1.1,by simp only;omega⟩
theorem Jp{st:List MS}{f s:Ex}(hf:(-1<=f.2/\f.2<st.length)/\(-1<=f.1/\f.1<st.length))(hs:(-1<=s.2/\s.2<st.length)/\(-1<=s.1/\s.1<st.length))(aB:f.2≠ -1\/s.2≠ -1):
 df (gP st f s).1.length (gP st f s).2/\(oV st->oV (gP st f s).1):=by
 have h1:=abJ hf.1 hs.1;have g1:=uh st f.2 s.2;have hv:=h1.2.2.1 aB;unfold gP;split
 ·exact⟨⟨by simp only;omega,by simp only;omega⟩,h1.2.2.2⟩
 ·have h2:=abJ (st:=(dQ st f.2 s.2).1) (a:=f.1) (b:=s.1) (by omega) (by omega);have g2:=uh (dQ st f.2 s.2).1 f.1 s.1;exact⟨⟨by simp only;omega,by simp only;omega⟩,fun h=>h2.2.2.2 (h1.2.2.2 h)⟩
theorem Vh{M st:List MS}{nx:Ex}{f s:Ex}(hf:lA M nx N a b f)(hs:lA M nx N' a' b' s)(h0:c0<=st.length)(Vq:c0<=a)(Vr:c0<=a')(lG:b<=st.length)(CC:b'<=st.length)
 (hM:gY M st.length (gP st f s).1.length (gP st f s).1):∃K,lA M nx K c0 (gP st f s).1.length (gP st f s).2:=by
 have lf:∀{t:Int},jV N nx t->jV (fun j=>N j\/N' j) nx t:=fun h=>h.mono (fun j hj=>Or.inl hj)
 have ls:∀{t:Int},jV N' nx t->jV (fun j=>N j\/N' j) nx t:=fun h=>h.mono (fun j hj=>Or.inr hj)
 have g1:=uh st f.2 s.2
 have old:∀(K:Nat->Prop) j,N j\/N' j->∃m,M[j]? =some m/\FT (jV (fun j=>(N j\/N' j)\/K j) nx) m:=by
  intro K j hj;rcases hj with hj|hj
  ·obtain⟨m,h1,h2⟩:=hf.cl j hj;exact⟨m,h1,h2.mono (fun t ht=>(lf ht).mono (fun j hj=>Or.inl hj))⟩
  ·obtain⟨m,h1,h2⟩:=hs.cl j hj;exact⟨m,h1,h2.mono (fun t ht=>(ls ht).mono (fun j hj=>Or.inl hj))⟩
 unfold gP at hM⊢;by_cases c:f.1=f.2/\s.1=s.2
 ·rw[if_pos c]at hM⊢;obtain⟨K,k1,k2,k3,k4,k5,k6⟩:=Vf (N:=fun j=>N j\/N' j) (nx:=nx) hM (Or.inr (lf hf.sq)) (Or.inr (ls hs.sq));have eD:=k3 (lf hf.sq) (ls hs.sq)
  have gx:eZ M nx.2->eZ M (dQ st f.2 s.2).2:=fun e=>by
   have hx:=k4 (Or.inr (hf.e2 e)) (Or.inr (hs.e2 e));rcases hx with hx|hx
   ·exfalso
    have h0:=(hf.e2 e).Kk;have h1:=(hs.e2 e).Kk;unfold dQ at hx;rw[if_neg (by omega),if_neg (by omega)]at hx;simp only at hx;omega
   ·exact hx
  refine⟨fun j=>(N j\/N' j)\/K j,⟨fun j hj=>?_,Or.inr eD,eD,fun e=>?_,gx,fun j hj=>?_,fun e e' j hj=>?_⟩⟩
  ·rcases hj with(hj|hj)|hj
   ·have:=hf.zM j hj;simp only;omega
   ·have:=hs.zM j hj;simp only;omega
   ·have:=k1 j hj;simp only;omega
  ·exact k4 (c.1▸hf.e1 e) (c.2▸hs.e1 e)
  ·rcases hj with hj|hj
   ·exact old K j hj
   ·obtain⟨m,h1,h2⟩:=k5 j hj;exact⟨m,h1,h2.mono (fun t ht=>ht.mono (fun j hj=>Or.inl hj))⟩
  ·rcases hj with(hj|hj)|hj
   ·exact hf.es e e' j hj
   ·exact hs.es e e' j hj
   ·exact k6 (Or.inr (hf.e2 e)) (Or.inr (hs.e2 e)) j hj
 ·rw[if_neg c]at hM⊢;have g2:=uh (dQ st f.2 s.2).1 f.1 s.1;have iW:gY M st.length (dQ st f.2 s.2).1.length (dQ st f.2 s.2).1:=hM.left g2.2.1 g2.1;have GI:=hM.right (a:=(dQ st f.2 s.2).1) g1.1;obtain⟨K,k1,k2,k3,k4,k5,k6⟩:=Vf (N:=fun j=>N j\/N' j) (nx:=nx) iW (Or.inr (lf hf.sq)) (Or.inr (ls hs.sq));obtain⟨J,j1,j2,j3,j4,j5,j6⟩:=Vf (N:=fun j=>N j\/N' j) (nx:=nx) GI (hf.DD.imp_right lf) (hs.DD.imp_right ls);have eD:=k3 (lf hf.sq) (ls hs.sq)
  have gx:eZ M nx.2->eZ M (dQ st f.2 s.2).2:=fun e=>by
   have hx:=k4 (Or.inr (hf.e2 e)) (Or.inr (hs.e2 e));rcases hx with hx|hx
   ·exfalso
    have h0:=(hf.e2 e).Kk;have h1:=(hs.e2 e).Kk;unfold dQ at hx;rw[if_neg (by omega),if_neg (by omega)]at hx;simp only at hx;omega
   ·exact hx
  refine⟨fun j=>(N j\/N' j)\/(K j\/J j),⟨fun j hj=>?_,?_,?_,fun e=>j4 (hf.e1 e) (hs.e1 e),gx,fun j hj=>?_,fun e e' j hj=>?_⟩⟩
  ·rcases hj with(hj|hj)|(hj|hj)
   ·have:=hf.zM j hj;simp only;omega
   ·have:=hs.zM j hj;simp only;omega
   ·have:=k1 j hj;simp only;omega
   ·have:=j1 j hj;simp only;omega
  ·exact j2.imp_right (fun h=>h.mono (fun j hj=>hj.imp_right Or.inr))
  ·exact eD.mono (fun j hj=>hj.imp_right Or.inl)
  ·rcases hj with hj|(hj|hj)
   ·exact old _ j hj
   ·obtain⟨m,h1,h2⟩:=k5 j hj;exact⟨m,h1,h2.mono (fun t ht=>ht.mono (fun j hj=>Or.inl hj))⟩
   ·obtain⟨m,h1,h2⟩:=j5 j hj;exact⟨m,h1,h2.mono (fun t ht=>ht.mono (fun j hj=>Or.inl hj))⟩
  ·rcases hj with(hj|hj)|(hj|hj)
   ·exact hf.es e e' j hj
   ·exact hs.es e e' j hj
   ·exact k6 (Or.inr (hf.e2 e)) (Or.inr (hs.e2 e)) j hj
   ·exact j6 (hf.e1 e') (hs.e1 e') j hj
theorem uf(lz:Bool)(st:List MS)(f s:Ex):st.length<=(dx lz st f s).1.length/\(dx lz st f s).1.take st.length=st/\(dx lz st f s).1.length<=st.length+2:=by
 unfold dx
 cases lz
 ·exact Gy st f s
 ·exact Gy st s f
theorem yQ{st:List MS}(lz:Bool){f s:Ex}(hf:(-1<=f.2/\f.2<st.length)/\(-1<=f.1/\f.1<st.length))(hs:(-1<=s.2/\s.2<st.length)/\(-1<=s.1/\s.1<st.length))(aB:f.2≠ -1\/s.2≠ -1):
 df (dx lz st f s).1.length (dx lz st f s).2/\(oV st->oV (dx lz st f s).1):=by
 unfold dx
 cases lz
 ·exact Jp hf hs aB
 ·exact Jp hs hf aB.symm
theorem abm{M st:List MS}{nx:Ex}{f s:Ex}(lz:Bool)(hf:lA M nx N a b f)(hs:lA M nx N' a' b' s)(h0:c0<=st.length)(Vq:c0<=a)(Vr:c0<=a')(lG:b<=st.length)(CC:b'<=st.length)
 (hM:gY M st.length (dx lz st f s).1.length (dx lz st f s).1):∃K,lA M nx K c0 (dx lz st f s).1.length (dx lz st f s).2:=by
 unfold dx at*
 cases lz
 ·exact Vh hf hs h0 Vq Vr lG CC hM
 ·exact Vh hs hf h0 Vr Vq CC lG hM
theorem df.l_{x:Ex}(h:df n x):(-1<=x.2/\x.2<n)/\(-1<=x.1/\x.1<n):=by unfold df at h;omega
theorem BS.aI{f g:Bl}(hf:BS f c)(hg:BS g d):BS (fun st nx=>gP (f (g st nx).1 nx).1 (f (g st nx).1 nx).2 (g st nx).2) (d+c+2) where
 grow st nx:=by
  have a:=hg.grow st nx;have b:=hf.grow (g st nx).1 nx;have e:=Gy (f (g st nx).1 nx).1 (f (g st nx).1 nx).2 (g st nx).2;exact⟨by omega,take_take (take_take a.2 b.2 a.1) e.2.1 (by omega)⟩
 bN st nx:=by
  have a:=hg.bN st nx;have b:=hf.bN (g st nx).1 nx;have e:=Gy (f (g st nx).1 nx).1 (f (g st nx).1 nx).2 (g st nx).2;omega
 fQ st nx h:=by
  have a:=hg.grow st nx;have b:=hf.grow (g st nx).1 nx;have x1:=hg.fQ st nx h;have x2:=hf.fQ (g st nx).1 nx (h.mono a.1);exact(Jp x2.l_ (x1.mono b.1).l_ (Or.inl (by have:=x2.1;omega))).1
 om st nx h ha:=by
  have a:=hg.grow st nx;have b:=hf.grow (g st nx).1 nx;have x1:=hg.fQ st nx h;have x2:=hf.fQ (g st nx).1 nx (h.mono a.1);exact(Jp x2.l_ (x1.mono b.1).l_ (Or.inl (by have:=x2.1;omega))).2 (hf.om _ _ (h.mono a.1) (hg.om _ _ h ha))
 sub st nx h M hM:=by
  have a:=hg.grow st nx;have b:=hf.grow (g st nx).1 nx;have e:=Gy (f (g st nx).1 nx).1 (f (g st nx).1 nx).2 (g st nx).2;have iW:gY M st.length (f (g st nx).1 nx).1.length (f (g st nx).1 nx).1:=hM.left e.2.1 e.1;obtain⟨N,hN⟩:=hg.sub st nx h M (iW.left b.2 b.1);obtain⟨N',VH⟩:=hf.sub (g st nx).1 nx (h.mono a.1) M (iW.right a.1);exact Vh VH hN (by omega) a.1 (Ab _) (Ab _) b.1 (hM.right (by omega))
theorem BS.gR{f:Bl}(hf:BS f c):∀m,BS (nG f m) (m*c)
 |0=>by rw[Eo];exact BS.id
 |m+1=>by
  have:=(BS.gR hf m).comp hf;exact this.fp (by rw[Fh];omega)
structure BO(lz:Bool)(part:Bl)(m:Nat)(c:Nat):Prop where
 grow:∀nx st all,st.length<=(fT part lz nx m st all).1.length/\(fT part lz nx m st all).1.take st.length=st
 bN:∀nx st all,(fT part lz nx m st all).1.length<=st.length+c
 fQ:∀nx st all,df st.length nx->df st.length all->df (fT part lz nx m st all).1.length (fT part lz nx m st all).2
 om:∀nx st all,df st.length nx->df st.length all->oV st->oV (fT part lz nx m st all).1
 sub:∀nx st all,df st.length nx->df st.length all->∀M,gY M st.length (fT part lz nx m st all).1.length (fT part lz nx m st all).1->∀a N,a<=st.length->lA M nx N a st.length all->∃N',lA M nx N' a (fT part lz nx m st all).1.length (fT part lz nx m st all).2
theorem BS.nX{f:Bl}(lz:Bool)(hf:BS f c):∀m,BO lz f m (m*(c+2))
 |0=>⟨fun nx st all=>⟨Ab _,Bj⟩,fun nx st all=>by simp[fT],fun nx st all _ h=>h,fun nx st all _ _ h=>h,fun nx st all _ _ M _ a N _ h=>⟨N,h⟩⟩
 |m+1=>by
  have ih:=BS.nX lz hf m;refine⟨fun nx st all=>?_,fun nx st all=>?_,fun nx st all hn ha=>?_,fun nx st all hn ha hA=>?_,fun nx st all hn ha M hM a N hle hN=>?_⟩
  ·have g1:=hf.grow st all;have g2:=uf lz (f st all).1 (f st all).2 nx;have g3:=ih.grow nx (dx lz (f st all).1 (f st all).2 nx).1 (dx lz (f st all).1 (f st all).2 nx).2;exact⟨by unfold fT;omega,take_take (take_take g1.2 g2.2.1 g1.1) g3.2 (by omega)⟩
  ·have g1:=hf.bN st all;have g2:=uf lz (f st all).1 (f st all).2 nx;have g3:=ih.bN nx (dx lz (f st all).1 (f st all).2 nx).1 (dx lz (f st all).1 (f st all).2 nx).2;rw[Fh];unfold fT;omega
  ·have g1:=hf.grow st all;have g2:=uf lz (f st all).1 (f st all).2 nx;have x2:=hf.fQ st all ha;have x3:=yQ lz x2.l_ (hn.mono g1.1).l_ (Or.inl (by have:=x2.1;omega));exact ih.fQ nx _ _ (hn.mono (by omega)) x3.1
  ·have g1:=hf.grow st all;have g2:=uf lz (f st all).1 (f st all).2 nx;have x2:=hf.fQ st all ha;have x3:=yQ lz x2.l_ (hn.mono g1.1).l_ (Or.inl (by have:=x2.1;omega));exact ih.om nx _ _ (hn.mono (by omega)) x3.1 (x3.2 (hf.om _ _ ha hA))
  ·have g1:=hf.grow st all;have g2:=uf lz (f st all).1 (f st all).2 nx;have g3:=ih.grow nx (dx lz (f st all).1 (f st all).2 nx).1 (dx lz (f st all).1 (f st all).2 nx).2;have x2:=hf.fQ st all ha;have x3:=yQ lz x2.l_ (hn.mono g1.1).l_ (Or.inl (by have:=x2.1;omega));have GI:gY M st.length (dx lz (f st all).1 (f st all).2 nx).1.length (dx lz (f st all).1 (f st all).2 nx).1:=gY.left hM g3.2 g3.1;obtain⟨N1,h1⟩:=hf.sub st all ha M (GI.left g2.2.1 g2.1);obtain⟨K,hK⟩:=abm lz (hN.trans h1 hle g1.1) (lA.refl M nx a) (by omega) (Ab _) (Ab _) (Ab _) (by omega) (GI.right g1.1);exact ih.sub nx _ _ (hn.mono (by omega)) x3.1 M (gY.right hM (by omega)) a K (by omega) hK
theorem BO.bs{f:Bl}{lz:Bool}{m:Nat}(h:BO lz f m c):BS (fun st nx=>fT f lz nx m st nx) c where
 grow st nx:=h.grow nx st nx
 bN st nx:=h.bN nx st nx
 fQ st nx hx:=h.fQ nx st nx hx hx
 om st nx hx ha:=h.om nx st nx hx hx ha
 sub st nx hx M hM:=h.sub nx st nx hx hx M hM st.length _ (Ab _) (lA.refl M nx st.length)
theorem abj(lz:Bool)(st:List MS)(nx:Ex):dx lz st (-1,-1) nx=(st,nx):=by
 obtain⟨a,b⟩:=nx;unfold dx gP dQ;by_cases h:a=b
 ·subst h;by_cases h2:a= -1<;>cases lz<;>simp[h2]
 ·by_cases h2:a= -1<;>by_cases h3:b= -1<;>cases lz<;>simp[h,h2,h3]<;>omega
theorem abi(lz:Bool)(st:List MS){t:Int}{nx:Ex}(ht:t≠ -1)(hn:nx.2≠ -1):(dx lz st (t,t) nx).2.2=st.length/\(dx lz st (t,t) nx).1[st.length]? =some (if lz then ku nx.2 t else ku t nx.2):=by
 cases lz
 ·have h1:dQ st t nx.2=(st++[ku t nx.2],(st.length:Int)):=by unfold dQ;rw[if_neg ht,if_neg hn]
  simp only[dx,Aq,if_false];unfold gP;simp only;rw[h1];split
  ·exact⟨rfl,by simp⟩
  ·have g:=uh (st++[ku t nx.2]) t nx.1;exact⟨rfl,(MA g.2.1 (by simp)).trans (by simp)⟩
 ·have h1:dQ st nx.2 t=(st++[ku nx.2 t],(st.length:Int)):=by unfold dQ;rw[if_neg hn,if_neg ht]
  simp only[dx,if_true];unfold gP;simp only;rw[h1];split
  ·exact⟨rfl,by simp⟩
  ·have g:=uh (st++[ku nx.2 t]) nx.1 t;exact⟨rfl,(MA g.2.1 (by simp)).trans (by simp)⟩
theorem BS.loop{f:Bl}(lz:Bool)(hf:BS f c):BS (nF f lz) (c+3) where
 grow st nx:=by
  have g1:=hf.grow (st++[bS]) (-1,st.length);have g2:=uf lz (f (st++[bS]) (-1,st.length)).1 ((f (st++[bS]) (-1,st.length)).2.1,(f (st++[bS]) (-1,st.length)).2.1) nx;have g0:(st++[bS]).take st.length=st:=by simp
  have hl:(st++[bS]).length=st.length+1:=by simp
  rw[hl]at g1;unfold nF qI;refine⟨by simp only[Bp];omega,?_⟩;have e1:(f (st++[bS]) (-1,st.length)).1.take st.length=st:=take_take g0 (by rw[hl];exact g1.2) (by simp);have e2:=take_take e1 g2.2.1 (by omega);simp only;rw[List.take_set,List.set_eq_of_length_le (by simp;omega)];exact e2
 bN st nx:=by
  have g1:=hf.bN (st++[bS]) (-1,st.length);have g2:=uf lz (f (st++[bS]) (-1,st.length)).1 ((f (st++[bS]) (-1,st.length)).2.1,(f (st++[bS]) (-1,st.length)).2.1) nx;have hl:(st++[bS]).length=st.length+1:=by simp
  unfold nF qI;simp only[Bp];omega
 fQ st nx h:=by
  have hl:(st++[bS]).length=st.length+1:=by simp
  have x1:=hf.fQ (st++[bS]) (-1,st.length) (by rw[hl];unfold df;simp only;omega);have g1:=hf.grow (st++[bS]) (-1,st.length);have x2:=x1.2;have x3:=yQ (st:=(f (st++[bS]) (-1,st.length)).1) lz (f:=((f (st++[bS]) (-1,st.length)).2.1,(f (st++[bS]) (-1,st.length)).2.1)) ⟨x2,x2⟩ (h.mono (by omega)).l_ (Or.inr (by have:=h.1;omega));unfold nF qI;simp only[Bp];exact x3.1
 om st nx h ha:=by
  have hl:(st++[bS]).length=st.length+1:=by simp
  have hx:df (st++[bS]).length (-1,(st.length:Int)):=by rw[hl];unfold df;simp only;omega
  have x1:=hf.fQ (st++[bS]) (-1,st.length) hx;have a1:=hf.om (st++[bS]) (-1,st.length) hx (ha.rE (by unfold sP bS;simp only;omega));have g1:=hf.grow (st++[bS]) (-1,st.length);have x2:=x1.2;have x3:=yQ (st:=(f (st++[bS]) (-1,st.length)).1) lz (f:=((f (st++[bS]) (-1,st.length)).2.1,(f (st++[bS]) (-1,st.length)).2.1)) ⟨x2,x2⟩ (h.mono (by omega)).l_ (Or.inr (by have:=h.1;omega));have a3:=x3.2 a1;unfold nF qI;intro m hm;simp only[Bp]at hm⊢;rcases Dw hm with h1|h1
  ·exact a3 m h1
  ·subst h1
   have az:(dx lz (f (st++[bS]) (-1,st.length)).1 ((f (st++[bS]) (-1,st.length)).2.1,(f (st++[bS]) (-1,st.length)).2.1) nx).2.2.toNat<(dx lz (f (st++[bS]) (-1,st.length)).1 ((f (st++[bS]) (-1,st.length)).2.1,(f (st++[bS]) (-1,st.length)).2.1) nx).1.length:=by
    have:=x3.1.1;omega
   rw[Af,Ae az];exact a3 _ (A6 az)
 sub st nx h M hM:=by
  have hl:(st++[bS]).length=st.length+1:=by simp
  have hx:df (st++[bS]).length (-1,(st.length:Int)):=by rw[hl];unfold df;simp only;omega
  have g1:=hf.grow (st++[bS]) (-1,st.length);have x1:=hf.fQ (st++[bS]) (-1,st.length) hx;have afE:=hf.sub (st++[bS]) (-1,st.length) hx M;unfold nF qI at hM⊢;generalize hP:f (st++[bS]) (-1,st.length)=P at*;obtain⟨S,t,u⟩:=P;simp only[Bp]at hM g1 x1 afE⊢;have g2:=uf lz S (t,t) nx;have n2:nx.2≠ -1:=by have:=h.1;omega
  by_cases ht:t= -1
  ·subst ht;rw[abj]at hM⊢;refine⟨fun _=>False,?_⟩;have:=lA.refl M nx st.length;exact⟨fun j hj=>hj.elim,this.DD,this.sq,this.e1,this.e2,this.cl,this.es⟩
  ·have em:=abi lz S (t:=t) (nx:=nx) ht n2;generalize hE:dx lz S (t,t) nx=E at*
   have lg:E.1.getD E.2.2.toNat bS=(if lz then ku nx.2 t else ku t nx.2):=by
    rw[em.1,Az,Af,em.2];rfl
   rw[lg]at hM
   have hA:M[st.length]? =some (if lz then ku nx.2 t else ku t nx.2):=by
    rw[hM st.length (Ab _) (by omega)];exact Ee (by omega)
   have uj:gY M (st.length+1) E.1.length E.1:=fun j h1 h2=>by
    rw[hM j (by omega) h2,Et (by omega)]
   obtain⟨N,hN⟩:=afE (by rw[hl];exact gY.left uj g2.2.1 g2.1);rw[hl]at hN;have J1:eZ M t:=(hN.e1 (Or.inl rfl)).vL ht
   have hAE:eZ M nx.2->eZ M (st.length:Int):=fun e=>by
    cases lz
    ·exact eZ.cM _ _ hA rfl J1 e
    ·exact eZ.cM _ _ hA rfl e J1
   have zA:∀{s:Int},jV N (-1,(st.length:Int)) s->jV (fun j=>N j\/j=st.length) nx s:=by
    intro s hs;rcases hs with⟨j,h1,h2⟩|h1|⟨h1,h2⟩
    ·exact Or.inl ⟨j,h1,Or.inl h2⟩
    ·exact Or.inl ⟨st.length,h1,Or.inr rfl⟩
    ·exact absurd rfl h2
   have eD:jV (fun j=>N j\/j=st.length) nx t:=zA (hN.DD.resolve_left ht)
   have hT:lA M nx (fun j=>N j\/j=st.length) st.length S.length (t,t):=by
    refine⟨fun j hj=>?_,Or.inr eD,eD,fun _=>Or.inr J1,fun _=>J1,fun j hj=>?_,fun e e' j hj=>?_⟩
    ·rcases hj with hj|hj
     ·have:=hN.zM j hj;omega
     ·omega
    ·rcases hj with hj|rfl
     ·obtain⟨m,h1,h2⟩:=hN.cl j hj;exact⟨m,h1,h2.mono (fun s hs=>zA hs)⟩
     ·refine⟨_,hA,?_⟩;have h2:jV (fun j=>N j\/j=st.length) nx nx.2:=Or.inr (Or.inl rfl)
      cases lz
      ·exact⟨fun _=>eD,fun _=>h2⟩
      ·exact⟨fun _=>h2,fun _=>eD⟩
    ·rcases hj with hj|rfl
     ·exact hN.es (hAE e) (Or.inl rfl) j hj
     ·exact hAE e
   have:=abm (st:=S) lz hT (lA.refl M nx st.length) (c0:=st.length) (by omega) (Ab _) (Ab _) (Ab _) (by omega) (by rw[hE];exact fun j h1 h2=>uj j (by omega) h2);rw[hE]at this;exact this
theorem BS.wT{f:Bl}(hf:BS f (4*c))(lo hi:Int)(lz:Bool)(h0:0<=lo)(h1:hi= -1\/lo<=hi):BS (nH f lo hi lz) (4*((if hi= -1 then lo+1 else hi).toNat*(c+1))):=by
 unfold nH;by_cases e:hi= -1
 ·simp only[e,if_true];refine((hf.gR lo.toNat).comp (hf.loop lz)).fp ?_;have:(lo+1).toNat=lo.toNat+1:=by omega
  rw[this,Cw,E6 lo.toNat];have:lo.toNat*(4*c)=4*(lo.toNat*c):=by rw[D4]
  omega
 ·simp only[e,if_false];refine((hf.gR lo.toNat).comp (hf.nX lz (hi-lo).toNat).bs).fp ?_;have hle:lo<=hi:=h1.resolve_left e;obtain⟨d,hd⟩:∃d,hi.toNat=lo.toNat+d:=⟨(hi-lo).toNat,by omega⟩
  have:(hi-lo).toNat=d:=by omega
  rw[this,hd,Cw,E6 lo.toNat,E6 d c,E6 d (4*c)];have:lo.toNat*(4*c)=4*(lo.toNat*c):=by rw[D4]
  have:d*(4*c)=4*(d*c):=by rw[D4]
  omega
mutual
theorem CT.zV:∀C:CT,C.ok->0<=C.sz
 |.node k sp fo nt ed gr lo hi lz cU,h=>by
  unfold CT.ok at h;obtain⟨h1,h2,h3,h5,h6⟩:=h;have hs:=CT.wS cU h6;unfold CT.sz;by_cases k0:k=0\/k=1\/k=2
  ·rw[if_pos k0];omega
  ·rw[if_neg k0];by_cases k4:k=4
   ·rw[if_pos k4];have:=Bt.2 (h3 k4);omega
   ·rw[if_neg k4];by_cases k5:k=5
    ·rw[if_pos k5];have ME:=h5 k5;have:0<=(if hi= -1 then lo+1 else hi)*(CT.cK cU+1):=Int.mul_nonneg (by split<;>omega) (by omega);omega
    ·rw[if_neg k5];omega
theorem CT.wS:∀cs:List CT,CT.eI cs->0<=CT.cK cs
 | [],_=>by simp[CT.cK]
 |c::cs,h=>by
  unfold CT.eI at h;have h1:=CT.zV c h.1;have h2:=CT.wS cs h.2;unfold CT.cK;omega
end
theorem BS.mark(n:Int):BS (fu (iS n)) 2:=BS.su _ (fun _=>Or.inr rfl) (fun _=>⟨rfl,rfl⟩)
theorem BS.rF(n:Int):BS (fu (sH n)) 2:=BS.su _ (fun _=>Or.inl rfl) (fun _=>⟨rfl,rfl⟩)
mutual
theorem oo:∀C:CT,C.ok->C.sz<=1000->BS (bB C) (4*C.sz.toNat)
 |.node k sp fo nt ed gr lo hi lz cU,h,hs=>by
  unfold CT.ok at h;obtain⟨h1,h2,h3,h5,h6⟩:=h;have hn:=CT.wS cU h6;have tc:=aaD cU h6;have GJ:=UF cU h6;have GG:=UE cU h6;unfold CT.sz at hs⊢;unfold bB;by_cases k0:k=0
  ·simp only[k0,if_true,true_or]at hs⊢;exact(BS.take sp fo nt).fp (by omega)
  ·by_cases k1:k=1
   ·simp only[k1,if_true,true_or,or_true,Int.reduceEq,if_false]at hs⊢;exact(BS.rF ed).fp (by omega)
   ·by_cases k2:k=2
    ·simp only[k2,if_true,or_true,Int.reduceEq,if_false]at hs⊢;have hO:=tc (by omega) (h2 (Or.inl k2));by_cases g0:gr=0
     ·simp only[g0,if_true];exact hO.fp (by omega)
     ·simp only[g0,if_false];refine((BS.mark (2*(gr-1))).comp (hO.comp (BS.mark (2*(gr-1)+1)))).fp ?_;omega
    ·have UW:¬(k=0\/k=1\/k=2):=(by omega);rw[if_neg UW]at hs⊢;simp only[k0,k1,k2,if_false];by_cases k3:k=3
     ·simp only[k3,if_true,Int.reduceEq,if_false]at hs⊢;exact(GJ (by omega)).fp (by omega)
     ·by_cases k4:k=4
      ·simp only[k4,if_true,Int.reduceEq,if_false]at hs⊢;have hp:=Bt.2 (h3 k4);exact(GG (by omega) (h3 k4)).fp (by omega)
      ·have k5:k=5:=(by omega);simp only[k5,if_true,Int.reduceEq,if_false]at hs⊢;have hb:=h5 k5;have hc:0<=(if hi= -1 then lo+1 else hi)/\(if hi= -1 then lo+1 else hi)<=21:=by split<;>omega
       generalize jD:(if hi= -1 then lo+1 else hi)=cc at*
       by_cases z:cc=0
       ·have cW:hi=0/\lo=0:=(by split at jD<;>omega);rw[z,Int.zero_mul]
        have e:nH (mw cU) lo hi lz=fun st nx=>(st,nx):=by
         funext st nx
         unfold nH;rw[cW.1,cW.2];rfl
        have e':(fun st nx=>nH (mw cU) lo hi lz st nx)=fun st nx=>(st,nx):=by rw[e]
        rw[e'];exact BS.id
       ·have hm:cc*(CT.cK cU+1)<=1000:=by omega
        have h_:CT.cK cU+1<=cc*(CT.cK cU+1):=by
         have:=D8 (show 1<=cc by omega) (show 0<=CT.cK cU+1 by omega);rw[Int.one_mul]at this;exact this
        have hO:=tc (by omega) (h2 (Or.inr k5));have ht:=BS.wT hO lo hi lz hb.1 hb.2.2.2.2;rw[jD]at ht;refine ht.fp ?_
        have:(cc*(CT.cK cU+1)).toNat=cc.toNat*((CT.cK cU).toNat+1):=by
         rw[Int.toNat_mul hc.1 (by omega)];congr 1;omega
        have e:(min (cc*(CT.cK cU+1)) 1001).toNat=(cc*(CT.cK cU+1)).toNat:=(by omega);rw[e,this];exact Ab _
theorem aaD:∀cs:List CT,CT.eI cs->CT.cK cs<=1000->cs.length=1->BS (mw cs) (4*(CT.cK cs).toNat)
 | [],_,_,hl=>by simp at hl
 | [c],h,hs,_=>by
   unfold CT.eI at h;simp only[CT.cK,Int.add_zero]at hs⊢;unfold mw;exact oo c h.1 hs
 |c::d::cs,h,hs,hl=>by simp at hl
theorem UF:∀cs:List CT,CT.eI cs->CT.cK cs<=1000->BS (km cs) (4*(CT.cK cs).toNat)
 | [],_,_=>by unfold km;exact BS.id.fp (by omega)
 |c::cs,h,hs=>by
  unfold CT.eI at h;have h1:=CT.zV c h.1;have h2:=CT.wS cs h.2;unfold CT.cK at hs⊢;unfold km;refine((oo c h.1 (by omega)).comp (UF cs h.2 (by omega))).fp ?_;omega
theorem UE:∀cs:List CT,CT.eI cs->CT.cK cs<=1000->cs≠ []->BS (jn cs) (4*(CT.cK cs).toNat+2*(cs.length-1))
 | [],_,_,hl=>absurd rfl hl
 | [c],h,hs,_=>by
   unfold CT.eI at h;simp only[CT.cK,Int.add_zero]at hs⊢;unfold jn;exact(oo c h.1 hs).fp (by simp)
 |c::d::cs,h,hs,hl=>by
  have hc:CT.ok c/\CT.eI (d::cs):=by unfold CT.eI at h;exact h
  have h1:=CT.zV c hc.1;have h2:=CT.wS (d::cs) hc.2;have q_:CT.sz c+CT.cK (d::cs)<=1000:=by unfold CT.cK at hs;exact hs
  have e:CT.cK (c::d::cs)=CT.sz c+CT.cK (d::cs):=by rw[CT.cK]
  rw[e];unfold jn;refine((oo c hc.1 (by omega)).aI (UE (d::cs) hc.2 (by omega) (by simp))).fp ?_;simp only[Ax];omega
end
