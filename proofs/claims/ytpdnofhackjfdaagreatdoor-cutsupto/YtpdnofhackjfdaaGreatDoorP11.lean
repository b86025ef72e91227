/- The program's machine as plain functions (a mirror of machin -/
import Derived.Test.YtpdnofhackjfdaaGreatDoorP04
set_option linter.all false
set_option maxRecDepth 100000
namespace Go.Proofs.YtpdnofhackjfdaaGreatDoor
open Go.Proofs.Tryz
variable {s:Int} {a a' b b' c c0 d j k l n:Nat} {N N':Nat->Prop}
structure MS where
 kind:Int
 sp:bD
 fo:Bool
 nt:Bool
 eo:Int
 slot:Int
 next:Int
 a_:Int
def bL:MS:=⟨0,[],false,false,0,0,0,0⟩
def pk(sp:bD)(fo nt:Bool)(nx:Int):MS:=⟨1,sp,fo,nt,0,0,nx,0⟩
def si(e:Int)(nx:Int):MS:=⟨2,[],false,false,e,0,nx,0⟩
def iG(s:Int)(nx:Int):MS:=⟨3,[],false,false,0,s,nx,0⟩
def j_(a b:Int):MS:=⟨4,[],false,false,0,0,a,b⟩
abbrev Ex:=Int×Int
abbrev Bl:=List MS->Ex->List MS×Ex
def eZ(s:Int->MS):Bl:=fun st nx=>
 if nx.1=nx.2 then(st++[s nx.2],(st.length,st.length))
 else if nx.1= -1 then(st++[s nx.2],(-1,st.length))
 else(st++[s nx.2]++[s nx.1],(st.length+1,st.length))
def dH(st:List MS)(a b:Int):List MS×Int:=if a= -1 then(st,b)else if b= -1 then(st,a)else(st++[j_ a b],st.length)
def gE(st:List MS)(f s:Ex):List MS×Ex:=
 if f.1=f.2/\s.1=s.2 then((dH st f.2 s.2).1,((dH st f.2 s.2).2,(dH st f.2 s.2).2))
 else((dH (dH st f.2 s.2).1 f.1 s.1).1,((dH (dH st f.2 s.2).1 f.1 s.1).2,(dH st f.2 s.2).2))
def dg(lz:Bool)(st:List MS)(part rest:Ex):List MS×Ex:=if lz then gE st rest part else gE st part rest
def nc(part:Bl):Nat->Bl
 |0=>fun st nx=>(st,nx)
 |m+1=>fun st nx=>nc part m (part st nx).1 (part st nx).2
def fJ(part:Bl)(lz:Bool)(nx:Ex):Nat->Bl
 |0=>fun st all=>(st,all)
 |m+1=>fun st all=>fJ part lz nx m (dg lz (part st all).1 (part st all).2 nx).1 (dg lz (part st all).1 (part st all).2 nx).2
def qj(part:Bl)(lz:Bool):Bl:=fun st nx=>
 dg lz (part (st++[bL]) (-1,st.length)).1 ((part (st++[bL]) (-1,st.length)).2.1,(part (st++[bL]) (-1,st.length)).2.1) nx
def nb(part:Bl)(lz:Bool):Bl:=fun st nx=>((qj part lz st nx).1.set st.length ((qj part lz st nx).1.getD (qj part lz st nx).2.2.toNat bL),(qj part lz st nx).2)
def nd(part:Bl)(lo hi:Int)(lz:Bool):Bl:=fun st nx=>
 if hi= -1 then nc part lo.toNat (nb part lz st nx).1 (nb part lz st nx).2
 else nc part lo.toNat (fJ part lz nx (hi-lo).toNat st nx).1 (fJ part lz nx (hi-lo).toNat st nx).2
mutual
def bm:CT->Bl
 |.node k sp fo nt ed gr lo hi lz cN=>fun st nx=>
  if k=0 then(st++[pk sp fo nt nx.2],(st.length,st.length))
  else if k=1 then eZ (si ed) st nx
  else if k=2 then
   if gr=0 then l8 cN st nx
   else eZ (iG (2*(gr-1))) (l8 cN (eZ (iG (2*(gr-1)+1)) st nx).1 (eZ (iG (2*(gr-1)+1)) st nx).2).1 (l8 cN (eZ (iG (2*(gr-1)+1)) st nx).1 (eZ (iG (2*(gr-1)+1)) st nx).2).2
  else if k=3 then j7 cN st nx
  else if k=4 then jf cN st nx
  else nd (l8 cN) lo hi lz st nx
def l8:List CT->Bl
 | []=>fun st nx=>(st,nx)
 |c::_=>bm c
def j7:List CT->Bl
 | []=>fun st nx=>(st,nx)
 |c::cs=>fun st nx=>bm c (j7 cs st nx).1 (j7 cs st nx).2
def jf:List CT->Bl
 | []=>fun st nx=>(st,nx)
 | [c]=>bm c
 |c::d::cs=>fun st nx=>gE (bm c (jf (d::cs) st nx).1 nx).1 (bm c (jf (d::cs) st nx).1 nx).2 (jf (d::cs) st nx).2
end
mutual
def CT.sz:CT->Int
 |.node k sp fo nt ed gr lo hi lz cN=>
  min (if k=0\/k=1\/k=2 then CT.cB cN+1 else if k=4 then CT.cB cN+((cN.length:Int)-1)else if k=5 then(if hi= -1 then lo+1 else hi)*(CT.cB cN+1)else CT.cB cN) 1001
def CT.cB:List CT->Int
 | []=>0
 |c::cs=>CT.sz c+CT.cB cs
end
mutual
def CT.ok:CT->Prop
 |.node k sp fo nt ed gr lo hi lz cN=>
  (k=0\/k=1\/k=2\/k=3\/k=4\/k=5)/\(k=2\/k=5->cN.length=1)/\(k=4->cN≠ [])/\(k=5->0<=lo/\lo<=20/\ -1<=hi/\hi<=20/\(hi= -1\/lo<=hi))/\CT.d_ cN
def CT.d_:List CT->Prop
 | []=>True
 |c::cs=>CT.ok c/\CT.d_ cs
end
def cZ(n:Nat)(nx:Ex):Prop:=(0<=nx.2/\nx.2<n)/\(-1<=nx.1/\nx.1<n)
def sy(n:Nat)(m:MS):Prop:=(0<=m.next/\m.next<n)/\(0<=m.a_/\m.a_<n)
def oF(st:List MS):Prop:=∀m∈st,sy st.length m
theorem sy.mono{m:MS}(h:sy n m)(hle:n<=k):sy k m:=by unfold sy at*;omega
theorem cZ.mono{x:Ex}(h:cZ n x)(hle:n<=k):cZ k x:=by unfold cZ at*;omega
theorem oF.qS{st:List MS}(h:oF st){m:MS}(hm:sy (st.length+1) m):oF (st++[m]):=by
 intro y hy;simp only[Aj,Ax,Bb];rcases Ap.1 hy with h1|h1
 ·exact(h y h1).mono (by omega)
 ·simp at h1;subst h1;exact hm
def gL(M:List MS)(a b:Nat)(st:List MS):Prop:=∀j,a<=j->j<b->M[j]? =st[j]?
theorem take_take{a b c:List MS}(h1:b.take a.length=a)(h2:c.take b.length=b)(hl:a.length<=b.length):c.take a.length=a:=by
 have e:(c.take b.length).take a.length=c.take a.length:=by rw[List.take_take,Nat.min_eq_left hl]
 rw[<-e,h2,h1]
theorem Lt{a b:List MS}(h:b.take a.length=a)(hj:j<a.length):b[j]? =a[j]? :=by
 have e:(b.take a.length)[j]? =b[j]? :=Av hj;rw[<-e,h]
theorem gL.left{M a b:List MS}(h:gL M l b.length b)(hg:b.take a.length=a)(hle:a.length<=b.length):gL M l a.length a:=fun j h1 h2=>by
 rw[h j h1 (by omega),Lt hg h2]
theorem gL.right{M a b:List MS}(h:gL M l b.length b)(hle:l<=a.length):gL M a.length b.length b:=fun j h1 h2=>h j (by omega) h2
inductive eL(M:List MS):Int->Prop where
 |stop (s:Nat) (m:MS) (h:M[s]? =some m) (hk:m.kind≠2/\m.kind≠3/\m.kind≠4):eL M s
 |one (s:Nat) (m:MS) (h:M[s]? =some m) (hk:m.kind=2\/m.kind=3) (hn:eL M m.next):eL M s
 |cE (s:Nat) (m:MS) (h:M[s]? =some m) (hk:m.kind=4) (hn:eL M m.next) (ho:eL M m.a_):eL M s
theorem eL.Js{M:List MS}(h:eL M s):0<=s:=by cases h<;>omega
def sj(M:List MS)(s:Int):Prop:=s= -1\/eL M s
theorem sj.vf{M:List MS}(h:sj M s)(hs:s≠ -1):eL M s:=h.resolve_left hs
def jN(N:Nat->Prop)(nx:Ex)(s:Int):Prop:=(∃j:Nat,s=j/\N j)\/s=nx.2\/(s=nx.1/\nx.1≠ -1)
theorem jN.mono{nx:Ex}(h:jN N nx s)(hN:∀j,N j->N' j):jN N' nx s:=by
 rcases h with⟨j,h1,h2⟩|h
 ·exact Or.inl ⟨j,h1,hN j h2⟩
 ·exact Or.inr h
def DG(P:Int->Prop)(m:MS):Prop:=(m.kind=1\/m.kind=2\/m.kind=3\/m.kind=4->P m.next)/\(m.kind=4->P m.a_)
theorem DG.mono{P Q:Int->Prop}{m:MS}(h:DG P m)(hPQ:∀s,P s->Q s):DG Q m:=⟨fun a=>hPQ _ (h.1 a),fun a=>hPQ _ (h.2 a)⟩
structure lg(M:List MS)(nx:Ex)(N:Nat->Prop)(a b:Nat)(x:Ex):Prop where
 yV:∀j,N j->a<=j/\j<b
 A_:x.1= -1\/jN N nx x.1
 rP:jN N nx x.2
 e1:sj M nx.1->sj M x.1
 e2:eL M nx.2->eL M x.2
 cl:∀j,N j->∃m,M[j]? =some m/\DG (jN N nx) m
 es:eL M nx.2->sj M nx.1->∀j:Nat,N j->eL M j
theorem lg.refl(M:List MS)(nx:Ex)(a:Nat):lg M nx (fun _=>False) a a nx where
 yV j h:=h.elim
 A_:=by
  by_cases h:nx.1= -1
  ·exact Or.inl h
  ·exact Or.inr (Or.inr (Or.inr ⟨rfl,h⟩))
 rP:=Or.inr (Or.inl rfl)
 e1 h:=h
 e2 h:=h
 cl j h:=h.elim
 es _ _ j h:=h.elim
theorem lg.yJ{M:List MS}{nx x:Ex}(h:lg M nx N a b x)(hs:jN N' x s):jN (fun j=>N j\/N' j) nx s:=by
 rcases hs with⟨j,h1,h2⟩|rfl|⟨rfl,h2⟩
 ·exact Or.inl ⟨j,h1,Or.inr h2⟩
 ·exact h.rP.mono (fun j hj=>Or.inl hj)
 ·exact(h.A_.resolve_left h2).mono (fun j hj=>Or.inl hj)
theorem lg.trans{M:List MS}{nx x y:Ex}(h:lg M nx N a b x)(h':lg M x N' b c y)(lq:a<=b)(AB:b<=c):lg M nx (fun j=>N j\/N' j) a c y where
 yV j hj:=by
  rcases hj with hj|hj
  ·have:=h.yV j hj;omega
  ·have:=h'.yV j hj;omega
 A_:=h'.A_.imp_right h.yJ
 rP:=h.yJ h'.rP
 e1 e:=h'.e1 (h.e1 e)
 e2 e:=h'.e2 (h.e2 e)
 cl j hj:=by
  rcases hj with hj|hj
  ·obtain⟨m,h1,h2⟩:=h.cl j hj;exact⟨m,h1,h2.mono (fun s hs=>hs.mono (fun j hj=>Or.inl hj))⟩
  ·obtain⟨m,h1,h2⟩:=h'.cl j hj;exact⟨m,h1,h2.mono (fun s hs=>h.yJ hs)⟩
 es e1 e2 j hj:=by
  rcases hj with hj|hj
  ·exact h.es e1 e2 j hj
  ·exact h'.es (h.e2 e1) (h.e1 e2) j hj
structure BS(f:Bl)(c:Nat):Prop where
 grow:∀st nx,st.length<=(f st nx).1.length/\(f st nx).1.take st.length=st
 bT:∀st nx,(f st nx).1.length<=st.length+c
 fG:∀st nx,cZ st.length nx->cZ (f st nx).1.length (f st nx).2
 nU:∀st nx,cZ st.length nx->oF st->oF (f st nx).1
 sub:∀st nx,cZ st.length nx->∀M,gL M st.length (f st nx).1.length (f st nx).1->∃N,lg M nx N st.length (f st nx).1.length (f st nx).2
theorem BS.eV{f:Bl}(h:BS f c)(hcd:c<=d):BS f d:=⟨h.grow,fun st nx=>by have:=h.bT st nx;omega,h.fG,h.nU,h.sub⟩
theorem BS.id:BS (fun st nx=>(st,nx)) 0 where
 grow st nx:=⟨Ab _,Cl⟩
 bT st nx:=Ab _
 fG st nx h:=h
 nU st nx _ h:=h
 sub st nx h M hM:=⟨_,lg.refl M nx st.length⟩
theorem BS.comp{f g:Bl}(hf:BS f c)(hg:BS g d):BS (fun st nx=>f (g st nx).1 (g st nx).2) (d+c) where
 grow st nx:=by
  have a:=hg.grow st nx;have b:=hf.grow (g st nx).1 (g st nx).2;exact⟨by omega,take_take a.2 b.2 a.1⟩
 bT st nx:=by
  have a:=hg.bT st nx;have b:=hf.bT (g st nx).1 (g st nx).2;show(f (g st nx).1 (g st nx).2).1.length<=_
  omega
 fG st nx h:=hf.fG _ _ (hg.fG _ _ h)
 nU st nx h ha:=hf.nU _ _ (hg.fG _ _ h) (hg.nU _ _ h ha)
 sub st nx h M hM:=by
  have a:=hg.grow st nx;have b:=hf.grow (g st nx).1 (g st nx).2;obtain⟨N,hN⟩:=hg.sub st nx h M (hM.left b.2 b.1);obtain⟨N',Uj⟩:=hf.sub (g st nx).1 (g st nx).2 (hg.fG _ _ h) M (hM.right a.1);exact⟨_,hN.trans Uj a.1 b.1⟩
theorem ym(st:List MS)(m:MS):(st++[m])[st.length]? =some m:=by simp
theorem gL.at{M st:List MS}(h:gL M a b st){m:MS}(h1:a<=j)(h2:j<b)(hm:st[j]? =some m):M[j]? =some m:=(h j h1 h2).trans hm
theorem BS.take(sp:bD)(fo nt:Bool):BS (fun st nx=>(st++[pk sp fo nt nx.2],((st.length:Int),(st.length:Int)))) 1 where
 grow st nx:=⟨by simp,by simp⟩
 bT st nx:=by simp
 fG st nx h:=by unfold cZ;simp;omega
 nU st nx h ha:=ha.qS (by unfold cZ at h;unfold sy pk;simp only;omega)
 sub st nx h M hM:=by
  have hm:M[st.length]? =some (pk sp fo nt nx.2):=hM.at (Ab _) (by simp) (ym _ _);have hE:eL M (st.length:Int):=eL.stop _ _ hm ⟨by simp[pk],by simp[pk],by simp[pk]⟩
  exact⟨fun j=>j=st.length,⟨fun j hj=>by subst hj;simp,Or.inr (Or.inl ⟨_,rfl,rfl⟩),Or.inl ⟨_,rfl,rfl⟩,fun _=>Or.inr hE,fun _=>hE,fun j hj=>by
   subst hj;exact⟨_,hm,fun _=>Or.inr (Or.inl rfl),fun h=>by simp[pk]at h⟩,fun _ _ j hj=>by subst hj;exact hE⟩⟩
theorem BS.rS(s:Int->MS)(hk:∀n,(s n).kind=2\/(s n).kind=3)(hn:∀n,(s n).next=n/\(s n).a_=0):BS (eZ s) 2 where
 grow st nx:=by
  unfold eZ;split
  ·exact⟨by simp,by simp⟩
  ·split
   ·exact⟨by simp,by simp⟩
   ·exact⟨by simp,by simp⟩
 bT st nx:=by
  unfold eZ;split
  ·simp
  ·split
   ·simp
   ·simp
 fG st nx h:=by
  unfold cZ at h;unfold eZ;split
  ·unfold cZ;simp;omega
  ·split
   ·unfold cZ;simp;omega
   ·unfold cZ;simp;omega
 nU st nx h ha:=by
  have h1:=hn nx.2;have h2:=hn nx.1;unfold cZ at h;have a1:oF (st++[s nx.2]):=ha.qS (by unfold sy;rw[h1.1,h1.2];omega);unfold eZ;split
  ·exact a1
  ·split
   ·exact a1
   ·exact a1.qS (by unfold sy;rw[h2.1,h2.2];simp;omega)
 sub st nx h M hM:=by
  have aO:=hk nx.2;have aT:=hk nx.1;have jS:=hn nx.2;have o9:=hn nx.1;unfold eZ at hM⊢;by_cases c1:nx.1=nx.2
  ·rw[if_pos c1]at hM⊢;have hm:M[st.length]? =some (s nx.2):=hM.at (Ab _) (by simp) (ym _ _);have hE:eL M nx.2->eL M (st.length:Int):=(fun e=>eL.one _ _ hm aO (by rw[jS.1];exact e));have h0:nx.1≠ -1:=by unfold cZ at h;omega
   exact⟨fun j=>j=st.length,⟨fun j hj=>by subst hj;simp,Or.inr (Or.inl ⟨_,rfl,rfl⟩),Or.inl ⟨_,rfl,rfl⟩,fun e=>Or.inr (hE (c1▸e.vf h0)),hE,fun j hj=>by
    subst hj;exact⟨_,hm,fun _=>Or.inr (Or.inl jS.1),fun h=>by rcases aO with e|e<;>omega⟩,fun e _ j hj=>by subst hj;exact hE e⟩⟩
  ·rw[if_neg c1]at hM⊢;by_cases c2:nx.1= -1
   ·rw[if_pos c2]at hM⊢;have hm:M[st.length]? =some (s nx.2):=hM.at (Ab _) (by simp) (ym _ _);have hE:eL M nx.2->eL M (st.length:Int):=fun e=>eL.one _ _ hm aO (by rw[jS.1];exact e)
    exact⟨fun j=>j=st.length,⟨fun j hj=>by subst hj;simp,Or.inl rfl,Or.inl ⟨_,rfl,rfl⟩,fun e=>Or.inl rfl,hE,fun j hj=>by
     subst hj;exact⟨_,hm,fun _=>Or.inr (Or.inl jS.1),fun h=>by rcases aO with e|e<;>omega⟩,fun e _ j hj=>by subst hj;exact hE e⟩⟩
   ·rw[if_neg c2]at hM⊢;have hm:M[st.length]? =some (s nx.2):=hM.at (Ab _) (by simp) (by simp)
    have fR:M[st.length+1]? =some (s nx.1):=hM.at (by omega) (by simp) (by
     have:=ym (st++[s nx.2]) (s nx.1);rw[Aj]at this;exact this)
    have hE:eL M nx.2->eL M (st.length:Int):=(fun e=>eL.one _ _ hm aO (by rw[jS.1];exact e));have hE':sj M nx.1->eL M ((st.length+1:Nat):Int):=fun e=>eL.one _ _ fR aT (by rw[o9.1];exact e.vf c2)
    exact⟨fun j=>j=st.length\/j=st.length+1,⟨fun j hj=>by simp;omega,Or.inr (Or.inl ⟨st.length+1,by simp,Or.inr rfl⟩),Or.inl ⟨_,rfl,Or.inl rfl⟩,fun e=>Or.inr (by have:=hE' e;simpa using this),hE,fun j hj=>by
     rcases hj with rfl|rfl
     ·exact⟨_,hm,fun _=>Or.inr (Or.inl jS.1),fun h=>by rcases aO with e|e<;>omega⟩
     ·exact⟨_,fR,fun _=>Or.inr (Or.inr ⟨o9.1,c2⟩),fun h=>by rcases aT with e|e<;>omega⟩,fun e e' j hj=>by
     rcases hj with rfl|rfl
     ·exact hE e
     ·exact hE' e'⟩⟩
theorem tN(st:List MS)(a b:Int):st.length<=(dH st a b).1.length/\(dH st a b).1.take st.length=st/\(dH st a b).1.length<=st.length+1:=by
 unfold dH;split
 ·exact⟨Ab _,Cl,by simp⟩
 ·split
  ·exact⟨Ab _,Cl,by simp⟩
  ·exact⟨by simp,by simp,by simp⟩
theorem aa3{st:List MS}{a b:Int}(ha: -1<=a/\a<st.length)(hb: -1<=b/\b<st.length): -1<=(dH st a b).2/\(dH st a b).2<(dH st a b).1.length/\((a≠ -1\/b≠ -1)->(dH st a b).2≠ -1)/\(oF st->oF (dH st a b).1):=by
 unfold dH;split
 ·exact⟨hb.1,hb.2,fun h=>by rcases h with h|h<;>omega,fun h=>h⟩
 ·split
  ·exact⟨ha.1,ha.2,fun h=>by rcases h with h|h<;>omega,fun h=>h⟩
  ·exact⟨by simp only;omega,by simp only[Aj,Ax,Bb];omega,fun _=>by simp only;omega,fun h=>h.qS (by unfold sy j_;simp only;omega)⟩
theorem TR{M st:List MS}{nx:Ex}{a b:Int}(hM:gL M st.length (dH st a b).1.length (dH st a b).1)(ha:a= -1\/jN N nx a)(hb:b= -1\/jN N nx b):
 ∃N':Nat->Prop,(∀j,N' j->st.length<=j/\j<(dH st a b).1.length)/\((dH st a b).2= -1\/jN (fun j=>N j\/N' j) nx (dH st a b).2)/\(jN N nx a->jN N nx b->jN (fun j=>N j\/N' j) nx (dH st a b).2)/\
  (sj M a->sj M b->sj M (dH st a b).2)/\(∀j,N' j->∃m,M[j]? =some m/\DG (jN N nx) m)/\(sj M a->sj M b->∀j:Nat,N' j->eL M j):=by
 unfold dH at*;by_cases c1:a= -1
 ·simp only[if_pos c1]at hM⊢;exact⟨fun _=>False,fun j h=>h.elim,hb.imp_right (fun h=>h.mono (fun j hj=>Or.inl hj)),fun _ h=>h.mono (fun j hj=>Or.inl hj),fun _ h=>h,fun j h=>h.elim,fun _ _ j h=>h.elim⟩
 ·simp only[if_neg c1]at hM⊢;by_cases c2:b= -1
  ·simp only[if_pos c2]at hM⊢;exact⟨fun _=>False,fun j h=>h.elim,ha.imp_right (fun h=>h.mono (fun j hj=>Or.inl hj)),fun h _=>h.mono (fun j hj=>Or.inl hj),fun h _=>h,fun j h=>h.elim,fun _ _ j h=>h.elim⟩
  ·simp only[if_neg c2]at hM⊢;have hm:M[st.length]? =some (j_ a b):=hM.at (Ab _) (by simp) (ym _ _);have hE:sj M a->sj M b->eL M (st.length:Int):=(fun e e'=>eL.cE _ _ hm rfl (e.vf c1) (e'.vf c2));have hi:jN (fun j=>N j\/j=st.length) nx (st.length:Int):=Or.inl ⟨_,rfl,Or.inr rfl⟩
   exact⟨fun j=>j=st.length,fun j h=>by subst h;simp,Or.inr hi,fun _ _=>hi,fun e e'=>Or.inr (hE e e'),fun j h=>by
    subst h;exact⟨_,hm,fun _=>ha.resolve_left c1,fun _=>hb.resolve_left c2⟩,fun e e' j h=>by subst h;exact hE e e'⟩
theorem DX(st:List MS)(f s:Ex):st.length<=(gE st f s).1.length/\(gE st f s).1.take st.length=st/\(gE st f s).1.length<=st.length+2:=by
 have h1:=tN st f.2 s.2;unfold gE;split
 ·exact⟨h1.1,h1.2.1,by simp only;omega⟩
 ·have h2:=tN (dH st f.2 s.2).1 f.1 s.1;exact⟨by simp only;omega,take_take h1.2.1 h2.2.1 h1.1,by simp only;omega⟩
theorem Iy{st:List MS}{f s:Ex}(hf:(-1<=f.2/\f.2<st.length)/\(-1<=f.1/\f.1<st.length))(hs:(-1<=s.2/\s.2<st.length)/\(-1<=s.1/\s.1<st.length))(az:f.2≠ -1\/s.2≠ -1):
 cZ (gE st f s).1.length (gE st f s).2/\(oF st->oF (gE st f s).1):=by
 have h1:=aa3 hf.1 hs.1;have g1:=tN st f.2 s.2;have hv:=h1.2.2.1 az;unfold gE;split
 ·exact⟨⟨by simp only;omega,by simp only;omega⟩,h1.2.2.2⟩
 ·have h2:=aa3 (st:=(dH st f.2 s.2).1) (a:=f.1) (b:=s.1) (by omega) (by omega);have g2:=tN (dH st f.2 s.2).1 f.1 s.1;exact⟨⟨by simp only;omega,by simp only;omega⟩,fun h=>h2.2.2.2 (h1.2.2.2 h)⟩
theorem TU{M st:List MS}{nx:Ex}{f s:Ex}(hf:lg M nx N a b f)(hs:lg M nx N' a' b' s)(h0:c0<=st.length)(T4:c0<=a)(T5:c0<=a')(lq:b<=st.length)(AB:b'<=st.length)
 (hM:gL M st.length (gE st f s).1.length (gE st f s).1):∃K,lg M nx K c0 (gE st f s).1.length (gE st f s).2:=by
 have lf:∀{t:Int},jN N nx t->jN (fun j=>N j\/N' j) nx t:=fun h=>h.mono (fun j hj=>Or.inl hj)
 have ls:∀{t:Int},jN N' nx t->jN (fun j=>N j\/N' j) nx t:=fun h=>h.mono (fun j hj=>Or.inr hj)
 have g1:=tN st f.2 s.2
 have old:∀(K:Nat->Prop) j,N j\/N' j->∃m,M[j]? =some m/\DG (jN (fun j=>(N j\/N' j)\/K j) nx) m:=by
  intro K j hj;rcases hj with hj|hj
  ·obtain⟨m,h1,h2⟩:=hf.cl j hj;exact⟨m,h1,h2.mono (fun t ht=>(lf ht).mono (fun j hj=>Or.inl hj))⟩
  ·obtain⟨m,h1,h2⟩:=hs.cl j hj;exact⟨m,h1,h2.mono (fun t ht=>(ls ht).mono (fun j hj=>Or.inl hj))⟩
 unfold gE at hM⊢;by_cases c:f.1=f.2/\s.1=s.2
 ·rw[if_pos c]at hM⊢;obtain⟨K,k1,k2,k3,k4,k5,k6⟩:=TR (N:=fun j=>N j\/N' j) (nx:=nx) hM (Or.inr (lf hf.rP)) (Or.inr (ls hs.rP));have dR:=k3 (lf hf.rP) (ls hs.rP)
  have f_:eL M nx.2->eL M (dH st f.2 s.2).2:=fun e=>by
   have hx:=k4 (Or.inr (hf.e2 e)) (Or.inr (hs.e2 e));rcases hx with hx|hx
   ·exfalso
    have h0:=(hf.e2 e).Js;have h1:=(hs.e2 e).Js;unfold dH at hx;rw[if_neg (by omega),if_neg (by omega)]at hx;simp only at hx;omega
   ·exact hx
  refine⟨fun j=>(N j\/N' j)\/K j,⟨fun j hj=>?_,Or.inr dR,dR,fun e=>?_,f_,fun j hj=>?_,fun e e' j hj=>?_⟩⟩
  ·rcases hj with(hj|hj)|hj
   ·have:=hf.yV j hj;simp only;omega
   ·have:=hs.yV j hj;simp only;omega
   ·have:=k1 j hj;simp only;omega
  ·exact k4 (c.1▸hf.e1 e) (c.2▸hs.e1 e)
  ·rcases hj with hj|hj
   ·exact old K j hj
   ·obtain⟨m,h1,h2⟩:=k5 j hj;exact⟨m,h1,h2.mono (fun t ht=>ht.mono (fun j hj=>Or.inl hj))⟩
  ·rcases hj with(hj|hj)|hj
   ·exact hf.es e e' j hj
   ·exact hs.es e e' j hj
   ·exact k6 (Or.inr (hf.e2 e)) (Or.inr (hs.e2 e)) j hj
 ·rw[if_neg c]at hM⊢;have g2:=tN (dH st f.2 s.2).1 f.1 s.1;have iK:gL M st.length (dH st f.2 s.2).1.length (dH st f.2 s.2).1:=hM.left g2.2.1 g2.1;have EB:=hM.right (a:=(dH st f.2 s.2).1) g1.1;obtain⟨K,k1,k2,k3,k4,k5,k6⟩:=TR (N:=fun j=>N j\/N' j) (nx:=nx) iK (Or.inr (lf hf.rP)) (Or.inr (ls hs.rP));obtain⟨J,j1,j2,j3,j4,j5,j6⟩:=TR (N:=fun j=>N j\/N' j) (nx:=nx) EB (hf.A_.imp_right lf) (hs.A_.imp_right ls);have dR:=k3 (lf hf.rP) (ls hs.rP)
  have f_:eL M nx.2->eL M (dH st f.2 s.2).2:=fun e=>by
   have hx:=k4 (Or.inr (hf.e2 e)) (Or.inr (hs.e2 e));rcases hx with hx|hx
   ·exfalso
    have h0:=(hf.e2 e).Js;have h1:=(hs.e2 e).Js;unfold dH at hx;rw[if_neg (by omega),if_neg (by omega)]at hx;simp only at hx;omega
   ·exact hx
  refine⟨fun j=>(N j\/N' j)\/(K j\/J j),⟨fun j hj=>?_,?_,?_,fun e=>j4 (hf.e1 e) (hs.e1 e),f_,fun j hj=>?_,fun e e' j hj=>?_⟩⟩
  ·rcases hj with(hj|hj)|(hj|hj)
   ·have:=hf.yV j hj;simp only;omega
   ·have:=hs.yV j hj;simp only;omega
   ·have:=k1 j hj;simp only;omega
   ·have:=j1 j hj;simp only;omega
  ·exact j2.imp_right (fun h=>h.mono (fun j hj=>hj.imp_right Or.inr))
  ·exact dR.mono (fun j hj=>hj.imp_right Or.inl)
  ·rcases hj with hj|(hj|hj)
   ·exact old _ j hj
   ·obtain⟨m,h1,h2⟩:=k5 j hj;exact⟨m,h1,h2.mono (fun t ht=>ht.mono (fun j hj=>Or.inl hj))⟩
   ·obtain⟨m,h1,h2⟩:=j5 j hj;exact⟨m,h1,h2.mono (fun t ht=>ht.mono (fun j hj=>Or.inl hj))⟩
  ·rcases hj with(hj|hj)|(hj|hj)
   ·exact hf.es e e' j hj
   ·exact hs.es e e' j hj
   ·exact k6 (Or.inr (hf.e2 e)) (Or.inr (hs.e2 e)) j hj
   ·exact j6 (hf.e1 e') (hs.e1 e') j hj
theorem tM(lz:Bool)(st:List MS)(f s:Ex):st.length<=(dg lz st f s).1.length/\(dg lz st f s).1.take st.length=st/\(dg lz st f s).1.length<=st.length+2:=by
 unfold dg
 cases lz
 ·exact DX st f s
 ·exact DX st s f
theorem yi{st:List MS}(lz:Bool){f s:Ex}(hf:(-1<=f.2/\f.2<st.length)/\(-1<=f.1/\f.1<st.length))(hs:(-1<=s.2/\s.2<st.length)/\(-1<=s.1/\s.1<st.length))(az:f.2≠ -1\/s.2≠ -1):
 cZ (dg lz st f s).1.length (dg lz st f s).2/\(oF st->oF (dg lz st f s).1):=by
 unfold dg
 cases lz
 ·exact Iy hf hs az
 ·exact Iy hs hf az.symm
theorem aaI{M st:List MS}{nx:Ex}{f s:Ex}(lz:Bool)(hf:lg M nx N a b f)(hs:lg M nx N' a' b' s)(h0:c0<=st.length)(T4:c0<=a)(T5:c0<=a')(lq:b<=st.length)(AB:b'<=st.length)
 (hM:gL M st.length (dg lz st f s).1.length (dg lz st f s).1):∃K,lg M nx K c0 (dg lz st f s).1.length (dg lz st f s).2:=by
 unfold dg at*
 cases lz
 ·exact TU hf hs h0 T4 T5 lq AB hM
 ·exact TU hs hf h0 T5 T4 AB lq hM
theorem cZ.lR{x:Ex}(h:cZ n x):(-1<=x.2/\x.2<n)/\(-1<=x.1/\x.1<n):=by unfold cZ at h;omega
theorem BS.aE{f g:Bl}(hf:BS f c)(hg:BS g d):BS (fun st nx=>gE (f (g st nx).1 nx).1 (f (g st nx).1 nx).2 (g st nx).2) (d+c+2) where
 grow st nx:=by
  have a:=hg.grow st nx;have b:=hf.grow (g st nx).1 nx;have e:=DX (f (g st nx).1 nx).1 (f (g st nx).1 nx).2 (g st nx).2;exact⟨by omega,take_take (take_take a.2 b.2 a.1) e.2.1 (by omega)⟩
 bT st nx:=by
  have a:=hg.bT st nx;have b:=hf.bT (g st nx).1 nx;have e:=DX (f (g st nx).1 nx).1 (f (g st nx).1 nx).2 (g st nx).2;omega
 fG st nx h:=by
  have a:=hg.grow st nx;have b:=hf.grow (g st nx).1 nx;have x1:=hg.fG st nx h;have x2:=hf.fG (g st nx).1 nx (h.mono a.1);exact(Iy x2.lR (x1.mono b.1).lR (Or.inl (by have:=x2.1;omega))).1
 nU st nx h ha:=by
  have a:=hg.grow st nx;have b:=hf.grow (g st nx).1 nx;have x1:=hg.fG st nx h;have x2:=hf.fG (g st nx).1 nx (h.mono a.1);exact(Iy x2.lR (x1.mono b.1).lR (Or.inl (by have:=x2.1;omega))).2 (hf.nU _ _ (h.mono a.1) (hg.nU _ _ h ha))
 sub st nx h M hM:=by
  have a:=hg.grow st nx;have b:=hf.grow (g st nx).1 nx;have e:=DX (f (g st nx).1 nx).1 (f (g st nx).1 nx).2 (g st nx).2;have iK:gL M st.length (f (g st nx).1 nx).1.length (f (g st nx).1 nx).1:=hM.left e.2.1 e.1;obtain⟨N,hN⟩:=hg.sub st nx h M (iK.left b.2 b.1);obtain⟨N',Uj⟩:=hf.sub (g st nx).1 nx (h.mono a.1) M (iK.right a.1);exact TU Uj hN (by omega) a.1 (Ab _) (Ab _) b.1 (hM.right (by omega))
theorem BS.gH{f:Bl}(hf:BS f c):∀m,BS (nc f m) (m*c)
 |0=>by rw[Eu];exact BS.id
 |m+1=>by
  have:=(BS.gH hf m).comp hf;exact this.eV (by rw[Fc];omega)
structure BO(lz:Bool)(part:Bl)(m:Nat)(c:Nat):Prop where
 grow:∀nx st all,st.length<=(fJ part lz nx m st all).1.length/\(fJ part lz nx m st all).1.take st.length=st
 bT:∀nx st all,(fJ part lz nx m st all).1.length<=st.length+c
 fG:∀nx st all,cZ st.length nx->cZ st.length all->cZ (fJ part lz nx m st all).1.length (fJ part lz nx m st all).2
 nU:∀nx st all,cZ st.length nx->cZ st.length all->oF st->oF (fJ part lz nx m st all).1
 sub:∀nx st all,cZ st.length nx->cZ st.length all->∀M,gL M st.length (fJ part lz nx m st all).1.length (fJ part lz nx m st all).1->∀a N,a<=st.length->lg M nx N a st.length all->∃N',lg M nx N' a (fJ part lz nx m st all).1.length (fJ part lz nx m st all).2
theorem BS.nK{f:Bl}(lz:Bool)(hf:BS f c):∀m,BO lz f m (m*(c+2))
 |0=>⟨fun nx st all=>⟨Ab _,Cl⟩,fun nx st all=>by simp[fJ],fun nx st all _ h=>h,fun nx st all _ _ h=>h,fun nx st all _ _ M _ a N _ h=>⟨N,h⟩⟩
 |m+1=>by
  have ih:=BS.nK lz hf m;refine⟨fun nx st all=>?_,fun nx st all=>?_,fun nx st all hn ha=>?_,fun nx st all hn ha hA=>?_,fun nx st all hn ha M hM a N hle hN=>?_⟩
  ·have g1:=hf.grow st all;have g2:=tM lz (f st all).1 (f st all).2 nx;have g3:=ih.grow nx (dg lz (f st all).1 (f st all).2 nx).1 (dg lz (f st all).1 (f st all).2 nx).2;exact⟨by unfold fJ;omega,take_take (take_take g1.2 g2.2.1 g1.1) g3.2 (by omega)⟩
  ·have g1:=hf.bT st all;have g2:=tM lz (f st all).1 (f st all).2 nx;have g3:=ih.bT nx (dg lz (f st all).1 (f st all).2 nx).1 (dg lz (f st all).1 (f st all).2 nx).2;rw[Fc];unfold fJ;omega
  ·have g1:=hf.grow st all;have g2:=tM lz (f st all).1 (f st all).2 nx;have x2:=hf.fG st all ha;have x3:=yi lz x2.lR (hn.mono g1.1).lR (Or.inl (by have:=x2.1;omega));exact ih.fG nx _ _ (hn.mono (by omega)) x3.1
  ·have g1:=hf.grow st all;have g2:=tM lz (f st all).1 (f st all).2 nx;have x2:=hf.fG st all ha;have x3:=yi lz x2.lR (hn.mono g1.1).lR (Or.inl (by have:=x2.1;omega));exact ih.nU nx _ _ (hn.mono (by omega)) x3.1 (x3.2 (hf.nU _ _ ha hA))
  ·have g1:=hf.grow st all;have g2:=tM lz (f st all).1 (f st all).2 nx;have g3:=ih.grow nx (dg lz (f st all).1 (f st all).2 nx).1 (dg lz (f st all).1 (f st all).2 nx).2;have x2:=hf.fG st all ha;have x3:=yi lz x2.lR (hn.mono g1.1).lR (Or.inl (by have:=x2.1;omega));have EB:gL M st.length (dg lz (f st all).1 (f st all).2 nx).1.length (dg lz (f st all).1 (f st all).2 nx).1:=gL.left hM g3.2 g3.1;obtain⟨N1,h1⟩:=hf.sub st all ha M (EB.left g2.2.1 g2.1);obtain⟨K,hK⟩:=aaI lz (hN.trans h1 hle g1.1) (lg.refl M nx a) (by omega) (Ab _) (Ab _) (Ab _) (by omega) (EB.right g1.1);exact ih.sub nx _ _ (hn.mono (by omega)) x3.1 M (gL.right hM (by omega)) a K (by omega) hK
theorem BO.bs{f:Bl}{lz:Bool}{m:Nat}(h:BO lz f m c):BS (fun st nx=>fJ f lz nx m st nx) c where
 grow st nx:=h.grow nx st nx
 bT st nx:=h.bT nx st nx
 fG st nx hx:=h.fG nx st nx hx hx
 nU st nx hx ha:=h.nU nx st nx hx hx ha
 sub st nx hx M hM:=h.sub nx st nx hx hx M hM st.length _ (Ab _) (lg.refl M nx st.length)
theorem aaF(lz:Bool)(st:List MS)(nx:Ex):dg lz st (-1,-1) nx=(st,nx):=by
 obtain⟨a,b⟩:=nx;unfold dg gE dH;by_cases h:a=b
 ·subst h;by_cases h2:a= -1<;>cases lz<;>simp[h2]
 ·by_cases h2:a= -1<;>by_cases h3:b= -1<;>cases lz<;>simp[h,h2,h3]<;>omega
theorem aaE(lz:Bool)(st:List MS){t:Int}{nx:Ex}(ht:t≠ -1)(hn:nx.2≠ -1):(dg lz st (t,t) nx).2.2=st.length/\(dg lz st (t,t) nx).1[st.length]? =some (if lz then j_ nx.2 t else j_ t nx.2):=by
 cases lz
 ·have h1:dH st t nx.2=(st++[j_ t nx.2],(st.length:Int)):=by unfold dH;rw[if_neg ht,if_neg hn]
  simp only[dg,Aq,if_false];unfold gE;simp only;rw[h1];split
  ·exact⟨rfl,by simp⟩
  ·have g:=tN (st++[j_ t nx.2]) t nx.1;exact⟨rfl,(Lt g.2.1 (by simp)).trans (by simp)⟩
 ·have h1:dH st nx.2 t=(st++[j_ nx.2 t],(st.length:Int)):=by unfold dH;rw[if_neg hn,if_neg ht]
  simp only[dg,if_true];unfold gE;simp only;rw[h1];split
  ·exact⟨rfl,by simp⟩
  ·have g:=tN (st++[j_ nx.2 t]) nx.1 t;exact⟨rfl,(Lt g.2.1 (by simp)).trans (by simp)⟩
theorem BS.loop{f:Bl}(lz:Bool)(hf:BS f c):BS (nb f lz) (c+3) where
 grow st nx:=by
  have g1:=hf.grow (st++[bL]) (-1,st.length);have g2:=tM lz (f (st++[bL]) (-1,st.length)).1 ((f (st++[bL]) (-1,st.length)).2.1,(f (st++[bL]) (-1,st.length)).2.1) nx;have g0:(st++[bL]).take st.length=st:=by simp
  have hl:(st++[bL]).length=st.length+1:=by simp
  rw[hl]at g1;unfold nb qj;refine⟨by simp only[Bk];omega,?_⟩;have e1:(f (st++[bL]) (-1,st.length)).1.take st.length=st:=take_take g0 (by rw[hl];exact g1.2) (by simp);have e2:=take_take e1 g2.2.1 (by omega);simp only;rw[List.take_set,List.set_eq_of_length_le (by simp;omega)];exact e2
 bT st nx:=by
  have g1:=hf.bT (st++[bL]) (-1,st.length);have g2:=tM lz (f (st++[bL]) (-1,st.length)).1 ((f (st++[bL]) (-1,st.length)).2.1,(f (st++[bL]) (-1,st.length)).2.1) nx;have hl:(st++[bL]).length=st.length+1:=by simp
  unfold nb qj;simp only[Bk];omega
 fG st nx h:=by
  have hl:(st++[bL]).length=st.length+1:=by simp
  have x1:=hf.fG (st++[bL]) (-1,st.length) (by rw[hl];unfold cZ;simp only;omega);have g1:=hf.grow (st++[bL]) (-1,st.length);have x2:=x1.2;have x3:=yi (st:=(f (st++[bL]) (-1,st.length)).1) lz (f:=((f (st++[bL]) (-1,st.length)).2.1,(f (st++[bL]) (-1,st.length)).2.1)) ⟨x2,x2⟩ (h.mono (by omega)).lR (Or.inr (by have:=h.1;omega));unfold nb qj;simp only[Bk];exact x3.1
 nU st nx h ha:=by
  have hl:(st++[bL]).length=st.length+1:=by simp
  have hx:cZ (st++[bL]).length (-1,(st.length:Int)):=by rw[hl];unfold cZ;simp only;omega
  have x1:=hf.fG (st++[bL]) (-1,st.length) hx;have a1:=hf.nU (st++[bL]) (-1,st.length) hx (ha.qS (by unfold sy bL;simp only;omega));have g1:=hf.grow (st++[bL]) (-1,st.length);have x2:=x1.2;have x3:=yi (st:=(f (st++[bL]) (-1,st.length)).1) lz (f:=((f (st++[bL]) (-1,st.length)).2.1,(f (st++[bL]) (-1,st.length)).2.1)) ⟨x2,x2⟩ (h.mono (by omega)).lR (Or.inr (by have:=h.1;omega));have a3:=x3.2 a1;unfold nb qj;intro m hm;simp only[Bk]at hm⊢;rcases Dr hm with h1|h1
  ·exact a3 m h1
  ·subst h1
   have aw:(dg lz (f (st++[bL]) (-1,st.length)).1 ((f (st++[bL]) (-1,st.length)).2.1,(f (st++[bL]) (-1,st.length)).2.1) nx).2.2.toNat<(dg lz (f (st++[bL]) (-1,st.length)).1 ((f (st++[bL]) (-1,st.length)).2.1,(f (st++[bL]) (-1,st.length)).2.1) nx).1.length:=by
    have:=x3.1.1;omega
   rw[Af,Ae aw];exact a3 _ (A5 aw)
 sub st nx h M hM:=by
  have hl:(st++[bL]).length=st.length+1:=by simp
  have hx:cZ (st++[bL]).length (-1,(st.length:Int)):=by rw[hl];unfold cZ;simp only;omega
  have g1:=hf.grow (st++[bL]) (-1,st.length);have x1:=hf.fG (st++[bL]) (-1,st.length) hx;have aeX:=hf.sub (st++[bL]) (-1,st.length) hx M;unfold nb qj at hM⊢;generalize hP:f (st++[bL]) (-1,st.length)=P at*;obtain⟨S,t,u⟩:=P;simp only[Bk]at hM g1 x1 aeX⊢;have g2:=tM lz S (t,t) nx;have n2:nx.2≠ -1:=by have:=h.1;omega
  by_cases ht:t= -1
  ·subst ht;rw[aaF]at hM⊢;refine⟨fun _=>False,?_⟩;have:=lg.refl M nx st.length;exact⟨fun j hj=>hj.elim,this.A_,this.rP,this.e1,this.e2,this.cl,this.es⟩
  ·have em:=aaE lz S (t:=t) (nx:=nx) ht n2;generalize hE:dg lz S (t,t) nx=E at*
   have kQ:E.1.getD E.2.2.toNat bL=(if lz then j_ nx.2 t else j_ t nx.2):=by
    rw[em.1,Ay,Af,em.2];rfl
   rw[kQ]at hM
   have hA:M[st.length]? =some (if lz then j_ nx.2 t else j_ t nx.2):=by
    rw[hM st.length (Ab _) (by omega)];exact Ea (by omega)
   have tP:gL M (st.length+1) E.1.length E.1:=fun j h1 h2=>by
    rw[hM j (by omega) h2,Em (by omega)]
   obtain⟨N,hN⟩:=aeX (by rw[hl];exact gL.left tP g2.2.1 g2.1);rw[hl]at hN;have Ja:eL M t:=(hN.e1 (Or.inl rfl)).vf ht
   have hAE:eL M nx.2->eL M (st.length:Int):=fun e=>by
    cases lz
    ·exact eL.cE _ _ hA rfl Ja e
    ·exact eL.cE _ _ hA rfl e Ja
   have yJ:∀{s:Int},jN N (-1,(st.length:Int)) s->jN (fun j=>N j\/j=st.length) nx s:=by
    intro s hs;rcases hs with⟨j,h1,h2⟩|h1|⟨h1,h2⟩
    ·exact Or.inl ⟨j,h1,Or.inl h2⟩
    ·exact Or.inl ⟨st.length,h1,Or.inr rfl⟩
    ·exact absurd rfl h2
   have dR:jN (fun j=>N j\/j=st.length) nx t:=yJ (hN.A_.resolve_left ht)
   have hT:lg M nx (fun j=>N j\/j=st.length) st.length S.length (t,t):=by
    refine⟨fun j hj=>?_,Or.inr dR,dR,fun _=>Or.inr Ja,fun _=>Ja,fun j hj=>?_,fun e e' j hj=>?_⟩
    ·rcases hj with hj|hj
     ·have:=hN.yV j hj;omega
     ·omega
    ·rcases hj with hj|rfl
     ·obtain⟨m,h1,h2⟩:=hN.cl j hj;exact⟨m,h1,h2.mono (fun s hs=>yJ hs)⟩
     ·refine⟨_,hA,?_⟩;have h2:jN (fun j=>N j\/j=st.length) nx nx.2:=Or.inr (Or.inl rfl)
      cases lz
      ·exact⟨fun _=>dR,fun _=>h2⟩
      ·exact⟨fun _=>h2,fun _=>dR⟩
    ·rcases hj with hj|rfl
     ·exact hN.es (hAE e) (Or.inl rfl) j hj
     ·exact hAE e
   have:=aaI (st:=S) lz hT (lg.refl M nx st.length) (c0:=st.length) (by omega) (Ab _) (Ab _) (Ab _) (by omega) (by rw[hE];exact fun j h1 h2=>tP j (by omega) h2);rw[hE]at this;exact this
theorem BS.we{f:Bl}(hf:BS f (4*c))(lo hi:Int)(lz:Bool)(h0:0<=lo)(h1:hi= -1\/lo<=hi):BS (nd f lo hi lz) (4*((if hi= -1 then lo+1 else hi).toNat*(c+1))):=by
 unfold nd;by_cases e:hi= -1
 ·simp only[e,if_true];refine((hf.gH lo.toNat).comp (hf.loop lz)).eV ?_;have:(lo+1).toNat=lo.toNat+1:=by omega
  rw[this,Cq,Et lo.toNat];have:lo.toNat*(4*c)=4*(lo.toNat*c):=by rw[Dx]
  omega
 ·simp only[e,if_false];refine((hf.gH lo.toNat).comp (hf.nK lz (hi-lo).toNat).bs).eV ?_;have hle:lo<=hi:=h1.resolve_left e;obtain⟨d,hd⟩:∃d,hi.toNat=lo.toNat+d:=⟨(hi-lo).toNat,by omega⟩
  have:(hi-lo).toNat=d:=by omega
  rw[this,hd,Cq,Et lo.toNat,Et d c,Et d (4*c)];have:lo.toNat*(4*c)=4*(lo.toNat*c):=by rw[Dx]
  have:d*(4*c)=4*(d*c):=by rw[Dx]
  omega
mutual
theorem CT.zb:∀C:CT,C.ok->0<=C.sz
 |.node k sp fo nt ed gr lo hi lz cN,h=>by
  unfold CT.ok at h;obtain⟨h1,h2,h3,h5,h6⟩:=h;have hs:=CT.v_ cN h6;unfold CT.sz;by_cases k0:k=0\/k=1\/k=2
  ·rw[if_pos k0];omega
  ·rw[if_neg k0];by_cases k4:k=4
   ·rw[if_pos k4];have:=Bp.2 (h3 k4);omega
   ·rw[if_neg k4];by_cases k5:k=5
    ·rw[if_pos k5];have Lw:=h5 k5;have:0<=(if hi= -1 then lo+1 else hi)*(CT.cB cN+1):=Int.mul_nonneg (by split<;>omega) (by omega);omega
    ·rw[if_neg k5];omega
theorem CT.v_:∀cs:List CT,CT.d_ cs->0<=CT.cB cs
 | [],_=>by simp[CT.cB]
 |c::cs,h=>by
  unfold CT.d_ at h;have h1:=CT.zb c h.1;have h2:=CT.v_ cs h.2;unfold CT.cB;omega
end
theorem BS.mark(n:Int):BS (eZ (iG n)) 2:=BS.rS _ (fun _=>Or.inr rfl) (fun _=>⟨rfl,rfl⟩)
theorem BS.qT(n:Int):BS (eZ (si n)) 2:=BS.rS _ (fun _=>Or.inl rfl) (fun _=>⟨rfl,rfl⟩)
mutual
theorem nV:∀C:CT,C.ok->C.sz<=1000->BS (bm C) (4*C.sz.toNat)
 |.node k sp fo nt ed gr lo hi lz cN,h,hs=>by
  unfold CT.ok at h;obtain⟨h1,h2,h3,h5,h6⟩:=h;have hn:=CT.v_ cN h6;have sL:=ZT cN h6;have ED:=Th cN h6;have Ep:=Tg cN h6;unfold CT.sz at hs⊢;unfold bm;by_cases k0:k=0
  ·simp only[k0,if_true,true_or]at hs⊢;exact(BS.take sp fo nt).eV (by omega)
  ·by_cases k1:k=1
   ·simp only[k1,if_true,true_or,or_true,Int.reduceEq,if_false]at hs⊢;exact(BS.qT ed).eV (by omega)
   ·by_cases k2:k=2
    ·simp only[k2,if_true,or_true,Int.reduceEq,if_false]at hs⊢;have hO:=sL (by omega) (h2 (Or.inl k2));by_cases g0:gr=0
     ·simp only[g0,if_true];exact hO.eV (by omega)
     ·simp only[g0,if_false];refine((BS.mark (2*(gr-1))).comp (hO.comp (BS.mark (2*(gr-1)+1)))).eV ?_;omega
    ·have Ty:¬(k=0\/k=1\/k=2):=(by omega);rw[if_neg Ty]at hs⊢;simp only[k0,k1,k2,if_false];by_cases k3:k=3
     ·simp only[k3,if_true,Int.reduceEq,if_false]at hs⊢;exact(ED (by omega)).eV (by omega)
     ·by_cases k4:k=4
      ·simp only[k4,if_true,Int.reduceEq,if_false]at hs⊢;have hp:=Bp.2 (h3 k4);exact(Ep (by omega) (h3 k4)).eV (by omega)
      ·have k5:k=5:=(by omega);simp only[k5,if_true,Int.reduceEq,if_false]at hs⊢;have hb:=h5 k5;have hc:0<=(if hi= -1 then lo+1 else hi)/\(if hi= -1 then lo+1 else hi)<=21:=by split<;>omega
       generalize ju:(if hi= -1 then lo+1 else hi)=cc at*
       by_cases z:cc=0
       ·have cP:hi=0/\lo=0:=(by split at ju<;>omega);rw[z,Int.zero_mul]
        have e:nd (l8 cN) lo hi lz=fun st nx=>(st,nx):=by
         funext st nx
         unfold nd;rw[cP.1,cP.2];rfl
        have e':(fun st nx=>nd (l8 cN) lo hi lz st nx)=fun st nx=>(st,nx):=by rw[e]
        rw[e'];exact BS.id
       ·have hm:cc*(CT.cB cN+1)<=1000:=by omega
        have gP:CT.cB cN+1<=cc*(CT.cB cN+1):=by
         have:=D0 (show 1<=cc by omega) (show 0<=CT.cB cN+1 by omega);rw[Int.one_mul]at this;exact this
        have hO:=sL (by omega) (h2 (Or.inr k5));have ht:=BS.we hO lo hi lz hb.1 hb.2.2.2.2;rw[ju]at ht;refine ht.eV ?_
        have:(cc*(CT.cB cN+1)).toNat=cc.toNat*((CT.cB cN).toNat+1):=by
         rw[Int.toNat_mul hc.1 (by omega)];congr 1;omega
        have e:(min (cc*(CT.cB cN+1)) 1001).toNat=(cc*(CT.cB cN+1)).toNat:=(by omega);rw[e,this];exact Ab _
theorem ZT:∀cs:List CT,CT.d_ cs->CT.cB cs<=1000->cs.length=1->BS (l8 cs) (4*(CT.cB cs).toNat)
 | [],_,_,hl=>by simp at hl
 | [c],h,hs,_=>by
   unfold CT.d_ at h;simp only[CT.cB,Int.add_zero]at hs⊢;unfold l8;exact nV c h.1 hs
 |c::d::cs,h,hs,hl=>by simp at hl
theorem Th:∀cs:List CT,CT.d_ cs->CT.cB cs<=1000->BS (j7 cs) (4*(CT.cB cs).toNat)
 | [],_,_=>by unfold j7;exact BS.id.eV (by omega)
 |c::cs,h,hs=>by
  unfold CT.d_ at h;have h1:=CT.zb c h.1;have h2:=CT.v_ cs h.2;unfold CT.cB at hs⊢;unfold j7;refine((nV c h.1 (by omega)).comp (Th cs h.2 (by omega))).eV ?_;omega
theorem Tg:∀cs:List CT,CT.d_ cs->CT.cB cs<=1000->cs≠ []->BS (jf cs) (4*(CT.cB cs).toNat+2*(cs.length-1))
 | [],_,_,hl=>absurd rfl hl
 | [c],h,hs,_=>by
   unfold CT.d_ at h;simp only[CT.cB,Int.add_zero]at hs⊢;unfold jf;exact(nV c h.1 hs).eV (by simp)
 |c::d::cs,h,hs,hl=>by
  have hc:CT.ok c/\CT.d_ (d::cs):=by unfold CT.d_ at h;exact h
  have h1:=CT.zb c hc.1;have h2:=CT.v_ (d::cs) hc.2;have qF:CT.sz c+CT.cB (d::cs)<=1000:=by unfold CT.cB at hs;exact hs
  have e:CT.cB (c::d::cs)=CT.sz c+CT.cB (d::cs):=by rw[CT.cB]
  rw[e];unfold jf;refine((nV c hc.1 (by omega)).aE (Tg (d::cs) hc.2 (by omega) (by simp))).eV ?_;simp only[Ax];omega
end
end Go.Proofs.YtpdnofhackjfdaaGreatDoor
