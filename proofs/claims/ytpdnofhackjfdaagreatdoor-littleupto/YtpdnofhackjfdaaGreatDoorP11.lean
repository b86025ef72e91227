/- The program's ma -/
import Derived.Test.YtpdnofhackjfdaaGreatDoorP04
set_option linter.all false
set_option maxRecDepth 100000
namespace Go.Proofs.YtpdnofhackjfdaaGreatDoor
open Go.Proofs.Tryz
variable {s:Int} {a a' b b' c c0 d j k l n:Nat} {N N':Nat->Prop}
structure MS where
 kind:Int
 sp:bF
 fo:Bool
 nt:Bool
 eE:Int
 slot:Int
 next:Int
 a_:Int
def bN:MS:=⟨0,[],false,false,0,0,0,0⟩
def nT(sp:bF)(fo nt:Bool)(nx:Int):MS:=⟨1,sp,fo,nt,0,0,nx,0⟩
def se(e:Int)(nx:Int):MS:=⟨2,[],false,false,e,0,nx,0⟩
def iB(s:Int)(nx:Int):MS:=⟨3,[],false,false,0,s,nx,0⟩
def kt(a b:Int):MS:=⟨4,[],false,false,0,0,a,b⟩
abbrev Ex:=Int×Int
abbrev Bl:=List MS->Ex->List MS×Ex
def fe(s:Int->MS):Bl:=fun st nx=>
 if nx.1=nx.2 then(st++[s nx.2],(st.length,st.length))
 else if nx.1= -1 then(st++[s nx.2],(-1,st.length))
 else(st++[s nx.2]++[s nx.1],(st.length+1,st.length))
def dL(st:List MS)(a b:Int):List MS×Int:=if a= -1 then(st,b)else if b= -1 then(st,a)else(st++[kt a b],st.length)
def gC(st:List MS)(f s:Ex):List MS×Ex:=
 if f.1=f.2/\s.1=s.2 then((dL st f.2 s.2).1,((dL st f.2 s.2).2,(dL st f.2 s.2).2))
 else((dL (dL st f.2 s.2).1 f.1 s.1).1,((dL (dL st f.2 s.2).1 f.1 s.1).2,(dL st f.2 s.2).2))
def dj(lz:Bool)(st:List MS)(part rest:Ex):List MS×Ex:=if lz then gC st rest part else gC st part rest
def nz(part:Bl):Nat->Bl
 |0=>fun st nx=>(st,nx)
 |m+1=>fun st nx=>nz part m (part st nx).1 (part st nx).2
def fK(part:Bl)(lz:Bool)(nx:Ex):Nat->Bl
 |0=>fun st all=>(st,all)
 |m+1=>fun st all=>fK part lz nx m (dj lz (part st all).1 (part st all).2 nx).1 (dj lz (part st all).1 (part st all).2 nx).2
def qm(part:Bl)(lz:Bool):Bl:=fun st nx=>
 dj lz (part (st++[bN]) (-1,st.length)).1 ((part (st++[bN]) (-1,st.length)).2.1,(part (st++[bN]) (-1,st.length)).2.1) nx
def ny(part:Bl)(lz:Bool):Bl:=fun st nx=>((qm part lz st nx).1.set st.length ((qm part lz st nx).1.getD (qm part lz st nx).2.2.toNat bN),(qm part lz st nx).2)
def nA(part:Bl)(lo hi:Int)(lz:Bool):Bl:=fun st nx=>
 if hi= -1 then nz part lo.toNat (ny part lz st nx).1 (ny part lz st nx).2
 else nz part lo.toNat (fK part lz nx (hi-lo).toNat st nx).1 (fK part lz nx (hi-lo).toNat st nx).2
mutual
def bu:CT->Bl
 |.node k sp fo nt ed gr lo hi lz cP=>fun st nx=>
  if k=0 then(st++[nT sp fo nt nx.2],(st.length,st.length))
  else if k=1 then fe (se ed) st nx
  else if k=2 then
   if gr=0 then mg cP st nx
   else fe (iB (2*(gr-1))) (mg cP (fe (iB (2*(gr-1)+1)) st nx).1 (fe (iB (2*(gr-1)+1)) st nx).2).1 (mg cP (fe (iB (2*(gr-1)+1)) st nx).1 (fe (iB (2*(gr-1)+1)) st nx).2).2
  else if k=3 then jv cP st nx
  else if k=4 then iO cP st nx
  else nA (mg cP) lo hi lz st nx
def mg:List CT->Bl
 | []=>fun st nx=>(st,nx)
 |c::_=>bu c
def jv:List CT->Bl
 | []=>fun st nx=>(st,nx)
 |c::cs=>fun st nx=>bu c (jv cs st nx).1 (jv cs st nx).2
def iO:List CT->Bl
 | []=>fun st nx=>(st,nx)
 | [c]=>bu c
 |c::d::cs=>fun st nx=>gC (bu c (iO (d::cs) st nx).1 nx).1 (bu c (iO (d::cs) st nx).1 nx).2 (iO (d::cs) st nx).2
end
mutual
def CT.sz:CT->Int
 |.node k sp fo nt ed gr lo hi lz cP=>
  min (if k=0\/k=1\/k=2 then CT.cG cP+1 else if k=4 then CT.cG cP+((cP.length:Int)-1)else if k=5 then(if hi= -1 then lo+1 else hi)*(CT.cG cP+1)else CT.cG cP) 1001
def CT.cG:List CT->Int
 | []=>0
 |c::cs=>CT.sz c+CT.cG cs
end
mutual
def CT.ok:CT->Prop
 |.node k sp fo nt ed gr lo hi lz cP=>
  (k=0\/k=1\/k=2\/k=3\/k=4\/k=5)/\(k=2\/k=5->cP.length=1)/\(k=4->cP≠ [])/\(k=5->0<=lo/\lo<=20/\ -1<=hi/\hi<=20/\(hi= -1\/lo<=hi))/\CT.ey cP
def CT.ey:List CT->Prop
 | []=>True
 |c::cs=>CT.ok c/\CT.ey cs
end
def da(n:Nat)(nx:Ex):Prop:=(0<=nx.2/\nx.2<n)/\(-1<=nx.1/\nx.1<n)
def ss(n:Nat)(m:MS):Prop:=(0<=m.next/\m.next<n)/\(0<=m.a_/\m.a_<n)
def oO(st:List MS):Prop:=∀m∈st,ss st.length m
theorem ss.mono{m:MS}(h:ss n m)(hle:n<=k):ss k m:=by unfold ss at*;omega
theorem da.mono{x:Ex}(h:da n x)(hle:n<=k):da k x:=by unfold da at*;omega
theorem oO.qU{st:List MS}(h:oO st){m:MS}(hm:ss (st.length+1) m):oO (st++[m]):=by
 intro y hy;simp only[Aj,Av,A8];rcases Al.1 hy with h1|h1
 ·exact(h y h1).mono (by omega)
 ·simp at h1;subst h1;exact hm
def gL(M:List MS)(a b:Nat)(st:List MS):Prop:=∀j,a<=j->j<b->M[j]? =st[j]?
theorem take_take{a b c:List MS}(h1:b.take a.length=a)(h2:c.take b.length=b)(hl:a.length<=b.length):c.take a.length=a:=by
 have e:(c.take b.length).take a.length=c.take a.length:=by rw[List.take_take,Nat.min_eq_left hl]
 rw[<-e,h2,h1]
theorem LM{a b:List MS}(h:b.take a.length=a)(hj:j<a.length):b[j]? =a[j]? :=by
 have e:(b.take a.length)[j]? =b[j]? :=Aw hj;rw[<-e,h]
theorem gL.left{M a b:List MS}(h:gL M l b.length b)(hg:b.take a.length=a)(hle:a.length<=b.length):gL M l a.length a:=fun j h1 h2=>by
 rw[h j h1 (by omega),LM hg h2]
theorem gL.right{M a b:List MS}(h:gL M l b.length b)(hle:l<=a.length):gL M a.length b.length b:=fun j h1 h2=>h j (by omega) h2
inductive eO(M:List MS):Int->Prop where
 |stop (s:Nat) (m:MS) (h:M[s]? =some m) (hk:m.kind≠2/\m.kind≠3/\m.kind≠4):eO M s
 |one (s:Nat) (m:MS) (h:M[s]? =some m) (hk:m.kind=2\/m.kind=3) (hn:eO M m.next):eO M s
 |cA (s:Nat) (m:MS) (h:M[s]? =some m) (hk:m.kind=4) (hn:eO M m.next) (ho:eO M m.a_):eO M s
theorem eO.JJ{M:List MS}(h:eO M s):0<=s:=by cases h<;>omega
def sh(M:List MS)(s:Int):Prop:=s= -1\/eO M s
theorem sh.ve{M:List MS}(h:sh M s)(hs:s≠ -1):eO M s:=h.resolve_left hs
def jQ(N:Nat->Prop)(nx:Ex)(s:Int):Prop:=(∃j:Nat,s=j/\N j)\/s=nx.2\/(s=nx.1/\nx.1≠ -1)
theorem jQ.mono{nx:Ex}(h:jQ N nx s)(hN:∀j,N j->N' j):jQ N' nx s:=by
 rcases h with⟨j,h1,h2⟩|h
 ·exact Or.inl ⟨j,h1,hN j h2⟩
 ·exact Or.inr h
def D_(P:Int->Prop)(m:MS):Prop:=(m.kind=1\/m.kind=2\/m.kind=3\/m.kind=4->P m.next)/\(m.kind=4->P m.a_)
theorem D_.mono{P Q:Int->Prop}{m:MS}(h:D_ P m)(hPQ:∀s,P s->Q s):D_ Q m:=⟨fun a=>hPQ _ (h.1 a),fun a=>hPQ _ (h.2 a)⟩
structure lj(M:List MS)(nx:Ex)(N:Nat->Prop)(a b:Nat)(x:Ex):Prop where
 yV:∀j,N j->a<=j/\j<b
 BZ:x.1= -1\/jQ N nx x.1
 rO:jQ N nx x.2
 e1:sh M nx.1->sh M x.1
 e2:eO M nx.2->eO M x.2
 cl:∀j,N j->∃m,M[j]? =some m/\D_ (jQ N nx) m
 es:eO M nx.2->sh M nx.1->∀j:Nat,N j->eO M j
theorem lj.refl(M:List MS)(nx:Ex)(a:Nat):lj M nx (fun _=>False) a a nx where
 yV j h:=h.elim
 BZ:=by
  by_cases h:nx.1= -1
  ·exact Or.inl h
  ·exact Or.inr (Or.inr (Or.inr ⟨rfl,h⟩))
 rO:=Or.inr (Or.inl rfl)
 e1 h:=h
 e2 h:=h
 cl j h:=h.elim
 es _ _ j h:=h.elim
theorem lj.yJ{M:List MS}{nx x:Ex}(h:lj M nx N a b x)(hs:jQ N' x s):jQ (fun j=>N j\/N' j) nx s:=by
 rcases hs with⟨j,h1,h2⟩|rfl|⟨rfl,h2⟩
 ·exact Or.inl ⟨j,h1,Or.inr h2⟩
 ·exact h.rO.mono (fun j hj=>Or.inl hj)
 ·exact(h.BZ.resolve_left h2).mono (fun j hj=>Or.inl hj)
theorem lj.trans{M:List MS}{nx x y:Ex}(h:lj M nx N a b x)(h':lj M x N' b c y)(lr:a<=b)(AH:b<=c):lj M nx (fun j=>N j\/N' j) a c y where
 yV j hj:=by
  rcases hj with hj|hj
  ·have:=h.yV j hj;omega
  ·have:=h'.yV j hj;omega
 BZ:=h'.BZ.imp_right h.yJ
 rO:=h.yJ h'.rO
 e1 e:=h'.e1 (h.e1 e)
 e2 e:=h'.e2 (h.e2 e)
 cl j hj:=by
  rcases hj with hj|hj
  ·obtain⟨m,h1,h2⟩:=h.cl j hj;exact⟨m,h1,h2.mono (fun s hs=>hs.mono (fun j hj=>Or.inl hj))⟩
  ·obtain⟨m,h1,h2⟩:=h'.cl j hj;exact⟨m,h1,h2.mono (fun s hs=>h.yJ hs)⟩
 es e1 e2 j hj:=by
  rcases hj with hj|hj
  ·exact h.es e1 e2 j hj
  ·exact h'.es (h.e2 e1) (h.e1 e2) j hj
structure BS(f:Bl)(c:Nat):Prop where
 grow:∀st nx,st.length<=(f st nx).1.length/\(f st nx).1.take st.length=st
 bJ:∀st nx,(f st nx).1.length<=st.length+c
 fI:∀st nx,da st.length nx->da (f st nx).1.length (f st nx).2
 oc:∀st nx,da st.length nx->oO st->oO (f st nx).1
 sub:∀st nx,da st.length nx->∀M,gL M st.length (f st nx).1.length (f st nx).1->∃N,lj M nx N st.length (f st nx).1.length (f st nx).2
theorem BS.eG{f:Bl}(h:BS f c)(hcd:c<=d):BS f d:=⟨h.grow,fun st nx=>by have:=h.bJ st nx;omega,h.fI,h.oc,h.sub⟩
theorem BS.id:BS (fun st nx=>(st,nx)) 0 where
 grow st nx:=⟨Ab _,Cn⟩
 bJ st nx:=Ab _
 fI st nx h:=h
 oc st nx _ h:=h
 sub st nx h M hM:=⟨_,lj.refl M nx st.length⟩
theorem BS.comp{f g:Bl}(hf:BS f c)(hg:BS g d):BS (fun st nx=>f (g st nx).1 (g st nx).2) (d+c) where
 grow st nx:=by
  have a:=hg.grow st nx;have b:=hf.grow (g st nx).1 (g st nx).2;exact⟨by omega,take_take a.2 b.2 a.1⟩
 bJ st nx:=by
  have a:=hg.bJ st nx;have b:=hf.bJ (g st nx).1 (g st nx).2;show(f (g st nx).1 (g st nx).2).1.length<=_
  omega
 fI st nx h:=hf.fI _ _ (hg.fI _ _ h)
 oc st nx h ha:=hf.oc _ _ (hg.fI _ _ h) (hg.oc _ _ h ha)
 sub st nx h M hM:=by
  have a:=hg.grow st nx;have b:=hf.grow (g st nx).1 (g st nx).2;obtain⟨N,hN⟩:=hg.sub st nx h M (hM.left b.2 b.1);obtain⟨N',Ux⟩:=hf.sub (g st nx).1 (g st nx).2 (hg.fI _ _ h) M (hM.right a.1);exact⟨_,hN.trans Ux a.1 b.1⟩
theorem yk(st:List MS)(m:MS):(st++[m])[st.length]? =some m:=by simp
theorem gL.at{M st:List MS}(h:gL M a b st){m:MS}(h1:a<=j)(h2:j<b)(hm:st[j]? =some m):M[j]? =some m:=(h j h1 h2).trans hm
theorem BS.take(sp:bF)(fo nt:Bool):BS (fun st nx=>(st++[nT sp fo nt nx.2],((st.length:Int),(st.length:Int)))) 1 where
 grow st nx:=⟨by simp,by simp⟩
 bJ st nx:=by simp
 fI st nx h:=by unfold da;simp;omega
 oc st nx h ha:=ha.qU (by unfold da at h;unfold ss nT;simp only;omega)
 sub st nx h M hM:=by
  have hm:M[st.length]? =some (nT sp fo nt nx.2):=hM.at (Ab _) (by simp) (yk _ _);have hE:eO M (st.length:Int):=eO.stop _ _ hm ⟨by simp[nT],by simp[nT],by simp[nT]⟩
  exact⟨fun j=>j=st.length,⟨fun j hj=>by subst hj;simp,Or.inr (Or.inl ⟨_,rfl,rfl⟩),Or.inl ⟨_,rfl,rfl⟩,fun _=>Or.inr hE,fun _=>hE,fun j hj=>by
   subst hj;exact⟨_,hm,fun _=>Or.inr (Or.inl rfl),fun h=>by simp[nT]at h⟩,fun _ _ j hj=>by subst hj;exact hE⟩⟩
theorem BS.rR(s:Int->MS)(hk:∀n,(s n).kind=2\/(s n).kind=3)(hn:∀n,(s n).next=n/\(s n).a_=0):BS (fe s) 2 where
 grow st nx:=by
  unfold fe;split
  ·exact⟨by simp,by simp⟩
  ·split
   ·exact⟨by simp,by simp⟩
   ·exact⟨by simp,by simp⟩
 bJ st nx:=by
  unfold fe;split
  ·simp
  ·split
   ·simp
   ·simp
 fI st nx h:=by
  unfold da at h;unfold fe;split
  ·unfold da;simp;omega
  ·split
   ·unfold da;simp;omega
   ·unfold da;simp;omega
 oc st nx h ha:=by
  have h1:=hn nx.2;have h2:=hn nx.1;unfold da at h;have a1:oO (st++[s nx.2]):=ha.qU (by unfold ss;rw[h1.1,h1.2];omega);unfold fe;split
  ·exact a1
  ·split
   ·exact a1
   ·exact a1.qU (by unfold ss;rw[h2.1,h2.2];simp;omega)
 sub st nx h M hM:=by
  have aN:=hk nx.2;have aU:=hk nx.1;have jW:=hn nx.2;have pj:=hn nx.1;unfold fe at hM⊢;by_cases c1:nx.1=nx.2
  ·rw[if_pos c1]at hM⊢;have hm:M[st.length]? =some (s nx.2):=hM.at (Ab _) (by simp) (yk _ _);have hE:eO M nx.2->eO M (st.length:Int):=(fun e=>eO.one _ _ hm aN (by rw[jW.1];exact e));have h0:nx.1≠ -1:=by unfold da at h;omega
   exact⟨fun j=>j=st.length,⟨fun j hj=>by subst hj;simp,Or.inr (Or.inl ⟨_,rfl,rfl⟩),Or.inl ⟨_,rfl,rfl⟩,fun e=>Or.inr (hE (c1▸e.ve h0)),hE,fun j hj=>by
    subst hj;exact⟨_,hm,fun _=>Or.inr (Or.inl jW.1),fun h=>by rcases aN with e|e<;>omega⟩,fun e _ j hj=>by subst hj;exact hE e⟩⟩
  ·rw[if_neg c1]at hM⊢;by_cases c2:nx.1= -1
   ·rw[if_pos c2]at hM⊢;have hm:M[st.length]? =some (s nx.2):=hM.at (Ab _) (by simp) (yk _ _);have hE:eO M nx.2->eO M (st.length:Int):=fun e=>eO.one _ _ hm aN (by rw[jW.1];exact e)
    exact⟨fun j=>j=st.length,⟨fun j hj=>by subst hj;simp,Or.inl rfl,Or.inl ⟨_,rfl,rfl⟩,fun e=>Or.inl rfl,hE,fun j hj=>by
     subst hj;exact⟨_,hm,fun _=>Or.inr (Or.inl jW.1),fun h=>by rcases aN with e|e<;>omega⟩,fun e _ j hj=>by subst hj;exact hE e⟩⟩
   ·rw[if_neg c2]at hM⊢;have hm:M[st.length]? =some (s nx.2):=hM.at (Ab _) (by simp) (by simp)
    have fS:M[st.length+1]? =some (s nx.1):=hM.at (by omega) (by simp) (by
     have:=yk (st++[s nx.2]) (s nx.1);rw[Aj]at this;exact this)
    have hE:eO M nx.2->eO M (st.length:Int):=(fun e=>eO.one _ _ hm aN (by rw[jW.1];exact e));have hE':sh M nx.1->eO M ((st.length+1:Nat):Int):=fun e=>eO.one _ _ fS aU (by rw[pj.1];exact e.ve c2)
    exact⟨fun j=>j=st.length\/j=st.length+1,⟨fun j hj=>by simp;omega,Or.inr (Or.inl ⟨st.length+1,by simp,Or.inr rfl⟩),Or.inl ⟨_,rfl,Or.inl rfl⟩,fun e=>Or.inr (by have:=hE' e;simpa using this),hE,fun j hj=>by
     rcases hj with rfl|rfl
     ·exact⟨_,hm,fun _=>Or.inr (Or.inl jW.1),fun h=>by rcases aN with e|e<;>omega⟩
     ·exact⟨_,fS,fun _=>Or.inr (Or.inr ⟨pj.1,c2⟩),fun h=>by rcases aU with e|e<;>omega⟩,fun e e' j hj=>by
     rcases hj with rfl|rfl
     ·exact hE e
     ·exact hE' e'⟩⟩
theorem tQ(st:List MS)(a b:Int):st.length<=(dL st a b).1.length/\(dL st a b).1.take st.length=st/\(dL st a b).1.length<=st.length+1:=by
 unfold dL;split
 ·exact⟨Ab _,Cn,by simp⟩
 ·split
  ·exact⟨Ab _,Cn,by simp⟩
  ·exact⟨by simp,by simp,by simp⟩
theorem aaW{st:List MS}{a b:Int}(ha: -1<=a/\a<st.length)(hb: -1<=b/\b<st.length): -1<=(dL st a b).2/\(dL st a b).2<(dL st a b).1.length/\((a≠ -1\/b≠ -1)->(dL st a b).2≠ -1)/\(oO st->oO (dL st a b).1):=by
 unfold dL;split
 ·exact⟨hb.1,hb.2,fun h=>by rcases h with h|h<;>omega,fun h=>h⟩
 ·split
  ·exact⟨ha.1,ha.2,fun h=>by rcases h with h|h<;>omega,fun h=>h⟩
  ·exact⟨by simp only;omega,by simp only[Aj,Av,A8];omega,fun _=>by simp only;omega,fun h=>h.qU (by unfold ss kt;simp only;omega)⟩
theorem T5{M st:List MS}{nx:Ex}{a b:Int}(hM:gL M st.length (dL st a b).1.length (dL st a b).1)(ha:a= -1\/jQ N nx a)(hb:b= -1\/jQ N nx b):
 ∃N':Nat->Prop,(∀j,N' j->st.length<=j/\j<(dL st a b).1.length)/\((dL st a b).2= -1\/jQ (fun j=>N j\/N' j) nx (dL st a b).2)/\(jQ N nx a->jQ N nx b->jQ (fun j=>N j\/N' j) nx (dL st a b).2)/\
  (sh M a->sh M b->sh M (dL st a b).2)/\(∀j,N' j->∃m,M[j]? =some m/\D_ (jQ N nx) m)/\(sh M a->sh M b->∀j:Nat,N' j->eO M j):=by
 unfold dL at*;by_cases c1:a= -1
 ·simp only[if_pos c1]at hM⊢;exact⟨fun _=>False,fun j h=>h.elim,hb.imp_right (fun h=>h.mono (fun j hj=>Or.inl hj)),fun _ h=>h.mono (fun j hj=>Or.inl hj),fun _ h=>h,fun j h=>h.elim,fun _ _ j h=>h.elim⟩
 ·simp only[if_neg c1]at hM⊢;by_cases c2:b= -1
  ·simp only[if_pos c2]at hM⊢;exact⟨fun _=>False,fun j h=>h.elim,ha.imp_right (fun h=>h.mono (fun j hj=>Or.inl hj)),fun h _=>h.mono (fun j hj=>Or.inl hj),fun h _=>h,fun j h=>h.elim,fun _ _ j h=>h.elim⟩
  ·simp only[if_neg c2]at hM⊢;have hm:M[st.length]? =some (kt a b):=hM.at (Ab _) (by simp) (yk _ _);have hE:sh M a->sh M b->eO M (st.length:Int):=(fun e e'=>eO.cA _ _ hm rfl (e.ve c1) (e'.ve c2));have hi:jQ (fun j=>N j\/j=st.length) nx (st.length:Int):=Or.inl ⟨_,rfl,Or.inr rfl⟩
   exact⟨fun j=>j=st.length,fun j h=>by subst h;simp,Or.inr hi,fun _ _=>hi,fun e e'=>Or.inr (hE e e'),fun j h=>by
    subst h;exact⟨_,hm,fun _=>ha.resolve_left c1,fun _=>hb.resolve_left c2⟩,fun e e' j h=>by subst h;exact hE e e'⟩
theorem ET(st:List MS)(f s:Ex):st.length<=(gC st f s).1.length/\(gC st f s).1.take st.length=st/\(gC st f s).1.length<=st.length+2:=by
 have h1:=tQ st f.2 s.2;unfold gC;split
 ·exact⟨h1.1,h1.2.1,by simp only;omega⟩
 ·have h2:=tQ (dL st f.2 s.2).1 f.1 s.1;exact⟨by simp only;omega,take_take h1.2.1 h2.2.1 h1.1,by simp only;omega⟩
theorem IQ{st:List MS}{f s:Ex}(hf:(-1<=f.2/\f.2<st.length)/\(-1<=f.1/\f.1<st.length))(hs:(-1<=s.2/\s.2<st.length)/\(-1<=s.1/\s.1<st.length))(az:f.2≠ -1\/s.2≠ -1):
 da (gC st f s).1.length (gC st f s).2/\(oO st->oO (gC st f s).1):=by
 have h1:=aaW hf.1 hs.1;have g1:=tQ st f.2 s.2;have hv:=h1.2.2.1 az;unfold gC;split
 ·exact⟨⟨by simp only;omega,by simp only;omega⟩,h1.2.2.2⟩
 ·have h2:=aaW (st:=(dL st f.2 s.2).1) (a:=f.1) (b:=s.1) (by omega) (by omega);have g2:=tQ (dL st f.2 s.2).1 f.1 s.1;exact⟨⟨by simp only;omega,by simp only;omega⟩,fun h=>h2.2.2.2 (h1.2.2.2 h)⟩
theorem T7{M st:List MS}{nx:Ex}{f s:Ex}(hf:lj M nx N a b f)(hs:lj M nx N' a' b' s)(h0:c0<=st.length)(Ug:c0<=a)(Uh:c0<=a')(lr:b<=st.length)(AH:b'<=st.length)
 (hM:gL M st.length (gC st f s).1.length (gC st f s).1):∃K,lj M nx K c0 (gC st f s).1.length (gC st f s).2:=by
 have lf:∀{t:Int},jQ N nx t->jQ (fun j=>N j\/N' j) nx t:=fun h=>h.mono (fun j hj=>Or.inl hj)
 have ls:∀{t:Int},jQ N' nx t->jQ (fun j=>N j\/N' j) nx t:=fun h=>h.mono (fun j hj=>Or.inr hj)
 have g1:=tQ st f.2 s.2
 have old:∀(K:Nat->Prop) j,N j\/N' j->∃m,M[j]? =some m/\D_ (jQ (fun j=>(N j\/N' j)\/K j) nx) m:=by
  intro K j hj;rcases hj with hj|hj
  ·obtain⟨m,h1,h2⟩:=hf.cl j hj;exact⟨m,h1,h2.mono (fun t ht=>(lf ht).mono (fun j hj=>Or.inl hj))⟩
  ·obtain⟨m,h1,h2⟩:=hs.cl j hj;exact⟨m,h1,h2.mono (fun t ht=>(ls ht).mono (fun j hj=>Or.inl hj))⟩
 unfold gC at hM⊢;by_cases c:f.1=f.2/\s.1=s.2
 ·rw[if_pos c]at hM⊢;obtain⟨K,k1,k2,k3,k4,k5,k6⟩:=T5 (N:=fun j=>N j\/N' j) (nx:=nx) hM (Or.inr (lf hf.rO)) (Or.inr (ls hs.rO));have dR:=k3 (lf hf.rO) (ls hs.rO)
  have ff:eO M nx.2->eO M (dL st f.2 s.2).2:=fun e=>by
   have hx:=k4 (Or.inr (hf.e2 e)) (Or.inr (hs.e2 e));rcases hx with hx|hx
   ·exfalso
    have h0:=(hf.e2 e).JJ;have h1:=(hs.e2 e).JJ;unfold dL at hx;rw[if_neg (by omega),if_neg (by omega)]at hx;simp only at hx;omega
   ·exact hx
  refine⟨fun j=>(N j\/N' j)\/K j,⟨fun j hj=>?_,Or.inr dR,dR,fun e=>?_,ff,fun j hj=>?_,fun e e' j hj=>?_⟩⟩
  ·rcases hj with(hj|hj)|hj
   ·have:=hf.yV j hj;simp only;omega
   ·have:=hs.yV j hj;simp only;omega
   ·have:=k1 j hj;simp only;omega
  ·exact k4 (c.1▸hf.e1 e) (c.2▸hs.e1 e)
  ·rcases hj with hj|hj
   ·exact old K j hj
   ·obtain⟨m,h1,h2⟩:=k5 j hj;exact⟨m,h1,h2.mono (fun t ht=>ht.mono (fun j hj=>Or.inl hj))⟩
  ·rcases hj with(hj|hj)|hj
   ·exact hf.es e e' j hj
   ·exact hs.es e e' j hj
   ·exact k6 (Or.inr (hf.e2 e)) (Or.inr (hs.e2 e)) j hj
 ·rw[if_neg c]at hM⊢;have g2:=tQ (dL st f.2 s.2).1 f.1 s.1;have iG:gL M st.length (dL st f.2 s.2).1.length (dL st f.2 s.2).1:=hM.left g2.2.1 g2.1;have FD:=hM.right (a:=(dL st f.2 s.2).1) g1.1;obtain⟨K,k1,k2,k3,k4,k5,k6⟩:=T5 (N:=fun j=>N j\/N' j) (nx:=nx) iG (Or.inr (lf hf.rO)) (Or.inr (ls hs.rO));obtain⟨J,j1,j2,j3,j4,j5,j6⟩:=T5 (N:=fun j=>N j\/N' j) (nx:=nx) FD (hf.BZ.imp_right lf) (hs.BZ.imp_right ls);have dR:=k3 (lf hf.rO) (ls hs.rO)
  have ff:eO M nx.2->eO M (dL st f.2 s.2).2:=fun e=>by
   have hx:=k4 (Or.inr (hf.e2 e)) (Or.inr (hs.e2 e));rcases hx with hx|hx
   ·exfalso
    have h0:=(hf.e2 e).JJ;have h1:=(hs.e2 e).JJ;unfold dL at hx;rw[if_neg (by omega),if_neg (by omega)]at hx;simp only at hx;omega
   ·exact hx
  refine⟨fun j=>(N j\/N' j)\/(K j\/J j),⟨fun j hj=>?_,?_,?_,fun e=>j4 (hf.e1 e) (hs.e1 e),ff,fun j hj=>?_,fun e e' j hj=>?_⟩⟩
  ·rcases hj with(hj|hj)|(hj|hj)
   ·have:=hf.yV j hj;simp only;omega
   ·have:=hs.yV j hj;simp only;omega
   ·have:=k1 j hj;simp only;omega
   ·have:=j1 j hj;simp only;omega
  ·exact j2.imp_right (fun h=>h.mono (fun j hj=>hj.imp_right Or.inr))
  ·exact dR.mono (fun j hj=>hj.imp_right Or.inl)
  ·rcases hj with hj|(hj|hj)
   ·exact old _ j hj
   ·obtain⟨m,h1,h2⟩:=k5 j hj;exact⟨m,h1,h2.mono (fun t ht=>ht.mono (fun j hj=>Or.inl hj))⟩
   ·obtain⟨m,h1,h2⟩:=j5 j hj;exact⟨m,h1,h2.mono (fun t ht=>ht.mono (fun j hj=>Or.inl hj))⟩
  ·rcases hj with(hj|hj)|(hj|hj)
   ·exact hf.es e e' j hj
   ·exact hs.es e e' j hj
   ·exact k6 (Or.inr (hf.e2 e)) (Or.inr (hs.e2 e)) j hj
   ·exact j6 (hf.e1 e') (hs.e1 e') j hj
theorem tP(lz:Bool)(st:List MS)(f s:Ex):st.length<=(dj lz st f s).1.length/\(dj lz st f s).1.take st.length=st/\(dj lz st f s).1.length<=st.length+2:=by
 unfold dj
 cases lz
 ·exact ET st f s
 ·exact ET st s f
theorem yg{st:List MS}(lz:Bool){f s:Ex}(hf:(-1<=f.2/\f.2<st.length)/\(-1<=f.1/\f.1<st.length))(hs:(-1<=s.2/\s.2<st.length)/\(-1<=s.1/\s.1<st.length))(az:f.2≠ -1\/s.2≠ -1):
 da (dj lz st f s).1.length (dj lz st f s).2/\(oO st->oO (dj lz st f s).1):=by
 unfold dj
 cases lz
 ·exact IQ hf hs az
 ·exact IQ hs hf az.symm
theorem aaD{M st:List MS}{nx:Ex}{f s:Ex}(lz:Bool)(hf:lj M nx N a b f)(hs:lj M nx N' a' b' s)(h0:c0<=st.length)(Ug:c0<=a)(Uh:c0<=a')(lr:b<=st.length)(AH:b'<=st.length)
 (hM:gL M st.length (dj lz st f s).1.length (dj lz st f s).1):∃K,lj M nx K c0 (dj lz st f s).1.length (dj lz st f s).2:=by
 unfold dj at*
 cases lz
 ·exact T7 hf hs h0 Ug Uh lr AH hM
 ·exact T7 hs hf h0 Uh Ug AH lr hM
theorem da.lU{x:Ex}(h:da n x):(-1<=x.2/\x.2<n)/\(-1<=x.1/\x.1<n):=by unfold da at h;omega
theorem BS.aE{f g:Bl}(hf:BS f c)(hg:BS g d):BS (fun st nx=>gC (f (g st nx).1 nx).1 (f (g st nx).1 nx).2 (g st nx).2) (d+c+2) where
 grow st nx:=by
  have a:=hg.grow st nx;have b:=hf.grow (g st nx).1 nx;have e:=ET (f (g st nx).1 nx).1 (f (g st nx).1 nx).2 (g st nx).2;exact⟨by omega,take_take (take_take a.2 b.2 a.1) e.2.1 (by omega)⟩
 bJ st nx:=by
  have a:=hg.bJ st nx;have b:=hf.bJ (g st nx).1 nx;have e:=ET (f (g st nx).1 nx).1 (f (g st nx).1 nx).2 (g st nx).2;omega
 fI st nx h:=by
  have a:=hg.grow st nx;have b:=hf.grow (g st nx).1 nx;have x1:=hg.fI st nx h;have x2:=hf.fI (g st nx).1 nx (h.mono a.1);exact(IQ x2.lU (x1.mono b.1).lU (Or.inl (by have:=x2.1;omega))).1
 oc st nx h ha:=by
  have a:=hg.grow st nx;have b:=hf.grow (g st nx).1 nx;have x1:=hg.fI st nx h;have x2:=hf.fI (g st nx).1 nx (h.mono a.1);exact(IQ x2.lU (x1.mono b.1).lU (Or.inl (by have:=x2.1;omega))).2 (hf.oc _ _ (h.mono a.1) (hg.oc _ _ h ha))
 sub st nx h M hM:=by
  have a:=hg.grow st nx;have b:=hf.grow (g st nx).1 nx;have e:=ET (f (g st nx).1 nx).1 (f (g st nx).1 nx).2 (g st nx).2;have iG:gL M st.length (f (g st nx).1 nx).1.length (f (g st nx).1 nx).1:=hM.left e.2.1 e.1;obtain⟨N,hN⟩:=hg.sub st nx h M (iG.left b.2 b.1);obtain⟨N',Ux⟩:=hf.sub (g st nx).1 nx (h.mono a.1) M (iG.right a.1);exact T7 Ux hN (by omega) a.1 (Ab _) (Ab _) b.1 (hM.right (by omega))
theorem BS.gK{f:Bl}(hf:BS f c):∀m,BS (nz f m) (m*c)
 |0=>by rw[Fh];exact BS.id
 |m+1=>by
  have:=(BS.gK hf m).comp hf;exact this.eG (by rw[Fi];omega)
structure BO(lz:Bool)(part:Bl)(m:Nat)(c:Nat):Prop where
 grow:∀nx st all,st.length<=(fK part lz nx m st all).1.length/\(fK part lz nx m st all).1.take st.length=st
 bJ:∀nx st all,(fK part lz nx m st all).1.length<=st.length+c
 fI:∀nx st all,da st.length nx->da st.length all->da (fK part lz nx m st all).1.length (fK part lz nx m st all).2
 oc:∀nx st all,da st.length nx->da st.length all->oO st->oO (fK part lz nx m st all).1
 sub:∀nx st all,da st.length nx->da st.length all->∀M,gL M st.length (fK part lz nx m st all).1.length (fK part lz nx m st all).1->∀a N,a<=st.length->lj M nx N a st.length all->∃N',lj M nx N' a (fK part lz nx m st all).1.length (fK part lz nx m st all).2
theorem BS.nR{f:Bl}(lz:Bool)(hf:BS f c):∀m,BO lz f m (m*(c+2))
 |0=>⟨fun nx st all=>⟨Ab _,Cn⟩,fun nx st all=>by simp[fK],fun nx st all _ h=>h,fun nx st all _ _ h=>h,fun nx st all _ _ M _ a N _ h=>⟨N,h⟩⟩
 |m+1=>by
  have ih:=BS.nR lz hf m;refine⟨fun nx st all=>?_,fun nx st all=>?_,fun nx st all hn ha=>?_,fun nx st all hn ha hA=>?_,fun nx st all hn ha M hM a N hle hN=>?_⟩
  ·have g1:=hf.grow st all;have g2:=tP lz (f st all).1 (f st all).2 nx;have g3:=ih.grow nx (dj lz (f st all).1 (f st all).2 nx).1 (dj lz (f st all).1 (f st all).2 nx).2;exact⟨by unfold fK;omega,take_take (take_take g1.2 g2.2.1 g1.1) g3.2 (by omega)⟩
  ·have g1:=hf.bJ st all;have g2:=tP lz (f st all).1 (f st all).2 nx;have g3:=ih.bJ nx (dj lz (f st all).1 (f st all).2 nx).1 (dj lz (f st all).1 (f st all).2 nx).2;rw[Fi];unfold fK;omega
  ·have g1:=hf.grow st all;have g2:=tP lz (f st all).1 (f st all).2 nx;have x2:=hf.fI st all ha;have x3:=yg lz x2.lU (hn.mono g1.1).lU (Or.inl (by have:=x2.1;omega));exact ih.fI nx _ _ (hn.mono (by omega)) x3.1
  ·have g1:=hf.grow st all;have g2:=tP lz (f st all).1 (f st all).2 nx;have x2:=hf.fI st all ha;have x3:=yg lz x2.lU (hn.mono g1.1).lU (Or.inl (by have:=x2.1;omega));exact ih.oc nx _ _ (hn.mono (by omega)) x3.1 (x3.2 (hf.oc _ _ ha hA))
  ·have g1:=hf.grow st all;have g2:=tP lz (f st all).1 (f st all).2 nx;have g3:=ih.grow nx (dj lz (f st all).1 (f st all).2 nx).1 (dj lz (f st all).1 (f st all).2 nx).2;have x2:=hf.fI st all ha;have x3:=yg lz x2.lU (hn.mono g1.1).lU (Or.inl (by have:=x2.1;omega));have FD:gL M st.length (dj lz (f st all).1 (f st all).2 nx).1.length (dj lz (f st all).1 (f st all).2 nx).1:=gL.left hM g3.2 g3.1;obtain⟨N1,h1⟩:=hf.sub st all ha M (FD.left g2.2.1 g2.1);obtain⟨K,hK⟩:=aaD lz (hN.trans h1 hle g1.1) (lj.refl M nx a) (by omega) (Ab _) (Ab _) (Ab _) (by omega) (FD.right g1.1);exact ih.sub nx _ _ (hn.mono (by omega)) x3.1 M (gL.right hM (by omega)) a K (by omega) hK
theorem BO.bs{f:Bl}{lz:Bool}{m:Nat}(h:BO lz f m c):BS (fun st nx=>fK f lz nx m st nx) c where
 grow st nx:=h.grow nx st nx
 bJ st nx:=h.bJ nx st nx
 fI st nx hx:=h.fI nx st nx hx hx
 oc st nx hx ha:=h.oc nx st nx hx hx ha
 sub st nx hx M hM:=h.sub nx st nx hx hx M hM st.length _ (Ab _) (lj.refl M nx st.length)
theorem aaA(lz:Bool)(st:List MS)(nx:Ex):dj lz st (-1,-1) nx=(st,nx):=by
 obtain⟨a,b⟩:=nx;unfold dj gC dL;by_cases h:a=b
 ·subst h;by_cases h2:a= -1<;>cases lz<;>simp[h2]
 ·by_cases h2:a= -1<;>by_cases h3:b= -1<;>cases lz<;>simp[h,h2,h3]<;>omega
theorem aaz(lz:Bool)(st:List MS){t:Int}{nx:Ex}(ht:t≠ -1)(hn:nx.2≠ -1):(dj lz st (t,t) nx).2.2=st.length/\(dj lz st (t,t) nx).1[st.length]? =some (if lz then kt nx.2 t else kt t nx.2):=by
 cases lz
 ·have h1:dL st t nx.2=(st++[kt t nx.2],(st.length:Int)):=by unfold dL;rw[if_neg ht,if_neg hn]
  simp only[dj,Aq,if_false];unfold gC;simp only;rw[h1];split
  ·exact⟨rfl,by simp⟩
  ·have g:=tQ (st++[kt t nx.2]) t nx.1;exact⟨rfl,(LM g.2.1 (by simp)).trans (by simp)⟩
 ·have h1:dL st nx.2 t=(st++[kt nx.2 t],(st.length:Int)):=by unfold dL;rw[if_neg hn,if_neg ht]
  simp only[dj,if_true];unfold gC;simp only;rw[h1];split
  ·exact⟨rfl,by simp⟩
  ·have g:=tQ (st++[kt nx.2 t]) nx.1 t;exact⟨rfl,(LM g.2.1 (by simp)).trans (by simp)⟩
theorem BS.loop{f:Bl}(lz:Bool)(hf:BS f c):BS (ny f lz) (c+3) where
 grow st nx:=by
  have g1:=hf.grow (st++[bN]) (-1,st.length);have g2:=tP lz (f (st++[bN]) (-1,st.length)).1 ((f (st++[bN]) (-1,st.length)).2.1,(f (st++[bN]) (-1,st.length)).2.1) nx;have g0:(st++[bN]).take st.length=st:=by simp
  have hl:(st++[bN]).length=st.length+1:=by simp
  rw[hl]at g1;unfold ny qm;refine⟨by simp only[Bm];omega,?_⟩;have e1:(f (st++[bN]) (-1,st.length)).1.take st.length=st:=take_take g0 (by rw[hl];exact g1.2) (by simp);have e2:=take_take e1 g2.2.1 (by omega);simp only;rw[List.take_set,List.set_eq_of_length_le (by simp;omega)];exact e2
 bJ st nx:=by
  have g1:=hf.bJ (st++[bN]) (-1,st.length);have g2:=tP lz (f (st++[bN]) (-1,st.length)).1 ((f (st++[bN]) (-1,st.length)).2.1,(f (st++[bN]) (-1,st.length)).2.1) nx;have hl:(st++[bN]).length=st.length+1:=by simp
  unfold ny qm;simp only[Bm];omega
 fI st nx h:=by
  have hl:(st++[bN]).length=st.length+1:=by simp
  have x1:=hf.fI (st++[bN]) (-1,st.length) (by rw[hl];unfold da;simp only;omega);have g1:=hf.grow (st++[bN]) (-1,st.length);have x2:=x1.2;have x3:=yg (st:=(f (st++[bN]) (-1,st.length)).1) lz (f:=((f (st++[bN]) (-1,st.length)).2.1,(f (st++[bN]) (-1,st.length)).2.1)) ⟨x2,x2⟩ (h.mono (by omega)).lU (Or.inr (by have:=h.1;omega));unfold ny qm;simp only[Bm];exact x3.1
 oc st nx h ha:=by
  have hl:(st++[bN]).length=st.length+1:=by simp
  have hx:da (st++[bN]).length (-1,(st.length:Int)):=by rw[hl];unfold da;simp only;omega
  have x1:=hf.fI (st++[bN]) (-1,st.length) hx;have a1:=hf.oc (st++[bN]) (-1,st.length) hx (ha.qU (by unfold ss bN;simp only;omega));have g1:=hf.grow (st++[bN]) (-1,st.length);have x2:=x1.2;have x3:=yg (st:=(f (st++[bN]) (-1,st.length)).1) lz (f:=((f (st++[bN]) (-1,st.length)).2.1,(f (st++[bN]) (-1,st.length)).2.1)) ⟨x2,x2⟩ (h.mono (by omega)).lU (Or.inr (by have:=h.1;omega));have a3:=x3.2 a1;unfold ny qm;intro m hm;simp only[Bm]at hm⊢;rcases Dx hm with h1|h1
  ·exact a3 m h1
  ·subst h1
   have aw:(dj lz (f (st++[bN]) (-1,st.length)).1 ((f (st++[bN]) (-1,st.length)).2.1,(f (st++[bN]) (-1,st.length)).2.1) nx).2.2.toNat<(dj lz (f (st++[bN]) (-1,st.length)).1 ((f (st++[bN]) (-1,st.length)).2.1,(f (st++[bN]) (-1,st.length)).2.1) nx).1.length:=by
    have:=x3.1.1;omega
   rw[Af,Ae aw];exact a3 _ (A5 aw)
 sub st nx h M hM:=by
  have hl:(st++[bN]).length=st.length+1:=by simp
  have hx:da (st++[bN]).length (-1,(st.length:Int)):=by rw[hl];unfold da;simp only;omega
  have g1:=hf.grow (st++[bN]) (-1,st.length);have x1:=hf.fI (st++[bN]) (-1,st.length) hx;have aeU:=hf.sub (st++[bN]) (-1,st.length) hx M;unfold ny qm at hM⊢;generalize hP:f (st++[bN]) (-1,st.length)=P at*;obtain⟨S,t,u⟩:=P;simp only[Bm]at hM g1 x1 aeU⊢;have g2:=tP lz S (t,t) nx;have n2:nx.2≠ -1:=by have:=h.1;omega
  by_cases ht:t= -1
  ·subst ht;rw[aaA]at hM⊢;refine⟨fun _=>False,?_⟩;have:=lj.refl M nx st.length;exact⟨fun j hj=>hj.elim,this.BZ,this.rO,this.e1,this.e2,this.cl,this.es⟩
  ·have em:=aaz lz S (t:=t) (nx:=nx) ht n2;generalize hE:dj lz S (t,t) nx=E at*
   have mU:E.1.getD E.2.2.toNat bN=(if lz then kt nx.2 t else kt t nx.2):=by
    rw[em.1,Ay,Af,em.2];rfl
   rw[mU]at hM
   have hA:M[st.length]? =some (if lz then kt nx.2 t else kt t nx.2):=by
    rw[hM st.length (Ab _) (by omega)];exact Ef (by omega)
   have tS:gL M (st.length+1) E.1.length E.1:=fun j h1 h2=>by
    rw[hM j (by omega) h2,Er (by omega)]
   obtain⟨N,hN⟩:=aeU (by rw[hl];exact gL.left tS g2.2.1 g2.1);rw[hl]at hN;have BJ:eO M t:=(hN.e1 (Or.inl rfl)).ve ht
   have hAE:eO M nx.2->eO M (st.length:Int):=fun e=>by
    cases lz
    ·exact eO.cA _ _ hA rfl BJ e
    ·exact eO.cA _ _ hA rfl e BJ
   have yJ:∀{s:Int},jQ N (-1,(st.length:Int)) s->jQ (fun j=>N j\/j=st.length) nx s:=by
    intro s hs;rcases hs with⟨j,h1,h2⟩|h1|⟨h1,h2⟩
    ·exact Or.inl ⟨j,h1,Or.inl h2⟩
    ·exact Or.inl ⟨st.length,h1,Or.inr rfl⟩
    ·exact absurd rfl h2
   have dR:jQ (fun j=>N j\/j=st.length) nx t:=yJ (hN.BZ.resolve_left ht)
   have hT:lj M nx (fun j=>N j\/j=st.length) st.length S.length (t,t):=by
    refine⟨fun j hj=>?_,Or.inr dR,dR,fun _=>Or.inr BJ,fun _=>BJ,fun j hj=>?_,fun e e' j hj=>?_⟩
    ·rcases hj with hj|hj
     ·have:=hN.yV j hj;omega
     ·omega
    ·rcases hj with hj|rfl
     ·obtain⟨m,h1,h2⟩:=hN.cl j hj;exact⟨m,h1,h2.mono (fun s hs=>yJ hs)⟩
     ·refine⟨_,hA,?_⟩;have h2:jQ (fun j=>N j\/j=st.length) nx nx.2:=Or.inr (Or.inl rfl)
      cases lz
      ·exact⟨fun _=>dR,fun _=>h2⟩
      ·exact⟨fun _=>h2,fun _=>dR⟩
    ·rcases hj with hj|rfl
     ·exact hN.es (hAE e) (Or.inl rfl) j hj
     ·exact hAE e
   have:=aaD (st:=S) lz hT (lj.refl M nx st.length) (c0:=st.length) (by omega) (Ab _) (Ab _) (Ab _) (by omega) (by rw[hE];exact fun j h1 h2=>tS j (by omega) h2);rw[hE]at this;exact this
theorem BS.wh{f:Bl}(hf:BS f (4*c))(lo hi:Int)(lz:Bool)(h0:0<=lo)(h1:hi= -1\/lo<=hi):BS (nA f lo hi lz) (4*((if hi= -1 then lo+1 else hi).toNat*(c+1))):=by
 unfold nA;by_cases e:hi= -1
 ·simp only[e,if_true];refine((hf.gK lo.toNat).comp (hf.loop lz)).eG ?_;have:(lo+1).toNat=lo.toNat+1:=by omega
  rw[this,Cs,E6 lo.toNat];have:lo.toNat*(4*c)=4*(lo.toNat*c):=by rw[D3]
  omega
 ·simp only[e,if_false];refine((hf.gK lo.toNat).comp (hf.nR lz (hi-lo).toNat).bs).eG ?_;have hle:lo<=hi:=h1.resolve_left e;obtain⟨d,hd⟩:∃d,hi.toNat=lo.toNat+d:=⟨(hi-lo).toNat,by omega⟩
  have:(hi-lo).toNat=d:=by omega
  rw[this,hd,Cs,E6 lo.toNat,E6 d c,E6 d (4*c)];have:lo.toNat*(4*c)=4*(lo.toNat*c):=by rw[D3]
  have:d*(4*c)=4*(d*c):=by rw[D3]
  omega
mutual
theorem CT.ze:∀C:CT,C.ok->0<=C.sz
 |.node k sp fo nt ed gr lo hi lz cP,h=>by
  unfold CT.ok at h;obtain⟨h1,h2,h3,h5,h6⟩:=h;have hs:=CT.wg cP h6;unfold CT.sz;by_cases k0:k=0\/k=1\/k=2
  ·rw[if_pos k0];omega
  ·rw[if_neg k0];by_cases k4:k=4
   ·rw[if_pos k4];have:=Br.2 (h3 k4);omega
   ·rw[if_neg k4];by_cases k5:k=5
    ·rw[if_pos k5];have LP:=h5 k5;have:0<=(if hi= -1 then lo+1 else hi)*(CT.cG cP+1):=Int.mul_nonneg (by split<;>omega) (by omega);omega
    ·rw[if_neg k5];omega
theorem CT.wg:∀cs:List CT,CT.ey cs->0<=CT.cG cs
 | [],_=>by simp[CT.cG]
 |c::cs,h=>by
  unfold CT.ey at h;have h1:=CT.ze c h.1;have h2:=CT.wg cs h.2;unfold CT.cG;omega
end
theorem BS.mark(n:Int):BS (fe (iB n)) 2:=BS.rR _ (fun _=>Or.inr rfl) (fun _=>⟨rfl,rfl⟩)
theorem BS.qV(n:Int):BS (fe (se n)) 2:=BS.rR _ (fun _=>Or.inl rfl) (fun _=>⟨rfl,rfl⟩)
mutual
theorem od:∀C:CT,C.ok->C.sz<=1000->BS (bu C) (4*C.sz.toNat)
 |.node k sp fo nt ed gr lo hi lz cP,h,hs=>by
  unfold CT.ok at h;obtain⟨h1,h2,h3,h5,h6⟩:=h;have hn:=CT.wg cP h6;have sL:=ZR cP h6;have FE:=Tr cP h6;have E_:=Tq cP h6;unfold CT.sz at hs⊢;unfold bu;by_cases k0:k=0
  ·simp only[k0,if_true,true_or]at hs⊢;exact(BS.take sp fo nt).eG (by omega)
  ·by_cases k1:k=1
   ·simp only[k1,if_true,true_or,or_true,Int.reduceEq,if_false]at hs⊢;exact(BS.qV ed).eG (by omega)
   ·by_cases k2:k=2
    ·simp only[k2,if_true,or_true,Int.reduceEq,if_false]at hs⊢;have hO:=sL (by omega) (h2 (Or.inl k2));by_cases g0:gr=0
     ·simp only[g0,if_true];exact hO.eG (by omega)
     ·simp only[g0,if_false];refine((BS.mark (2*(gr-1))).comp (hO.comp (BS.mark (2*(gr-1)+1)))).eG ?_;omega
    ·have TL:¬(k=0\/k=1\/k=2):=(by omega);rw[if_neg TL]at hs⊢;simp only[k0,k1,k2,if_false];by_cases k3:k=3
     ·simp only[k3,if_true,Int.reduceEq,if_false]at hs⊢;exact(FE (by omega)).eG (by omega)
     ·by_cases k4:k=4
      ·simp only[k4,if_true,Int.reduceEq,if_false]at hs⊢;have hp:=Br.2 (h3 k4);exact(E_ (by omega) (h3 k4)).eG (by omega)
      ·have k5:k=5:=(by omega);simp only[k5,if_true,Int.reduceEq,if_false]at hs⊢;have hb:=h5 k5;have hc:0<=(if hi= -1 then lo+1 else hi)/\(if hi= -1 then lo+1 else hi)<=21:=by split<;>omega
       generalize jx:(if hi= -1 then lo+1 else hi)=cc at*
       by_cases z:cc=0
       ·have cS:hi=0/\lo=0:=(by split at jx<;>omega);rw[z,Int.zero_mul]
        have e:nA (mg cP) lo hi lz=fun st nx=>(st,nx):=by
         funext st nx
         unfold nA;rw[cS.1,cS.2];rfl
        have e':(fun st nx=>nA (mg cP) lo hi lz st nx)=fun st nx=>(st,nx):=by rw[e]
        rw[e'];exact BS.id
       ·have hm:cc*(CT.cG cP+1)<=1000:=by omega
        have gO:CT.cG cP+1<=cc*(CT.cG cP+1):=by
         have:=D7 (show 1<=cc by omega) (show 0<=CT.cG cP+1 by omega);rw[Int.one_mul]at this;exact this
        have hO:=sL (by omega) (h2 (Or.inr k5));have ht:=BS.wh hO lo hi lz hb.1 hb.2.2.2.2;rw[jx]at ht;refine ht.eG ?_
        have:(cc*(CT.cG cP+1)).toNat=cc.toNat*((CT.cG cP).toNat+1):=by
         rw[Int.toNat_mul hc.1 (by omega)];congr 1;omega
        have e:(min (cc*(CT.cG cP+1)) 1001).toNat=(cc*(CT.cG cP+1)).toNat:=(by omega);rw[e,this];exact Ab _
theorem ZR:∀cs:List CT,CT.ey cs->CT.cG cs<=1000->cs.length=1->BS (mg cs) (4*(CT.cG cs).toNat)
 | [],_,_,hl=>by simp at hl
 | [c],h,hs,_=>by
   unfold CT.ey at h;simp only[CT.cG,Int.add_zero]at hs⊢;unfold mg;exact od c h.1 hs
 |c::d::cs,h,hs,hl=>by simp at hl
theorem Tr:∀cs:List CT,CT.ey cs->CT.cG cs<=1000->BS (jv cs) (4*(CT.cG cs).toNat)
 | [],_,_=>by unfold jv;exact BS.id.eG (by omega)
 |c::cs,h,hs=>by
  unfold CT.ey at h;have h1:=CT.ze c h.1;have h2:=CT.wg cs h.2;unfold CT.cG at hs⊢;unfold jv;refine((od c h.1 (by omega)).comp (Tr cs h.2 (by omega))).eG ?_;omega
theorem Tq:∀cs:List CT,CT.ey cs->CT.cG cs<=1000->cs≠ []->BS (iO cs) (4*(CT.cG cs).toNat+2*(cs.length-1))
 | [],_,_,hl=>absurd rfl hl
 | [c],h,hs,_=>by
   unfold CT.ey at h;simp only[CT.cG,Int.add_zero]at hs⊢;unfold iO;exact(od c h.1 hs).eG (by simp)
 |c::d::cs,h,hs,hl=>by
  have hc:CT.ok c/\CT.ey (d::cs):=by unfold CT.ey at h;exact h
  have h1:=CT.ze c hc.1;have h2:=CT.wg (d::cs) hc.2;have qG:CT.sz c+CT.cG (d::cs)<=1000:=by unfold CT.cG at hs;exact hs
  have e:CT.cG (c::d::cs)=CT.sz c+CT.cG (d::cs):=by rw[CT.cG]
  rw[e];unfold iO;refine((od c hc.1 (by omega)).aE (Tq (d::cs) hc.2 (by omega) (by simp))).eG ?_;simp only[Av];omega
end
