/- What a pattern's pieces match, as plain functions -/
import Derived.Test.YtmbpfhlnifdhgaaGreatDoorP10
set_option linter.unusedVariables false
set_option linter.unusedSimpArgs false
set_option maxRecDepth 100000
set_option maxHeartbeats 4000000
namespace Go.Proofs.YtmbpfhlnifdhgaaGreatDoor
open Go.Proofs.Tryz
abbrev aD:=Nat->List Int->Option (Nat×List Int)
def fq:aD:=fun _ _=>none
def fT(a b:aD):aD:=fun i gs=>match a i gs with
 |some v=>some v
 |none=>b i gs
def kQ(a b:aD×aD):aD×aD:=(fT a.1 b.1,fT a.2 b.2)
def nK(lz:Bool)(part rest:aD×aD):aD×aD:=if lz then kQ rest part else kQ part rest
def mM(sp:bN)(fo nt:Bool)(c:Int):Bool:=(bM sp c||(fo&&n9 c&&bM sp (oU c))) !=nt
def qF(x:TX)(ed:Int)(i:Nat):Bool:=
 if ed=0 then i==0 else if ed=1 then i==x.l.length else if ed=2 then x.jY ((i:Int)-1) !=x.jY i else !(x.jY ((i:Int)-1) !=x.jY i)
def pP(x:TX)(sp:bN)(fo nt:Bool)(k:aD):aD:=fun i gs=>if decide (i<x.l.length)&&mM sp fo nt (x.dd i)then k (i+1) gs else none
def xC(x:TX)(ed:Int)(k:aD):aD:=fun i gs=>if qF x ed i then k i gs else none
def zW(x:TX)(slot:Nat)(k:aD):aD:=fun i gs=>k i (gs.set slot (x.eX i))
def E5(x:TX)(ed:Int)(p:aD×aD):aD×aD:=(xC x ed p.1,xC x ed p.2)
def yz(x:TX)(slot:Nat)(p:aD×aD):aD×aD:=(zW x slot p.1,zW x slot p.2)
def pF(f:aD×aD->aD×aD):Nat->aD×aD->aD×aD
 |0,p=>p
 |n+1,p=>f (pF f n p)
def jv(part:aD×aD->aD×aD)(lz:Bool)(rest:aD):Nat->aD
 |0=>fq
 |n+1=>if lz then fT rest (part (fq,jv part lz rest n)).1 else fT (part (fq,jv part lz rest n)).1 rest
def so(x:TX)(part:aD×aD->aD×aD)(lz:Bool)(nx:aD×aD):aD×aD:=
 nK lz ((part (fq,jv part lz nx.2 (x.l.length+1))).1,(part (fq,jv part lz nx.2 (x.l.length+1))).1) nx
def AB(part:aD×aD->aD×aD)(lz:Bool)(nx:aD×aD):aD×aD->aD×aD:=fun all=>nK lz (part all) nx
def l9(x:TX)(part:aD×aD->aD×aD)(lo hi:Int)(lz:Bool)(nx:aD×aD):aD×aD:=
 pF part lo.toNat (if hi= -1 then so x part lz nx else pF (AB part lz nx) (hi-lo).toNat nx)
mutual
def eH(x:TX):CT->aD×aD->aD×aD
 |.node k sp fo nt ed gr lo hi lz aJ=>fun nx=>
  if k=0 then(pP x sp fo nt nx.2,pP x sp fo nt nx.2)
  else if k=1 then E5 x ed nx
  else if k=2 then(if gr=0 then uK x aJ nx else yz x (2*(gr.toNat-1)) (uK x aJ (yz x (2*(gr.toNat-1)+1) nx)))
  else if k=3 then uL x aJ nx
  else if k=4 then qq x aJ nx
  else l9 x (uK x aJ) lo hi lz nx
def uK(x:TX):List CT->aD×aD->aD×aD
 | []=>fun nx=>nx
 |c::_=>eH x c
def uL(x:TX):List CT->aD×aD->aD×aD
 | []=>fun nx=>nx
 |c::cs=>fun nx=>eH x c (uL x cs nx)
def qq(x:TX):List CT->aD×aD->aD×aD
 | []=>fun _=>(fq,fq)
 | [c]=>eH x c
 |c::d::cs=>fun nx=>kQ (eH x c nx) (qq x (d::cs) nx)
end
def xP(n i:Nat)(a b:aD):Prop:=∀j,i<=j->j<=n->∀gs,a j gs=b j gs
theorem xP.later{n i k:Nat}{a b:aD}(h:xP n i a b)(hk:i<=k):xP n k a b:=fun j h1 h2 gs=>h j (by omega) h2 gs
def dR(n:Nat)(f:aD×aD->aD×aD):Prop:=∀(i:Nat) (p q:aD×aD),i<=n->
 ((∀gs,p.1 i gs=q.1 i gs)->xP n (i+1) p.2 q.2->∀gs,(f p).1 i gs=(f q).1 i gs)/\(xP n i p.2 q.2->∀gs,(f p).2 i gs=(f q).2 i gs)
variable {n:Nat}
theorem dR.EJ{f:aD×aD->aD×aD}(h:dR n f){i:Nat}{p q:aD×aD}(e:xP n i p.2 q.2):xP n i (f p).2 (f q).2:=
 fun j hj hn gs=>(h j p q hn).2 (e.later hj) gs
theorem dR.comp{f g:aD×aD->aD×aD}(hf:dR n f)(hg:dR n g):dR n (fun p=>f (g p)):=fun i p q hi=>
 ⟨fun h1 h2 gs=>(hf i (g p) (g q) hi).1 (fun dc=>(hg i p q hi).1 h1 h2 dc) (hg.EJ h2) gs,fun h gs=>(hf i (g p) (g q) hi).2 (hg.EJ h) gs⟩
theorem dR.id:dR n (fun p=>p):=fun i p q hi=>⟨fun h1 _ gs=>h1 gs,fun h gs=>h i (Aa _) hi gs⟩
theorem dR.oB{f g:aD×aD->aD×aD}(hf:dR n f)(hg:dR n g):dR n (fun p=>kQ (f p) (g p)):=fun i p q hi=>
 ⟨fun h1 h2 gs=>by simp only[kQ,fT];rw[(hf i p q hi).1 h1 h2,(hg i p q hi).1 h1 h2],fun h gs=>by simp only[kQ,fT];rw[(hf i p q hi).2 h,(hg i p q hi).2 h]⟩
theorem dR.FX{f g:aD×aD->aD×aD}(lz:Bool)(hf:dR n f)(hg:dR n g):dR n (fun p=>nK lz (f p) (g p)):=by
 unfold nK
 cases lz
 ·exact hf.oB hg
 ·exact hg.oB hf
theorem dR.iter{f:aD×aD->aD×aD}(hf:dR n f):∀m,dR n (pF f m)
 |0=>dR.id
 |m+1=>hf.comp (dR.iter hf m)
theorem dR.oT{f:aD×aD->aD×aD}(hf:dR n f)(lz:Bool):∀m,dR n (fun p=>pF (AB f lz p) m p)
 |0=>dR.id
 |m+1=>(hf.comp (dR.oT hf lz m)).FX lz dR.id
theorem dR.take(x:TX)(sp:bN)(fo nt:Bool):dR x.l.length (fun p=>(pP x sp fo nt p.2,pP x sp fo nt p.2)):=fun i p q hi=>
 ⟨fun _ h gs=>by
   simp only[pP];by_cases ar:i<x.l.length
   ·rw[h (i+1) (Aa _) ar]
   ·simp[ar],fun h gs=>by
   simp only[pP];by_cases ar:i<x.l.length
   ·rw[h (i+1) (by omega) ar]
   ·simp[ar]⟩
theorem dR.vQ(x:TX)(ed:Int):dR n (E5 x ed):=fun i p q hi=>
 ⟨fun h _ gs=>by simp only[E5,xC];rw[h],fun h gs=>by simp only[E5,xC];rw[h i (Aa _) hi]⟩
theorem dR.mark(x:TX)(s:Nat):dR n (yz x s):=fun i p q hi=>
 ⟨fun h _ gs=>by simp only[yz,zW];rw[h],fun h gs=>by simp only[yz,zW];rw[h i (Aa _) hi]⟩
theorem dR.none:dR n (fun _=>(fq,fq)):=fun i p q hi=>⟨fun _ _ gs=>rfl,fun _ gs=>rfl⟩
theorem af5{part:aD×aD->aD×aD}(hp:dR n part)(lz:Bool)(rest:aD):∀(d k i:Nat),n-i<d->d<=k->i<=n->∀gs,jv part lz rest k i gs=jv part lz rest d i gs:=by
 intro d;induction d with
 |zero=>intro k i h;omega
 |succ d ih=>
  intro k i h1 h2 h3 gs;obtain⟨k,rfl⟩:∃k',k=k'+1:=⟨k-1,by omega⟩
  have e:∀gs,(part (fq,jv part lz rest k)).1 i gs=(part (fq,jv part lz rest d)).1 i gs:=by
   refine(hp i (fq,jv part lz rest k) (fq,jv part lz rest d) h3).1 (fun _=>rfl) (fun j j1 j2 gs=>?_);exact ih k j (by omega) (by omega) j2 gs
  unfold jv
  cases lz
  ·simp only[Ag,if_false,fT];rw[e]
  ·simp only[if_true,fT];rw[e]
def nD(n:Nat)(part:aD×aD->aD×aD)(lz:Bool)(rest:aD):aD:=jv part lz rest (n+1)
theorem Tw{part:aD×aD->aD×aD}(hp:dR n part)(lz:Bool)(rest:aD)(i:Nat)(hi:i<=n)(gs:List Int):
 nD n part lz rest i gs=(if lz then fT rest (part (fq,nD n part lz rest)).1 else fT (part (fq,nD n part lz rest)).1 rest) i gs:=by
 have e:∀gs,(part (fq,jv part lz rest n)).1 i gs=(part (fq,nD n part lz rest)).1 i gs:=
  (hp i _ _ hi).1 (fun _=>rfl) (fun j j1 j2 gs=>(af5 hp lz rest n (n+1) j (by omega) (by omega) j2 gs).symm)
 show jv part lz rest (n+1) i gs=_
 rw[show jv part lz rest (n+1)=if lz then fT rest (part (fq,jv part lz rest n)).1 else fT (part (fq,jv part lz rest n)).1 rest from rfl]
 cases lz
 ·simp only[Ag,if_false,fT];rw[e]
 ·simp only[if_true,fT];rw[e]
theorem dR.loop(x:TX){part:aD×aD->aD×aD}(hp:dR x.l.length part)(lz:Bool):dR x.l.length (so x part lz):=by
 have key:∀(i:Nat) (p q:aD×aD),xP x.l.length i p.2 q.2->∀d,xP x.l.length i (jv part lz p.2 d) (jv part lz q.2 d):=by
  intro i p q h d;induction d with
  |zero=>intro j _ _ gs;rfl
  |succ d ih=>
   intro j j1 j2 gs
   have e:∀gs,(part (fq,jv part lz p.2 d)).1 j gs=(part (fq,jv part lz q.2 d)).1 j gs:=
    (hp j _ _ j2).1 (fun _=>rfl) (ih.later (by omega))
   unfold jv
   cases lz
   ·simp only[Ag,if_false,fT];rw[e,h j j1 j2]
   ·simp only[if_true,fT];rw[e,h j j1 j2]
 intro i p q hi
 have bR:xP x.l.length (i+1) p.2 q.2->∀gs,(part (fq,jv part lz p.2 (x.l.length+1))).1 i gs=(part (fq,jv part lz q.2 (x.l.length+1))).1 i gs:=fun h=>
  (hp i _ _ hi).1 (fun _=>rfl) (key (i+1) p q h _)
 refine⟨fun h1 h2 gs=>?_,fun h gs=>?_⟩
 ·unfold so nK
  cases lz
  ·simp only[Ag,if_false,kQ,fT];rw[bR h2,h1]
  ·simp only[if_true,kQ,fT];rw[bR h2,h1]
 ·unfold so nK
  cases lz
  ·simp only[Ag,if_false,kQ,fT];rw[bR (h.later (by omega)),h i (Aa _) hi]
  ·simp only[if_true,kQ,fT];rw[bR (h.later (by omega)),h i (Aa _) hi]
theorem dR.times(x:TX){part:aD×aD->aD×aD}(hp:dR x.l.length part)(lo hi:Int)(lz:Bool):dR x.l.length (l9 x part lo hi lz):=by
 unfold l9;split
 ·exact(hp.iter _).comp (dR.loop x hp lz)
 ·exact(hp.iter _).comp (hp.oT lz _)
mutual
theorem NV(x:TX):∀c:CT,dR x.l.length (eH x c)
 |.node k sp fo nt ed gr lo hi lz aJ=>by
  have h1:=aeX x aJ;have h2:=aeY x aJ;have h3:=aeV x aJ;unfold eH;by_cases k0:k=0
  ·simp only[k0,if_true];exact dR.take x sp fo nt
  ·by_cases k1:k=1
   ·simp only[k1,if_true];exact dR.vQ x ed
   ·by_cases k2:k=2
    ·simp only[k2,if_true];by_cases hg:gr=0
     ·simp only[hg,if_true];exact h1
     ·simp only[hg,if_false];exact(dR.mark x _).comp (h1.comp (dR.mark x _))
    ·by_cases k3:k=3
     ·simp only[k3,if_true];exact h2
     ·by_cases k4:k=4
      ·simp only[k4,if_true];exact h3
      ·simp only[k0,k1,k2,k3,k4,if_false];exact dR.times x h1 lo hi lz
theorem aeX(x:TX):∀cs:List CT,dR x.l.length (uK x cs)
 | []=>dR.id
 |c::_=>NV x c
theorem aeY(x:TX):∀cs:List CT,dR x.l.length (uL x cs)
 | []=>dR.id
 |c::cs=>(NV x c).comp (aeY x cs)
theorem aeV(x:TX):∀cs:List CT,dR x.l.length (qq x cs)
 | []=>dR.none
 | [c]=>NV x c
 |c::d::cs=>(NV x c).oB (aeV x (d::cs))
end
inductive gK(G:Nat):CT->RT->Prop where
 |uA (sp:bN) (fo nt:Bool) (R:RT) (bS:R.op=eR) (h:∀c,0<=c->c<=1114111->mM sp fo nt c=q8 R c) (hk:R.aJ=[]):gK G (kM sp fo nt) R
 |kN (e:Int) (R:RT) (h:(e=0/\R.op=pM)\/(e=1/\R.op=oX)\/(e=2/\R.op=od)\/(e=3/\R.op=oW)) (hk:R.aJ=[]):gK G (sJ e) R
 |group (c:CT) (r:RT) (g:Int) (hg:1<=g/\g<=G) (h:gK G c r):gK G (.node 2 [] false false 0 g 0 0 false [c]) (.node fi [] false false [r] g 0 0 false)
 |bare (c:CT) (r:RT) (h:gK G c r):gK G (.node 2 [] false false 0 0 0 0 false [c]) (.node gW [] false false [r] 0 0 0 false)
 |seq (cs:List CT) (rs:List RT) (hl:cs.length=rs.length) (h:∀i,(h1:i<cs.length)->(h2:i<rs.length)->gK G cs[i] rs[i]):gK G (.node 3 [] false false 0 0 0 0 false cs) (.node iJ [] false false rs 0 0 0 false)
 |aw (cs:List CT) (rs:List RT) (hl:cs.length=rs.length) (aF:cs≠ []) (h:∀i,(h1:i<cs.length)->(h2:i<rs.length)->gK G cs[i] rs[i]):gK G (.node 4 [] false false 0 0 0 0 false cs) (.node iI [] false false rs 0 0 0 false)
 |times (c:CT) (r:RT) (lo hi:Int) (lz:Bool) (d_:0<=lo) (fX:hi= -1\/lo<=hi) (h:gK G c r):gK G (pj c lo hi lz) (ss r lo hi lz)
def OV:aD:=fun i gs=>some (i,gs)
inductive iV(x:TX)(G:Nat):List CI->aD×aD->Prop where
 |nil:iV x G [] (OV,OV)
 |zh (k:Int) (S:List CI) (P:aD×aD) (hk:1<=k/\k<=G) (h:iV x G S P):iV x G (mT k::S) (yz x (2*(k.toNat-1)+1) P)
 |piece (c:CT) (n:RT) (S:List CI) (P:aD×aD) (ha:gK G c n) (h:iV x G S P):iV x G (bo n::S) (eH x c P)
 |times (c:CT) (r:RT) (l m:Int) (lz:Bool) (n:RT) (S:List CI) (P:aD×aD) (hn:n.op=ec/\n.aJ=[r]/\n.lz=lz) (ha:gK G c r) (hl:0<=l) (hm:m= -1\/l<=m) (h:iV x G S P):iV x G (⟨some n,l,m,0,false⟩::S) (l9 x (eH x c) l m lz P)
 |bR (c:CT) (r:RT) (lz:Bool) (n:RT) (S:List CI) (P:aD×aD) (hn:n.op=ec/\n.aJ=[r]/\n.lz=lz) (ha:gK G c r) (h:iV x G S P):iV x G (⟨some n,0,-1,0,true⟩::S) (fq,nD x.l.length (eH x c) lz P.2)
def tr(S:List CI)(k:Nat):Prop:=∃c∈S,c.n=none/\c.bK=k
structure ny(G:Nat)(S:List CI)(gs gm:List Int):Prop where
 l3:gs.length=3*G
 l2:gm.length=2*G
 u7:∀k,1<=k->k<=G->gm[2*k-1]? =gs[2*k-1]?
 Rw:∀k,1<=k->k<=G->tr S k->gm[2*k-2]? =gs[2*G+k-1]?
 cls:∀k,1<=k->k<=G->¬tr S k->gm[2*k-2]? =gs[2*k-2]?
def tD(S:List CI):Nat:=(S.filter (fun c=>c.bR)).length
structure pZ(S:List CI)(i:Nat)(ts:List Nat):Prop where
 len:ts.length=tD S
 le:∀t∈ts,t<=i
 sorted:ts.Pairwise (fun a b=>b<=a)
def jG(P:aD×aD)(ts:List Nat)(i:Nat)(gm:List Int):Option (Nat×List Int):=if ts.head?=some i then P.1 i gm else P.2 i gm
def sr(G:Nat)(r:Option (Nat×List Int)):Option (Nat×List Int):=r.map fun v=>(v.1,v.2.take (2*G))
theorem pZ.next{S:List CI}{i:Nat}{ts:List Nat}(h:pZ S i ts):pZ S (i+1) ts/\ts.head?≠some (i+1):=by
 refine⟨⟨h.len,fun t ht=>by have:=h.le t ht;omega,h.sorted⟩,fun e=>?_⟩;have:=h.le (i+1) (List.mem_of_head? e);omega
theorem xr{c:CI}{S:List CI}{k:Nat}(h:c.n≠none):tr (c::S) k↔tr S k:=by
 unfold tr;constructor
 ·rintro⟨d,hd,h1,h2⟩;rcases Bk.1 hd with rfl|hd
  ·exact absurd h1 h
  ·exact⟨d,hd,h1,h2⟩
 ·rintro⟨d,hd,h1,h2⟩;exact⟨d,Ar _ hd,h1,h2⟩
theorem ny.swap{G:Nat}{S S':List CI}{gs gm:List Int}(h:ny G S gs gm)(e:∀k,tr S' k↔tr S k):ny G S' gs gm:=
 ⟨h.l3,h.l2,h.u7,fun k k1 k2 ho=>h.Rw k k1 k2 ((e k).1 ho),fun k k1 k2 ho=>h.cls k k1 k2 (fun hx=>ho ((e k).2 hx))⟩
theorem ny.fS{G:Nat}{gs gm:List Int}(h:ny G [] gs gm):gm=gs.take (2*G):=by
 apply List.ext_getElem?
 intro j;by_cases hj:j<2*G
 ·rw[Al hj];rcases Dz j with h0|h0
  ·have:=h.cls (j/2+1) (by omega) (by omega) (fun⟨c,hc,_⟩=>by simp at hc);rw[show 2*(j/2+1)-2=j by omega]at this;exact this
  ·have:=h.u7 (j/2+1) (by omega) (by omega);rw[show 2*(j/2+1)-1=j by omega]at this;exact this
 ·rw[Bd (by rw[h.l2];omega),Bd (by simp;omega)]
theorem ny.zh{G:Nat}{S:List CI}{gs gm:List Int}{k:Int}{b:Int}(x:TX)(i:Nat)(h:ny G (mT k::S) gs gm)(hk:1<=k)(hkG:k<=G):ny G S (xU x gs k i) (gm.set (2*(k.toNat-1)+1) (x.eX i)):=by
 have hG:gs.length/3*2=2*G:=by rw[h.l3];omega
 have hl:=h.l3;have yk:=h.l2;obtain⟨kn,lU⟩:∃kn:Nat,k=kn:=⟨k.toNat,by omega⟩
 subst lU;have aI:1<=kn:=by omega
 have aG:kn<=G:=by omega
 have bS:tr (mT kn::S) kn:=⟨mT kn,by simp,rfl,rfl⟩
 have ho:∀j,j≠kn->(tr (mT kn::S) j↔tr S j):=by
  intro j hj;constructor
  ·rintro⟨d,hd,h1,h2⟩;rcases Bk.1 hd with rfl|hd
   ·have h3:(kn:Int)=j:=h2;exact absurd (by omega) hj
   ·exact⟨d,hd,h1,h2⟩
  ·rintro⟨d,hd,h1,h2⟩;exact⟨d,Ar _ hd,h1,h2⟩
 have U5:=h.Rw kn aI aG bS;unfold xU;rw[hG];simp only[Cj];have aja:∃v,gs[2*G+kn-1]? =some v:=⟨gs[2*G+kn-1]'(by omega),Ab (by omega)⟩
 obtain⟨v,hv⟩:=aja;rw[hv]at U5;simp only[hv,D2];refine⟨by simp[hl],by simp[yk],fun j j1 j2=>?_,fun j j1 j2 hj=>?_,fun j j1 j2 hj=>?_⟩
 ·by_cases e:j=kn
  ·subst e;rw[Dj,if_pos (by omega),if_pos (by omega),Dj,if_pos rfl,if_pos (by simp;omega)]
  ·rw[A5 (by omega),A5 (by omega),A5 (by omega)];exact h.u7 j j1 j2
 ·rw[A5 (by omega),A5 (by omega),A5 (by omega)];by_cases e:j=kn
  ·subst e;rw[U5,hv]
  ·exact h.Rw j j1 j2 ((ho j e).2 hj)
 ·by_cases e:j=kn
  ·subst e;rw[A5 (by omega),U5,A5 (by omega),Dj,if_pos rfl,if_pos (by omega)]
  ·rw[A5 (by omega),A5 (by omega),A5 (by omega)];exact h.cls j j1 j2 (fun hx=>hj ((ho j e).1 hx))
theorem ny.begin{G:Nat}{S:List CI}{gs gm:List Int}{k:Int}(x:TX)(i:Nat)(h:ny G S gs gm)(hk:1<=k)(hkG:k<=G):ny G (mT k::S) (qm x gs k i) (gm.set (2*(k.toNat-1)) (x.eX i)):=by
 have hG:gs.length/3*2=2*G:=by rw[h.l3];omega
 have hl:=h.l3;have yk:=h.l2;obtain⟨kn,lU⟩:∃kn:Nat,k=kn:=⟨k.toNat,by omega⟩
 subst lU;have aI:1<=kn:=by omega
 have aG:kn<=G:=by omega
 have ho:∀j,j≠kn->(tr (mT kn::S) j↔tr S j):=by
  intro j hj;constructor
  ·rintro⟨d,hd,h1,h2⟩;rcases Bk.1 hd with rfl|hd
   ·have h3:(kn:Int)=j:=h2;exact absurd (by omega) hj
   ·exact⟨d,hd,h1,h2⟩
  ·rintro⟨d,hd,h1,h2⟩;exact⟨d,Ar _ hd,h1,h2⟩
 unfold qm;rw[hG];simp only[Cj];refine⟨by simp[hl],by simp[yk],fun j j1 j2=>?_,fun j j1 j2 hj=>?_,fun j j1 j2 hj=>?_⟩
 ·rw[A5 (by omega),A5 (by omega)];exact h.u7 j j1 j2
 ·by_cases e:j=kn
  ·subst e;rw[Dj,if_pos (by omega),if_pos (by omega),Dj,if_pos (by omega),if_pos (by omega)]
  ·rw[A5 (by omega),A5 (by omega)];exact h.Rw j j1 j2 ((ho j e).1 hj)
 ·by_cases e:j=kn
  ·exact absurd ⟨mT kn,by simp,rfl,by simp[mT,e]⟩ hj
  ·rw[A5 (by omega),A5 (by omega)];exact h.cls j j1 j2 (fun hx=>hj ((ho j e).2 hx))
theorem anD(x:TX)(sp:bN)(fo nt:Bool)(P:aD×aD):eH x (kM sp fo nt) P=(pP x sp fo nt P.2,pP x sp fo nt P.2):=by
 unfold kM eH;simp
theorem anB(x:TX)(e:Int)(P:aD×aD):eH x (sJ e) P=E5 x e P:=by
 unfold sJ eH;simp
theorem anF(x:TX)(c:CT)(lo hi:Int)(lz:Bool)(P:aD×aD):eH x (pj c lo hi lz) P=l9 x (eH x c) lo hi lz P:=by
 unfold pj;rw[eH];simp[uK]
theorem anC(x:TX)(c:CT)(g:Int)(hg:1<=g)(P:aD×aD):eH x (.node 2 [] false false 0 g 0 0 false [c]) P=yz x (2*(g.toNat-1)) (eH x c (yz x (2*(g.toNat-1)+1) P)):=by
 rw[eH];simp only[uK];rw[if_neg (by decide),if_neg (by decide),if_pos trivial,if_neg (by omega)]
theorem anA(x:TX)(c:CT)(P:aD×aD):eH x (.node 2 [] false false 0 0 0 0 false [c]) P=eH x c P:=by
 rw[eH];simp[uK]
theorem anE(x:TX)(cs:List CT)(P:aD×aD):eH x (.node 3 [] false false 0 0 0 0 false cs) P=uL x cs P:=by
 unfold eH;simp
theorem anz(x:TX)(cs:List CT)(P:aD×aD):eH x (.node 4 [] false false 0 0 0 0 false cs) P=qq x cs P:=by
 unfold eH;simp
theorem afc{x:TX}{G:Nat}{S:List CI}{P:aD×aD}(h:iV x G S P):∀(cs:List CT) (rs:List RT),cs.length=rs.length->(∀i,(h1:i<cs.length)->(h2:i<rs.length)->gK G cs[i] rs[i])->iV x G (rs.map bo++S) (uL x cs P)
 | [],[],_,_=>by simpa[uL]using h
 |c::cs,r::rs,hl,ha=>by
  have h1:=afc h cs rs (by simpa using hl) (fun i a b=>ha (i+1) (by simpa using a) (by simpa using b));have:=iV.piece c r _ _ (ha 0 (by simp) (by simp)) h1;simpa[uL]using this
 | [],_::_,hl,_=>by simp at hl
 |_::_,[],hl,_=>by simp at hl
theorem aeU(x:TX)(P:aD×aD):∀(cs:List CT),cs≠ []->∀(i:Nat) (gm:List Int),(qq x cs P).1 i gm=cs.findSome? (fun c=>(eH x c P).1 i gm)/\(qq x cs P).2 i gm=cs.findSome? (fun c=>(eH x c P).2 i gm)
 | [],h,_,_=>absurd rfl h
 | [c],_,i,gm=>by
   simp only[qq,Dp,List.findSome?_nil];constructor
   ·cases(eH x c P).1 i gm<;>rfl
   ·cases(eH x c P).2 i gm<;>rfl
 |c::d::cs,_,i,gm=>by
  have h:=aeU x P (d::cs) (by simp) i gm;have e:qq x (c::d::cs) P=kQ (eH x c P) (qq x (d::cs) P):=by rw[qq]
  rw[e];refine⟨?_,?_⟩
  ·rw[Dp];simp only[kQ,fT];rw[h.1]
   cases(eH x c P).1 i gm<;>rfl
  ·rw[Dp];simp only[kQ,fT];rw[h.2]
   cases(eH x c P).2 i gm<;>rfl
theorem ahY{x:TX}{e:Int}{R:RT}(h:(e=0/\R.op=pM)\/(e=1/\R.op=oX)\/(e=2/\R.op=od)\/(e=3/\R.op=oW))(i:Nat):qF x e i=x.is R.op i:=by
 rcases h with⟨rfl,h⟩|⟨rfl,h⟩|⟨rfl,h⟩|⟨rfl,h⟩<;>rw[h]<;>unfold qF TX.is
 ·simp
 ·rw[if_neg (by decide),if_pos rfl,if_neg (by decide),if_pos rfl]
 ·rw[if_neg (by decide),if_neg (by decide),if_pos rfl,if_neg (by decide),if_neg (by decide),if_pos rfl]
 ·rw[if_neg (by decide),if_neg (by decide),if_neg (by decide),if_neg (by decide),if_neg (by decide),if_neg (by decide)]
theorem aoc(x:TX)(part:aD×aD->aD×aD)(l m:Int)(lz:Bool)(P:aD×aD)(hl:0<l)(hm:m= -1\/l<=m):l9 x part l m lz P=part (l9 x part (l-1) (if 0<m then m-1 else m) lz P):=by
 unfold l9;obtain⟨k,hk⟩:∃k:Nat,l.toNat=k+1:=⟨l.toNat-1,by omega⟩
 rw[hk,show(l-1).toNat=k by omega];rcases hm with rfl|hm
 ·rfl
 ·rw[if_pos (show 0<m by omega),if_neg (show¬m= -1 by omega),if_neg (show¬m-1= -1 by omega),show m-1-(l-1)=m-l by omega];rfl
theorem aod(x:TX)(part:aD×aD->aD×aD)(lz:Bool)(P:aD×aD):l9 x part 0 0 lz P=P:=by
 unfold l9;rw[if_neg (by decide)];rfl
theorem aoa(x:TX)(part:aD×aD->aD×aD)(m:Int)(lz:Bool)(P:aD×aD)(hm:0<m):l9 x part 0 m lz P=nK lz (part (l9 x part 0 (m-1) lz P)) P:=by
 unfold l9;obtain⟨k,hk⟩:∃k:Nat,(m-0).toNat=k+1:=⟨m.toNat-1,by omega⟩
 rw[if_neg (by omega),if_neg (by omega),hk,show(m-1-0).toNat=k by omega];rfl
theorem aob(x:TX)(part:aD×aD->aD×aD)(lz:Bool)(P:aD×aD):l9 x part 0 (-1) lz P=so x part lz P:=by
 unfold l9;rw[if_pos rfl];rfl
theorem Iz{α:Type}(a:Option (Option α)):gh [a]=a:=by
 rcases a with _|_|a<;>rfl
def orO(a b:Option (Nat×List Int)):Option (Nat×List Int):=match a with
 |some v=>some v
 |none=>b
theorem IA{G:Nat}{a b:Option (Option (Nat×List Int))}{va vb:Option (Nat×List Int)}{r:Option (Nat×List Int)}(h:gh [a,b]=some r)(ha:∀r,a=some r->sr G r=va)(hb:∀r,b=some r->sr G r=vb):sr G r=orO va vb:=by
 rcases a with _|_|a
 ·simp[gh]at h
 ·have e:=ha none rfl;rw[<-e];rw[show gh [some none,b]=gh [b]from rfl,Iz]at h;exact hb r h
 ·have e:=ha (some a) rfl;rw[<-e];simp only[gh,Cf]at h;subst h;rfl
variable {x:TX} {G:Nat}
def Tt(x:TX)(G f:Nat):Prop:=∀(S:List CI) (i:Nat) (gs:List Int) (ts:List Nat) (r:Option (Nat×List Int)),eo x f S i gs ts=some r->∀(P:aD×aD) (gm:List Int),iV x G S P->ny G S gs gm->pZ S i ts->i<=x.l.length->sr G r=jG P ts i gm
theorem tE{c:CI}{S:List CI}(h:c.bR=false):tD (c::S)=tD S:=by unfold tD;rw[List.filter_cons_of_neg (by simp[h])]
theorem Yd{c:CI}{S:List CI}(h:c.bR=true):tD (c::S)=tD S+1:=by unfold tD;rw[List.filter_cons_of_pos (by simp[h])];rfl
theorem pZ.swap{S S':List CI}{i:Nat}{ts:List Nat}(h:pZ S i ts)(e:tD S'=tD S):pZ S' i ts:=⟨by rw[e];exact h.len,h.le,h.sorted⟩
theorem pZ.push{S S':List CI}{i:Nat}{ts:List Nat}(h:pZ S i ts)(e:tD S'=tD S+1):pZ S' i (i::ts):=
 ⟨by rw[e,<-h.len];rfl,fun t ht=>by rcases Bk.1 ht with rfl|ht;exact Aa _;exact h.le t ht,Cw.2 ⟨fun t ht=>h.le t ht,h.sorted⟩⟩
theorem afl{f:Nat}(ih:Tt x G f){c:CT}{r0:RT}{l m:Int}{lz:Bool}{n:RT}{S:List CI}{P:aD×aD}(hn:n.op=ec/\n.aJ=[r0]/\n.lz=lz)(ha:gK G c r0)(hl:0<=l)(hm:m= -1\/l<=m)(h:iV x G S P)
 {i:Nat}{gs gm:List Int}{ts:List Nat}{r:Option (Nat×List Int)}(hr:eo x (f+1) (⟨some n,l,m,0,false⟩::S) i gs ts=some r)(hg:ny G (⟨some n,l,m,0,false⟩::S) gs gm)(ht:pZ (⟨some n,l,m,0,false⟩::S) i ts)(hi:i<=x.l.length):
 sr G r=jG (l9 x (eH x c) l m lz P) ts i gm:=by
 obtain⟨h1,h2,h3⟩:=hn;have sW:ny G S gs gm:=hg.swap (fun k=>(xr (by simp)).symm);have qO:pZ S i ts:=ht.swap (tE rfl).symm
 have fp:cF n ⟨some n,l,m,0,false⟩ S=[bo r0::dN n ⟨some n,l,m,0,false⟩::S]:=by
  unfold cF;rw[h1,h2,if_neg (by decide),if_neg (by decide),if_neg (by decide),if_neg (by decide),if_pos rfl];rfl
 unfold eo at hr;simp only[h1]at hr;rw[if_neg (by decide),if_pos trivial,if_neg (by simp)]at hr;simp only[Ag,if_false]at hr;rw[fp,Bt,Ej,Iz,h3]at hr;have Mc:∀c',c'.n≠none->ny G (bo r0::c'::S) gs gm:=fun c' hc=>sW.swap (fun k=>by rw[xr (by simp[bo]),xr hc])
 by_cases Qm:0<l
 ·rw[if_pos Qm,if_neg (by omega)]at hr
  have MA:dN n ⟨some n,l,m,0,false⟩=⟨some n,l-1,if 0<m then m-1 else m,0,false⟩:=by
   unfold dN;simp only;rw[if_pos Qm]
  rw[MA]at hr;have hs:=iV.piece c r0 _ _ ha (iV.times c r0 (l-1) (if 0<m then m-1 else m) lz n S P ⟨h1,h2,h3⟩ ha (by omega) (by split<;>omega) h);have:=ih _ i gs ts r hr _ gm hs (Mc _ (by simp)) (qO.swap (by rw[tE rfl,tE rfl])) hi;rw[this,aoc x _ l m lz P Qm hm]
 ·have nT:l=0:=by omega
  subst nT;rw[if_neg (by omega)]at hr;by_cases wU:m=0
  ·subst wU;rw[if_pos rfl]at hr;rw[aod];exact ih S i gs ts r hr P gm h sW qO hi
  ·rw[if_neg wU]at hr;by_cases hmp:0<m
   ·rw[show(if(0:Int)<=0/\m<0 then i::ts else ts)=ts from if_neg (by omega)]at hr
    have MA:dN n ⟨some n,0,m,0,false⟩=⟨some n,0,m-1,0,false⟩:=by
     unfold dN;simp only;rw[if_neg (by omega),if_pos hmp]
    rw[MA]at hr;have hs:=iV.piece c r0 _ _ ha (iV.times c r0 0 (m-1) lz n S P ⟨h1,h2,h3⟩ ha (by omega) (by omega) h)
    have cP:∀r,eo x f (bo r0::⟨some n,0,m-1,0,false⟩::S) i gs ts=some r->sr G r=jG (eH x c (l9 x (eH x c) 0 (m-1) lz P)) ts i gm:=fun r hr=>
     ih _ i gs ts r hr _ gm hs (Mc _ (by simp)) (qO.swap (by rw[tE rfl,tE rfl])) hi
    have eZ:∀r,eo x f S i gs ts=some r->sr G r=jG P ts i gm:=(fun r hr=>ih S i gs ts r hr P gm h sW qO hi);rw[aoa x _ m lz P hmp]
    cases lz
    ·simp only[Ag,if_false]at hr;rw[IA hr cP eZ];unfold jG nK kQ fT;split<;>rfl
    ·simp only[if_true]at hr;rw[IA hr eZ cP];unfold jG nK kQ fT;split<;>rfl
   ·have DH:m= -1:=(by omega);subst DH;rw[show(if(0:Int)<=0/\(-1:Int)<0 then i::ts else ts)=i::ts from if_pos (by omega)]at hr;have MA:dN n ⟨some n,0,-1,0,false⟩=⟨some n,0,-1,0,true⟩:=rfl;rw[MA]at hr;have hs:=iV.piece c r0 _ _ ha (iV.bR c r0 lz n S P ⟨h1,h2,h3⟩ ha h)
    have cP:∀r,eo x f (bo r0::⟨some n,0,-1,0,true⟩::S) i gs (i::ts)=some r->sr G r=(eH x c (fq,nD x.l.length (eH x c) lz P.2)).1 i gm:=fun r hr=>by
     have:=ih _ i gs (i::ts) r hr _ gm hs (Mc _ (by simp)) (qO.push (by rw[tE rfl,Yd rfl])) hi;rw[this];unfold jG;rw[if_pos (show(i::ts).head?=some i from rfl)]
    have eZ:∀r,eo x f S i gs ts=some r->sr G r=jG P ts i gm:=(fun r hr=>ih S i gs ts r hr P gm h sW qO hi);rw[aob]
    cases lz
    ·simp only[Ag,if_false]at hr;rw[IA hr cP eZ];unfold jG so nK kQ fT nD;split<;>rfl
    ·simp only[if_true]at hr;rw[IA hr eZ cP];unfold jG so nK kQ fT nD;split<;>rfl
theorem aoU{f:Nat}(ih:Tt x G f){c:CT}{r0:RT}{lz:Bool}{n:RT}{S:List CI}{P:aD×aD}(hn:n.op=ec/\n.aJ=[r0]/\n.lz=lz)(ha:gK G c r0)(h:iV x G S P)
 {i:Nat}{gs gm:List Int}{ts:List Nat}{r:Option (Nat×List Int)}(hr:eo x (f+1) (⟨some n,0,-1,0,true⟩::S) i gs ts=some r)(hg:ny G (⟨some n,0,-1,0,true⟩::S) gs gm)(ht:pZ (⟨some n,0,-1,0,true⟩::S) i ts)(hi:i<=x.l.length):
 sr G r=jG (fq,nD x.l.length (eH x c) lz P.2) ts i gm:=by
 have nU:=hn;obtain⟨h1,h2,h3⟩:=hn;have sW:ny G S gs gm:=hg.swap (fun k=>(xr (by simp)).symm)
 have fp:cF n ⟨some n,0,-1,0,true⟩ S=[bo r0::⟨some n,0,-1,0,true⟩::S]:=by
  unfold cF;rw[h1,h2,if_neg (by decide),if_neg (by decide),if_neg (by decide),if_neg (by decide),if_pos rfl];rfl
 have dA:ts.length=tD S+1:=by rw[ht.len,Yd rfl]
 obtain⟨t0,gY,rfl⟩:∃t0 gY,ts=t0::gY:=List.exists_cons_of_ne_nil (by intro e;subst e;simp at dA)
 have aci:=Cw.1 ht.sorted;have ht0:=ht.le t0 (by simp);unfold eo at hr;simp only[h1]at hr;rw[if_neg (by decide),if_pos trivial]at hr;by_cases hh:t0=i
 ·subst hh;rw[if_pos ⟨trivial,rfl⟩]at hr
  cases hr;unfold jG
  rw[if_pos (show(t0::gY).head?=some t0 from rfl)];rfl
 ·rw[if_neg (by simp;exact hh)]at hr;simp only[if_true,List.tail_cons]at hr;rw[fp,Bt,Ej,Iz,h3,if_neg (show¬(0:Int)<0 by omega),if_neg (show¬(-1:Int)=0 by omega),show(if(0:Int)<=0/\(-1:Int)<0 then i::gY else gY)=i::gY from if_pos (by omega)]at hr;have qO:pZ S i gY:=⟨by simpa using dA,fun t htm=>ht.le t (by simp[htm]),aci.2⟩;have aF:gY.head?≠some i:=fun e=>by have:=aci.1 i (List.mem_of_head? e);omega
  have hs:=iV.piece c r0 _ _ ha (iV.bR c r0 lz n S P nU ha h);have Mc:ny G (bo r0::⟨some n,0,-1,0,true⟩::S) gs gm:=sW.swap (fun k=>by rw[xr (by simp[bo]),xr (by simp)])
  have cP:∀r,eo x f (bo r0::⟨some n,0,-1,0,true⟩::S) i gs (i::gY)=some r->sr G r=(eH x c (fq,nD x.l.length (eH x c) lz P.2)).1 i gm:=fun r hr=>by
   have:=ih _ i gs (i::gY) r hr _ gm hs Mc (qO.push (by rw[tE rfl,Yd rfl])) hi;rw[this];unfold jG;rw[if_pos (show(i::gY).head?=some i from rfl)]
  have eZ:∀r,eo x f S i gs gY=some r->sr G r=P.2 i gm:=fun r hr=>by
   have:=ih S i gs gY r hr P gm h sW qO hi;rw[this];unfold jG;rw[if_neg aF]
  have hv:jG (fq,nD x.l.length (eH x c) lz P.2) (t0::gY) i gm=nD x.l.length (eH x c) lz P.2 i gm:=by unfold jG;rw[if_neg (by simp;exact hh)]
  rw[hv,Tw (NV x c) lz P.2 i hi gm]
  cases lz
  ·simp only[Ag,if_false]at hr⊢;rw[IA hr cP eZ];rfl
  ·simp only[if_true]at hr⊢;rw[IA hr eZ cP];rfl
theorem ann(x:TX)(i:Nat)(h:i<x.l.length):∃p∈x.l,x.dd i=p.2:=⟨x.l[i],Ay h,by unfold TX.dd;simp[h]⟩
theorem ao0{P Q:aD×aD}{ts:List Nat}{i:Nat}{gm UI:List Int}(h1:P.1 i gm=Q.1 i UI)(h2:P.2 i gm=Q.2 i UI):jG P ts i gm=jG Q ts i UI:=by unfold jG;rw[h1,h2]
theorem abt(hx:∀p∈x.l,0<=p.2/\p.2<=1114111):∀f,Tt x G f
 |0=>fun S i gs ts r hr=>by simp[eo]at hr
 |f+1=>by
  have ih:=abt hx f;intro S i gs ts r hr P gm hS hg ht hi
  cases hS with
  |nil=>
   unfold eo at hr
   cases hr;rw[hg.fS]
   unfold jG;split<;>rfl
  |zh k S P hk h=>
   have IZ:=hg.zh (b:=0) x i hk.1 hk.2;have MG:pZ S i ts:=ht.swap (tE rfl).symm;unfold eo at hr;exact ih S i _ ts r hr P _ h IZ MG hi
  |times c r0 l m lz n S P hn ha hl hm h=>exact afl ih hn ha hl hm h hr hg ht hi
  |bR c r0 lz n S P hn ha h=>exact aoU ih hn ha h hr hg ht hi
  |piece c n S P ha h=>
   have sW:ny G S gs gm:=hg.swap (fun k=>(xr (by simp[bo])).symm);have qO:pZ S i ts:=ht.swap (tE rfl).symm
   cases ha with
   |uA sp fo nt R bS rY _=>
    unfold eo at hr;simp only[bo]at hr;rw[if_pos bS]at hr;rw[anD];have hv:jG (pP x sp fo nt P.2,pP x sp fo nt P.2) ts i gm=pP x sp fo nt P.2 i gm:=by unfold jG;split<;>rfl
    rw[hv];unfold pP;by_cases ar:i<x.l.length
    ·obtain⟨p,hp,zA⟩:=ann x i ar;have yq:=hx p hp;rw[<-zA]at yq;rw[rY (x.dd i) yq.1 yq.2]
     cases hb:q8 n (x.dd i)
     ·rw[hb]at hr;simp only[Bool.and_false,Ag,if_false]at hr⊢
      cases hr;rfl
     ·rw[hb]at hr;simp only[ar,decide_true,Bool.and_self,if_true]at hr⊢;have hn:=(qO.next);have:=ih S (i+1) gs ts r hr P gm h sW hn.1 ar;rw[this];unfold jG;rw[if_neg hn.2]
    ·simp only[ar,decide_false,Bool.false_and,Ag,if_false]at hr⊢
     cases hr;rfl
   |kN e R he _=>
    have dt:n.op≠eR/\n.op≠ec/\¬(n.op=iJ\/n.op=iI\/n.op=fi\/n.op=gW):=by
     rcases he with⟨_,h⟩|⟨_,h⟩|⟨_,h⟩|⟨_,h⟩<;>rw[h]<;>decide
    unfold eo at hr;simp only[bo]at hr;rw[if_neg dt.1,if_neg dt.2.1,if_neg dt.2.2]at hr;rw[anB];have uf:=ahY (x:=x) he i
    cases hb:x.is n.op i
    ·rw[hb]at hr uf
     cases hr;unfold jG E5 xC
     simp only[uf];split<;>rfl
    ·rw[hb]at hr uf;simp only[if_true]at hr;rw[ih S i gs ts r hr P gm h sW qO hi];unfold jG E5 xC;simp only[uf,if_true]
   |group c r0 g uc hc=>
    unfold eo at hr;simp only[bo]at hr;have bS:(RT.node fi [] false false [r0] g 0 0 false).op=fi:=rfl;rw[bS,if_neg (by decide),if_neg (by decide),if_pos (by decide)]at hr
    have fp:cF (RT.node fi [] false false [r0] g 0 0 false) ⟨some (RT.node fi [] false false [r0] g 0 0 false),(RT.node fi [] false false [r0] g 0 0 false).bB,(RT.node fi [] false false [r0] g 0 0 false).aY,0,false⟩ S=[bo r0::mT g::S]:=by
     unfold cF;rw[bS,if_neg (by decide),if_neg (by decide),if_pos rfl];rfl
    rw[fp,Bt,Ej,Iz,if_pos rfl]at hr;have hb:=sW.begin x i uc.1 uc.2;have hs:=iV.piece c r0 _ _ hc (iV.zh g S P uc h);have:=ih _ i _ ts r hr _ _ hs (hb.swap (fun k=>xr (by simp[bo]))) (qO.swap (by rw[tE rfl,tE rfl])) hi;rw[this,anC x c g uc.1];exact ao0 rfl rfl
   |bare c r0 hc=>
    unfold eo at hr;simp only[bo]at hr;have bS:(RT.node gW [] false false [r0] 0 0 0 false).op=gW:=rfl;rw[bS,if_neg (by decide),if_neg (by decide),if_pos (by decide)]at hr
    have fp:cF (RT.node gW [] false false [r0] 0 0 0 false) ⟨some (RT.node gW [] false false [r0] 0 0 0 false),(RT.node gW [] false false [r0] 0 0 0 false).bB,(RT.node gW [] false false [r0] 0 0 0 false).aY,0,false⟩ S=[bo r0::S]:=by
     unfold cF;rw[bS,if_neg (by decide),if_neg (by decide),if_neg (by decide),if_pos rfl];rfl
    rw[fp,Bt,Ej,Iz,if_neg (by decide)]at hr;have hs:=iV.piece c r0 _ _ hc h;have:=ih _ i _ ts r hr _ gm hs (sW.swap (fun k=>xr (by simp[bo]))) (qO.swap (tE rfl)) hi;rw[this,anA]
   |seq cs rs hl hc=>
    unfold eo at hr;simp only[bo]at hr;have bS:(RT.node iJ [] false false rs 0 0 0 false).op=iJ:=rfl;rw[bS,if_neg (by decide),if_neg (by decide),if_pos (by decide)]at hr
    have fp:cF (RT.node iJ [] false false rs 0 0 0 false) ⟨some (RT.node iJ [] false false rs 0 0 0 false),(RT.node iJ [] false false rs 0 0 0 false).bB,(RT.node iJ [] false false rs 0 0 0 false).aY,0,false⟩ S=[rs.map bo++S]:=by
     unfold cF;rw[bS,if_pos rfl];rfl
    rw[fp,Bt,Ej,Iz,if_neg (by decide)]at hr;have hs:=afc h cs rs hl hc
    have hoa:∀(l:List RT) k,tr (l.map bo++S) k↔tr S k:=by
     intro l k;induction l with
     |nil=>rfl
     |cons a l Wm=>rw[Bt,Bv,xr (by simp[bo])];exact Wm
    have hta:∀l:List RT,tD (l.map bo++S)=tD S:=by
     intro l;induction l with
     |nil=>rfl
     |cons a l Wm=>rw[Bt,Bv,tE rfl];exact Wm
    have:=ih _ i _ ts r hr _ gm hs (sW.swap (hoa rs)) (qO.swap (hta rs)) hi;rw[this,anE]
   |aw cs rs hl aF hc=>
    unfold eo at hr;simp only[bo]at hr;have bS:(RT.node iI [] false false rs 0 0 0 false).op=iI:=rfl;rw[bS,if_neg (by decide),if_neg (by decide),if_pos (by decide)]at hr
    have fp:cF (RT.node iI [] false false rs 0 0 0 false) ⟨some (RT.node iI [] false false rs 0 0 0 false),(RT.node iI [] false false rs 0 0 0 false).bB,(RT.node iI [] false false rs 0 0 0 false).aY,0,false⟩ S=rs.map (fun k=>bo k::S):=by
     unfold cF;rw[bS,if_neg (by decide),if_pos rfl];rfl
    rw[fp,if_neg (by decide),List.map_map]at hr;rw[anz]
    have key:∀(cs:List CT) (rs:List RT),cs.length=rs.length->(∀i,(h1:i<cs.length)->(h2:i<rs.length)->gK G cs[i] rs[i])->∀r,gh (rs.map ((fun Z=>eo x f Z i gs ts) ∘fun k=>bo k::S))=some r->sr G r=cs.findSome? (fun c=>jG (eH x c P) ts i gm):=by
     intro cs;induction cs with
     |nil=>intro rs hl _ r hr;cases rs with
      |nil=>simp[gh]at hr;subst hr;rfl
      |cons _ _=>simp at hl
     |cons c cs ihc=>
      intro rs hl hc r hr
      cases rs with
      |nil=>simp at hl
      |cons r1 rs=>
       have h0:∀r,eo x f (bo r1::S) i gs ts=some r->sr G r=jG (eH x c P) ts i gm:=fun r hr=>
        ih _ i _ ts r hr _ gm (iV.piece c r1 _ _ (hc 0 (by simp) (by simp)) h) (sW.swap (fun k=>xr (by simp[bo]))) (qO.swap (tE rfl)) hi
       simp only[Bt,Function.comp_apply]at hr
       cases hF:eo x f (bo r1::S) i gs ts with
       |none=>rw[hF]at hr;simp[gh]at hr
       |some v=>
        have e:=h0 v hF;rw[hF]at hr
        cases v with
        |none=>
         simp only[gh]at hr;rw[Dp,<-e];exact ihc rs (by simpa using hl) (fun j a b=>hc (j+1) (by simpa using a) (by simpa using b)) r hr
        |some u=>
         simp only[gh,Cf]at hr;subst hr;rw[Dp,<-e];rfl
    rw[key cs rs hl hc r hr];have hf:=aeU x P cs aF i gm;unfold jG;split
    ·rw[hf.1]
    ·rw[hf.2]
   |times c r0 lo aS lz d_ fX hc=>
    rw[anF];exact afl ih (n:=ss r0 lo aS lz) ⟨rfl,rfl,rfl⟩ hc d_ fX h hr hg ht hi
open Go.RowKit Go.Maps
def Sv.zZ(s:Sv)(n:Int):Sv:={s with nx:=n}
theorem bJ.JW{w:World}{b c:Nat}{v:Value}{s:Sv}{t:TypeId}(h:bJ w b v c s.cells t):(w.cell? ⟨c,0,none⟩=some (.int .i64 s.k)/\w.cell? ⟨c,1,none⟩=some (.slice s.sa s.sn s.sc)/\w.cell? ⟨c,2,none⟩=some (.int .i64 s.ed)/\w.cell? ⟨c,3,none⟩=some (.int .i64 s.sl)/\w.cell? ⟨c,4,none⟩=some (.int .i64 s.nx)/\w.cell? ⟨c,5,none⟩=some (.int .i64 s.ot))/\w.frozen? ⟨c,4,none⟩=false:=
 ⟨⟨h.ae.cell 0,h.ae.cell 1,h.ae.cell 2,h.ae.cell 3,h.ae.cell 4,h.ae.cell 5⟩,h.ae.frozen 4⟩
theorem WK{w:World}{b lo hi:Nat}{v:Value}{st:List MS}(h:dH w b lo hi v st)(s:Sv)(mk:Int->MS)(HS:∀W n,gw W lo hi (s.zZ n) (mk n))(x:Ex)(dg:st.length+2<=10000):
 Calls prog 50 #[.pointer (some ⟨b,0,none⟩),Sv.val s,cY x] w (mO w b lo hi v (ft mk st x).1 (cY (ft mk st x).2)):=by
 have ar:=h.ae.lt;obtain⟨x1,x2⟩:=x;have l1':=(((bJ.new h (s.zZ x2).cells 96).alloc (.cells (aP (x1,x2)) 98)).alloc (.cells (aP (0,0)) 98));have h1:=h.alloc (.cells (s.zZ x2).cells 96);have WD:=(bJ.new h1 (aP (x1,x2)) 98).alloc (.cells (aP (0,0)) 98);have h2:=h1.alloc (.cells (aP (x1,x2)) 98);have WE:=bJ.new h2 (aP (0,0)) 98;have CP:=h2.alloc (.cells (aP (0,0)) 98);have ZM:=(((eM.refl b w v).alloc (.cells (s.zZ x2).cells 96)).alloc (.cells (aP (x1,x2)) 98)).alloc (.cells (aP (0,0)) 98);have F1:=Ik CP (HS _ x2) (by omega);simp only[aP,tB]at WD WE;simp only[Sv.val,Sv.cells,Sv.zZ,aP]at F1;clear h h1 h2;have F1:=ai F1;have L1:=ai l1';have PK:=ai (And.intro WD (And.intro WE ZM));clear l1' WD WE CP ZM;simp only[cY,Sv.val,Sv.cells];unfold ft;simp only;by_cases c1:x1=x2
 ·have d1:(x1==x2)=true:=by simp[c1]
  simp only[if_pos c1];clear c1;go_in;go_wp2_with fail;refine(F1.out).mono ?_;rintro e w4 ⟨rfl,v4,h4,k4⟩;obtain⟨l2,l3,W3⟩:=PK.out;obtain⟨a0,a1,_,_⟩:=(l2.bt k4).cX;obtain⟨c0,c1,f0,f1⟩:=(l3.bt k4).cX;have aO:=ai (And.intro h4 (And.intro (W3.trans k4) (l3.bt k4)));clear l2 l3 h4 k4 W3 F1 PK L1;go_wp2_with fail;exact nL aO.out.1 aO.out.2.1 aO.out.2.2 (by omega) (by omega) results50 rfl rfl
 ·have d1:(x1==x2)=false:=by simp[c1]
  simp only[if_neg c1];clear c1;by_cases c2:x1= -1
  ·have d2:(x1== -1)=true:=(by simp[c2]);simp only[if_pos c2];clear c2;go_in;go_wp2_with fail;refine(F1.out).mono ?_;rintro e w4 ⟨rfl,v4,h4,k4⟩;obtain⟨l2,l3,W3⟩:=PK.out;obtain⟨a0,a1,_,_⟩:=(l2.bt k4).cX;obtain⟨c0,c1,f0,f1⟩:=(l3.bt k4).cX;have aO:=ai (And.intro h4 (And.intro (W3.trans k4) (l3.bt k4)));clear l2 l3 h4 k4 W3 F1 PK L1;go_wp2_with fail;exact nL aO.out.1 aO.out.2.1 aO.out.2.2 (by omega) (by omega) results50 rfl rfl
  ·have d2:(x1== -1)=false:=(by simp[c2]);simp only[if_neg c2];clear c2;go_in;go_wp2_with fail;refine(F1.out).mono ?_;rintro e w4 ⟨rfl,v4,h4,k4⟩;obtain⟨l2,l3,W3⟩:=PK.out;obtain⟨a0,a1,_,_⟩:=(l2.bt k4).cX;have L4:=L1.out.bt k4;obtain⟨⟨b0,b1,b2,b3,b4,b5⟩,b6⟩:=L4.JW;simp only[Sv.zZ]at b0 b1 b2 b3 b4 b5;have h5:=h4.set L4.not (by omega) 4 (.int .i64 x1);have W5:=(W3.trans k4).set (c:=w.heap.size) (Aa _) 4 (.int .i64 x1);have l5:=(l3.bt k4).ch (d:=w.heap.size) (by omega) 4 (.int .i64 x1);have F2:=Ik h5 (HS _ x1) (by simp;omega);simp only[Sv.val,Sv.cells,Sv.zZ]at F2;have F2:=ai F2;have nA:=ai (And.intro W5 l5);clear l2 l3 h4 k4 W3 F1 PK L1 L4 h5 W5 l5;go_wp2_with fail;refine(F2.out).mono ?_;rintro e w6 ⟨rfl,v6,h6,k6⟩;obtain⟨W5,l5⟩:=nA.out;have l6:=l5.bt k6;obtain⟨c0,c1,f0,f1⟩:=l6.cX;have aO:=ai (And.intro h6 (And.intro (W5.trans k6) l6));clear h6 k6 W5 l5 l6 F2 nA;go_wp2_with fail;exact nL aO.out.1 aO.out.2.1 aO.out.2.2 (by omega) (by omega) results50 rfl rfl
def fs(lo hi:Nat)(w0 w:World):Prop:=∀i,lo<=i->i<hi->w.heap[i]? =w0.heap[i]?
theorem fs.refl(lo hi:Nat)(w:World):fs lo hi w w:=fun _ _ _=>rfl
theorem fs.alloc{lo hi:Nat}{w0 w:World}(h:fs lo hi w0 w)(hle:hi<=w.heap.size)(o:Obj):fs lo hi w0 (w.alloc o):=fun i h1 h2=>(Below.heap_alloc w o i (by omega)).trans (h i h1 h2)
theorem fs.bt{lo hi b:Nat}{w0 w w':World}{v v':Value}{st:List MS}(h:fs lo hi w0 w)(hB:dH w b lo hi v st)(k:eM b w w' v v'):fs lo hi w0 w':=fun i h1 h2=>by
 have:=hB.fO;have:=hB.ae.lt;exact(k.kept.block i (by omega) (fun hx=>by have:=hB.aN hx;omega)).trans (h i h1 h2)
theorem fs.set{lo hi:Nat}{w0 w:World}(h:fs lo hi w0 w){c:Nat}(hc:hi<=c)(j:Nat)(u:Value):fs lo hi w0 (w.setCell ⟨c,j,none⟩ u):=fun i h1 h2=>(Ca w ⟨c,j,none⟩ u i (by show i≠c;omega)).trans (h i h1 h2)
theorem fs.cell{lo hi:Nat}{w0 w:World}(h:fs lo hi w0 w){i j:Nat}(h1:lo<=i)(h2:i<hi):w.cell? ⟨i,j,none⟩=w0.cell? ⟨i,j,none⟩:=Bm (w:=w0) (h i h1 h2)
def pV(w:World)(pb i:Nat)(N:Nv):Prop:=∀j,j<8->w.cell? ⟨pb,i*8+j,none⟩=N.cells[j]?
theorem pV.mK{lo hi:Nat}{w0 w:World}{pb i:Nat}{N:Nv}(h:pV w0 pb i N)(hs:fs lo hi w0 w)(h1:lo<=pb)(h2:pb<hi):pV w pb i N:=fun j hj=>(hs.cell h1 h2).trans (h j hj)
theorem pV.ib{w:World}{pb i:Nat}{N:Nv}(h:pV w pb i N):(w.cell? ⟨pb,i*8,none⟩=some (.int .i64 N.k)/\w.cell? ⟨pb,i*8+1,none⟩=some (.slice N.pa N.pn N.pc)/\w.cell? ⟨pb,i*8+2,none⟩=some (.slice N.sa N.sn N.sc)/\w.cell? ⟨pb,i*8+3,none⟩=some (.int .i64 N.ed))/\
 w.cell? ⟨pb,i*8+4,none⟩=some (.int .i64 N.gr)/\w.cell? ⟨pb,i*8+5,none⟩=some (.int .i64 N.lo)/\w.cell? ⟨pb,i*8+6,none⟩=some (.int .i64 N.hi)/\w.cell? ⟨pb,i*8+7,none⟩=some (.bool N.lz):=
 ⟨⟨h 0 (by omega),h 1 (by omega),h 2 (by omega),h 3 (by omega)⟩,h 4 (by omega),h 5 (by omega),h 6 (by omega),h 7 (by omega)⟩
theorem pV.zero{w:World}{pb:Nat}{N:Nv}(h:pV w pb 0 N):(w.cell? ⟨pb,0,none⟩=some (.int .i64 N.k)/\w.cell? ⟨pb,1,none⟩=some (.slice N.pa N.pn N.pc)/\w.cell? ⟨pb,2,none⟩=some (.slice N.sa N.sn N.sc)/\w.cell? ⟨pb,3,none⟩=some (.int .i64 N.ed))/\
 w.cell? ⟨pb,4,none⟩=some (.int .i64 N.gr)/\w.cell? ⟨pb,5,none⟩=some (.int .i64 N.lo)/\w.cell? ⟨pb,6,none⟩=some (.int .i64 N.hi)/\w.cell? ⟨pb,7,none⟩=some (.bool N.lz):=
 ⟨⟨h 0 (by omega),h 1 (by omega),h 2 (by omega),h 3 (by omega)⟩,h 4 (by omega),h 5 (by omega),h 6 (by omega),h 7 (by omega)⟩
def xO(b lo hi:Nat)(w0:World)(q:Nv)(C:CT):Prop:=∀(W:World) (v:Value) (st:List MS) (x:Ex),dH W b lo hi v st->dv st.length x->fs lo hi w0 W->st.length+4*C.sz.toNat<=9000->
 Calls prog 30 #[.pointer (some ⟨b,0,none⟩),Nv.val q,cY x] W (mO W b lo hi v (bQ C st x).1 (cY (bQ C st x).2))
theorem gw.mark(w:World)(lo hi:Nat)(s:Int)(n:Int):gw w lo hi (Sv.zZ ⟨3,none,0,0,0,s,0,0⟩ n) (iG s n):=⟨rfl,rfl,rfl,rfl,rfl,by simp[iG],fun e=>by simp[iG]at e⟩
theorem gw.vQ(w:World)(lo hi:Nat)(s:Int)(n:Int):gw w lo hi (Sv.zZ ⟨2,none,0,0,s,0,0,0⟩ n) (tC s n):=⟨rfl,rfl,rfl,rfl,rfl,by simp[tC],fun e=>by simp[tC]at e⟩
theorem akY{w0 w:World}{b lo hi pb:Nat}{v:Value}{st:List MS}{q N:Nv}{C:CT}(h:dH w b lo hi v st)(x:Ex)(hx:dv st.length x)(hS:fs lo hi w0 w)(bC:C.ok)(bm:C.sz<=1000)(hP:xO b lo hi w0 N C)
 (nV:q.pa=some ⟨pb,0,none⟩)(iD:q.pn=1)(dB:lo<=pb/\pb<hi)(hK:pV w pb 0 N)(km:0<=q.gr/\q.gr<=300)(dg:st.length+4+4*C.sz.toNat<=9000):
 Calls prog 51 #[.pointer (some ⟨b,0,none⟩),Nv.val q,cY x] w (mO w b lo hi v
  (if q.gr=0 then bQ C st x else ft (iG (2*(q.gr-1))) (bQ C (ft (iG (2*(q.gr-1)+1)) st x).1 (ft (iG (2*(q.gr-1)+1)) st x).2).1 (bQ C (ft (iG (2*(q.gr-1)+1)) st x).1 (ft (iG (2*(q.gr-1)+1)) st x).2).2).1
  (cY (if q.gr=0 then bQ C st x else ft (iG (2*(q.gr-1))) (bQ C (ft (iG (2*(q.gr-1)+1)) st x).1 (ft (iG (2*(q.gr-1)+1)) st x).2).1 (bQ C (ft (iG (2*(q.gr-1)+1)) st x).1 (ft (iG (2*(q.gr-1)+1)) st x).2).2).2)):=by
 have ar:=h.ae.lt;have fO:=h.fO;obtain⟨x1,x2⟩:=x;have s_:pb<w.heap.size:=by omega
 obtain⟨qk,gu,e_,fw,cM,cO,cN,cq,dx,eL,eG,eQ⟩:=q;simp only at nV iD km;subst nV iD;have h1:=h.alloc (.cells #[.int .i64 qk,.slice (some ⟨pb,0,none⟩) 1 fw,.slice cM cO cN,.int .i64 cq,.int .i64 dx,.int .i64 eL,.int .i64 eG,.bool eQ] 43);have h2:=h1.alloc (.cells (aP (x1,x2)) 98);have h3:=h2.alloc (.cells (aP (0,0)) 98);have h4:=h3.alloc (.cells N.cells 43);have l1:=((bJ.new h1 (aP (x1,x2)) 98).alloc (.cells (aP (0,0)) 98)).alloc (.cells N.cells 43);have l2:=(bJ.new h2 (aP (0,0)) 98).alloc (.cells N.cells 43);have l3:=bJ.new h3 N.cells 43;have W4:=((((eM.refl b w v).alloc (.cells #[.int .i64 qk,.slice (some ⟨pb,0,none⟩) 1 fw,.slice cM cO cN,.int .i64 cq,.int .i64 dx,.int .i64 eL,.int .i64 eG,.bool eQ] 43)).alloc (.cells (aP (x1,x2)) 98)).alloc (.cells (aP (0,0)) 98)).alloc (.cells N.cells 43);have S4:=(((hS.alloc (by omega) (.cells #[.int .i64 qk,.slice (some ⟨pb,0,none⟩) 1 fw,.slice cM cO cN,.int .i64 cq,.int .i64 dx,.int .i64 eL,.int .i64 eG,.bool eQ] 43)).alloc (by simp;omega) (.cells (aP (x1,x2)) 98)).alloc (by simp;omega) (.cells (aP (0,0)) 98)).alloc (by simp;omega) (.cells N.cells 43);have K3:=(hK.mK ((((fs.refl lo hi w).alloc (by omega) (.cells #[.int .i64 qk,.slice (some ⟨pb,0,none⟩) 1 fw,.slice cM cO cN,.int .i64 cq,.int .i64 dx,.int .i64 eL,.int .i64 eG,.bool eQ] 43)).alloc (by simp;omega) (.cells (aP (x1,x2)) 98)).alloc (by simp;omega) (.cells (aP (0,0)) 98)) dB.1 dB.2).zero;simp only[aP]at K3;obtain⟨⟨k0,k1,k2,k3⟩,k4,k5,k6,k7⟩:=K3;simp only[tB]at l1 l2 l3;simp only[Nv.val,Nv.cells,cY];by_cases g0:dx=0
 ·have d1:(dx==0)=true:=by simp[g0]
  simp only[if_pos g0];have F1:=hP _ v st (x1,x2) h4 hx S4 (by omega);simp only[Nv.val,Nv.cells,cY,aP]at F1;simp only[aP]at l2 W4;have F1:=ai F1;have PK:=ai (And.intro l2 W4);clear h h1 h2 h3 h4 l1 l2 l3 W4 S4 hS hK g0;go_in;go_wp2_with fail;refine(F1.out).mono ?_;rintro e w4 ⟨rfl,v4,h4,jn⟩;have l2:=PK.out.1.bt jn;obtain⟨c0,c1,f0,f1⟩:=l2.cX;have aO:=ai (And.intro h4 (And.intro (PK.out.2.trans jn) l2));clear l2 h4 jn F1 PK;go_wp2_with fail;exact nL aO.out.1 aO.out.2.1 aO.out.2.2 (by omega) (by omega) results51 rfl rfl
 ·have d1:(dx==0)=false:=by simp[g0]
  simp only[if_neg g0];have lS:=pf C bC bm;have iP:=BS.mark (2*(dx-1)+1);have F1:=WK h4 ⟨3,none,0,0,0,2*(dx-1)+1,0,0⟩ (iG (2*(dx-1)+1)) (fun W n=>gw.mark W lo hi _ n) (x1,x2) (by omega);have X1:=iP.fG st (x1,x2) hx;have N1:=iP.cB st (x1,x2);generalize hR1:ft (iG (2*(dx-1)+1)) st (x1,x2)=R1 at*;obtain⟨ab,y1,y2⟩:=R1;simp only at X1 N1;have X2:=lS.fG ab (y1,y2) X1;have N2:=lS.cB ab (y1,y2);have G2:=lS.grow ab (y1,y2);simp only[Sv.val,Sv.cells,cY,aP]at F1;simp only[aP]at l1 l2 l3 W4;have F1:=ai F1;have PK:=ai (And.intro (And.intro l1 (And.intro l2 l3)) (And.intro W4 (And.intro h4 S4)));have HP:=ai hP;clear h h1 h2 h3 h4 l1 l2 l3 W4 S4 hS hK g0 hP lS iP hR1;have r1: -9223372036854775808<=2*(dx-1)/\2*(dx-1)+1<=9223372036854775807:=by omega
  go_in
  go_wp2_with fail
  refine(F1.out).mono ?_;rintro e w5 ⟨rfl,v5,h5,Jv⟩;obtain⟨⟨l1,l2,l3⟩,W4,h4,S4⟩:=PK.out;have S5:=S4.bt h4 Jv;have m1:=l1.bt Jv;have m2:=l2.bt Jv;have m3:=l3.bt Jv;have W5:=W4.trans Jv;have m1':=(m1.setCell 0 (.int .i64 y1)).setCell 1 (.int .i64 y2);have EH:=(m2.ch (d:=w.heap.size+1) (by omega) 0 (.int .i64 y1)).ch (d:=w.heap.size+1) (by omega) 1 (.int .i64 y2);have m3':=(m3.ch (d:=w.heap.size+1) (by omega) 0 (.int .i64 y1)).ch (d:=w.heap.size+1) (by omega) 1 (.int .i64 y2);have PC:=(h5.set m1.not (by omega) 0 (.int .i64 y1)).set m1.not (by omega) 1 (.int .i64 y2);have ZN:=(W5.set (c:=w.heap.size+1) (by omega) 0 (.int .i64 y1)).set (c:=w.heap.size+1) (by omega) 1 (.int .i64 y2);have ZF:=(S5.set (c:=w.heap.size+1) (by omega) 0 (.int .i64 y1)).set (c:=w.heap.size+1) (by omega) 1 (.int .i64 y2);obtain⟨c0,c1,f0,f1⟩:=m1.cX;obtain⟨e0,e1,e2,e3,e4,e5,e6,e7⟩:=m3.ae.ib;have F2:=HP.out _ v5 ab (y1,y2) PC X1 ZF (by omega);simp only[Nv.val,Nv.cells,cY]at F2;have F2:=ai F2;have nA:=ai (And.intro EH (And.intro ZN PC));clear l1 l2 l3 W4 h4 S4 Jv S5 m1 m2 m3 W5 m1' EH m3' PC ZN ZF h5 F1 PK HP;go_wp2_with fail;refine(F2.out).mono ?_;rintro e w6 ⟨rfl,v6,h6,Wt⟩;obtain⟨m2,W5,h5⟩:=nA.out;have m6:=m2.bt Wt;have W6:=W5.trans Wt;have F3:=WK h6 ⟨3,none,0,0,0,2*(dx-1),0,0⟩ (iG (2*(dx-1))) (fun W n=>gw.mark W lo hi _ n) (bQ C ab (y1,y2)).2 (by omega);simp only[Sv.val,Sv.cells,cY]at F3;have F3:=ai F3;have kJ:=ai (And.intro m6 W6);clear m2 W5 h5 m6 W6 h6 Wt F2 nA;go_wp2_with fail;refine(F3.out).mono ?_;rintro e w7 ⟨rfl,v7,h7,Wu⟩;obtain⟨m6,W6⟩:=kJ.out;have m7:=m6.bt Wu;obtain⟨c0,c1,f0,f1⟩:=m7.cX;have aO:=ai (And.intro h7 (And.intro (W6.trans Wu) m7));clear m6 W6 m7 h7 Wu F3 kJ;go_wp2_with fail;exact nL aO.out.1 aO.out.2.1 aO.out.2.2 (by omega) (by omega) results51 rfl rfl
theorem bJ.ib{w:World}{b c:Nat}{v:Value}{q:Nv}{t:TypeId}(h:bJ w b v c q.cells t):
 w.cell? ⟨c,0,none⟩=some (.int .i64 q.k)/\w.cell? ⟨c,1,none⟩=some (.slice q.pa q.pn q.pc)/\w.cell? ⟨c,2,none⟩=some (.slice q.sa q.sn q.sc)/\w.cell? ⟨c,3,none⟩=some (.int .i64 q.ed)/\w.cell? ⟨c,4,none⟩=some (.int .i64 q.gr)/\w.cell? ⟨c,5,none⟩=some (.int .i64 q.lo)/\w.cell? ⟨c,6,none⟩=some (.int .i64 q.hi)/\w.cell? ⟨c,7,none⟩=some (.bool q.lz):=h.ae.ib
def uT(w':World)(B0 pb:Nat)(q N:Nv):Prop:=
 (w'.cell? ⟨B0,1,none⟩=some (.slice (some ⟨pb,0,none⟩) 1 q.pc)/\w'.cell? ⟨B0,7,none⟩=some (.bool q.lz))/\
 (w'.cell? ⟨pb,0,none⟩=some (.int .i64 N.k)/\w'.cell? ⟨pb,1,none⟩=some (.slice N.pa N.pn N.pc)/\w'.cell? ⟨pb,2,none⟩=some (.slice N.sa N.sn N.sc)/\w'.cell? ⟨pb,3,none⟩=some (.int .i64 N.ed))/\
   w'.cell? ⟨pb,4,none⟩=some (.int .i64 N.gr)/\w'.cell? ⟨pb,5,none⟩=some (.int .i64 N.lo)/\w'.cell? ⟨pb,6,none⟩=some (.int .i64 N.hi)/\w'.cell? ⟨pb,7,none⟩=some (.bool N.lz)
theorem uT.of{w:World}{b B0 pb:Nat}{v:Value}{q N:Nv}{t:TypeId}(h:bJ w b v B0 q.cells t)(nV:q.pa=some ⟨pb,0,none⟩)(iD:q.pn=1)(hK:pV w pb 0 N):uT w B0 pb q N:=by
 obtain⟨_,e1,_,_,_,_,_,e7⟩:=h.ib;rw[nV,iD]at e1;exact⟨⟨e1,e7⟩,hK.zero⟩
def BP(w:World)(pb:Nat)(q N:Nv)(x1 x2 a1 a2:Int)(w':World):Prop:=
 uT w' w.heap.size pb q N/\(w'.cell? ⟨w.heap.size+1,0,none⟩=some (.int .i64 x1)/\w'.cell? ⟨w.heap.size+1,1,none⟩=some (.int .i64 x2))/\w'.cell? ⟨w.heap.size+1+1+1,0,none⟩=some (.int .i64 a1)/\w'.cell? ⟨w.heap.size+1+1+1,1,none⟩=some (.int .i64 a2)
theorem BP.of{w W:World}{b pb:Nat}{v:Value}{q N:Nv}{x1 x2 a1 a2:Int}{t t':TypeId}(h0:bJ W b v w.heap.size q.cells t)(h1:bJ W b v (w.heap.size+1) #[.int .i64 x1,.int .i64 x2] t')(h3:bJ W b v (w.heap.size+1+1+1) #[.int .i64 a1,.int .i64 a2] t')(nV:q.pa=some ⟨pb,0,none⟩)(iD:q.pn=1)(hK:pV W pb 0 N):BP w pb q N x1 x2 a1 a2 W:=
 ⟨uT.of h0 nV iD hK,⟨h1.cX.1,h1.cX.2.1⟩,h3.cX.1,h3.cX.2.1⟩
theorem alD{w0 w:World}{b lo hi pb:Nat}{v:Value}{st:List MS}{q N:Nv}{C:CT}(h:dH w b lo hi v st)(x:Ex)(hx:dv st.length x)(hS:fs lo hi w0 w)(bC:C.ok)(bm:0<(q.hi-q.lo).toNat->C.sz<=1000)(hP:0<(q.hi-q.lo).toNat->xO b lo hi w0 N C)
 (nV:q.pa=some ⟨pb,0,none⟩)(iD:q.pn=1)(dB:lo<=pb/\pb<hi)(hK:pV w0 pb 0 N)(hr:(0<=q.lo/\q.lo<=20)/\(0<=q.hi/\q.hi<=20)/\q.lo<=q.hi)(dg:st.length+(q.hi-q.lo).toNat*(4*C.sz.toNat+2)<=9000):
 Calls prog 84 #[.pointer (some ⟨b,0,none⟩),Nv.val q,cY x] w (mO w b lo hi v (fI (bQ C) q.lz x (q.hi-q.lo).toNat st x).1 (cY (fI (bQ C) q.lz x (q.hi-q.lo).toNat st x).2)):=by
 have ar:=h.ae.lt;have fO:=h.fO;obtain⟨x1,x2⟩:=x;have s_:pb<w.heap.size:=by omega
 have h1:=h.alloc (.cells q.cells 43);have h2:=h1.alloc (.cells (aP (x1,x2)) 98);have h3:=h2.alloc (.cells (aP (0,0)) 98);have h4:=h3.alloc (.cells (aP (x1,x2)) 98);have l0:=(((bJ.new h q.cells 43).alloc (.cells (aP (x1,x2)) 98)).alloc (.cells (aP (0,0)) 98)).alloc (.cells (aP (x1,x2)) 98);have l1:=((bJ.new h1 (aP (x1,x2)) 98).alloc (.cells (aP (0,0)) 98)).alloc (.cells (aP (x1,x2)) 98);have l2:=(bJ.new h2 (aP (0,0)) 98).alloc (.cells (aP (x1,x2)) 98);have l3:=bJ.new h3 (aP (x1,x2)) 98;have W4:=((((eM.refl b w v).alloc (.cells q.cells 43)).alloc (.cells (aP (x1,x2)) 98)).alloc (.cells (aP (0,0)) 98)).alloc (.cells (aP (x1,x2)) 98);have S4:=(((hS.alloc (by omega) (.cells q.cells 43)).alloc (by simp;omega) (.cells (aP (x1,x2)) 98)).alloc (by simp;omega) (.cells (aP (0,0)) 98)).alloc (by simp;omega) (.cells (aP (x1,x2)) 98);simp only[tB]at l1 l2 l3;simp only[aP]at l1 l2 l3;have lS:=fun h0=>pf C bC (bm h0)
 have gg:=ai (And.intro (And.intro l0 (And.intro l1 (And.intro l2 l3))) (And.intro W4 (And.intro h4 S4)));have HP:=ai hP;have HB:=ai lS;have hd:(0:Int)<=q.hi-q.lo/\q.hi-q.lo<=20:=by omega
 generalize hm:(q.hi-q.lo).toNat=m at*
 have wV:q.hi-q.lo=(m:Int):=by omega
 have Ow:=ai wV;have xH:=ai nV;have xI:=ai iD;clear h h1 h2 h3 h4 l0 l1 l2 l3 W4 S4 hS hP lS hm wV nV iD;simp only[Nv.val,cY,Nv.cells];go_in;go_wp2_with fail
 go_loopg [14] m (fun kk i wr=>∃(j:Nat) (v1:Value) (ab:List MS) (a1 a2:Int),i=.int .i64 j/\j<=m/\kk=m-j/\Hid (fI (bQ C) q.lz (x1,x2) (m-j) ab (a1,a2)=fI (bQ C) q.lz (x1,x2) m st (x1,x2))/\st.length<=ab.length/\ab.length+(m-j)*(4*C.sz.toNat+2)<=9000/\dv ab.length (a1,a2)/\
  dH wr b lo hi v1 ab/\eM b w wr v v1/\fs lo hi w0 wr/\bJ wr b v1 w.heap.size q.cells 43/\bJ wr b v1 (w.heap.size+1) #[.int .i64 x1,.int .i64 x2] 98/\bJ wr b v1 (w.heap.size+1+1) #[.int .i64 0,.int .i64 0] 98/\bJ wr b v1 (w.heap.size+1+1+1) #[.int .i64 a1,.int .i64 a2] 98)
 case atStart=>
  obtain⟨⟨l0,l1,l2,l3⟩,W4,h4,S4⟩:=gg.out;exact⟨0,v,st,x1,x2,rfl,Aw _,rfl,rfl,Aa _,dg,hx,h4,W4,S4,l0,l1,l2,l3⟩
 case round=>
  clear gg;obtain⟨j,v1,ab,a1,a2,rfl,hj,rfl,HE,iR,jk,uu,hB,hW,eJ,L0,L1,L2,L3⟩:=hrel;have wV:=Ow.out;by_cases lW:j<m
  ·have mY:(j:Int)<q.hi-q.lo:=(by omega);have uj:=uT.of L0 xH.out xI.out (hK.mK eJ dB.1 dB.2);obtain⟨c0,c1,_,_⟩:=L1.cX;obtain⟨d0,d1,g0,g1⟩:=L3.cX;clear wV;have xb:=dv.mono hx iR;have b1:=(HB.out (by omega)).fG ab (a1,a2) uu;have b2:=(HB.out (by omega)).cB ab (a1,a2);have b3:=(HB.out (by omega)).grow ab (a1,a2);have e3:=u6 q.lz (bQ C ab (a1,a2)).1 (bQ C ab (a1,a2)).2 (x1,x2);have e4:=(zj (st:=(bQ C ab (a1,a2)).1) q.lz b1.mI (xb.mono b3.1).mI (Or.inl (by have:=b1.1;omega))).1
   have hmul:(m-j)*(4*C.sz.toNat+2)=(m-(j+1))*(4*C.sz.toNat+2)+(4*C.sz.toNat+2):=by
    obtain⟨d,hd⟩:∃d,m-j=d+1:=⟨m-j-1,by omega⟩
    rw[hd,show m-(j+1)=d by omega,E0]
   have jy:=hB.new ((I.refl aq wr).drew);have nN:=hW.new ((I.refl aq wr).drew);have gG:fs lo hi w0 wr.drew:=eJ;have M0:bJ wr.drew b v1 w.heap.size q.cells 43:=⟨L0.ae,L0.not⟩;have M1:bJ wr.drew b v1 (w.heap.size+1) #[.int .i64 x1,.int .i64 x2] 98:=⟨L1.ae,L1.not⟩;have M2:bJ wr.drew b v1 (w.heap.size+1+1) #[.int .i64 0,.int .i64 0] 98:=⟨L2.ae,L2.not⟩;have M3:bJ wr.drew b v1 (w.heap.size+1+1+1) #[.int .i64 a1,.int .i64 a2] 98:=⟨L3.ae,L3.not⟩;have F1:=HP.out (by omega) wr.drew v1 ab (a1,a2) jy uu gG (by omega);simp only[Nv.val,Nv.cells,cY]at F1;have F1:=ai F1;have PK:=ai (And.intro (And.intro jy (And.intro nN gG)) (And.intro M0 (And.intro M1 (And.intro M2 M3))));have KK:=ai hK;clear hB hW eJ L0 L1 L2 L3 jy nN gG M0 M1 M2 M3 hK;have acd:uT wr.drew w.heap.size pb q N:=uj;have PS:=ai (And.intro acd (And.intro (And.intro c0 c1) (And.intro d0 d1)));clear uj acd c0 c1 d0 d1;go_wp2_with fail;refine kH (S:=BP w pb q N x1 x2 a1 a2) 12 (by kernel_rfl) rfl rfl rfl (by kernel_rfl) (by kernel_rfl) ?_;have az:BP w pb q N x1 x2 a1 a2 wr.drew:=PS.out;refine De (i:=0) (v:=.pointer (some ⟨b,0,none⟩)) rfl (by kernel_rfl) (by kernel_rfl) (by kernel_rfl) (fun _ _ _ h=>h) (Or.inl ⟨by rfl,fun W dJ=>by obtain⟨⟨⟨s0,s1⟩,⟨s2,s3,s4,s5⟩,s6,s7,s8,s9⟩,⟨yI,AI⟩,xB,AJ⟩:=dJ;go_simp⟩) az ?_;simp only[Act.put,Ac];refine De (i:=1) (v:=.pointer (some ⟨w.heap.size,7,none⟩)) rfl (by kernel_rfl) (by kernel_rfl) (by kernel_rfl) (fun _ _ _ h=>h) (Or.inl ⟨by rfl,fun W dJ=>by obtain⟨⟨⟨s0,s1⟩,⟨s2,s3,s4,s5⟩,s6,s7,s8,s9⟩,⟨yI,AI⟩,xB,AJ⟩:=dJ;go_simp⟩) az ?_;simp only[Act.put];refine De (i:=2) (v:=.bool q.lz) rfl (by kernel_rfl) (by kernel_rfl) (by kernel_rfl) (fun _ _ _ h=>h) (Or.inl ⟨by rfl,fun W dJ=>by obtain⟨⟨⟨s0,s1⟩,⟨s2,s3,s4,s5⟩,s6,s7,s8,s9⟩,⟨yI,AI⟩,xB,AJ⟩:=dJ;go_simp⟩) az ?_;simp only[Act.put];refine De (i:=3) (v:=.pointer (some ⟨b,0,none⟩)) rfl (by kernel_rfl) (by kernel_rfl) (by kernel_rfl) (fun _ _ _ h=>h) (Or.inl ⟨by rfl,fun W dJ=>by obtain⟨⟨⟨s0,s1⟩,⟨s2,s3,s4,s5⟩,s6,s7,s8,s9⟩,⟨yI,AI⟩,xB,AJ⟩:=dJ;go_simp⟩) az ?_;simp only[Act.put];refine De (i:=4) (v:=.pointer (some ⟨w.heap.size,1,none⟩)) rfl (by kernel_rfl) (by kernel_rfl) (by kernel_rfl) (fun _ _ _ h=>h) (Or.inl ⟨by rfl,fun W dJ=>by obtain⟨⟨⟨s0,s1⟩,⟨s2,s3,s4,s5⟩,s6,s7,s8,s9⟩,⟨yI,AI⟩,xB,AJ⟩:=dJ;go_simp⟩) az ?_;simp only[Act.put];refine De (i:=5) (v:=.slice (some ⟨pb,0,none⟩) 1 q.pc) rfl (by kernel_rfl) (by kernel_rfl) (by kernel_rfl) (fun _ _ _ h=>h) (Or.inl ⟨by rfl,fun W dJ=>by obtain⟨⟨⟨s0,s1⟩,⟨s2,s3,s4,s5⟩,s6,s7,s8,s9⟩,⟨yI,AI⟩,xB,AJ⟩:=dJ;go_simp⟩) az ?_;simp only[Act.put];refine De (i:=6) (v:=.pointer (some ⟨pb,0,none⟩)) rfl (by kernel_rfl) (by kernel_rfl) (by kernel_rfl) (fun _ _ _ h=>h) (Or.inl ⟨by rfl,fun W dJ=>by obtain⟨⟨⟨s0,s1⟩,⟨s2,s3,s4,s5⟩,s6,s7,s8,s9⟩,⟨yI,AI⟩,xB,AJ⟩:=dJ;go_simp⟩) az ?_;simp only[Act.put];refine De (i:=7) (v:=.agg #[.int .i64 N.k,.slice N.pa N.pn N.pc,.slice N.sa N.sn N.sc,.int .i64 N.ed,.int .i64 N.gr,.int .i64 N.lo,.int .i64 N.hi,.bool N.lz]) rfl (by kernel_rfl) (by kernel_rfl) (by kernel_rfl) (fun _ _ _ h=>h) (Or.inl ⟨by rfl,fun W dJ=>by obtain⟨⟨⟨s0,s1⟩,⟨s2,s3,s4,s5⟩,s6,s7,s8,s9⟩,⟨yI,AI⟩,xB,AJ⟩:=dJ;go_simp⟩) az ?_;simp only[Act.put];refine De (i:=8) (v:=.agg #[.int .i64 a1,.int .i64 a2]) rfl (by kernel_rfl) (by kernel_rfl) (by kernel_rfl) (fun _ _ _ h=>h) (Or.inl ⟨by rfl,fun W dJ=>by obtain⟨⟨⟨s0,s1⟩,⟨s2,s3,s4,s5⟩,s6,s7,s8,s9⟩,⟨yI,AI⟩,xB,AJ⟩:=dJ;go_simp⟩) az ?_;simp only[Act.put];refine De (i:=10) (v:=.agg #[.int .i64 x1,.int .i64 x2]) rfl (by kernel_rfl) (by kernel_rfl) (by kernel_rfl) (fun _ _ _ h=>h) (Or.inl ⟨by rfl,fun W dJ=>by obtain⟨⟨⟨s0,s1⟩,⟨s2,s3,s4,s5⟩,s6,s7,s8,s9⟩,⟨yI,AI⟩,xB,AJ⟩:=dJ;go_simp⟩) az ?_;simp only[Act.put];refine Ax (rs:=[9]) (by kernel_rfl) (by simp) (An rfl (fun K hK=>?_) As);go_simp;refine(F1.out).mono ?_;rintro e w5 ⟨rfl,v5,h5,k5⟩;dsimp only;obtain⟨⟨hB,hW,eJ⟩,M0,M1,M2,M3⟩:=PK.out;have sP:BP w pb q N x1 x2 a1 a2 w5:=BP.of (M0.bt k5) (M1.bt k5) (M3.bt k5) xH.out xI.out (KK.out.mK (eJ.bt hB k5) dB.1 dB.2);refine hK.out _ _ sP (fun _=>?_);clear hK K;have F2:=aaW h5 q.lz (bQ C ab (a1,a2)).2 (x1,x2) (by omega);simp only[cY]at F2;have F2:=ai F2;have nA:=ai (And.intro (And.intro h5 (And.intro (hW.trans k5) (eJ.bt hB k5))) (And.intro (M0.bt k5) (And.intro (M1.bt k5) (And.intro (M2.bt k5) (M3.bt k5)))));clear hB hW eJ M0 M1 M2 M3 h5 k5 az sP PS F1 PK;refine Ax (rs:=[11]) (by kernel_rfl) (by simp) (An rfl (fun K hK=>?_) As);go_simp;refine(F2.out).mono ?_;rintro e w6 ⟨rfl,v6,h6,k6⟩;dsimp only;obtain⟨⟨hB,hW,eJ⟩,M0,M1,M2,M3⟩:=nA.out;have sQ:BP w pb q N x1 x2 a1 a2 w6:=BP.of (M0.bt k6) (M1.bt k6) (M3.bt k6) xH.out xI.out (KK.out.mK (eJ.bt hB k6) dB.1 dB.2);refine hK.out _ _ sQ (fun _=>?_);clear hK K;obtain⟨d0,d1,g0,g1⟩:=(M3.bt k6).cX;generalize hE:dE q.lz (bQ C ab (a1,a2)).1 (bQ C ab (a1,a2)).2 (x1,x2)=E at*;obtain⟨bF,y1,y2⟩:=E;simp only at e3 e4 h6;have N0:=((M0.bt k6).ch (d:=w.heap.size+1+1+1) (by omega) 0 (.int .i64 y1)).ch (d:=w.heap.size+1+1+1) (by omega) 1 (.int .i64 y2);have N1:=((M1.bt k6).ch (d:=w.heap.size+1+1+1) (by omega) 0 (.int .i64 y1)).ch (d:=w.heap.size+1+1+1) (by omega) 1 (.int .i64 y2);have N2:=((M2.bt k6).ch (d:=w.heap.size+1+1+1) (by omega) 0 (.int .i64 y1)).ch (d:=w.heap.size+1+1+1) (by omega) 1 (.int .i64 y2);have N3:=((M3.bt k6).setCell 0 (.int .i64 y1)).setCell 1 (.int .i64 y2);have h7:=(h6.set (M3.bt k6).not (by omega) 0 (.int .i64 y1)).set (M3.bt k6).not (by omega) 1 (.int .i64 y2);have W7:=((hW.trans k6).set (c:=w.heap.size+1+1+1) (by omega) 0 (.int .i64 y1)).set (c:=w.heap.size+1+1+1) (by omega) 1 (.int .i64 y2);have S7:=((eJ.bt hB k6).set (c:=w.heap.size+1+1+1) (by omega) 0 (.int .i64 y1)).set (c:=w.heap.size+1+1+1) (by omega) 1 (.int .i64 y2)
   have lH:Hid (fI (bQ C) q.lz (x1,x2) (m-(j+1)) bF (y1,y2)=fI (bQ C) q.lz (x1,x2) m st (x1,x2)):=by
    rw[<-HE.out,show m-j=(m-(j+1))+1 by omega];show _=fI (bQ C) q.lz (x1,x2) (m-(j+1)) (dE q.lz (bQ C ab (a1,a2)).1 (bQ C ab (a1,a2)).2 (x1,x2)).1 (dE q.lz (bQ C ab (a1,a2)).1 (bQ C ab (a1,a2)).2 (x1,x2)).2
    rw[hE]
   have kJ:=ai (And.intro (And.intro h7 (And.intro W7 S7)) (And.intro N0 (And.intro N1 (And.intro N2 N3))));clear hB hW eJ M0 M1 M2 M3 h6 k6 sQ F2 nA N0 N1 N2 N3 h7 W7 S7 hE HE;refine Ba (by kernel_rfl) ?_ _;unfold iu;go_wp2_with fail;go_roundg (m-(j+1))
   case measure=>omega
   case rel=>
    obtain⟨⟨h7,W7,S7⟩,N0,N1,N2,N3⟩:=kJ.out;exact⟨j+1,v6,bF,y1,y2,by go_num,by omega,rfl,lH,by omega,by omega,e4,h7,W7,S7,N0,N1,N2,N3⟩
  ·have ej:j=m:=(by omega);subst ej;have mY:¬((j:Int)<q.hi-q.lo):=by omega
   have lH:Hid ((ab,(a1,a2))=fI (bQ C) q.lz (x1,x2) j st (x1,x2)):=by
    have:=HE.out;rw[Nat.sub_self]at this;exact this
   obtain⟨c0,c1,_,_⟩:=L3.cX;obtain⟨d0,d1,g0,g1⟩:=L2.cX;have aO:=ai (And.intro hB (And.intro hW L2));clear hB hW eJ L0 L1 L2 L3 wV HE;go_wp2_with fail;rw[<-lH.out];exact nL aO.out.1 aO.out.2.1 aO.out.2.2 (by omega) (by omega) results84 rfl rfl
theorem Hl{w:World}{base e size n g cap:Nat}{xs:List Value}(h:w.ownsRow base e size (.slice (some ⟨g,0,none⟩) n cap) n xs)(k:Nat)(u:Value):(w.setCell ⟨g,k,none⟩ u).ownsRow base e size (.slice (some ⟨g,0,none⟩) n cap) n (xs.set k u):=by
 obtain⟨h1,h2⟩:=h;refine⟨by simpa using h1,Or.inr ?_⟩;rcases h2 with⟨h2,_⟩|⟨g',fV,aU,hv,a1,a2,a3,a4,a5,a6⟩
 ·cases h2
 ·cases hv;refine⟨g,cap,aU.setIfInBounds k u,rfl,a1,?_,a3,a4,by simpa using a5,?_⟩
  ·have hb:=(Ah.1 a2).1;simp only[World.setCell,Ei];simp[a2]
  ·rw[Array.toList_setIfInBounds,List.take_set,a6]
theorem aiq(vs:List Sv)(a:Nat)(ha:a<vs.length)(s:Sv):((((((jw vs).set (a*6) (.int .i64 s.k)).set (a*6+1) (.slice s.sa s.sn s.sc)).set (a*6+2) (.int .i64 s.ed)).set (a*6+3) (.int .i64 s.sl)).set (a*6+4) (.int .i64 s.nx)).set (a*6+5) (.int .i64 s.ot)=jw (vs.set a s):=by
 induction vs generalizing a with
 |nil=>simp at ha
 |cons q qs ih=>
  cases a with
  |zero=>simp[jw,Sv.cells]
  |succ a=>
   have:=ih a (by simpa using ha);have e:∀j,(a+1)*6+j=a*6+j+1+1+1+1+1+1:=(fun j=>by omega);have e0:(a+1)*6=a*6+1+1+1+1+1+1:=by omega
   simp only[jw,Sv.cells,Bv,Cs,Aj,e0,this]
def Hp(w:World)(g i:Nat)(s:Sv):World:=(((((w.setCell ⟨g,i,none⟩ (.int .i64 s.k)).setCell ⟨g,i+1,none⟩ (.slice s.sa s.sn s.sc)).setCell ⟨g,i+2,none⟩ (.int .i64 s.ed)).setCell ⟨g,i+3,none⟩ (.int .i64 s.sl)).setCell ⟨g,i+4,none⟩ (.int .i64 s.nx)).setCell ⟨g,i+5,none⟩ (.int .i64 s.ot)
theorem XC(w:World)(g i:Nat)(s:Sv):I (fun k=>k=g) w (Hp w g i s):=
 ((((((I.refl (fun k=>k=g) w).setCell (p:=⟨g,i,none⟩) (Or.inl rfl) _).setCell (p:=⟨g,i+1,none⟩) (Or.inl rfl) _).setCell (p:=⟨g,i+2,none⟩) (Or.inl rfl) _).setCell (p:=⟨g,i+3,none⟩) (Or.inl rfl) _).setCell (p:=⟨g,i+4,none⟩) (Or.inl rfl) _).setCell (p:=⟨g,i+5,none⟩) (Or.inl rfl) _
theorem dH.agh{w:World}{b lo hi:Nat}{v:Value}{st:List MS}(h:dH w b lo hi v st)(aF:st≠ []):∃g c,v=.slice (some ⟨g,0,none⟩) st.length c/\b+1<=g/\g<w.heap.size/\st.length<=c/\
 (∀i,(aS:i<st.length)->∃s:Sv,gw w lo hi s st[i]/\∀j,j<6->w.cell? ⟨g,i*6+j,none⟩=s.cells[j]? /\w.frozen? ⟨g,i*6+j,none⟩=false):=by
 obtain⟨vs,h1,h2,h3⟩:=h.row;obtain⟨hx,jx⟩:=h1;rcases jx with⟨_,h0⟩|⟨g,cap,aU,rfl,a1,a2,a3,a4,a5,a6⟩
 ·exact absurd (Az.1 h0) aF
 ·refine⟨g,cap,rfl,a1,(Ah.1 a2).1,a3,fun i aS=>⟨vs[i],h3 i (by omega) aS,fun j hj=>⟨?_,by simp[World.frozen?,a2]⟩⟩⟩;have hf:=Un vs i (by omega) j hj;rw[<-hf,<-a6,Al (by omega)];simp only[World.cell?,a2];simp
theorem dH.put{w:World}{b lo hi g c:Nat}{st:List MS}(h:dH w b lo hi (.slice (some ⟨g,0,none⟩) st.length c) st){a:Nat}(ha:a<st.length){s:Sv}{m:MS}(hs:gw w lo hi s m)(hg:b+1<=g):dH (Hp w g (a*6) s) b lo hi (.slice (some ⟨g,0,none⟩) st.length c) (st.set a m):=by
 have fO:=h.fO;have ar:=h.ae.lt;have kk:=XC w g (a*6) s;refine⟨h.ae.kept kk (by omega),?_,fO,by simpa using h.cB⟩;obtain⟨vs,h1,h2,h3⟩:=h.row;refine⟨vs.set a s,?_,by simp[h2],fun i a1 a2=>?_⟩
 ·rw[Bw,<-aiq vs a (by omega) s];exact Hl (Hl (Hl (Hl (Hl (Hl h1 _ _) _ _) _ _) _ _) _ _) _ _
 ·simp only[Bw]at a1 a2;by_cases e:i=a
  ·subst e;simp only[List.getElem_set_self];exact hs.kept kk (fun j j1 j2 e=>by omega) (by omega)
  ·rw[Eu (fun x=>e x.symm),Eu (fun x=>e x.symm)];exact(h3 i a1 a2).kept kk (fun j j1 j2 e=>by omega) (by omega)
theorem gw.zero(w:World)(lo hi:Nat):gw w lo hi ⟨0,none,0,0,0,0,0,0⟩ cy:=⟨rfl,rfl,rfl,rfl,rfl,by simp[cy],fun e=>by simp[cy]at e⟩
theorem eM.put{b g i:Nat}{w w1:World}{v v1:Value}(h:eM b w w1 v v1)(hg:v1.ownBlock=some g)(s:Sv):eM b w (Hp w1 g i s) v v1:=
 ⟨h.kept.bY (XC w1 g i s) (fun k hk e=>by
   subst e;rcases h.ae k hg with h1|h1
   ·exact Or.inr h1
   ·omega),h.ae⟩
theorem bJ.put{w:World}{b c g:Nat}{v:Value}{cs:Array Value}{t:TypeId}(h:bJ w b v c cs t)(hg:v.ownBlock=some g)(i:Nat)(s:Sv):bJ (Hp w g i s) b v c cs t:=
 ⟨h.ae.kept (XC w g i s) (fun e=>h.not (Or.inr (e▸hg))),h.not⟩
def Zu(b g c B3 p n:Nat)(s:Sv)(w':World):Prop:=
 w'.cell? ⟨b,0,none⟩=some (.slice (some ⟨g,0,none⟩) n c)/\w'.cell? ⟨B3,1,none⟩=some (.int .i64 p)/\
 w'.cell? ⟨g,p*6,none⟩=some (.int .i64 s.k)/\w'.cell? ⟨g,p*6+1,none⟩=some (.slice s.sa s.sn s.sc)/\w'.cell? ⟨g,p*6+2,none⟩=some (.int .i64 s.ed)/\w'.cell? ⟨g,p*6+3,none⟩=some (.int .i64 s.sl)/\w'.cell? ⟨g,p*6+4,none⟩=some (.int .i64 s.nx)/\w'.cell? ⟨g,p*6+5,none⟩=some (.int .i64 s.ot)
theorem an2(W:World)(p q:Int):(Instr.field 98 (.agg #[.int .i64 p,.int .i64 q]) 0).run prog W=.ok (.int .i64 p) W:=by
 simp[Instr.field,asAgg,go_sem]
theorem akT{w0 w:World}{b lo hi pb:Nat}{v:Value}{st:List MS}{q N:Nv}{C:CT}(h:dH w b lo hi v st)(x:Ex)(hx:dv st.length x)(hS:fs lo hi w0 w)(bC:C.ok)(bm:C.sz<=1000)(hP:xO b lo hi w0 N C)
 (nV:q.pa=some ⟨pb,0,none⟩)(iD:q.pn=1)(dB:lo<=pb/\pb<hi)(hK:pV w0 pb 0 N)(dg:st.length+(4*C.sz.toNat+3)<=9000):
 Calls prog 83 #[.pointer (some ⟨b,0,none⟩),Nv.val q,cY x] w (mO w b lo hi v (ou (bQ C) q.lz st x).1 (cY (ou (bQ C) q.lz st x).2)):=by
 have ar:=h.ae.lt;have fO:=h.fO;obtain⟨x1,x2⟩:=x;have s_:pb<w.heap.size:=by omega
 have h1:=h.alloc (.cells q.cells 43);have h2:=h1.alloc (.cells (aP (x1,x2)) 98);have h3:=h2.alloc (.cells (aP (0,0)) 98);have l0:=((bJ.new h q.cells 43).alloc (.cells (aP (x1,x2)) 98)).alloc (.cells (aP (0,0)) 98);have l1:=(bJ.new h1 (aP (x1,x2)) 98).alloc (.cells (aP (0,0)) 98);have l2:=bJ.new h2 (aP (0,0)) 98;have W4:=(((eM.refl b w v).alloc (.cells q.cells 43)).alloc (.cells (aP (x1,x2)) 98)).alloc (.cells (aP (0,0)) 98);have S4:=((hS.alloc (by omega) (.cells q.cells 43)).alloc (by simp;omega) (.cells (aP (x1,x2)) 98)).alloc (by simp;omega) (.cells (aP (0,0)) 98);simp only[tB]at l1 l2;have lS:=pf C bC bm;have hx1:dv (st++[cy]).length (-1,(st.length:Int)):=by unfold dv;simp;omega
 have Yo:=lS.fG (st++[cy]) (-1,st.length) hx1;have g2:=lS.grow (st++[cy]) (-1,st.length);have n2:=lS.cB (st++[cy]) (-1,st.length);have nT:(st++[cy]).length=st.length+1:=by simp
 rw[nT]at g2 n2;have F1:=Ik h3 (gw.zero _ lo hi) (by omega);simp only[Sv.val,Sv.cells,aP,Nv.cells]at F1;simp only[aP]at l1 l2;have nw:=ai F1;clear F1;have gg:=ai (And.intro (And.intro l0 (And.intro l1 l2)) (And.intro W4 (And.intro h3 S4)));have HP:=ai hP;have xH:=ai nV;have xI:=ai iD;have KK:=ai hK;unfold ou rC;generalize hR:bQ C (st++[cy]) (-1,st.length)=R at*;obtain⟨S1,t1,u1⟩:=R;simp only at Yo g2 n2⊢;have e3:=u6 q.lz S1 (t1,t1) (x1,x2);have e4:=(zj (st:=S1) q.lz (f:=(t1,t1)) ⟨Yo.2,Yo.2⟩ (hx.mono (by omega)).mI (Or.inr (by have:=hx.1;omega))).1;generalize hE:dE q.lz S1 (t1,t1) (x1,x2)=E at*;obtain⟨S2,y1,y2⟩:=E;simp only at e3 e4⊢;obtain⟨p,rfl⟩:∃p:Nat,y2=p:=⟨y2.toNat,by have:=e4.1;omega⟩
 have hp:p<S2.length:=by have:=e4.1;omega
 have eg:S2.getD (p:Int).toNat cy=S2[p]:=by rw[Cj,Ae,Ab hp];rfl
 rw[eg];clear eg;have HR:=ai hR;have HE:=ai hE;clear h h1 h2 h3 l0 l1 l2 W4 S4 hS hP lS nV iD hK hR hE;simp only[Nv.val,cY,Nv.cells];go_in;go_wp2_with fail;refine(nw.out).mono ?_;rintro e w5 ⟨rfl,v5,h5,k5⟩;obtain⟨⟨l0,l1,l2⟩,W4,h4,S4⟩:=gg.out;have m0:=l0.bt k5;have S5:=S4.bt h4 k5;have uj:=uT.of m0 xH.out xI.out (KK.out.mK S5 dB.1 dB.2);obtain⟨⟨s0,s1⟩,⟨s2,s3,s4,s5⟩,s6,s7,s8,s9⟩:=uj;have F2:=HP.out w5 v5 (st++[cy]) (-1,st.length) h5 hx1 S5 (by omega);rw[HR.out]at F2;simp only[Nv.val,Nv.cells,cY]at F2;have Kb:=ai F2;clear F2;have PK:=ai (And.intro (And.intro h5 (And.intro (W4.trans k5) S5)) (And.intro m0 (And.intro (l1.bt k5) (l2.bt k5))));clear l0 l1 l2 W4 h4 S4 m0 S5 h5 k5 gg nw;go_wp2_with fail;refine(Kb.out).mono ?_;rintro e w6 ⟨rfl,v6,h6,k6⟩;obtain⟨⟨h5,W5,S5⟩,M0,M1,M2⟩:=PK.out;obtain⟨_,_,_,_,_,_,_,z7⟩:=(M0.bt k6).ib;obtain⟨c0,c1,_,_⟩:=(M1.bt k6).cX;have F3:=aaW h6 q.lz (t1,t1) (x1,x2) (by omega);rw[HE.out]at F3;simp only[cY]at F3;have YC:=ai F3;clear F3;have nA:=ai (And.intro (And.intro h6 (And.intro (W5.trans k6) (S5.bt h5 k6))) (M2.bt k6));clear h5 W5 S5 M0 M1 M2 h6 k6 PK Kb s0 s1 s2 s3 s4 s5 s6 s7 s8 s9;have cS:=an2 w6 t1 u1;go_wp2_with fail;refine(YC.out).mono ?_;rintro e w7 ⟨rfl,v7,h7,k7⟩;obtain⟨⟨h6,W6,S6⟩,M2⟩:=nA.out;have m2:=M2.bt k7;have W7:=W6.trans k7;have sz7:=W7.kept.size;obtain⟨g,c7,pD,uc,py,hg3,U1⟩:=h7.agh (by intro e;rw[e]at hp;simp at hp);obtain⟨s,uk,qe⟩:=U1 p hp;obtain⟨s',ajM,ub⟩:=U1 st.length (by omega);subst pD;have ka:I aq w7 ((w7.alloc (.cells #[.int .i64 y1,.int .i64 (p:Int)] 98)).drew):=((I.refl aq w7).alloc _).drew;have cell:∀j u,w7.cell? ⟨g,j,none⟩=u->((w7.alloc (.cells #[.int .i64 y1,.int .i64 (p:Int)] 98)).drew).cell? ⟨g,j,none⟩=u:=fun j u hu=>(ka.cell (p:=⟨g,j,none⟩) py (fun hx=>hx)).trans hu
 have az:Zu b g c7 w7.heap.size p S2.length s ((w7.alloc (.cells #[.int .i64 y1,.int .i64 (p:Int)] 98)).drew):=
  ⟨(h7.ae.kept ka (fun hx=>hx)).cell 0,(ay.new w7 #[.int .i64 y1,.int .i64 (p:Int)] 98).cell 1,cell _ _ (qe 0 (by omega)).1,cell _ _ (qe 1 (by omega)).1,cell _ _ (qe 2 (by omega)).1,cell _ _ (qe 3 (by omega)).1,cell _ _ (qe 4 (by omega)).1,cell _ _ (qe 5 (by omega)).1⟩
 have PS:=ai az;have hpi:(p:Int)<(S2.length:Int):=by omega
 have hsi:(st.length:Int)<(S2.length:Int):=by omega
 clear az YC nA;go_wp2_with fail;refine kH (S:=Zu b g c7 w7.heap.size p S2.length s) 14 (by kernel_rfl) rfl rfl rfl (by kernel_rfl) (by kernel_rfl) ?_;have az:=PS.out;refine aB 0 30 (.pointer (some ⟨b,0,none⟩)) az ?_;refine aB 1 31 (.pointer (some ⟨b,0,none⟩)) az ?_;refine aB 2 32 (.pointer (some ⟨b,0,none⟩)) az ?_;refine aB 3 33 (.slice (some ⟨g,0,none⟩) S2.length c7) az ?_;refine aB 4 34 (.int .i64 st.length) az ?_;refine aB 5 35 (.pointer (some ⟨b,0,none⟩)) az ?_;refine aB 6 36 (.pointer (some ⟨b,0,none⟩)) az ?_;refine aB 7 37 (.pointer (some ⟨b,0,none⟩)) az ?_;refine aB 8 38 (.slice (some ⟨g,0,none⟩) S2.length c7) az ?_;refine aB 9 39 (.pointer (some ⟨w7.heap.size,1,none⟩)) az ?_;refine aB 10 40 (.int .i64 p) az ?_;refine aB 11 41 (.pointer (some ⟨g,p*6,none⟩)) az ?_;refine aB 12 42 (.agg #[.int .i64 s.k,.slice s.sa s.sn s.sc,.int .i64 s.ed,.int .i64 s.sl,.int .i64 s.nx,.int .i64 s.ot]) az ?_;refine aB 13 43 (.pointer (some ⟨g,st.length*6,none⟩)) az ?_;simp only[Act.put,Ac,Ak,Aj];refine Ba (by kernel_rfl) ?_ _;unfold iu;dsimp only;have q0:w7.cell? ⟨g,st.length*6,none⟩=some (.int .i64 s'.k):=(ub 0 (by omega)).1;have r0:w7.frozen? ⟨g,st.length*6,none⟩=false:=(ub 0 (by omega)).2;have q1:w7.cell? ⟨g,st.length*6+1,none⟩=some (.slice s'.sa s'.sn s'.sc):=(ub 1 (by omega)).1;have r1:w7.frozen? ⟨g,st.length*6+1,none⟩=false:=(ub 1 (by omega)).2;have q2:w7.cell? ⟨g,st.length*6+2,none⟩=some (.int .i64 s'.ed):=(ub 2 (by omega)).1;have r2:w7.frozen? ⟨g,st.length*6+2,none⟩=false:=(ub 2 (by omega)).2;have q3:w7.cell? ⟨g,st.length*6+3,none⟩=some (.int .i64 s'.sl):=(ub 3 (by omega)).1;have r3:w7.frozen? ⟨g,st.length*6+3,none⟩=false:=(ub 3 (by omega)).2;have q4:w7.cell? ⟨g,st.length*6+4,none⟩=some (.int .i64 s'.nx):=(ub 4 (by omega)).1;have r4:w7.frozen? ⟨g,st.length*6+4,none⟩=false:=(ub 4 (by omega)).2;have q5:w7.cell? ⟨g,st.length*6+5,none⟩=some (.int .i64 s'.ot):=(ub 5 (by omega)).1;have r5:w7.frozen? ⟨g,st.length*6+5,none⟩=false:=(ub 5 (by omega)).2;have h9:=h7.put (a:=st.length) (by omega) uk uc;have W9:=W7.put (i:=st.length*6) (g:=g) rfl s;have Ni:=m2.put (g:=g) rfl (st.length*6) s;have szp:(Hp w7 g (st.length*6) s).heap.size=w7.heap.size:=by simp[Hp,World.setCell]
 have h9b:=(h9.set Ni.not (by omega) 0 (.int .i64 y1)).set Ni.not (by omega) 1 (.int .i64 (p:Int));have ZO:=(W9.set (c:=w.heap.size+1+1) (by omega) 0 (.int .i64 y1)).set (c:=w.heap.size+1+1) (by omega) 1 (.int .i64 (p:Int));have n2b:=(Ni.setCell 0 (.int .i64 y1)).setCell 1 (.int .i64 (p:Int));have gy:=h9b.alloc (.cells #[.int .i64 y1,.int .i64 (p:Int)] 98);have ZK:=ZO.alloc (.cells #[.int .i64 y1,.int .i64 (p:Int)] 98);have n2q:=(n2b.alloc (.cells #[.int .i64 y1,.int .i64 (p:Int)] 98)).ae;have vd:=gy.new ((I.refl aq _).drew);have ZL:=ZK.new ((I.refl aq _).drew);have n2r:=n2q.drew;obtain⟨d0,d1,f0,f1⟩:=Ni.cX;have iW:w.heap.size+1+1<w7.heap.size:=m2.ae.lt;have kj:g≠w.heap.size+1+1:=fun e=>m2.not (Or.inr (by rw[<-e];rfl))
 have aO:=ai (And.intro vd (And.intro ZL n2r));simp only[Hp]at d0 d1 f0 f1;clear h9 W9 Ni h9b ZO n2b gy ZK n2q vd ZL n2r uk ajM qe ub U1 PS az h7 k7 m2 M2 h6 W6 S6 W7 ka cell;simp only[A4,Am,Ap];go_simp;clear q0 q1 q2 q3 q4 q5 r0 r1 r2 r3 r4 r5 hpi hsi;go_wp2_with fail;refine aa7 (x:=(y1,(p:Int))) results83 rfl rfl ?_ ?_
 ·exact aO.out.2.2
 ·exact⟨rfl,_,aO.out.1,aO.out.2.1⟩
def Ig(B0 B1 pb:Nat)(q N:Nv)(n1 n2:Int)(w':World):Prop:=uT w' B0 pb q N/\w'.cell? ⟨B1,0,none⟩=some (.int .i64 n1)/\w'.cell? ⟨B1,1,none⟩=some (.int .i64 n2)
theorem ahG{k lo hi c:Nat}(h:lo<=hi):(hi-lo)*(4*c+2)+lo*(4*c)<=4*(hi*(c+1)):=by
 obtain⟨d,rfl⟩:∃d,hi=lo+d:=⟨hi-lo,by omega⟩
 rw[Eb,Ci,D4 lo,D4 d c,D4 d (4*c)];have:lo*(4*c)=4*(lo*c):=by rw[Di]
 have:d*(4*c)=4*(d*c):=by rw[Di]
 omega
theorem ah1{lo c:Nat}:(4*c+3)+lo*(4*c)<=4*((lo+1)*(c+1)):=by
 rw[Ci,D4 lo];have:lo*(4*c)=4*(lo*c):=by rw[Di]
 omega
theorem ane{w0 w:World}{b lo hi pb:Nat}{v:Value}{st:List MS}{q N:Nv}{C:CT}(h:dH w b lo hi v st)(x:Ex)(hx:dv st.length x)(hS:fs lo hi w0 w)(bC:C.ok)(bm:(if q.hi= -1 then q.lo+1 else q.hi)*(C.sz+1)<=1000)(hP:C.sz<=1000->xO b lo hi w0 N C)
 (nV:q.pa=some ⟨pb,0,none⟩)(iD:q.pn=1)(dB:lo<=pb/\pb<hi)(hK:pV w0 pb 0 N)(hr:0<=q.lo/\q.lo<=20/\ -1<=q.hi/\q.hi<=20/\(q.hi= -1\/q.lo<=q.hi))(dg:st.length+4*((if q.hi= -1 then q.lo+1 else q.hi)*(C.sz+1)).toNat<=9000):
 Calls prog 53 #[.pointer (some ⟨b,0,none⟩),Nv.val q,cY x] w (mO w b lo hi v (ox (bQ C) q.lo q.hi q.lz st x).1 (cY (ox (bQ C) q.lo q.hi q.lz st x).2)):=by
 have ar:=h.ae.lt;have fO:=h.fO;have IY:=CT.AQ C bC;obtain⟨x1,x2⟩:=x;have s_:pb<w.heap.size:=by omega
 have h1:=h.alloc (.cells q.cells 43);have h2:=h1.alloc (.cells (aP (x1,x2)) 98);have h3:=h2.alloc (.cells (aP (0,0)) 98);have l0:=((bJ.new h q.cells 43).alloc (.cells (aP (x1,x2)) 98)).alloc (.cells (aP (0,0)) 98);have l1:=(bJ.new h1 (aP (x1,x2)) 98).alloc (.cells (aP (0,0)) 98);have l2:=bJ.new h2 (aP (0,0)) 98;have W3:=(((eM.refl b w v).alloc (.cells q.cells 43)).alloc (.cells (aP (x1,x2)) 98)).alloc (.cells (aP (0,0)) 98);have S3:=((hS.alloc (by omega) (.cells q.cells 43)).alloc (by simp;omega) (.cells (aP (x1,x2)) 98)).alloc (by simp;omega) (.cells (aP (0,0)) 98);simp only[tB]at l1 l2;simp only[aP]at l1 l2;have xH:=ai nV;have xI:=ai iD;have KK:=ai hK;obtain⟨m,hm⟩:∃m:Nat,q.lo=m:=⟨q.lo.toNat,by omega⟩
 have Ow:=ai hm;obtain⟨c,hc⟩:∃c:Nat,C.sz=c:=⟨C.sz.toNat,by omega⟩
 have aM:C.sz.toNat=c:=by omega
 have VA:q.lo.toNat=m:=by omega
 unfold ox;rw[VA];by_cases hh:q.hi= -1
 ·have hb:(q.hi== -1)=true:=by simp[hh]
  simp only[if_pos hh]at bm dg⊢;have Mo:(q.lo+1)*(C.sz+1)=(((m+1)*(c+1):Nat):Int):=by rw[hm,hc];simp
  rw[Mo]at bm dg;have pB:c+1<=(m+1)*(c+1):=Nat.le_mul_of_pos_left _ (by omega);have vz:C.sz<=1000:=by omega
  have cB:=ah1 (lo:=m) (c:=c);have HB:Hid (0<m->BS (bQ C) (4*C.sz.toNat)):=fun _=>pf C bC vz
  have HP:Hid (0<m->xO b lo hi w0 N C):=fun _=>hP vz
  have F0:=akT h3 (x1,x2) (by exact hx) S3 bC vz (hP vz) nV iD dB hK (by rw[aM];omega);have lp:=(pf C bC vz).loop q.lz;have xa:=lp.fG st (x1,x2) hx;have na:=lp.cB st (x1,x2);generalize hA:ou (bQ C) q.lz st (x1,x2)=A at*;obtain⟨sa,ya,yb⟩:=A;simp only at xa na F0⊢;have CZ:sa.length+(m-0)*(4*C.sz.toNat)<=9000:=by rw[aM]at na⊢;rw[Nat.sub_zero];omega
  clear hA lp bm dg Mo pB cB na hm hc VA hh;simp only[cY,Nv.val,Nv.cells,aP]at F0;have J_:=ai F0;have gg:=ai (And.intro (And.intro l0 (And.intro l1 l2)) (And.intro W3 (And.intro h3 S3)));clear h h1 h2 h3 l0 l1 l2 W3 S3 hS hP nV iD F0 hK;simp only[Nv.val,cY,Nv.cells];go_in;go_wp2_with fail;refine(J_.out).mono ?_;rintro e w5 ⟨rfl,v5,h5,k5⟩;obtain⟨⟨l0,l1,l2⟩,W3,h3,S3⟩:=gg.out;have m1:=l1.bt k5;have m0:=l0.bt k5;obtain⟨z0,z1,z2,z3,z4,z5,z6,z7⟩:=m0.ib;obtain⟨d0,d1,g0,g1⟩:=m1.cX;have N0:=(m0.ch (d:=w.heap.size+1) (by omega) 0 (.int .i64 ya)).ch (d:=w.heap.size+1) (by omega) 1 (.int .i64 yb);have N2:=((l2.bt k5).ch (d:=w.heap.size+1) (by omega) 0 (.int .i64 ya)).ch (d:=w.heap.size+1) (by omega) 1 (.int .i64 yb);have N1:=(m1.setCell 0 (.int .i64 ya)).setCell 1 (.int .i64 yb);have h7:=(h5.set m1.not (by omega) 0 (.int .i64 ya)).set m1.not (by omega) 1 (.int .i64 yb);have W7:=((W3.trans k5).set (c:=w.heap.size+1) (by omega) 0 (.int .i64 ya)).set (c:=w.heap.size+1) (by omega) 1 (.int .i64 yb);have S7:=((S3.bt h3 k5).set (c:=w.heap.size+1) (by omega) 0 (.int .i64 ya)).set (c:=w.heap.size+1) (by omega) 1 (.int .i64 yb);have kJ:=ai (And.intro (And.intro h7 (And.intro W7 S7)) (And.intro N0 (And.intro N1 N2)));clear l0 l1 l2 W3 h3 S3 m1 m0 N0 N1 N2 h7 W7 S7 h5 k5 gg J_ z0 z1 z2 z3 z4 z6 z7;go_wp2_with fail
  go_loopg [20] m (fun kk i wr=>∃(j:Nat) (v1:Value) (ab:List MS) (n1 n2:Int),i=.int .i64 j/\j<=m/\kk=m-j/\Hid (ow (bQ C) (m-j) ab (n1,n2)=ow (bQ C) m sa (ya,yb))/\ab.length+(m-j)*(4*C.sz.toNat)<=9000/\dv ab.length (n1,n2)/\
   dH wr b lo hi v1 ab/\eM b w wr v v1/\fs lo hi w0 wr/\bJ wr b v1 w.heap.size q.cells 43/\bJ wr b v1 (w.heap.size+1) #[.int .i64 n1,.int .i64 n2] 98/\bJ wr b v1 (w.heap.size+1+1) #[.int .i64 0,.int .i64 0] 98)
  case atStart=>
   obtain⟨⟨h7,W7,S7⟩,N0,N1,N2⟩:=kJ.out;exact⟨0,v5,sa,ya,yb,rfl,Aw _,rfl,rfl,CZ,xa,h7,W7,S7,N0,N1,N2⟩
  case round=>
   clear kJ;obtain⟨j,v1,ab,n1,n2,rfl,hj,rfl,HE,jk,uu,hB,hW,eJ,L0,L1,L2⟩:=hrel;have wV:=Ow.out;by_cases lW:j<m
   ·have mY:(j:Int)<q.lo:=(by omega);have jy:=hB.new ((I.refl aq wr).drew);have nN:=hW.new ((I.refl aq wr).drew);have gG:fs lo hi w0 wr.drew:=eJ;have M0:bJ wr.drew b v1 w.heap.size q.cells 43:=⟨L0.ae,L0.not⟩;have M1:bJ wr.drew b v1 (w.heap.size+1) #[.int .i64 n1,.int .i64 n2] 98:=⟨L1.ae,L1.not⟩;have M2:bJ wr.drew b v1 (w.heap.size+1+1) #[.int .i64 0,.int .i64 0] 98:=⟨L2.ae,L2.not⟩;have LK:Ig w.heap.size (w.heap.size+1) pb q N n1 n2 wr.drew:=⟨uT.of M0 xH.out xI.out (KK.out.mK gG dB.1 dB.2),M1.cX.1,M1.cX.2.1⟩;have PS:=ai LK;have lS:=HB.out (by omega);have b1:=lS.fG ab (n1,n2) uu;have b2:=lS.cB ab (n1,n2)
    have hmul:(m-j)*(4*C.sz.toNat)=(m-(j+1))*(4*C.sz.toNat)+(4*C.sz.toNat):=by
     obtain⟨d,hd⟩:∃d,m-j=d+1:=⟨m-j-1,by omega⟩
     rw[hd,show m-(j+1)=d by omega,E0]
    have F1:=HP.out (by omega) wr.drew v1 ab (n1,n2) jy uu gG (by omega);simp only[Nv.val,Nv.cells,cY]at F1;have nw:=ai F1;have PK:=ai (And.intro (And.intro jy (And.intro nN gG)) (And.intro M0 (And.intro M1 M2)));clear hB hW eJ L0 L1 L2 jy nN gG M0 M1 M2 LK F1 lS wV;go_wp2_with fail;refine kH (S:=Ig w.heap.size (w.heap.size+1) pb q N n1 n2) 7 (by kernel_rfl) rfl rfl rfl (by kernel_rfl) (by kernel_rfl) ?_;have az:=PS.out;refine aB 0 22 (.pointer (some ⟨b,0,none⟩)) az ?_;refine aB 1 23 (.pointer (some ⟨w.heap.size,1,none⟩)) az ?_;refine aB 2 24 (.slice (some ⟨pb,0,none⟩) 1 q.pc) az ?_;refine aB 3 25 (.pointer (some ⟨pb,0,none⟩)) az ?_;refine aB 4 26 (.agg #[.int .i64 N.k,.slice N.pa N.pn N.pc,.slice N.sa N.sn N.sc,.int .i64 N.ed,.int .i64 N.gr,.int .i64 N.lo,.int .i64 N.hi,.bool N.lz]) az ?_;refine aB 5 27 (.agg #[.int .i64 n1,.int .i64 n2]) az ?_;simp only[Act.put,Ac,Ak,Aj];refine Ax (rs:=[6]) (by kernel_rfl) (by simp) (An rfl (fun K hK=>?_) As);go_simp;refine(nw.out).mono ?_;rintro e w6 ⟨rfl,v6,h6,k6⟩;dsimp only;obtain⟨⟨hB,hW,eJ⟩,M0,M1,M2⟩:=PK.out;have sQ:Ig w.heap.size (w.heap.size+1) pb q N n1 n2 w6:=⟨uT.of (M0.bt k6) xH.out xI.out (KK.out.mK (eJ.bt hB k6) dB.1 dB.2),(M1.bt k6).cX.1,(M1.bt k6).cX.2.1⟩;refine hK.out _ _ sQ (fun _=>?_);clear hK K;obtain⟨d0,d1,g0,g1⟩:=(M1.bt k6).cX;generalize hE:bQ C ab (n1,n2)=E at*;obtain⟨bF,y1,y2⟩:=E;simp only at b1 b2 h6;have N0:=((M0.bt k6).ch (d:=w.heap.size+1) (by omega) 0 (.int .i64 y1)).ch (d:=w.heap.size+1) (by omega) 1 (.int .i64 y2);have N2:=((M2.bt k6).ch (d:=w.heap.size+1) (by omega) 0 (.int .i64 y1)).ch (d:=w.heap.size+1) (by omega) 1 (.int .i64 y2);have N1:=((M1.bt k6).setCell 0 (.int .i64 y1)).setCell 1 (.int .i64 y2);have h7:=(h6.set (M1.bt k6).not (by omega) 0 (.int .i64 y1)).set (M1.bt k6).not (by omega) 1 (.int .i64 y2);have W7:=((hW.trans k6).set (c:=w.heap.size+1) (by omega) 0 (.int .i64 y1)).set (c:=w.heap.size+1) (by omega) 1 (.int .i64 y2);have S7:=((eJ.bt hB k6).set (c:=w.heap.size+1) (by omega) 0 (.int .i64 y1)).set (c:=w.heap.size+1) (by omega) 1 (.int .i64 y2)
    have lH:Hid (ow (bQ C) (m-(j+1)) bF (y1,y2)=ow (bQ C) m sa (ya,yb)):=by
     rw[<-HE.out,show m-j=(m-(j+1))+1 by omega];show _=ow (bQ C) (m-(j+1)) (bQ C ab (n1,n2)).1 (bQ C ab (n1,n2)).2
     rw[hE]
    have kJ:=ai (And.intro (And.intro h7 (And.intro W7 S7)) (And.intro N0 (And.intro N1 N2)));clear hB hW eJ M0 M1 M2 h6 k6 sQ PK N0 N1 N2 h7 W7 S7 hE HE nw PS az;refine Ba (by kernel_rfl) ?_ _;unfold iu;go_wp2_with fail;go_roundg (m-(j+1))
    case measure=>omega
    case rel=>
     obtain⟨⟨h7,W7,S7⟩,N0,N1,N2⟩:=kJ.out;exact⟨j+1,v6,bF,y1,y2,by go_num,by omega,rfl,lH,by omega,b1,h7,W7,S7,N0,N1,N2⟩
   ·have ej:j=m:=(by omega);subst ej;have mY:¬((j:Int)<q.lo):=by omega
    have lH:Hid ((ab,(n1,n2))=ow (bQ C) j sa (ya,yb)):=by
     have:=HE.out;rw[Nat.sub_self]at this;exact this
    obtain⟨c0,c1,_,_⟩:=L1.cX;obtain⟨d0,d1,g0,g1⟩:=L2.cX;have aO:=ai (And.intro hB (And.intro hW L2));clear hB hW eJ L0 L1 L2 wV HE;go_wp2_with fail;rw[<-lH.out];exact nL aO.out.1 aO.out.2.1 aO.out.2.2 (by omega) (by omega) results53 rfl rfl
 ·have hb:(q.hi== -1)=false:=by simp[hh]
  simp only[if_neg hh]at bm dg⊢;obtain⟨k,hk⟩:∃k:Nat,q.hi=k:=⟨q.hi.toNat,by omega⟩
  have Mo:q.hi*(C.sz+1)=((k*(c+1):Nat):Int):=by rw[hk,hc];simp
  rw[Mo]at bm dg;have rS:m<=k:=by omega
  have vz:0<k->C.sz<=1000:=fun h0=>by
   have pB:c+1<=k*(c+1):=Nat.le_mul_of_pos_left _ h0;omega
  have cB:=ahG (k:=k) (c:=c) rS;have hd:(q.hi-q.lo).toNat=k-m:=by omega
  have HB:Hid (0<m->BS (bQ C) (4*C.sz.toNat)):=fun h0=>pf C bC (vz (by omega))
  have HP:Hid (0<m->xO b lo hi w0 N C):=fun h0=>hP (vz (by omega))
  have F0:=alD h3 (x1,x2) (by exact hx) S3 bC (fun h0=>vz (by omega)) (fun h0=>hP (vz (by omega))) nV iD dB hK ⟨by omega,by omega,by omega⟩ (by rw[aM,hd];omega)
  have xa:dv (fI (bQ C) q.lz (x1,x2) (q.hi-q.lo).toNat st (x1,x2)).1.length (fI (bQ C) q.lz (x1,x2) (q.hi-q.lo).toNat st (x1,x2)).2/\(fI (bQ C) q.lz (x1,x2) (q.hi-q.lo).toNat st (x1,x2)).1.length<=st.length+(k-m)*(4*c+2):=by
   by_cases h0:k-m=0
   ·rw[hd,h0];exact⟨hx,by simp[fI]⟩
   ·have op:=(pf C bC (vz (by omega))).oT q.lz (q.hi-q.lo).toNat;rw[aM,hd]at op;rw[hd];exact⟨op.fG _ _ _ hx hx,op.cB _ _ _⟩
  generalize hA:fI (bQ C) q.lz (x1,x2) (q.hi-q.lo).toNat st (x1,x2)=A at*
  obtain⟨sa,ya,yb⟩:=A;obtain⟨xa,na⟩:=xa;simp only at xa na F0⊢;have CZ:sa.length+(m-0)*(4*C.sz.toNat)<=9000:=by rw[aM,Nat.sub_zero];omega
  clear hA bm dg Mo cB na hm hc VA hh vz hk hd rS;simp only[cY,Nv.val,Nv.cells,aP]at F0;have J_:=ai F0;have gg:=ai (And.intro (And.intro l0 (And.intro l1 l2)) (And.intro W3 (And.intro h3 S3)));clear h h1 h2 h3 l0 l1 l2 W3 S3 hS hP nV iD F0 hK;simp only[Nv.val,cY,Nv.cells];go_in;go_wp2_with fail;refine(J_.out).mono ?_;rintro e w5 ⟨rfl,v5,h5,k5⟩;obtain⟨⟨l0,l1,l2⟩,W3,h3,S3⟩:=gg.out;have m1:=l1.bt k5;have m0:=l0.bt k5;obtain⟨z0,z1,z2,z3,z4,z5,z6,z7⟩:=m0.ib;obtain⟨d0,d1,g0,g1⟩:=m1.cX;have N0:=(m0.ch (d:=w.heap.size+1) (by omega) 0 (.int .i64 ya)).ch (d:=w.heap.size+1) (by omega) 1 (.int .i64 yb);have N2:=((l2.bt k5).ch (d:=w.heap.size+1) (by omega) 0 (.int .i64 ya)).ch (d:=w.heap.size+1) (by omega) 1 (.int .i64 yb);have N1:=(m1.setCell 0 (.int .i64 ya)).setCell 1 (.int .i64 yb);have h7:=(h5.set m1.not (by omega) 0 (.int .i64 ya)).set m1.not (by omega) 1 (.int .i64 yb);have W7:=((W3.trans k5).set (c:=w.heap.size+1) (by omega) 0 (.int .i64 ya)).set (c:=w.heap.size+1) (by omega) 1 (.int .i64 yb);have S7:=((S3.bt h3 k5).set (c:=w.heap.size+1) (by omega) 0 (.int .i64 ya)).set (c:=w.heap.size+1) (by omega) 1 (.int .i64 yb);have kJ:=ai (And.intro (And.intro h7 (And.intro W7 S7)) (And.intro N0 (And.intro N1 N2)));clear l0 l1 l2 W3 h3 S3 m1 m0 N0 N1 N2 h7 W7 S7 h5 k5 gg J_ z0 z1 z2 z3 z4 z6 z7;go_wp2_with fail
  go_loopg [20] m (fun kk i wr=>∃(j:Nat) (v1:Value) (ab:List MS) (n1 n2:Int),i=.int .i64 j/\j<=m/\kk=m-j/\Hid (ow (bQ C) (m-j) ab (n1,n2)=ow (bQ C) m sa (ya,yb))/\ab.length+(m-j)*(4*C.sz.toNat)<=9000/\dv ab.length (n1,n2)/\
   dH wr b lo hi v1 ab/\eM b w wr v v1/\fs lo hi w0 wr/\bJ wr b v1 w.heap.size q.cells 43/\bJ wr b v1 (w.heap.size+1) #[.int .i64 n1,.int .i64 n2] 98/\bJ wr b v1 (w.heap.size+1+1) #[.int .i64 0,.int .i64 0] 98)
  case atStart=>
   obtain⟨⟨h7,W7,S7⟩,N0,N1,N2⟩:=kJ.out;exact⟨0,v5,sa,ya,yb,rfl,Aw _,rfl,rfl,CZ,xa,h7,W7,S7,N0,N1,N2⟩
  case round=>
   clear kJ;obtain⟨j,v1,ab,n1,n2,rfl,hj,rfl,HE,jk,uu,hB,hW,eJ,L0,L1,L2⟩:=hrel;have wV:=Ow.out;by_cases lW:j<m
   ·have mY:(j:Int)<q.lo:=(by omega);have jy:=hB.new ((I.refl aq wr).drew);have nN:=hW.new ((I.refl aq wr).drew);have gG:fs lo hi w0 wr.drew:=eJ;have M0:bJ wr.drew b v1 w.heap.size q.cells 43:=⟨L0.ae,L0.not⟩;have M1:bJ wr.drew b v1 (w.heap.size+1) #[.int .i64 n1,.int .i64 n2] 98:=⟨L1.ae,L1.not⟩;have M2:bJ wr.drew b v1 (w.heap.size+1+1) #[.int .i64 0,.int .i64 0] 98:=⟨L2.ae,L2.not⟩;have LK:Ig w.heap.size (w.heap.size+1) pb q N n1 n2 wr.drew:=⟨uT.of M0 xH.out xI.out (KK.out.mK gG dB.1 dB.2),M1.cX.1,M1.cX.2.1⟩;have PS:=ai LK;have lS:=HB.out (by omega);have b1:=lS.fG ab (n1,n2) uu;have b2:=lS.cB ab (n1,n2)
    have hmul:(m-j)*(4*C.sz.toNat)=(m-(j+1))*(4*C.sz.toNat)+(4*C.sz.toNat):=by
     obtain⟨d,hd⟩:∃d,m-j=d+1:=⟨m-j-1,by omega⟩
     rw[hd,show m-(j+1)=d by omega,E0]
    have F1:=HP.out (by omega) wr.drew v1 ab (n1,n2) jy uu gG (by omega);simp only[Nv.val,Nv.cells,cY]at F1;have nw:=ai F1;have PK:=ai (And.intro (And.intro jy (And.intro nN gG)) (And.intro M0 (And.intro M1 M2)));clear hB hW eJ L0 L1 L2 jy nN gG M0 M1 M2 LK F1 lS wV;go_wp2_with fail;refine kH (S:=Ig w.heap.size (w.heap.size+1) pb q N n1 n2) 7 (by kernel_rfl) rfl rfl rfl (by kernel_rfl) (by kernel_rfl) ?_;have az:=PS.out;refine aB 0 22 (.pointer (some ⟨b,0,none⟩)) az ?_;refine aB 1 23 (.pointer (some ⟨w.heap.size,1,none⟩)) az ?_;refine aB 2 24 (.slice (some ⟨pb,0,none⟩) 1 q.pc) az ?_;refine aB 3 25 (.pointer (some ⟨pb,0,none⟩)) az ?_;refine aB 4 26 (.agg #[.int .i64 N.k,.slice N.pa N.pn N.pc,.slice N.sa N.sn N.sc,.int .i64 N.ed,.int .i64 N.gr,.int .i64 N.lo,.int .i64 N.hi,.bool N.lz]) az ?_;refine aB 5 27 (.agg #[.int .i64 n1,.int .i64 n2]) az ?_;simp only[Act.put,Ac,Ak,Aj];refine Ax (rs:=[6]) (by kernel_rfl) (by simp) (An rfl (fun K hK=>?_) As);go_simp;refine(nw.out).mono ?_;rintro e w6 ⟨rfl,v6,h6,k6⟩;dsimp only;obtain⟨⟨hB,hW,eJ⟩,M0,M1,M2⟩:=PK.out;have sQ:Ig w.heap.size (w.heap.size+1) pb q N n1 n2 w6:=⟨uT.of (M0.bt k6) xH.out xI.out (KK.out.mK (eJ.bt hB k6) dB.1 dB.2),(M1.bt k6).cX.1,(M1.bt k6).cX.2.1⟩;refine hK.out _ _ sQ (fun _=>?_);clear hK K;obtain⟨d0,d1,g0,g1⟩:=(M1.bt k6).cX;generalize hE:bQ C ab (n1,n2)=E at*;obtain⟨bF,y1,y2⟩:=E;simp only at b1 b2 h6;have N0:=((M0.bt k6).ch (d:=w.heap.size+1) (by omega) 0 (.int .i64 y1)).ch (d:=w.heap.size+1) (by omega) 1 (.int .i64 y2);have N2:=((M2.bt k6).ch (d:=w.heap.size+1) (by omega) 0 (.int .i64 y1)).ch (d:=w.heap.size+1) (by omega) 1 (.int .i64 y2);have N1:=((M1.bt k6).setCell 0 (.int .i64 y1)).setCell 1 (.int .i64 y2);have h7:=(h6.set (M1.bt k6).not (by omega) 0 (.int .i64 y1)).set (M1.bt k6).not (by omega) 1 (.int .i64 y2);have W7:=((hW.trans k6).set (c:=w.heap.size+1) (by omega) 0 (.int .i64 y1)).set (c:=w.heap.size+1) (by omega) 1 (.int .i64 y2);have S7:=((eJ.bt hB k6).set (c:=w.heap.size+1) (by omega) 0 (.int .i64 y1)).set (c:=w.heap.size+1) (by omega) 1 (.int .i64 y2)
    have lH:Hid (ow (bQ C) (m-(j+1)) bF (y1,y2)=ow (bQ C) m sa (ya,yb)):=by
     rw[<-HE.out,show m-j=(m-(j+1))+1 by omega];show _=ow (bQ C) (m-(j+1)) (bQ C ab (n1,n2)).1 (bQ C ab (n1,n2)).2
     rw[hE]
    have kJ:=ai (And.intro (And.intro h7 (And.intro W7 S7)) (And.intro N0 (And.intro N1 N2)));clear hB hW eJ M0 M1 M2 h6 k6 sQ PK N0 N1 N2 h7 W7 S7 hE HE nw PS az;refine Ba (by kernel_rfl) ?_ _;unfold iu;go_wp2_with fail;go_roundg (m-(j+1))
    case measure=>omega
    case rel=>
     obtain⟨⟨h7,W7,S7⟩,N0,N1,N2⟩:=kJ.out;exact⟨j+1,v6,bF,y1,y2,by go_num,by omega,rfl,lH,by omega,b1,h7,W7,S7,N0,N1,N2⟩
   ·have ej:j=m:=(by omega);subst ej;have mY:¬((j:Int)<q.lo):=by omega
    have lH:Hid ((ab,(n1,n2))=ow (bQ C) j sa (ya,yb)):=by
     have:=HE.out;rw[Nat.sub_self]at this;exact this
    obtain⟨c0,c1,_,_⟩:=L1.cX;obtain⟨d0,d1,g0,g1⟩:=L2.cX;have aO:=ai (And.intro hB (And.intro hW L2));clear hB hW eJ L0 L1 L2 wV HE;go_wp2_with fail;rw[<-lH.out];exact nL aO.out.1 aO.out.2.1 aO.out.2.2 (by omega) (by omega) results53 rfl rfl
end Go.Proofs.YtmbpfhlnifdhgaaGreatDoor
