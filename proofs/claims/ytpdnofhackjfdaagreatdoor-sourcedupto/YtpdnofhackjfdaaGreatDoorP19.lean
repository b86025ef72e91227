/- A pattern withou -/
import Derived.Test.YtpdnofhackjfdaaGreatDoorP18
set_option linter.all false
set_option maxRecDepth 100000
set_option maxHeartbeats 4000000
namespace Go.Proofs.YtpdnofhackjfdaaGreatDoor
open Go.Proofs.Tryz
variable {cs:Array Value} {s:ByteArray} {C:CT} {a b:cV} {p:Int} {M ms:List MS} {base co hi i j lo:Nat} {q:Nv} {T:PT} {V V':VS} {v:Value} {w:World}
def da(a b:cV):Prop:=(b.form=none->a.form=none)/\(b.rep=none->a.rep=none)/\(b.cls=none->a.cls=none)
def jg(a:cV):Prop:=a.form=none/\a.rep=none/\a.cls=none
theorem da.refl(a:cV):da a a:=⟨fun h=>h,fun h=>h,fun h=>h⟩
theorem da.trans{c:cV}(h:da a b)(h':da b c):da a c:=⟨fun x=>h.1 (h'.1 x),fun x=>h.2.1 (h'.2.1 x),fun x=>h.2.2 (h'.2.2 x)⟩
theorem da.pq(h:da a b)(hb:jg b):jg a:=⟨h.1 hb.1,h.2.1 hb.2.1,h.2.2 hb.2.2⟩
theorem da.eN(a:cV)(e p:Int):da a (a.eN e p):=by
 unfold cV.eN cV.put;(repeat' split)<;>first|exact da.refl _|(refine⟨fun h=>?_,fun h=>?_,fun h=>?_⟩<;>first|exact h|simp at h)
theorem amd:(a.eN 4 p).rep≠none:=by
 cases h:a.rep with
 |none=>simp[cV.eN,cV.put,cV.get,h]
 |some x=>simp[cV.eN,cV.get,h]
theorem amb:(a.eN 5 p).cls≠none:=by
 cases h:a.cls with
 |none=>simp[cV.eN,cV.put,cV.get,h]
 |some x=>simp[cV.eN,cV.get,h]
theorem adN:(a.eN 3 p).form≠none:=by
 cases h:a.form with
 |none=>simp[cV.eN,cV.put,cV.get,h]
 |some x=>simp[cV.eN,cV.get,h]
theorem Oz(g:RG)(st:RS):da st.bA (ID g st).bA:=da.eN _ _ _
theorem uS(g:RG)(l:List UInt8)(st:RS):da st.bA (eY g l st).bA:=by
 unfold eY;split
 ·exact da.refl _
 ·exact Oz g st
theorem adG(g:RG)(l:List UInt8)(st:RS):da st.bA (qp g l st).bA:=by
 unfold qp;split
 ·exact Oz g st
 ·exact da.refl _
theorem DW(g:RG)(l:List UInt8)(st:RS):da st.bA (fG g l st).bA:=by
 unfold fG;split<;>exact da.refl _
theorem X8(g:RG)(st:RS):da st.bA (jx g st).1.bA:=by
 unfold jx;split
 ·exact da.refl _
 ·exact Oz g st
theorem Ya(g:RG)(st:RS):da st.bA (fL g st).1.bA:=by
 unfold fL;split
 ·exact(X8 g st).trans (X8 g _)
 ·exact X8 g st
theorem amT(g:RG)(st:RS):da st.bA (sE g st).1.bA:=by
 unfold sE;split
 ·exact da.refl _
 ·exact Ya g st
theorem amK(g:RG)(st:RS):da st.bA (eO g st).1.bA:=by
 unfold eO;split
 ·exact((Ya g st).trans (amT g {(fL g st).1 with next:=(fL g st).1.next+1})).trans (uS g _ _)
 ·exact(Ya g st).trans (uS g _ _)
theorem Yc(g:RG)(a:PT)(st:RS):da st.bA (iw g a st).1.bA:=by
 unfold iw;split
 ·exact DW g _ {st with next:=st.next+1}
 ·split
  ·exact DW g _ {st with next:=st.next+1}
  ·split
   ·exact DW g _ {st with next:=st.next+1}
   ·split
    ·have h1:=amK g {st with next:=st.next+1};simp only;refine da.trans ?_ (DW g _ _);split
     ·exact h1.trans (da.eN _ _ _)
     ·exact h1
    ·exact da.refl _
theorem am4(g:RG)(e:Bool)(st:RS):da st.bA (l9 g e st).1.bA:=by
 unfold l9
 cases e
 ·exact adG g _ st
 ·exact uS g _ st
theorem aer(g:RG)(st:RS):da st.bA (dq g st).1.bA:=(DW g _ st).trans (am4 g _ _)
theorem aeB(g:RG)(p:Int)(x:RS×Int):da x.1.bA (rA g p x).bA:=by
 unfold rA;split
 ·have h1:=aer g {x.1 with next:=x.1.next+1};split
  ·exact h1.trans (da.eN _ _ _)
  ·exact h1
 ·exact da.refl _
theorem aeh(g:RG)(st:RS):da st.bA (gi g st).bA:=by
 unfold gi;split
 ·exact da.refl _
 ·exact(aer g st).trans (aeB g _ _)
theorem Sn(g:RG):∀(m:Nat) (st:RS),da st.bA (mM g m st).bA
 |0,st=>da.refl _
 |m+1,st=>by
  unfold mM;split
  ·exact da.refl _
  ·exact(aeh g st).trans (Sn g m _)
theorem amP(g:RG)(st:RS):da st.bA (sD g st).bA:=(((DW g _ st).trans (aeh g _)).trans (Sn g _ _)).trans (uS g _ _)
theorem aen(g:RG)(first:Nat):∀(m:Nat) (st:RS),da st.bA (lL g first m st).bA
 |0,st=>da.refl _
 |m+1,st=>by
  unfold lL;split
  ·exact aen g first m {st with next:=st.next+1}
  ·exact da.refl _
theorem am1(g:RG)(first:Nat)(st:RS):da st.bA (ng g first st).bA:=by
 unfold ng;split
 ·exact da.eN _ _ _
 ·exact da.refl _
theorem amY(g:RG)(st:RS):da st.bA (pL g st).bA:=(((uS g _ st).trans (aen g _ _ _)).trans (am1 g _ _)).trans (uS g _ _)
theorem amR(g:RG)(st:RS):da st.bA (iH g st).bA:=by
 unfold iH;split
 ·exact da.refl _
 ·split
  ·exact amY g {st with next:=st.next+2,aT:=st.aT+1}
  ·exact(DW g _ {st with next:=st.next+1}).trans (uS g _ _)
theorem amJ(g:RG)(aI:RS->RS×PT)(halt:∀st,da st.bA (aI st).1.bA)(st:RS):da st.bA (dE g aI st).1.bA:=by
 unfold dE;split
 ·exact((amR g {st with next:=st.next+1}).trans (halt _)).trans (uS g _ _)
 ·split
  ·exact amP g {st with next:=st.next+1}
  ·split
   ·exact uS g _ {st with next:=st.next+1}
   ·split
    ·exact da.refl _
    ·exact adG g _ st
theorem Ss(g:RG)(aI:RS->RS×PT)(halt:∀st,da st.bA (aI st).1.bA):∀(m:Nat) (st:RS) (aF:List PT),da st.bA (jy g aI m st aF).1.bA
 |0,st,aF=>da.refl _
 |m+1,st,aF=>by
  unfold jy;split
  ·exact da.refl _
  ·exact((amJ g aI halt st).trans (Yc g _ _)).trans (Ss g aI halt m _ _)
theorem aew(g:RG)(aI:RS->RS×PT)(halt:∀st,da st.bA (aI st).1.bA)(st:RS):da st.bA (eR g aI st).1.bA:=Ss g aI halt _ _ _
theorem Kn(g:RG)(aI:RS->RS×PT)(halt:∀st,da st.bA (aI st).1.bA):∀(m:Nat) (st:RS) (aF:List PT),da st.bA (iG g aI m st aF).1.bA
 |0,st,aF=>da.refl _
 |m+1,st,aF=>by
  unfold iG;split
  ·exact(aew g aI halt {st with next:=st.next+1}).trans (Kn g aI halt m _ _)
  ·exact da.refl _
theorem Sl(g:RG):∀(k:Nat) (st:RS),da st.bA (aY g k st).1.bA
 |0,st=>da.refl _
 |k+1,st=>by
  unfold aY;exact(aew g _ (Sl g k) st).trans (Kn g _ (Sl g k) _ _ _)
theorem XS:∀{a b:List CT},CT.eI a->CT.eI b->CT.eI (a++b)
 | [],b,_,hb=>hb
 |c::a,b,ha,hb=>by
  unfold CT.eI at ha;show CT.eI (c::(a++b))
  unfold CT.eI;exact⟨ha.1,XS ha.2 hb⟩
theorem Oo{c:CT}(h:c.ok):CT.eI [c]:=by unfold CT.eI;exact⟨h,by unfold CT.eI;trivial⟩
theorem Oc(sp:bI)(fo nt:Bool):(mx sp fo nt).ok:=by
 unfold mx CT.ok CT.eI;simp
theorem abg(e:Int):(vH e).ok:=by
 unfold vH CT.ok CT.eI;simp
theorem aa_(g:RG)(st:RS):0<=(jx g st).2/\(jx g st).2<=9:=by
 unfold jx;split
 ·rename_i h
  have:=Xg h;simp only;omega
 ·simp
theorem adS(g:RG)(st:RS):0<=(fL g st).2/\(fL g st).2<=99:=by
 have h1:=aa_ g st;unfold fL;split
 ·have h2:=aa_ g (jx g st).1;simp only;omega
 ·omega
theorem ajJ(g:RG)(st:RS): -1<=(sE g st).2/\(sE g st).2<=99:=by
 have h1:=adS g st;unfold sE;split
 ·simp
 ·omega
theorem ag3(g:RG)(st:RS):(0<=(eO g st).2.1/\(eO g st).2.1<=99)/\(-1<=(eO g st).2.2/\(eO g st).2.2<=99):=by
 have h1:=adS g st;have h2:=ajJ g {(fL g st).1 with next:=(fL g st).1.next+1};unfold eO;split
 ·exact⟨h1,h2⟩
 ·simp only;omega
theorem Tf{a:CT}(ha:a.ok){lo hi:Int}(lz:Bool)(h:0<=lo/\lo<=20/\ -1<=hi/\hi<=20/\(hi= -1\/lo<=hi)):(ud a lo hi lz).ok:=by
 unfold ud CT.ok;exact⟨by omega,by simp,by simp,fun _=>h,Oo ha⟩
theorem an6(g:RG){a:CT}(ha:a.ok)(p:PT)(st:RS)(hc:jg (iw g p st).1.bA):(nK g a st).ok:=by
 unfold iw at hc;unfold nK;split
 ·exact Tf ha _ (by omega)
 ·rename_i h1
  rw[if_neg h1]at hc;split
  ·exact Tf ha _ (by omega)
  ·rename_i h2
   rw[if_neg h2]at hc;split
   ·exact Tf ha _ (by omega)
   ·rename_i h3
    rw[if_neg h3]at hc;split
    ·rename_i h4
     rw[if_pos h4]at hc;have hb:=ag3 g {st with next:=st.next+1};have jq:=(DW g _ _).pq hc;refine Tf ha _ ?_;by_cases hx:(eO g {st with next:=st.next+1}).2.1>20\/(eO g {st with next:=st.next+1}).2.2>20\/((eO g {st with next:=st.next+1}).2.2≠ -1/\(eO g {st with next:=st.next+1}).2.2<(eO g {st with next:=st.next+1}).2.1)
     ·rw[if_pos hx]at jq;exact absurd jq.2.1 amd
     ·omega
    ·exact ha
theorem agC(g:RG)(aI:RS->RS×PT)(bZ:Bool->RS->CT)(nS:∀fo st,jg (aI st).1.bA->(bZ fo st).ok)(fo:Bool)(st:RS)(hc:jg (dE g aI st).1.bA):(ko g bZ fo st).ok:=by
 unfold dE at hc;unfold ko;split
 ·rename_i h1
  rw[if_pos h1]at hc;have eD:=(uS g _ _).pq (show jg (eY g Kf (aI (iH g {st with next:=st.next+1})).1).bA from hc)
  have:∀(fo:Bool) (gr:Int),(CT.node 2 [] false false 0 gr 0 0 false [bZ fo (iH g {st with next:=st.next+1})]).ok:=by
   intro fo gr;unfold CT.ok;exact⟨by omega,by simp,by simp,by simp,Oo (nS _ _ eD)⟩
  unfold sV;split
  ·exact this _ _
  ·split
   ·exact this _ _
   ·exact this _ _
 ·split
  ·exact Oc _ _ _
  ·split
   ·unfold ox;(repeat' split)<;>first|exact Oc _ _ _|exact abg _
   ·split
    ·unfold Ji;split<;>first|exact Oc _ _ _|exact abg _
    ·exact Oc _ _ _
theorem afj(g:RG)(aI:RS->RS×PT)(halt:∀st,da st.bA (aI st).1.bA)(bZ:Bool->RS->CT)(nS:∀fo st,jg (aI st).1.bA->(bZ fo st).ok)(fo:Bool):∀(m:Nat) (st:RS) (aF:List CT) (ps:List PT),CT.eI aF->jg (jy g aI m st ps).1.bA->CT.eI (my g aI bZ fo m st aF)
 |0,st,aF,ps,ha,hc=>ha
 |m+1,st,aF,ps,ha,hc=>by
  unfold jy at hc;unfold my;split
  ·exact ha
  ·rename_i h1
   rw[if_neg h1]at hc;have c1:=(Ss g aI halt m _ _).pq hc;have c2:=(Yc g _ _).pq c1;exact afj g aI halt bZ nS fo m _ _ _ (XS ha (Oo (an6 g (agC g aI bZ nS fo st c2) _ _ c1))) hc
theorem afh(g:RG)(aI:RS->RS×PT)(halt:∀st,da st.bA (aI st).1.bA)(bZ:Bool->RS->CT)(nS:∀fo st,jg (aI st).1.bA->(bZ fo st).ok)(fo:Bool)(st:RS)(hc:jg (eR g aI st).1.bA):(nL g aI bZ fo st).ok:=by
 have:=afj g aI halt bZ nS fo _ st [] [] (by unfold CT.eI;trivial) hc;unfold nL CT.ok;exact⟨by omega,by simp,by simp,by simp,this⟩
theorem aaA(g:RG)(aI:RS->RS×PT)(halt:∀st,da st.bA (aI st).1.bA)(bZ:Bool->RS->CT)(nS:∀fo st,jg (aI st).1.bA->(bZ fo st).ok)(fo:Bool):∀(m:Nat) (st:RS) (aF:List CT) (ps:List PT),CT.eI aF->aF≠ []->jg (iG g aI m st ps).1.bA->CT.eI (lE g aI bZ fo m st aF)/\lE g aI bZ fo m st aF≠ []
 |0,st,aF,ps,ha,aB,hc=>⟨ha,aB⟩
 |m+1,st,aF,ps,ha,aB,hc=>by
  unfold iG at hc;unfold lE;split
  ·rename_i h1
   rw[if_pos h1]at hc;have c1:=(Kn g aI halt m _ _).pq hc;exact aaA g aI halt bZ nS fo m _ _ _ (XS ha (Oo (afh g aI halt bZ nS fo _ c1))) (by simp) hc
  ·exact⟨ha,aB⟩
theorem UO(g:RG):∀(k:Nat) (fo:Bool) (st:RS),jg (aY g k st).1.bA->(dR g k fo st).ok
 |0,fo,st,hc=>Oc _ _ _
 |k+1,fo,st,hc=>by
  unfold aY at hc;have hle:=Sl g k;have c1:=(Kn g (aY g k) hle _ _ _).pq hc;have h1:=afh g (aY g k) hle (dR g k) (fun fo st=>UO g k fo st) fo st c1;have h2:=aaA g (aY g k) hle (dR g k) (fun fo st=>UO g k fo st) fo _ _ _ _ (Oo h1) (by simp) hc;unfold dR CT.ok;exact⟨by omega,by simp,fun _=>h2.2,by simp,h2.1⟩
theorem apX(g:RG)(st:RS)(hc:jg (eJ g st).1.bA):(pk g st).ok:=by
 refine UO g _ false st ?_;unfold eJ at hc;split at hc
 ·exact hc
 ·exact(Oz g _).pq hc
open Go.RowKit Go.Maps
theorem afp:∀(ts:List PT) (cs:List CT),cs.length=ts.length->(∀i,(h:i<ts.length)->(h':i<cs.length)->(cs[i]).sz=(ts[i]).size)->CT.cK cs=PT.lN ts
 | [],[],_,_=>by simp[CT.cK,PT.lN]
 |t::ts,c::cs,hl,h=>by
  have h0:=h 0 (by simp) (by simp);have hr:=afp ts cs (by simpa using hl) (fun i h1 h2=>by have:=h (i+1) (by simpa using h1) (by simpa using h2);simpa using this);simp only[CT.cK,PT.lN];simp only[Ah]at h0;omega
 | [],c::cs,hl,_=>by simp at hl
 |t::ts,[],hl,_=>by simp at hl
theorem cJ.size_eq(h:cJ w lo hi q T C):C.sz=T.size:=by
 induction h with
 |mk q tk pb bs ts cs V S sp fo nt hn hb hc hk hs oJ hr pC ih=>
  have e:=afp ts cs hn.2.1 (fun i h1 h2=>ih i h1 h2);have e2:(cs.length:Int)=ts.length:=by rw[hn.2.1]
  unfold CT.sz PT.size;rcases pC with⟨h1,h2,_⟩|⟨h1,h2⟩|⟨h1,h2⟩|⟨h1,h2⟩|⟨h1,h2,_⟩|⟨h1,h2⟩<;>rw[h1,h2,e]<;>simp[e2]
theorem anr{F:cV}(h:(pick F).1=0):jg F/\F.vF=none:=by
 unfold pick at h;unfold jg
 cases h1:F.bF<;>rw[h1]at h<;>simp only at h
 ·cases h2:F.form<;>rw[h2]at h<;>simp only at h
  ·cases h3:F.rep<;>rw[h3]at h<;>simp only at h
   ·cases h4:F.cls<;>rw[h4]at h<;>simp only at h
    ·cases h5:F.DO<;>rw[h5]at h<;>simp only at h
     ·cases h6:F.vF<;>rw[h6]at h<;>simp only at h
      ·exact⟨⟨rfl,rfl,rfl⟩,rfl⟩
      ·omega
     ·omega
    ·omega
   ·omega
  ·omega
 ·omega
theorem ama:(a.eN 7 p).vF≠none:=by
 cases h:a.vF with
 |none=>simp[cV.eN,cV.put,cV.get,h]
 |some x=>simp[cV.eN,cV.get,h]
theorem aiz{g:RG}(h:(pick (kX g s)).1=0):jg (eJ g (dI s)).1.bA/\(eJ g (dI s)).2.size<=1000:=by
 obtain⟨h1,h2⟩:=anr h;unfold kX at h1 h2;by_cases hs:1000<(eJ g (dI s)).2.size
 ·rw[if_pos hs]at h2;exact absurd h2 ama
 ·rw[if_neg hs]at h1;exact⟨h1,by omega⟩
theorem lB.Xt{s:Int}(h:lB M V s V'):V'.bH.length+V.aP.length<=V.bH.length+V'.aP.length:=by
 induction h with
 |aN V s v h hv=>omega
 |stop V s m hn h hk=>simp[VS.put]
 |take V s m hn h hk=>simp[VS.put,VS.iF];omega
 |one V V' s m hn h hk hv ih=>simp only[VS.put,Aj];omega
 |cM V V' V2 s m hn h hk hv hw ih uK=>simp only[VS.put,Aj];omega
theorem qF.Xt{at_:Nat}(h:qF M at_ V V'):V'.bH.length+V.aP.length<=V.bH.length+V'.aP.length:=by
 induction h with
 |done a V h=>omega
 |step a V V' V2 t h hv hl ih=>have:=hv.Xt;omega
def o_(w:World)(lo hi base:Nat)(v:Value)(ms:List MS):Prop:=∃ws:List Sv,w.ownsRow base 113 6 v ms.length (jB ws)/\ws.length=ms.length/\∀i,(h:i<ws.length)->(h':i<ms.length)->gG w lo hi ws[i] ms[i]
theorem o_.kept{w':World}{K:Nat->Prop}(h:o_ w lo hi base v ms)(k:aa K w w')(h1:∀i,lo<=i->i<hi->¬K i)(h2:∀i,v.ownBlock=some i->¬K i)(hle:hi<=w.heap.size):o_ w' lo hi base v ms:=by
 obtain⟨ws,a1,a2,a3⟩:=h;exact⟨ws,bU a1 k h2,a2,fun i b1 b2=>(a3 i b1 b2).kept k h1 hle⟩
structure sM(C:CT)(V:VS)(j:Nat):Prop where
 first:(fy C).2.2=j
 adg:qF (fy C).1 0 (VS.first (fy C).1.length j) V
 inv:∃R,jK (fy C).1 R V/\Shut (fy C).1 R/\R j
 all:oV (fy C).1
 num:∀t,(t=j\/∃(s:Nat) (m:MS),s∈V.aP/\(fy C).1[s]? =some m/\m.kind=1/\t=m.next.toNat)->∃u:Nat,V.num[t]? =some (u:Int)
theorem sM.exists(h:C.ok)(hs:C.sz<=1000):∃V j,sM C V j/\(fy C).1.length<=4001/\1<=(fy C).1.length:=by
 obtain⟨R,h1,⟨j,h2,h3⟩,h4,h5,h6⟩:=ahd h hs;obtain⟨V,v1,v2,v3⟩:=amu h1 h3;exact⟨V,j,⟨h2,v1,⟨R,v2,h1,h3⟩,h4,v3⟩,h6,h5⟩
theorem sM.XV(h:sM C V j):V.aP.length<=(fy C).1.length/\V.bH.length<=(fy C).1.length+1/\(∀s∈V.aP,s<(fy C).1.length)/\j<(fy C).1.length/\V.num.length=(fy C).1.length:=by
 obtain⟨R,h1,h2,h3⟩:=h.inv;have a:=h1.ad0;have b:=h.adg.Xt;simp only[VS.first,Ax,Bf]at b;refine⟨a,by omega,fun s hs=>?_,?_,h1.len⟩
 ·obtain⟨k,hk,q_⟩:=C6 hs;have:=h1.at_ k s (by rw[Ae hk,q_]);have:=(Ai.1 this).1;rw[h1.len]at this;exact this
 ·obtain⟨m,hm,_⟩:=h2.cl j h3;exact(Ai.1 hm).1
theorem sM.start(h:sM C V j):∃u:Nat,V.num.getD j 0=(u:Int)/\u<V.aP.length:=by
 obtain⟨u,hu⟩:=h.num j (Or.inl rfl);obtain⟨R,h1,_⟩:=h.inv;obtain⟨k,hk,aS⟩:=h1.has j u hu (by omega);have e:k=u:=by omega
 subst e;exact⟨k,by rw[Af,hu];rfl,(Ai.1 aS).1⟩
theorem dz.iz{b:Nat}{st:List MS}(h:dz w b lo hi v st)(aB:st≠ []):∃g c vs,v=.slice (some (GB g 0)) st.length c/\jk w g vs st/\∀i,(h:i<vs.length)->(h':i<st.length)->gG w lo hi vs[i] st[i]:=by
 obtain⟨vs,h1,h2,h3⟩:=h.row;obtain⟨hx,h_⟩:=h1;rcases h_ with⟨_,h0⟩|⟨g,cap,aO,rfl,a1,a2,a3,a4,a5,a6⟩
 ·exact absurd (Aw.1 h0) aB
 ·refine⟨g,cap,vs,rfl,⟨h2,fun i hi' j hj=>?_,(Am.1 a2).1,fun i b1 b2=>⟨(h3 i b1 b2).k,(h3 i b1 b2).nx,(h3 i b1 b2).ot⟩⟩,h3⟩;have hf:=QF vs i (by omega) j hj;rw[<-hf,<-a6,Av (by omega)];simp only[World.cell?,a2];simp
theorem alO(W:World)(p q:Int):(Instr.field 115 (.agg #[GW p,GW q]) 1).run prog W=.ok (GW q) W:=by
 simp[Instr.field,asAgg,go_sem]
theorem o_.block(h:o_ w lo hi base v ms)(hi':v.ownBlock=some i):base<=i/\i<w.heap.size:=by
 obtain⟨ws,a1,_⟩:=h;exact dw a1 hi'
theorem alp{f:Func}{Q:Ending->World->Prop}{a:Act}{W:World}{c:Nat}{q:Int}(mH:f.results=#[ResultVar.cell i 73])(tz:a.tmps.getD i undef=BT c 0)(hd:a.defers=[])
 (hb:au W c #[v,GW p,GW q] 73)(hQ:Q (.returned (.agg #[v,GW p,GW q])) W)(hv:∃ao n k,v=.slice ao n k:=by exact⟨_,_,_,rfl⟩):bodyPost prog f Q Exit.ret a W:=by
 have r0:W.cell? (GB c 0)=some v:=hb.cell 0;have r1:W.cell? (GB c 1)=some (GW p):=hb.cell 1;have r2:W.cell? (GB c 2)=some (GW q):=hb.cell 2;have gg:a.tmps[i]?.getD undef=BT c 0:=by simpa using tz
 obtain⟨ao,n,k,rfl⟩:=hv;exact Bm (v:=.agg #[.slice ao n k,GW p,GW q]) (by simp[results,mH,go_sem,gg,r0,r1,r2]) hd hQ
theorem aak(hP:cJ w lo hi q T C)(hle:hi<=w.heap.size)(dB:C.ok)(aW:C.sz<=1000)(x:Int)(y:Option Nat):
 Calls prog 23 #[pM q x y] w fun e w'=>∃(v':Value) (V:VS) (j:Nat),e=.returned (.agg #[v',GW (V.num.getD j 0),GW x])/\aa ai w w'/\sM C V j/\o_ w' lo hi w.heap.size v' (sorted (fy C).1 V)/\(fy C).1.length<=4001:=by
 obtain⟨V,j,VG,dc,Rl⟩:=sM.exists dB aW;obtain⟨o1,o2,o3,o4,o5⟩:=VG.XV;have iO:=oo C dB aW;have CO:=CT.zV C dB;have NJ:df [bS].length (0,0):=by unfold df;simp
 have PO:=ab (hP.ang (b:=w.heap.size+1+1) dB aW);have kA:aa ai w ((w.alloc (.cells (gC q x y) 67)).alloc (.cells #[.slice none 0 0,GW 0,GW 0] 73)):=((aa.refl ai w).alloc _).alloc _;have kB:aa ai w (((w.alloc (.cells (gC q x y) 67)).alloc (.cells #[.slice none 0 0,GW 0,GW 0] 73)).alloc (.cells #[.slice none 0 0] 109)):=kA.alloc _
 have xC:dz (((w.alloc (.cells (gC q x y) 67)).alloc (.cells #[.slice none 0 0,GW 0,GW 0] 73)).alloc (.cells #[.slice none 0 0] 109)) (w.heap.size+1+1) lo hi (.slice none 0 0) []:=
  ⟨by have:=au.new ((w.alloc (.cells (gC q x y) 67)).alloc (.cells #[.slice none 0 0,GW 0,GW 0] 73)) #[.slice none 0 0] 109;simpa using this,⟨[],A8 _ _ _ _,rfl,fun i h=>by simp at h⟩,by omega,by simp⟩
 have F1:=Jd xC (gG.zero _ lo hi) (by simp);simp only[Sv.val,Sv.cells]at F1;have F1:=ab F1
 have LI:bk (((w.alloc (.cells (gC q x y) 67)).alloc (.cells #[.slice none 0 0,GW 0,GW 0] 73)).alloc (.cells #[.slice none 0 0] 109)) (w.heap.size+1+1) (.slice none 0 0) w.heap.size (gC q x y) 67:=
  ⟨((au.new w (gC q x y) 67).alloc _).alloc _,fun hx=>by rcases hx with hx|hx;(·omega);(·cases hx)⟩
 have LJ:bk (((w.alloc (.cells (gC q x y) 67)).alloc (.cells #[.slice none 0 0,GW 0,GW 0] 73)).alloc (.cells #[.slice none 0 0] 109)) (w.heap.size+1+1) (.slice none 0 0) (w.heap.size+1) #[.slice none 0 0,GW 0,GW 0] 73:=
  ⟨by have:=(au.new (w.alloc (.cells (gC q x y) 67)) #[.slice none 0 0,GW 0,GW 0] 73).alloc (.cells #[.slice none 0 0] 109);simpa using this,fun hx=>by rcases hx with hx|hx;(·omega);(·cases hx)⟩
 have PK:=ab (And.intro LI (And.intro LJ (And.intro kB xC)));have Pt:=ab VG;have ER:=ab o3;clear kA kB xC LI LJ hP VG o3 iO;simp only[pM];simp only[gC]at*;go_in;go_wp2_with fail;refine(F1.o).mono ?_;rintro e w3 ⟨rfl,v3,h3,k3⟩;obtain⟨LI,LJ,kB,xC⟩:=PK.o;have m0:=LI.a_ k3;have m1:=LJ.a_ k3;have b0:au w3 w.heap.size (gC q x y) 67:=m0.aq;obtain⟨t0,t1,t2,t3,t4,t5,t6,t7,t8,t9⟩:=b0.OQ;have S0:ft lo hi w (((w.alloc (.cells (gC q x y) 67)).alloc (.cells #[.slice none 0 0,GW 0,GW 0] 73)).alloc (.cells #[.slice none 0 0] 109)):=fun i _ h2=>kB.block i (by omega) (fun hx=>hx)
 have S3:=S0.a_ xC k3;have F2:=PO.o w3 v3 [bS] (0,0) h3 NJ S3 (by simp;omega);simp only[Nv.val,Nv.cells,cO]at F2;have F2:=ab F2;have W3:aa ai w w3:=kB.wI k3.kept (fun i hi'=>by have:=xC.ay hi';omega);have mV:=ab (And.intro m0 (And.intro m1 (And.intro W3 h3)));have ard:=k3.kept.size;have GL:=h3.aq.lt;clear LI LJ kB xC m0 m1 b0 S0 S3 h3 k3 F1 PK W3 t8 t9;go_wp2_with fail;refine(F2.o).mono ?_;rintro e w4 ⟨rfl,v4,h4,k4⟩;obtain⟨m0,m1,W3,h3⟩:=mV.o;have n0:=m0.a_ k4;have n1:=m1.a_ k4;have W4:aa ai w w4:=W3.wI k4.kept (fun i hi'=>by have:=h3.ay hi';omega)
 obtain⟨g,c,vs,H_,acK,pH⟩:=h4.iz (by intro e;have:(fy C).1.length=0:=by rw[show(fy C).1=[]from e];rfl
                                     omega)
 subst H_;have c4:w4.cell? ⟨w.heap.size+1+1,0,none⟩=some (.slice (some (GB g 0)) (fy C).1.length c):=h4.aq.cell 0;have aci:=Pt.o.first
 have ari:=W4.size;have F3:=aku (c:=c) (lo:=lo) (hi:=hi) (start:=j) (VF:=V) acK pH (by omega) Pt.o.all dc Pt.o.adg (by omega) (by omega) ER.o o4;have F3:=ab F3;have hmv:=alO w4 (bB C [bS] (0,0)).2.1 (bB C [bS] (0,0)).2.2;have Wf:(bB C [bS] (0,0)).2.2=(j:Int):=aci;rw[Wf]at hmv;simp only;rw[Wf];have b0:au w4 w.heap.size (gC q x y) 67:=n0.aq;have kh:=ab (And.intro n0.aq (And.intro n1.aq W4));have VY:=h4.aq.lt;clear m0 m1 W3 h3 n0 n1 W4 acK pH h4 k4 F2 mV b0 aci Wf;go_wp2_with fail;refine(F3.o).mono ?_;rintro e w5 ⟨v',ws,rfl,k5,r1,r2,r3⟩;obtain⟨n0,n1,W4⟩:=kh.o;have p0:=n0.kept k5 (fun hx=>hx);have p1:=n1.kept k5 (fun hx=>hx);have c8:w5.cell? (GB w.heap.size 8)=some (GW x):=p0.cell 8;have q0:w5.cell? ⟨w.heap.size+1,0,none⟩=some (.slice none 0 0):=p1.cell 0;have q1:w5.cell? ⟨w.heap.size+1,1,none⟩=some (GW 0):=p1.cell 1;have q2:w5.cell? ⟨w.heap.size+1,2,none⟩=some (GW 0):=p1.cell 2;have g0:=p1.frozen 0;have g1:=p1.frozen 1;have g2:=p1.frozen 2;obtain⟨Qg,cv,rfl⟩:=cw r1;have s5:=k5.size;have MC:o_ w5 lo hi w4.heap.size (.slice Qg V.aP.length cv) (sorted (fy C).1 V):=⟨ws,by simpa[sorted]using r1,by simpa[sorted]using r2,r3⟩;have aA:Hid (aa ai w w5/\o_ w5 lo hi w4.heap.size (.slice Qg V.aP.length cv) (sorted (fy C).1 V)/\au w5 (w.heap.size+1) #[.slice none 0 0,GW 0,GW 0] 73):=⟨W4.trans k5,MC,p1⟩;generalize hu:V.num.getD j 0=u at*;have HU:=ab hu;clear n0 n1 W4 p0 p1 r1 r2 r3 k5 F3 kh MC hu;go_wp2_with fail;obtain⟨f1,f2,f3⟩:=aA.o;have B3:=((f3.setCell 0 (.slice Qg V.aP.length cv)).setCell 1 (GW u)).setCell 2 (GW x)
 have k8:aa (fun i=>i=w.heap.size+1) w5 (((w5.setCell ⟨w.heap.size+1,0,none⟩ (.slice Qg V.aP.length cv)).setCell ⟨w.heap.size+1,1,none⟩ (GW u)).setCell ⟨w.heap.size+1,2,none⟩ (GW x)):=
  (((aa.refl (fun i=>i=w.heap.size+1) w5).setCell (p:=⟨w.heap.size+1,0,none⟩) (Or.inl rfl) _).setCell (p:=⟨w.heap.size+1,1,none⟩) (Or.inl rfl) _).setCell (p:=⟨w.heap.size+1,2,none⟩) (Or.inl rfl) _
 refine alp results23 rfl rfl B3 ⟨_,V,j,by rw[HU.o],f1.wI k8 (fun i hi'=>by omega),Pt.o,?_,dc⟩;have f2':=f2.kept k8 (fun i _ h2 e=>by omega) (fun i hi' e=>by have:=f2.block hi';omega) (by omega);obtain⟨ws',g1',g2',g3'⟩:=f2';exact⟨ws',DR g1' (by omega),g2',g3'⟩
def kM(c:Int):Bool:=c==95||(decide (48<=c)&&decide (c<=57))||(decide (65<=c)&&decide (c<=90))||(decide (97<=c)&&decide (c<=122))
def fi(e ahead gZ:Int):Bool:=if e=0 then ahead== -1 else if e=1 then gZ== -1 else(kM ahead !=kM gZ)==(e==2)
def LY(s:ByteArray)(i:Nat):Int:=if i=0 then-1 else(iA s).bF (i-1)
theorem Yo(h:(aJ s).length<=i):(iA s).bF i= -1:=by
 unfold TX.bF iA;simp[Cg h]
theorem aia(s:ByteArray)(p:Nat)(h:p<s.size):(Utf8.decode s p).1<=1114111:=Lib.rune_le s p
theorem SG(h:i<(aJ s).length):0<=(iA s).bF i/\(iA s).bF i<=1114111:=by
 rw[SF h];have:=aia s (bd s i) (xu h);omega
theorem af4(c:Int):kM c=cu (Xy 119) c:=by
 unfold kM Xy;rw[Bi];simp[cu];omega
theorem aj9(s:ByteArray)(e:Int)(hi:i<=(aJ s).length):fi e (LY s i) ((iA s).bF i)=Gv (iA s) e i:=by
 have hl:(iA s).l.length=(aJ s).length:=rfl
 have w1:kM (LY s i)=(iA s).wX ((i:Int)-1):=by
  unfold LY TX.wX;by_cases h0:i=0
  ·subst h0;rw[if_pos rfl];simp[kM]
  ·rw[if_neg h0,af4,hl];have:decide (0<=(i:Int)-1)=true:=by simp;omega
   have h2:decide ((i:Int)-1<((aJ s).length:Int))=true:=by simp;omega
   rw[this,h2,show((i:Int)-1).toNat=i-1 by omega];simp
 have w2:kM ((iA s).bF i)=(iA s).wX (i:Int):=by
  unfold TX.wX;rw[hl];by_cases az:i<(aJ s).length
  ·rw[af4];simp[az]
  ·rw[Yo (by omega)];have:decide ((i:Int)<((aJ s).length:Int))=false:=by simp;omega
   rw[this];simp[kM]
 unfold fi Gv;by_cases e0:e=0
 ·rw[if_pos e0,if_pos e0];unfold LY;by_cases h0:i=0
  ·subst h0;simp
  ·rw[if_neg h0];have:=SG (s:=s) (i:=i-1) (by omega);rw[Bi];simp;omega
 ·rw[if_neg e0,if_neg e0];by_cases e1:e=1
  ·rw[if_pos e1,if_pos e1,hl];by_cases az:i<(aJ s).length
   ·have:=SG az;rw[Bi];simp;omega
   ·rw[Yo (by omega)];rw[Bi];simp;omega
  ·rw[if_neg e1,if_neg e1,w1,w2];by_cases e2:e=2
   ·subst e2;simp
   ·rw[if_neg e2];have:(e==2)=false:=(by simpa using e2);rw[this];simp
theorem afZ(s:ByteArray)(p:Nat)(w:World)(hp:p<=s.size)(hs:s.size<=1000000000)(hT:iM w):Calls prog 62 #[.string s,GW (p:Int)] w fun e w'=>e=.returned (GW (max ((Lib.decodeGo (s.extract p s.size)).2:Int) 1))/\aa ai w w':=by
 have cD:=aa9 (s.extract p s.size) w hT;go_in;go_wp2_with fail;refine cD.mono ?_;rintro e w' ⟨rfl,hK⟩;clear cD;go_wp2_with fail;go_ret;exact⟨rfl,hK⟩
theorem agT(x k:Nat)(hx:x<18446744073709551616):(bits BinOp.and IntKind.u64 ((x:Int) /2^k) 1 !=0)=x.testBit k:=by
 have az:x/2^k<2^64:=Nat.lt_of_le_of_lt (Nat.div_le_self _ _) (by omega);have h:=(bits_nat .u64 64 (by decide) wraps_u64 (x/2^k) 1 az (by decide)).1;have e:((x:Int) /2^k)=((x/2^k:Nat):Int):=by simp
 rw[e,show(1:Int)=((1:Nat):Int)from rfl,h,Nat.testBit,Nat.shiftRight_eq_div_pow,Nat.and_comm];rw[Bi];simp only[bne_iff_ne,ne_eq];omega
theorem VV(w:World)(B o len cap:Nat)(x:Nat)(u:Nat)(hx:x<18446744073709551616)(hu:u/64<len)(kI:u<100000)(hc:w.cell? ⟨B,o+u/64,none⟩=some (.int .u64 (x:Int))):Calls prog 90 #[.slice (some (GB B o)) len cap,GW (u:Int)] w fun e w'=>e=.returned (.bool (x.testBit (u % 64)))/\w'=w:=by
 go_in
 go_wp2_with fail
 go_ret
 exact⟨by rw[agT x _ hx];rfl,rfl⟩
theorem agU(x k:Nat)(hx:x<18446744073709551616)(hk:k<64):bits BinOp.or IntKind.u64 (x:Int) (IntKind.u64.wrap (2^k))=((x|||2^k:Nat):Int):=by
 have h2:2^k<2^64:=Nat.pow_lt_pow_right (by decide) hk;have e:(2:Int) ^k=((2^k:Nat):Int):=by simp
 rw[e,wraps_u64 _ (Int.natCast_nonneg _) (by exact_mod_cast h2)];exact(bits_nat .u64 64 (by decide) wraps_u64 x (2^k) (by omega) h2).2
theorem anL(w:World)(B o len cap:Nat)(x:Nat)(u:Nat)(hx:x<18446744073709551616)(hu:u/64<len)(kI:u<100000)(hc:w.cell? ⟨B,o+u/64,none⟩=some (.int .u64 (x:Int)))(hf:w.frozen? ⟨B,o+u/64,none⟩=false):Calls prog 114 #[.slice (some (GB B o)) len cap,GW (u:Int)] w fun e w'=>e=.returned (.tuple #[])/\w'=w.drew.setCell ⟨B,o+u/64,none⟩ (.int .u64 ((x|||2^ (u % 64):Nat):Int)):=by
 go_in
 refine gD (S:=fun W=>W.cell? ⟨B,o+u/64,none⟩=some (.int .u64 (x:Int))) 10 (by kernel_rfl) rfl rfl rfl (by kernel_rfl) (by kernel_rfl) ?_;have ak:(fun W:World=>W.cell? ⟨B,o+u/64,none⟩=some (.int .u64 (x:Int))) w.drew:=hc;refine aj 0 4 (.slice (some (GB B o)) len cap) ak ?_;refine aj 1 5 (GW (u:Int)) ak ?_;refine mP 2 6 (GW ((u:Int) /64)) rfl rfl (by kernel_rfl) (by kernel_rfl) (by kernel_rfl) (fun _ _ _ h=>h) (Or.inl ⟨by rfl,fun W ff=>by go_simp;rw[Cr];omega⟩) ak ?_;refine mP 3 7 (.pointer (some ⟨B,o+u/64,none⟩)) rfl rfl (by kernel_rfl) (by kernel_rfl) (by kernel_rfl) (fun _ _ _ h=>h) (Or.inl ⟨by rfl,fun W ff=>by go_simp;rw[if_pos (by omega),show((u:Int) /64).toNat=u/64 by omega]⟩) ak ?_;refine aj 4 8 (.int .u64 (x:Int)) ak ?_;refine aj 5 9 (GW (u:Int)) ak ?_;refine mP 6 10 (GW ((u:Int) % 64)) rfl rfl (by kernel_rfl) (by kernel_rfl) (by kernel_rfl) (fun _ _ _ h=>h) (Or.inl ⟨by rfl,fun W ff=>by go_simp;exact Int.tmod_eq_emod_of_nonneg (by omega)⟩) ak ?_;refine mP 7 11 (.int .u64 (IntKind.u64.wrap (2^ (u % 64)))) rfl rfl (by kernel_rfl) (by kernel_rfl) (by kernel_rfl) (fun _ _ _ h=>h) (Or.inl ⟨by rfl,fun W ff=>by go_simp;rw[show((u:Int) % 64).toNat=u % 64 by omega]⟩) ak ?_;refine aj 8 12 (.int .u64 (bits .or .u64 (x:Int) (IntKind.u64.wrap (2^ (u % 64))))) ak ?_;refine mP 9 13 (.pointer (some ⟨B,o+u/64,none⟩)) rfl rfl (by kernel_rfl) (by kernel_rfl) (by kernel_rfl) (fun _ _ _ h=>h) (Or.inl ⟨by rfl,fun W ff=>by go_simp;rw[if_pos (by omega),show((u:Int) /64).toNat=u/64 by omega]⟩) ak ?_;simp only[Act.put,Aa,Ad,Ac];refine At (by kernel_rfl) ?_ _;unfold eo;simp only[Ak,Ag,Ah];go_simp;rw[agU x _ hx (by omega)];go_end0;exact⟨rfl,rfl⟩
def nN(cs:Array Value)(co:Nat)(f t:Int):Array Value:=(cs.setIfInBounds co (GW f)).setIfInBounds (co+1) (GW t)
theorem Qw(h:co+1<cs.size)(f t:Int):(nN cs co f t)[co]? =some (GW f):=by
 unfold nN;rw[C7 (by omega),Db (by omega)]
theorem ah1(h:co+1<cs.size)(f t:Int):(nN cs co f t)[co+1]? =some (GW t):=by
 unfold nN;rw[Db (by simpa using h)]
theorem Jk(f f' t:Int):(nN cs co f t).setIfInBounds co (GW f')=nN cs co f' t:=by
 unfold nN;rw[Array.setIfInBounds_comm _ _ (by omega),Fa]
theorem aa5(f t t':Int):(nN cs co f t).setIfInBounds (co+1) (GW t')=nN cs co f t':=by
 unfold nN;rw[Fa]
theorem aeD(w:World)(b co:Nat)(cs:Array Value)(ty:TypeId)(f t st en wd:Int)(h:au w b (nN cs co f t) ty)(CI:co+1<cs.size)(h0:0<=en/\en<=10000000000000)(h1:0<=wd/\wd<=4):Calls prog 64 #[BT b co,GW st,GW en,GW wd] w fun e w'=>
 e=.returned (.bool (!(st==en&&en==t)))/\aa (fun i=>i=b) w w'/\au w' b (nN cs co (if st=en then en+wd else en) en) ty:=by
 have c0:w.cell? (GB b co)=some (GW f):=(h.cell co).trans (Qw CI f t);have c1:w.cell? ⟨b,co+1,none⟩=some (GW t):=(h.cell (co+1)).trans (ah1 CI f t);have f0:=h.frozen co;have f1:=h.frozen (co+1);have H:=ab h;clear h;by_cases e1:st=en
 ·subst e1;by_cases e2:st=t
  ·subst e2;go_in;go_wp2_with fail;go_ret;refine⟨by simp,((aa.refl (fun i=>i=b) w).setCell (p:=(GB b co)) (Or.inl rfl) _).setCell (p:=(GB b co)) (Or.inl rfl) _,?_⟩;have:=((H.o).setCell co (GW st)).setCell co (GW (st+wd));rw[Jk,Jk]at this;simpa using this
  ·have e3:(st==t)=false:=(by simpa using e2);go_in;go_wp2_with fail;go_ret;refine⟨by simp,(((aa.refl (fun i=>i=b) w).setCell (p:=(GB b co)) (Or.inl rfl) _).setCell (p:=(GB b co)) (Or.inl rfl) _).setCell (p:=⟨b,co+1,none⟩) (Or.inl rfl) _,?_⟩;have:=(((H.o).setCell co (GW st)).setCell co (GW (st+wd))).setCell (co+1) (GW st);rw[Jk,Jk,aa5]at this;simpa using this
 ·have e3:(st==en)=false:=by simpa using e1
  go_in
  go_wp2_with fail
  go_ret
  refine⟨by simp,((aa.refl (fun i=>i=b) w).setCell (p:=(GB b co)) (Or.inl rfl) _).setCell (p:=⟨b,co+1,none⟩) (Or.inl rfl) _,?_⟩;have:=((H.o).setCell co (GW en)).setCell (co+1) (GW en);rw[Jk,aa5]at this;exact this
theorem Xl(w:World)(c:Int):Calls prog 141 #[.int .i32 c] w fun e w'=>e=.returned (.bool (kM c))/\w'=w:=by
 go_in
 go_wp2_with fail
 all_goals go_ret
 all_goals refine⟨?_,rfl⟩
 all_goals refine congrArg Ending.returned ?_
 all_goals refine congrArg Value.bool ?_
 all_goals unfold kM
 all_goals rw[Bi]
 all_goals simp
 all_goals omega
theorem acA(w:World)(e a b:Int):Calls prog 113 #[GW e,.int .i32 a,.int .i32 b] w fun r w'=>r=.returned (.bool (fi e a b))/\w'=w:=by
 have H1:=fun W=>Xl W a
 have H2:=fun W=>Xl W b
 have h1:=ab H1;have h2:=ab H2;clear H1 H2;unfold fi;by_cases e0:e=0
 ·subst e0;go_in;go_wp2_with fail;go_ret;exact⟨rfl,rfl⟩
 ·by_cases e1:e=1
  ·subst e1;go_in;go_wp2_with fail;go_ret;exact⟨rfl,rfl⟩
  ·have b0:(e==0)=false:=(by simpa using e0);have b1:(e==1)=false:=(by simpa using e1);go_in;go_wp2_with fail;refine(h1.o w).mono ?_;rintro r w' ⟨rfl,rfl⟩;go_wp2_with fail;refine(h2.o _).mono ?_;rintro r w' ⟨rfl,rfl⟩;go_wp2_with fail;go_ret;exact⟨rfl,rfl⟩
theorem agB(w:World)(s:ByteArray)(p:Nat)(A B C:Int)(D:Bool)(hp:p<=s.size)(hs:s.size<=1000000000)(hT:iM w):Calls prog 111 #[.agg #[.string s,GW A,.int .i32 B,.int .i32 C,.bool D],GW (p:Int)] w fun e w'=>
 e=.returned (.tuple #[.int .i32 (if 0<p then((Lib.decodeLastL (s.extract 0 p).data.toList).1:Int)else B),.int .i32 (if p<s.size then((Lib.decodeGo (s.extract p s.size)).1:Int)else C)])/\aa ai w w':=by
 have oI:(s.extract 0 p).size<=9223372036854775807:=by rw[extract_size s 0 p hp];omega
 have cL:=ab fun(W:World) (hW:iM W)=>ah7 (s.extract 0 p) W oI hW
 have cD:=ab fun(W:World) (hW:iM W)=>aa9 (s.extract p s.size) W hW
 have HT:=ab hT;clear hT;generalize((Lib.decodeLastL (s.extract 0 p).data.toList).1:Int)=la at cL⊢;generalize((Lib.decodeLastL (s.extract 0 p).data.toList).2:Int)=RZ at cL;generalize((Lib.decodeGo (s.extract p s.size)).1:Int)=lb at cD⊢;generalize((Lib.decodeGo (s.extract p s.size)).2:Int)=lb2 at cD;obtain⟨a,HA⟩:∃a,Hid (a=if 0<p then la else B):=⟨_,(rfl:_=_)⟩
 obtain⟨b,HB⟩:∃b,Hid (b=if p<s.size then lb else C):=⟨_,(rfl:_=_)⟩
 rw[<-HA.o,<-HB.o];go_in;go_wp2_with fail;have c0:(w.alloc (.cells #[.string s,GW A,.int .i32 B,.int .i32 C,.bool D] 105)).cell? (GB w.heap.size 0)=some (.string s):=(au.new w _ _).cell 0;have c2:(w.alloc (.cells #[.string s,GW A,.int .i32 B,.int .i32 C,.bool D] 105)).cell? (GB w.heap.size 2)=some (.int .i32 B):=(au.new w _ _).cell 2;have c3:(w.alloc (.cells #[.string s,GW A,.int .i32 B,.int .i32 C,.bool D] 105)).cell? (GB w.heap.size 3)=some (.int .i32 C):=(au.new w _ _).cell 3;have BB:=ab (au.new w #[.string s,GW A,.int .i32 B,.int .i32 C,.bool D] 105);have KK:Hid (aa ai w (w.alloc (.cells #[.string s,GW A,.int .i32 B,.int .i32 C,.bool D] 105))):=(aa.refl ai w).alloc _;generalize hW:(w.alloc (.cells #[.string s,GW A,.int .i32 B,.int .i32 C,.bool D] 105))=W at*;clear hW;go_big_quiet (fail);have EW:=ab (HT.o.iR (KK.o.drewN nq));have K1:=ab (KK.o.drewN nq);by_cases h0:0<p
 ·have h0':(0:Int)<(p:Int):=by omega
  go_wp2_with fail
  refine(cL.o _ EW.o).mono ?_;rintro e w2 ⟨rfl,QR⟩;have B1:au (W.drewN nq) w.heap.size #[.string s,GW A,.int .i32 B,.int .i32 C,.bool D] 105:=BB.o;have d0:w2.cell? (GB w.heap.size 0)=some (.string s):=(B1.kept QR (fun h=>h)).cell 0;have HT2:=ab (EW.o.iR QR);have K2:=ab (K1.o.trans QR);clear QR B1;by_cases h1:p<s.size
  ·have h_:(p:Int)<(s.size:Int):=(by omega);go_wp2_with fail;refine(cD.o _ HT2.o).mono ?_;rintro e w3 ⟨rfl,VD⟩;go_wp2_with fail;go_ret2;rw[show a=_ from HA.o.trans (if_pos h0),show b=_ from HB.o.trans (if_pos h1)];exact⟨rfl,K2.o.trans VD⟩
  ·have h_:¬(p:Int)<(s.size:Int):=(by omega);go_wp2_with fail;go_ret2;rw[show a=_ from HA.o.trans (if_pos h0),show b=_ from HB.o.trans (if_neg h1)];exact⟨rfl,K2.o⟩
 ·have h0':¬(0:Int)<(p:Int):=by omega
  by_cases h1:p<s.size
  ·have h_:(p:Int)<(s.size:Int):=(by omega);go_wp2_with fail;refine(cD.o _ EW.o).mono ?_;rintro e w3 ⟨rfl,VD⟩;go_wp2_with fail;go_ret2;rw[show a=_ from HA.o.trans (if_neg h0),show b=_ from HB.o.trans (if_pos h1)];exact⟨rfl,K1.o.trans VD⟩
  ·have h_:¬(p:Int)<(s.size:Int):=(by omega);go_wp2_with fail;go_ret2;rw[show a=_ from HA.o.trans (if_neg h0),show b=_ from HB.o.trans (if_neg h1)];exact⟨rfl,K1.o⟩
