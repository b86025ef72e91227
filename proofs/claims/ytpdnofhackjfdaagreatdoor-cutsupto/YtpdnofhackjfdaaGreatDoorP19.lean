/- A pattern without a fault -/
import Derived.Test.YtpdnofhackjfdaaGreatDoorP18
set_option linter.all false
set_option maxRecDepth 100000
set_option maxHeartbeats 4000000
namespace Go.Proofs.YtpdnofhackjfdaaGreatDoor
open Go.Proofs.Tryz
variable {cs:Array Value} {s:ByteArray} {C:CT} {a b:cO} {p:Int} {M ms:List MS} {base co hi i j lo:Nat} {q:Nv} {T:PT} {V V':VS} {v:Value} {w:World}
def cU(a b:cO):Prop:=(b.form=none->a.form=none)/\(b.rep=none->a.rep=none)/\(b.cls=none->a.cls=none)
def iY(a:cO):Prop:=a.form=none/\a.rep=none/\a.cls=none
theorem cU.refl(a:cO):cU a a:=⟨fun h=>h,fun h=>h,fun h=>h⟩
theorem cU.trans{c:cO}(h:cU a b)(h':cU b c):cU a c:=⟨fun x=>h.1 (h'.1 x),fun x=>h.2.1 (h'.2.1 x),fun x=>h.2.2 (h'.2.2 x)⟩
theorem cU.oT(h:cU a b)(hb:iY b):iY a:=⟨h.1 hb.1,h.2.1 hb.2.1,h.2.2 hb.2.2⟩
theorem cU.eu(a:cO)(e p:Int):cU a (a.eu e p):=by
 unfold cO.eu cO.put;(repeat' split)<;>first|exact cU.refl _|(refine⟨fun h=>?_,fun h=>?_,fun h=>?_⟩<;>first|exact h|simp at h)
theorem ali:(a.eu 4 p).rep≠none:=by
 cases h:a.rep with
 |none=>simp[cO.eu,cO.put,cO.get,h]
 |some x=>simp[cO.eu,cO.get,h]
theorem alg:(a.eu 5 p).cls≠none:=by
 cases h:a.cls with
 |none=>simp[cO.eu,cO.put,cO.get,h]
 |some x=>simp[cO.eu,cO.get,h]
theorem ac4:(a.eu 3 p).form≠none:=by
 cases h:a.form with
 |none=>simp[cO.eu,cO.put,cO.get,h]
 |some x=>simp[cO.eu,cO.get,h]
theorem Nj(g:RG)(st:RS):cU st.bl (G_ g st).bl:=cU.eu _ _ _
theorem uw(g:RG)(l:List UInt8)(st:RS):cU st.bl (eI g l st).bl:=by
 unfold eI;split
 ·exact cU.refl _
 ·exact Nj g st
theorem acX(g:RG)(l:List UInt8)(st:RS):cU st.bl (pT g l st).bl:=by
 unfold pT;split
 ·exact Nj g st
 ·exact cU.refl _
theorem B_(g:RG)(l:List UInt8)(st:RS):cU st.bl (fg g l st).bl:=by
 unfold fg;split<;>exact cU.refl _
theorem Wv(g:RG)(st:RS):cU st.bl (jo g st).1.bl:=by
 unfold jo;split
 ·exact cU.refl _
 ·exact Nj g st
theorem Wy(g:RG)(st:RS):cU st.bl (fA g st).1.bl:=by
 unfold fA;split
 ·exact(Wv g st).trans (Wv g _)
 ·exact Wv g st
theorem alZ(g:RG)(st:RS):cU st.bl (r_ g st).1.bl:=by
 unfold r_;split
 ·exact cU.refl _
 ·exact Wy g st
theorem alQ(g:RG)(st:RS):cU st.bl (ey g st).1.bl:=by
 unfold ey;split
 ·exact((Wy g st).trans (alZ g {(fA g st).1 with next:=(fA g st).1.next+1})).trans (uw g _ _)
 ·exact(Wy g st).trans (uw g _ _)
theorem WA(g:RG)(a:PT)(st:RS):cU st.bl (h_ g a st).1.bl:=by
 unfold h_;split
 ·exact B_ g _ {st with next:=st.next+1}
 ·split
  ·exact B_ g _ {st with next:=st.next+1}
  ·split
   ·exact B_ g _ {st with next:=st.next+1}
   ·split
    ·have h1:=alQ g {st with next:=st.next+1};simp only;refine cU.trans ?_ (B_ g _ _);split
     ·exact h1.trans (cU.eu _ _ _)
     ·exact h1
    ·exact cU.refl _
theorem al_(g:RG)(e:Bool)(st:RS):cU st.bl (lQ g e st).1.bl:=by
 unfold lQ
 cases e
 ·exact acX g _ st
 ·exact uw g _ st
theorem adL(g:RG)(st:RS):cU st.bl (dd g st).1.bl:=(B_ g _ st).trans (al_ g _ _)
theorem adV(g:RG)(p:Int)(x:RS×Int):cU x.1.bl (qN g p x).bl:=by
 unfold qN;split
 ·have h1:=adL g {x.1 with next:=x.1.next+1};split
  ·exact h1.trans (cU.eu _ _ _)
  ·exact h1
 ·exact cU.refl _
theorem adC(g:RG)(st:RS):cU st.bl (fT g st).bl:=by
 unfold fT;split
 ·exact cU.refl _
 ·exact(adL g st).trans (adV g _ _)
theorem QZ(g:RG):∀(m:Nat) (st:RS),cU st.bl (mw g m st).bl
 |0,st=>cU.refl _
 |m+1,st=>by
  unfold mw;split
  ·exact cU.refl _
  ·exact(adC g st).trans (QZ g m _)
theorem alV(g:RG)(st:RS):cU st.bl (rZ g st).bl:=(((B_ g _ st).trans (adC g _)).trans (QZ g _ _)).trans (uw g _ _)
theorem adI(g:RG)(first:Nat):∀(m:Nat) (st:RS),cU st.bl (ly g first m st).bl
 |0,st=>cU.refl _
 |m+1,st=>by
  unfold ly;split
  ·exact adI g first m {st with next:=st.next+1}
  ·exact cU.refl _
theorem al7(g:RG)(first:Nat)(st:RS):cU st.bl (mO g first st).bl:=by
 unfold mO;split
 ·exact cU.eu _ _ _
 ·exact cU.refl _
theorem al4(g:RG)(st:RS):cU st.bl (pg g st).bl:=(((uw g _ st).trans (adI g _ _ _)).trans (al7 g _ _)).trans (uw g _ _)
theorem alX(g:RG)(st:RS):cU st.bl (ix g st).bl:=by
 unfold ix;split
 ·exact cU.refl _
 ·split
  ·exact al4 g {st with next:=st.next+2,aQ:=st.aQ+1}
  ·exact(B_ g _ {st with next:=st.next+1}).trans (uw g _ _)
theorem alP(g:RG)(aE:RS->RS×PT)(halt:∀st,cU st.bl (aE st).1.bl)(st:RS):cU st.bl (dt g aE st).1.bl:=by
 unfold dt;split
 ·exact((alX g {st with next:=st.next+1}).trans (halt _)).trans (uw g _ _)
 ·split
  ·exact alV g {st with next:=st.next+1}
  ·split
   ·exact uw g _ {st with next:=st.next+1}
   ·split
    ·exact cU.refl _
    ·exact acX g _ st
theorem Q8(g:RG)(aE:RS->RS×PT)(halt:∀st,cU st.bl (aE st).1.bl):∀(m:Nat) (st:RS) (aC:List PT),cU st.bl (jq g aE m st aC).1.bl
 |0,st,aC=>cU.refl _
 |m+1,st,aC=>by
  unfold jq;split
  ·exact cU.refl _
  ·exact((alP g aE halt st).trans (WA g _ _)).trans (Q8 g aE halt m _ _)
theorem adQ(g:RG)(aE:RS->RS×PT)(halt:∀st,cU st.bl (aE st).1.bl)(st:RS):cU st.bl (eD g aE st).1.bl:=Q8 g aE halt _ _ _
theorem Jv(g:RG)(aE:RS->RS×PT)(halt:∀st,cU st.bl (aE st).1.bl):∀(m:Nat) (st:RS) (aC:List PT),cU st.bl (iw g aE m st aC).1.bl
 |0,st,aC=>cU.refl _
 |m+1,st,aC=>by
  unfold iw;split
  ·exact(adQ g aE halt {st with next:=st.next+1}).trans (Jv g aE halt m _ _)
  ·exact cU.refl _
theorem QX(g:RG):∀(k:Nat) (st:RS),cU st.bl (aV g k st).1.bl
 |0,st=>cU.refl _
 |k+1,st=>by
  unfold aV;exact(adQ g _ (QX g k) st).trans (Jv g _ (QX g k) _ _ _)
theorem Wi:∀{a b:List CT},CT.d_ a->CT.d_ b->CT.d_ (a++b)
 | [],b,_,hb=>hb
 |c::a,b,ha,hb=>by
  unfold CT.d_ at ha;show CT.d_ (c::(a++b))
  unfold CT.d_;exact⟨ha.1,Wi ha.2 hb⟩
theorem Na{c:CT}(h:c.ok):CT.d_ [c]:=by unfold CT.d_;exact⟨h,by unfold CT.d_;trivial⟩
theorem MU(sp:bD)(fo nt:Bool):(l9 sp fo nt).ok:=by
 unfold l9 CT.ok CT.d_;simp
theorem aaC(e:Int):(u9 e).ok:=by
 unfold u9 CT.ok CT.d_;simp
theorem aav(g:RG)(st:RS):0<=(jo g st).2/\(jo g st).2<=9:=by
 unfold jo;split
 ·rename_i h
  have:=VD h;simp only;omega
 ·simp
theorem ac9(g:RG)(st:RS):0<=(fA g st).2/\(fA g st).2<=99:=by
 have h1:=aav g st;unfold fA;split
 ·have h2:=aav g (jo g st).1;simp only;omega
 ·omega
theorem aiT(g:RG)(st:RS): -1<=(r_ g st).2/\(r_ g st).2<=99:=by
 have h1:=ac9 g st;unfold r_;split
 ·simp
 ·omega
theorem agf(g:RG)(st:RS):(0<=(ey g st).2.1/\(ey g st).2.1<=99)/\(-1<=(ey g st).2.2/\(ey g st).2.2<=99):=by
 have h1:=ac9 g st;have h2:=aiT g {(fA g st).1 with next:=(fA g st).1.next+1};unfold ey;split
 ·exact⟨h1,h2⟩
 ·simp only;omega
theorem RF{a:CT}(ha:a.ok){lo hi:Int}(lz:Bool)(h:0<=lo/\lo<=20/\ -1<=hi/\hi<=20/\(hi= -1\/lo<=hi)):(tK a lo hi lz).ok:=by
 unfold tK CT.ok;exact⟨by omega,by simp,by simp,fun _=>h,Na ha⟩
theorem am7(g:RG){a:CT}(ha:a.ok)(p:PT)(st:RS)(hc:iY (h_ g p st).1.bl):(ni g a st).ok:=by
 unfold h_ at hc;unfold ni;split
 ·exact RF ha _ (by omega)
 ·rename_i h1
  rw[if_neg h1]at hc;split
  ·exact RF ha _ (by omega)
  ·rename_i h2
   rw[if_neg h2]at hc;split
   ·exact RF ha _ (by omega)
   ·rename_i h3
    rw[if_neg h3]at hc;split
    ·rename_i h4
     rw[if_pos h4]at hc;have hb:=agf g {st with next:=st.next+1};have jh:=(B_ g _ _).oT hc;refine RF ha _ ?_;by_cases hx:(ey g {st with next:=st.next+1}).2.1>20\/(ey g {st with next:=st.next+1}).2.2>20\/((ey g {st with next:=st.next+1}).2.2≠ -1/\(ey g {st with next:=st.next+1}).2.2<(ey g {st with next:=st.next+1}).2.1)
     ·rw[if_pos hx]at jh;exact absurd jh.2.1 ali
     ·omega
    ·exact ha
theorem afS(g:RG)(aE:RS->RS×PT)(bS:Bool->RS->CT)(nE:∀fo st,iY (aE st).1.bl->(bS fo st).ok)(fo:Bool)(st:RS)(hc:iY (dt g aE st).1.bl):(j8 g bS fo st).ok:=by
 unfold dt at hc;unfold j8;split
 ·rename_i h1
  rw[if_pos h1]at hc;have dR:=(uw g _ _).oT (show iY (eI g Jn (aE (ix g {st with next:=st.next+1})).1).bl from hc)
  have:∀(fo:Bool) (gr:Int),(CT.node 2 [] false false 0 gr 0 0 false [bS fo (ix g {st with next:=st.next+1})]).ok:=by
   intro fo gr;unfold CT.ok;exact⟨by omega,by simp,by simp,by simp,Na (nE _ _ dR)⟩
  unfold sE;split
  ·exact this _ _
  ·split
   ·exact this _ _
   ·exact this _ _
 ·split
  ·exact MU _ _ _
  ·split
   ·unfold nY;(repeat' split)<;>first|exact MU _ _ _|exact aaC _
   ·split
    ·unfold Iq;split<;>first|exact MU _ _ _|exact aaC _
    ·exact MU _ _ _
theorem aez(g:RG)(aE:RS->RS×PT)(halt:∀st,cU st.bl (aE st).1.bl)(bS:Bool->RS->CT)(nE:∀fo st,iY (aE st).1.bl->(bS fo st).ok)(fo:Bool):∀(m:Nat) (st:RS) (aC:List CT) (ps:List PT),CT.d_ aC->iY (jq g aE m st ps).1.bl->CT.d_ (l_ g aE bS fo m st aC)
 |0,st,aC,ps,ha,hc=>ha
 |m+1,st,aC,ps,ha,hc=>by
  unfold jq at hc;unfold l_;split
  ·exact ha
  ·rename_i h1
   rw[if_neg h1]at hc;have c1:=(Q8 g aE halt m _ _).oT hc;have c2:=(WA g _ _).oT c1;exact aez g aE halt bS nE fo m _ _ _ (Wi ha (Na (am7 g (afS g aE bS nE fo st c2) _ _ c1))) hc
theorem aex(g:RG)(aE:RS->RS×PT)(halt:∀st,cU st.bl (aE st).1.bl)(bS:Bool->RS->CT)(nE:∀fo st,iY (aE st).1.bl->(bS fo st).ok)(fo:Bool)(st:RS)(hc:iY (eD g aE st).1.bl):(nj g aE bS fo st).ok:=by
 have:=aez g aE halt bS nE fo _ st [] [] (by unfold CT.d_;trivial) hc;unfold nj CT.ok;exact⟨by omega,by simp,by simp,by simp,this⟩
theorem ZN(g:RG)(aE:RS->RS×PT)(halt:∀st,cU st.bl (aE st).1.bl)(bS:Bool->RS->CT)(nE:∀fo st,iY (aE st).1.bl->(bS fo st).ok)(fo:Bool):∀(m:Nat) (st:RS) (aC:List CT) (ps:List PT),CT.d_ aC->aC≠ []->iY (iw g aE m st ps).1.bl->CT.d_ (ll g aE bS fo m st aC)/\ll g aE bS fo m st aC≠ []
 |0,st,aC,ps,ha,az,hc=>⟨ha,az⟩
 |m+1,st,aC,ps,ha,az,hc=>by
  unfold iw at hc;unfold ll;split
  ·rename_i h1
   rw[if_pos h1]at hc;have c1:=(Jv g aE halt m _ _).oT hc;exact ZN g aE halt bS nE fo m _ _ _ (Wi ha (Na (aex g aE halt bS nE fo _ c1))) (by simp) hc
  ·exact⟨ha,az⟩
theorem Tr(g:RG):∀(k:Nat) (fo:Bool) (st:RS),iY (aV g k st).1.bl->(dI g k fo st).ok
 |0,fo,st,hc=>MU _ _ _
 |k+1,fo,st,hc=>by
  unfold aV at hc;have hle:=QX g k;have c1:=(Jv g (aV g k) hle _ _ _).oT hc;have h1:=aex g (aV g k) hle (dI g k) (fun fo st=>Tr g k fo st) fo st c1;have h2:=ZN g (aV g k) hle (dI g k) (fun fo st=>Tr g k fo st) fo _ _ _ _ (Na h1) (by simp) hc;unfold dI CT.ok;exact⟨by omega,by simp,fun _=>h2.2,by simp,h2.1⟩
theorem aoL(g:RG)(st:RS)(hc:iY (ee g st).1.bl):(oS g st).ok:=by
 refine Tr g _ false st ?_;unfold ee at hc;split at hc
 ·exact hc
 ·exact(Nj g _).oT hc
open Go.RowKit Go.Maps
theorem aeE:∀(ts:List PT) (cs:List CT),cs.length=ts.length->(∀i,(h:i<ts.length)->(h':i<cs.length)->(cs[i]).sz=(ts[i]).size)->CT.cB cs=PT.lB ts
 | [],[],_,_=>by simp[CT.cB,PT.lB]
 |t::ts,c::cs,hl,h=>by
  have h0:=h 0 (by simp) (by simp);have hr:=aeE ts cs (by simpa using hl) (fun i h1 h2=>by have:=h (i+1) (by simpa using h1) (by simpa using h2);simpa using this);simp only[CT.cB,PT.lB];simp only[Ai]at h0;omega
 | [],c::cs,hl,_=>by simp at hl
 |t::ts,[],hl,_=>by simp at hl
theorem cy.size_eq(h:cy w lo hi q T C):C.sz=T.size:=by
 induction h with
 |mk q tk pb bs ts cs V S sp fo nt hn hb hc hk hs ou hr oZ ih=>
  have e:=aeE ts cs hn.2.1 (fun i h1 h2=>ih i h1 h2);have e2:(cs.length:Int)=ts.length:=by rw[hn.2.1]
  unfold CT.sz PT.size;rcases oZ with⟨h1,h2,_⟩|⟨h1,h2⟩|⟨h1,h2⟩|⟨h1,h2⟩|⟨h1,h2,_⟩|⟨h1,h2⟩<;>rw[h1,h2,e]<;>simp[e2]
theorem amu{F:cO}(h:(pick F).1=0):iY F/\F.u6=none:=by
 unfold pick at h;unfold iY
 cases h1:F.bu<;>rw[h1]at h<;>simp only at h
 ·cases h2:F.form<;>rw[h2]at h<;>simp only at h
  ·cases h3:F.rep<;>rw[h3]at h<;>simp only at h
   ·cases h4:F.cls<;>rw[h4]at h<;>simp only at h
    ·cases h5:F.BM<;>rw[h5]at h<;>simp only at h
     ·cases h6:F.u6<;>rw[h6]at h<;>simp only at h
      ·exact⟨⟨rfl,rfl,rfl⟩,rfl⟩
      ·omega
     ·omega
    ·omega
   ·omega
  ·omega
 ·omega
theorem alf:(a.eu 7 p).u6≠none:=by
 cases h:a.u6 with
 |none=>simp[cO.eu,cO.put,cO.get,h]
 |some x=>simp[cO.eu,cO.get,h]
theorem ahI{g:RG}(h:(pick (jR g s)).1=0):iY (ee g (dz s)).1.bl/\(ee g (dz s)).2.size<=1000:=by
 obtain⟨h1,h2⟩:=amu h;unfold jR at h1 h2;by_cases hs:1000<(ee g (dz s)).2.size
 ·rw[if_pos hs]at h2;exact absurd h2 alf
 ·rw[if_neg hs]at h1;exact⟨h1,by omega⟩
theorem lh.VR{s:Int}(h:lh M V s V'):V'.bC.length+V.aK.length<=V.bC.length+V'.aK.length:=by
 induction h with
 |aJ V s v h hv=>omega
 |stop V s m hn h hk=>simp[VS.put]
 |take V s m hn h hk=>simp[VS.put,VS.iu];omega
 |one V V' s m hn h hk hv ih=>simp only[VS.put,Aj];omega
 |cE V V' V2 s m hn h hk hv hw ih uh=>simp only[VS.put,Aj];omega
theorem qg.VR{at_:Nat}(h:qg M at_ V V'):V'.bC.length+V.aK.length<=V.bC.length+V'.aK.length:=by
 induction h with
 |done a V h=>omega
 |step a V V' V2 t h hv hl ih=>have:=hv.VR;omega
def oN(w:World)(lo hi base:Nat)(v:Value)(ms:List MS):Prop:=∃ws:List Sv,w.ownsRow base 113 6 v ms.length (jt ws)/\ws.length=ms.length/\∀i,(h:i<ws.length)->(h':i<ms.length)->gw w lo hi ws[i] ms[i]
theorem oN.kept{w':World}{K:Nat->Prop}(h:oN w lo hi base v ms)(k:aa K w w')(h1:∀i,lo<=i->i<hi->¬K i)(h2:∀i,v.ownBlock=some i->¬K i)(hle:hi<=w.heap.size):oN w' lo hi base v ms:=by
 obtain⟨ws,a1,a2,a3⟩:=h;exact⟨ws,bR a1 k h2,a2,fun i b1 b2=>(a3 i b1 b2).kept k h1 hle⟩
structure ss(C:CT)(V:VS)(j:Nat):Prop where
 first:(e_ C).2.2=j
 acA:qg (e_ C).1 0 (VS.first (e_ C).1.length j) V
 inv:∃R,jB (e_ C).1 R V/\Shut (e_ C).1 R/\R j
 all:oF (e_ C).1
 num:∀t,(t=j\/∃(s:Nat) (m:MS),s∈V.aK/\(e_ C).1[s]? =some m/\m.kind=1/\t=m.next.toNat)->∃u:Nat,V.num[t]? =some (u:Int)
theorem ss.exists(h:C.ok)(hs:C.sz<=1000):∃V j,ss C V j/\(e_ C).1.length<=4001/\1<=(e_ C).1.length:=by
 obtain⟨R,h1,⟨j,h2,h3⟩,h4,h5,h6⟩:=agq h hs;obtain⟨V,v1,v2,v3⟩:=alC h1 h3;exact⟨V,j,⟨h2,v1,⟨R,v2,h1,h3⟩,h4,v3⟩,h6,h5⟩
theorem ss.Wl(h:ss C V j):V.aK.length<=(e_ C).1.length/\V.bC.length<=(e_ C).1.length+1/\(∀s∈V.aK,s<(e_ C).1.length)/\j<(e_ C).1.length/\V.num.length=(e_ C).1.length:=by
 obtain⟨R,h1,h2,h3⟩:=h.inv;have a:=h1.adk;have b:=h.acA.VR;simp only[VS.first,Ax,Bb]at b;refine⟨a,by omega,fun s hs=>?_,?_,h1.len⟩
 ·obtain⟨k,hk,qF⟩:=C4 hs;have:=h1.at_ k s (by rw[Ae hk,qF]);have:=(Ah.1 this).1;rw[h1.len]at this;exact this
 ·obtain⟨m,hm,_⟩:=h2.cl j h3;exact(Ah.1 hm).1
theorem ss.start(h:ss C V j):∃u:Nat,V.num.getD j 0=(u:Int)/\u<V.aK.length:=by
 obtain⟨u,hu⟩:=h.num j (Or.inl rfl);obtain⟨R,h1,_⟩:=h.inv;obtain⟨k,hk,aO⟩:=h1.has j u hu (by omega);have e:k=u:=by omega
 subst e;exact⟨k,by rw[Af,hu];rfl,(Ah.1 aO).1⟩
theorem dm.ic{b:Nat}{st:List MS}(h:dm w b lo hi v st)(az:st≠ []):∃g c vs,v=.slice (some ⟨g,0,none⟩) st.length c/\jc w g vs st/\∀i,(h:i<vs.length)->(h':i<st.length)->gw w lo hi vs[i] st[i]:=by
 obtain⟨vs,h1,h2,h3⟩:=h.row;obtain⟨hx,gP⟩:=h1;rcases gP with⟨_,h0⟩|⟨g,cap,aL,rfl,a1,a2,a3,a4,a5,a6⟩
 ·exact absurd (Aw.1 h0) az
 ·refine⟨g,cap,vs,rfl,⟨h2,fun i hi' j hj=>?_,(Ak.1 a2).1,fun i b1 b2=>⟨(h3 i b1 b2).k,(h3 i b1 b2).nx,(h3 i b1 b2).ot⟩⟩,h3⟩;have hf:=Pa vs i (by omega) j hj;rw[<-hf,<-a6,Av (by omega)];simp only[World.cell?,a2];simp
theorem akU(W:World)(p q:Int):(Instr.field 115 (.agg #[.int .i64 p,.int .i64 q]) 1).run prog W=.ok (.int .i64 q) W:=by
 simp[Instr.field,asAgg,go_sem]
theorem oN.block(h:oN w lo hi base v ms)(hi':v.ownBlock=some i):base<=i/\i<w.heap.size:=by
 obtain⟨ws,a1,_⟩:=h;exact dw a1 hi'
theorem akx{f:Func}{Q:Ending->World->Prop}{a:Act}{W:World}{c:Nat}{q:Int}(mj:f.results=#[ResultVar.cell i 73])(sY:a.tmps.getD i undef=.pointer (some ⟨c,0,none⟩))(hd:a.defers=[])
 (hb:aq W c #[v,.int .i64 p,.int .i64 q] 73)(hQ:Q (.returned (.agg #[v,.int .i64 p,.int .i64 q])) W)(hv:∃ao n k,v=.slice ao n k:=by exact⟨_,_,_,rfl⟩):bodyPost prog f Q Exit.ret a W:=by
 have r0:W.cell? ⟨c,0,none⟩=some v:=hb.cell 0;have r1:W.cell? ⟨c,1,none⟩=some (.int .i64 p):=hb.cell 1;have r2:W.cell? ⟨c,2,none⟩=some (.int .i64 q):=hb.cell 2;have gi:a.tmps[i]?.getD undef=.pointer (some ⟨c,0,none⟩):=by simpa using sY
 obtain⟨ao,n,k,rfl⟩:=hv;exact Bj (v:=.agg #[.slice ao n k,.int .i64 p,.int .i64 q]) (by simp[results,mj,go_sem,gi,r0,r1,r2]) hd hQ
theorem Zf(hP:cy w lo hi q T C)(hle:hi<=w.heap.size)(df:C.ok)(aS:C.sz<=1000)(x:Int)(y:Option Nat):
 Calls prog 23 #[nL q x y] w fun e w'=>∃(v':Value) (V:VS) (j:Nat),e=.returned (.agg #[v',.int .i64 (V.num.getD j 0),.int .i64 x])/\aa af w w'/\ss C V j/\oN w' lo hi w.heap.size v' (sorted (e_ C).1 V)/\(e_ C).1.length<=4001:=by
 obtain⟨V,j,Ui,cT,PX⟩:=ss.exists df aS;obtain⟨o1,o2,o3,o4,o5⟩:=Ui.Wl;have iC:=nV C df aS;have AL:=CT.zb C df;have Mx:cZ [bL].length (0,0):=by unfold cZ;simp
 have PO:=ab (hP.aml (b:=w.heap.size+1+1) df aS);have kA:aa af w ((w.alloc (.cells (fU q x y) 67)).alloc (.cells #[.slice none 0 0,.int .i64 0,.int .i64 0] 73)):=((aa.refl af w).alloc _).alloc _;have kB:aa af w (((w.alloc (.cells (fU q x y) 67)).alloc (.cells #[.slice none 0 0,.int .i64 0,.int .i64 0] 73)).alloc (.cells #[.slice none 0 0] 109)):=kA.alloc _
 have wR:dm (((w.alloc (.cells (fU q x y) 67)).alloc (.cells #[.slice none 0 0,.int .i64 0,.int .i64 0] 73)).alloc (.cells #[.slice none 0 0] 109)) (w.heap.size+1+1) lo hi (.slice none 0 0) []:=
  ⟨by have:=aq.new ((w.alloc (.cells (fU q x y) 67)).alloc (.cells #[.slice none 0 0,.int .i64 0,.int .i64 0] 73)) #[.slice none 0 0] 109;simpa using this,⟨[],A7 _ _ _ _,rfl,fun i h=>by simp at h⟩,by omega,by simp⟩
 have F1:=Ik wR (gw.zero _ lo hi) (by simp);simp only[Sv.val,Sv.cells]at F1;have F1:=ab F1
 have Kt:bc (((w.alloc (.cells (fU q x y) 67)).alloc (.cells #[.slice none 0 0,.int .i64 0,.int .i64 0] 73)).alloc (.cells #[.slice none 0 0] 109)) (w.heap.size+1+1) (.slice none 0 0) w.heap.size (fU q x y) 67:=
  ⟨((aq.new w (fU q x y) 67).alloc _).alloc _,fun hx=>by rcases hx with hx|hx;(·omega);(·cases hx)⟩
 have Ku:bc (((w.alloc (.cells (fU q x y) 67)).alloc (.cells #[.slice none 0 0,.int .i64 0,.int .i64 0] 73)).alloc (.cells #[.slice none 0 0] 109)) (w.heap.size+1+1) (.slice none 0 0) (w.heap.size+1) #[.slice none 0 0,.int .i64 0,.int .i64 0] 73:=
  ⟨by have:=(aq.new (w.alloc (.cells (fU q x y) 67)) #[.slice none 0 0,.int .i64 0,.int .i64 0] 73).alloc (.cells #[.slice none 0 0] 109);simpa using this,fun hx=>by rcases hx with hx|hx;(·omega);(·cases hx)⟩
 have PK:=ab (And.intro Kt (And.intro Ku (And.intro kB wR)));have Od:=ab Ui;have CQ:=ab o3;clear kA kB wR Kt Ku hP Ui o3 iC;simp only[nL];simp only[fU]at*;go_in;go_wp2_with fail;refine(F1.out).mono ?_;rintro e w3 ⟨rfl,v3,h3,k3⟩;obtain⟨Kt,Ku,kB,wR⟩:=PK.out;have m0:=Kt.aY k3;have m1:=Ku.aY k3;have b0:aq w3 w.heap.size (fU q x y) 67:=m0.ak;obtain⟨t0,t1,t2,t3,t4,t5,t6,t7,t8,t9⟩:=b0.NA;have S0:eY lo hi w (((w.alloc (.cells (fU q x y) 67)).alloc (.cells #[.slice none 0 0,.int .i64 0,.int .i64 0] 73)).alloc (.cells #[.slice none 0 0] 109)):=fun i _ h2=>kB.block i (by omega) (fun hx=>hx)
 have S3:=S0.aY wR k3;have F2:=PO.out w3 v3 [bL] (0,0) h3 Mx S3 (by simp;omega);simp only[Nv.val,Nv.cells,cG]at F2;have F2:=ab F2;have W3:aa af w w3:=kB.yN k3.kept (fun i hi'=>by have:=wR.au hi';omega);have mF:=ab (And.intro m0 (And.intro m1 (And.intro W3 h3)));have aqf:=k3.kept.size;have EG:=h3.ak.lt;clear Kt Ku kB wR m0 m1 b0 S0 S3 h3 k3 F1 PK W3 t8 t9;go_wp2_with fail;refine(F2.out).mono ?_;rintro e w4 ⟨rfl,v4,h4,k4⟩;obtain⟨m0,m1,W3,h3⟩:=mF.out;have n0:=m0.aY k4;have n1:=m1.aY k4;have W4:aa af w w4:=W3.yN k4.kept (fun i hi'=>by have:=h3.au hi';omega)
 obtain⟨g,c,vs,Gp,ab3,pd⟩:=h4.ic (by intro e;have:(e_ C).1.length=0:=by rw[show(e_ C).1=[]from e];rfl
                                     omega)
 subst Gp;have c4:w4.cell? ⟨w.heap.size+1+1,0,none⟩=some (.slice (some ⟨g,0,none⟩) (e_ C).1.length c):=h4.ak.cell 0;have abD:=Od.out.first
 have aqj:=W4.size;have F3:=ajC (c:=c) (lo:=lo) (hi:=hi) (start:=j) (VF:=V) ab3 pd (by omega) Od.out.all cT Od.out.acA (by omega) (by omega) CQ.out o4;have F3:=ab F3;have hmv:=akU w4 (bm C [bL] (0,0)).2.1 (bm C [bL] (0,0)).2.2;have UN:(bm C [bL] (0,0)).2.2=(j:Int):=abD;rw[UN]at hmv;simp only;rw[UN];have b0:aq w4 w.heap.size (fU q x y) 67:=n0.ak;have jY:=ab (And.intro n0.ak (And.intro n1.ak W4));have Uy:=h4.ak.lt;clear m0 m1 W3 h3 n0 n1 W4 ab3 pd h4 k4 F2 mF b0 abD UN;go_wp2_with fail;refine(F3.out).mono ?_;rintro e w5 ⟨v',ws,rfl,k5,r1,r2,r3⟩;obtain⟨n0,n1,W4⟩:=jY.out;have p0:=n0.kept k5 (fun hx=>hx);have p1:=n1.kept k5 (fun hx=>hx);have c8:w5.cell? ⟨w.heap.size,8,none⟩=some (.int .i64 x):=p0.cell 8;have q0:w5.cell? ⟨w.heap.size+1,0,none⟩=some (.slice none 0 0):=p1.cell 0;have q1:w5.cell? ⟨w.heap.size+1,1,none⟩=some (.int .i64 0):=p1.cell 1;have q2:w5.cell? ⟨w.heap.size+1,2,none⟩=some (.int .i64 0):=p1.cell 2;have g0:=p1.frozen 0;have g1:=p1.frozen 1;have g2:=p1.frozen 2;obtain⟨OH,cv,rfl⟩:=cA r1;have s5:=k5.size;have MC:oN w5 lo hi w4.heap.size (.slice OH V.aK.length cv) (sorted (e_ C).1 V):=⟨ws,by simpa[sorted]using r1,by simpa[sorted]using r2,r3⟩;have ax:Hid (aa af w w5/\oN w5 lo hi w4.heap.size (.slice OH V.aK.length cv) (sorted (e_ C).1 V)/\aq w5 (w.heap.size+1) #[.slice none 0 0,.int .i64 0,.int .i64 0] 73):=⟨W4.trans k5,MC,p1⟩;generalize hu:V.num.getD j 0=u at*;have HU:=ab hu;clear n0 n1 W4 p0 p1 r1 r2 r3 k5 F3 jY MC hu;go_wp2_with fail;obtain⟨f1,f2,f3⟩:=ax.out;have B3:=((f3.setCell 0 (.slice OH V.aK.length cv)).setCell 1 (.int .i64 u)).setCell 2 (.int .i64 x)
 have k8:aa (fun i=>i=w.heap.size+1) w5 (((w5.setCell ⟨w.heap.size+1,0,none⟩ (.slice OH V.aK.length cv)).setCell ⟨w.heap.size+1,1,none⟩ (.int .i64 u)).setCell ⟨w.heap.size+1,2,none⟩ (.int .i64 x)):=
  (((aa.refl (fun i=>i=w.heap.size+1) w5).setCell (p:=⟨w.heap.size+1,0,none⟩) (Or.inl rfl) _).setCell (p:=⟨w.heap.size+1,1,none⟩) (Or.inl rfl) _).setCell (p:=⟨w.heap.size+1,2,none⟩) (Or.inl rfl) _
 refine akx results23 rfl rfl B3 ⟨_,V,j,by rw[HU.out],f1.yN k8 (fun i hi'=>by omega),Od.out,?_,cT⟩;have f2':=f2.kept k8 (fun i _ h2 e=>by omega) (fun i hi' e=>by have:=f2.block hi';omega) (by omega);obtain⟨ws',g1',g2',g3'⟩:=f2';exact⟨ws',BU g1' (by omega),g2',g3'⟩
def kD(c:Int):Bool:=c==95||(decide (48<=c)&&decide (c<=57))||(decide (65<=c)&&decide (c<=90))||(decide (97<=c)&&decide (c<=122))
def eU(e ahead gM:Int):Bool:=if e=0 then ahead== -1 else if e=1 then gM== -1 else(kD ahead !=kD gM)==(e==2)
def KJ(s:ByteArray)(i:Nat):Int:=if i=0 then-1 else(ig s).bu (i-1)
theorem WT(h:(aF s).length<=i):(ig s).bu i= -1:=by
 unfold TX.bu ig;simp[Ci h]
theorem ahk(s:ByteArray)(p:Nat)(h:p<s.size):(Utf8.decode s p).1<=1114111:=Lib.rune_le s p
theorem Rj(h:i<(aF s).length):0<=(ig s).bu i/\(ig s).bu i<=1114111:=by
 rw[Ri h];have:=ahk s (bd s i) (wL h);omega
theorem afk(c:Int):kD c=bU (VX 119) c:=by
 unfold kD VX;rw[Bg];simp[bU];omega
theorem ajg(s:ByteArray)(e:Int)(hi:i<=(aF s).length):eU e (KJ s i) ((ig s).bu i)=DU (ig s) e i:=by
 have hl:(ig s).l.length=(aF s).length:=rfl
 have w1:kD (KJ s i)=(ig s).wk ((i:Int)-1):=by
  unfold KJ TX.wk;by_cases h0:i=0
  ·subst h0;rw[if_pos rfl];simp[kD]
  ·rw[if_neg h0,afk,hl];have:decide (0<=(i:Int)-1)=true:=by simp;omega
   have h2:decide ((i:Int)-1<((aF s).length:Int))=true:=by simp;omega
   rw[this,h2,show((i:Int)-1).toNat=i-1 by omega];simp
 have w2:kD ((ig s).bu i)=(ig s).wk (i:Int):=by
  unfold TX.wk;rw[hl];by_cases aw:i<(aF s).length
  ·rw[afk];simp[aw]
  ·rw[WT (by omega)];have:decide ((i:Int)<((aF s).length:Int))=false:=by simp;omega
   rw[this];simp[kD]
 unfold eU DU;by_cases e0:e=0
 ·rw[if_pos e0,if_pos e0];unfold KJ;by_cases h0:i=0
  ·subst h0;simp
  ·rw[if_neg h0];have:=Rj (s:=s) (i:=i-1) (by omega);rw[Bg];simp;omega
 ·rw[if_neg e0,if_neg e0];by_cases e1:e=1
  ·rw[if_pos e1,if_pos e1,hl];by_cases aw:i<(aF s).length
   ·have:=Rj aw;rw[Bg];simp;omega
   ·rw[WT (by omega)];rw[Bg];simp;omega
  ·rw[if_neg e1,if_neg e1,w1,w2];by_cases e2:e=2
   ·subst e2;simp
   ·rw[if_neg e2];have:(e==2)=false:=(by simpa using e2);rw[this];simp
theorem aff(s:ByteArray)(p:Nat)(w:World)(hp:p<=s.size)(hs:s.size<=1000000000)(hT:ik w):Calls prog 62 #[.string s,.int .i64 (p:Int)] w fun e w'=>e=.returned (.int .i64 (max ((Lib.decodeGo (s.extract p s.size)).2:Int) 1))/\aa af w w':=by
 have cD:=aau (s.extract p s.size) w hT;go_in;go_wp2_with fail;refine cD.mono ?_;rintro e w' ⟨rfl,hK⟩;clear cD;go_wp2_with fail;go_ret;exact⟨rfl,hK⟩
theorem af6(x k:Nat)(hx:x<18446744073709551616):(bits BinOp.and IntKind.u64 ((x:Int) /2^k) 1 !=0)=x.testBit k:=by
 have aw:x/2^k<2^64:=Nat.lt_of_le_of_lt (Nat.div_le_self _ _) (by omega);have h:=(bits_nat .u64 64 (by decide) wraps_u64 (x/2^k) 1 aw (by decide)).1;have e:((x:Int) /2^k)=((x/2^k:Nat):Int):=by simp
 rw[e,show(1:Int)=((1:Nat):Int)from rfl,h,Nat.testBit,Nat.shiftRight_eq_div_pow,Nat.and_comm];rw[Bg];simp only[bne_iff_ne,ne_eq];omega
theorem Uv(w:World)(B o len cap:Nat)(x:Nat)(u:Nat)(hx:x<18446744073709551616)(hu:u/64<len)(ku:u<100000)(hc:w.cell? ⟨B,o+u/64,none⟩=some (.int .u64 (x:Int))):Calls prog 90 #[.slice (some ⟨B,o,none⟩) len cap,.int .i64 (u:Int)] w fun e w'=>e=.returned (.bool (x.testBit (u % 64)))/\w'=w:=by
 go_in
 go_wp2_with fail
 go_ret
 exact⟨by rw[af6 x _ hx];rfl,rfl⟩
theorem af7(x k:Nat)(hx:x<18446744073709551616)(hk:k<64):bits BinOp.or IntKind.u64 (x:Int) (IntKind.u64.wrap (2^k))=((x|||2^k:Nat):Int):=by
 have h2:2^k<2^64:=Nat.pow_lt_pow_right (by decide) hk;have e:(2:Int) ^k=((2^k:Nat):Int):=by simp
 rw[e,wraps_u64 _ (Int.natCast_nonneg _) (by exact_mod_cast h2)];exact(bits_nat .u64 64 (by decide) wraps_u64 x (2^k) (by omega) h2).2
theorem amN(w:World)(B o len cap:Nat)(x:Nat)(u:Nat)(hx:x<18446744073709551616)(hu:u/64<len)(ku:u<100000)(hc:w.cell? ⟨B,o+u/64,none⟩=some (.int .u64 (x:Int)))(hf:w.frozen? ⟨B,o+u/64,none⟩=false):Calls prog 114 #[.slice (some ⟨B,o,none⟩) len cap,.int .i64 (u:Int)] w fun e w'=>e=.returned (.tuple #[])/\w'=w.drew.setCell ⟨B,o+u/64,none⟩ (.int .u64 ((x|||2^ (u % 64):Nat):Int)):=by
 go_in
 refine gW (S:=fun W=>W.cell? ⟨B,o+u/64,none⟩=some (.int .u64 (x:Int))) 10 (by kernel_rfl) rfl rfl rfl (by kernel_rfl) (by kernel_rfl) ?_;have aj:(fun W:World=>W.cell? ⟨B,o+u/64,none⟩=some (.int .u64 (x:Int))) w.drew:=hc;refine ai 0 4 (.slice (some ⟨B,o,none⟩) len cap) aj ?_;refine ai 1 5 (.int .i64 (u:Int)) aj ?_;refine pj 2 6 (.int .i64 ((u:Int) /64)) rfl rfl (by kernel_rfl) (by kernel_rfl) (by kernel_rfl) (fun _ _ _ h=>h) (Or.inl ⟨by rfl,fun W eP=>by go_simp;rw[Cv];omega⟩) aj ?_;refine pj 3 7 (.pointer (some ⟨B,o+u/64,none⟩)) rfl rfl (by kernel_rfl) (by kernel_rfl) (by kernel_rfl) (fun _ _ _ h=>h) (Or.inl ⟨by rfl,fun W eP=>by go_simp;rw[if_pos (by omega),show((u:Int) /64).toNat=u/64 by omega]⟩) aj ?_;refine ai 4 8 (.int .u64 (x:Int)) aj ?_;refine ai 5 9 (.int .i64 (u:Int)) aj ?_;refine pj 6 10 (.int .i64 ((u:Int) % 64)) rfl rfl (by kernel_rfl) (by kernel_rfl) (by kernel_rfl) (fun _ _ _ h=>h) (Or.inl ⟨by rfl,fun W eP=>by go_simp;exact Int.tmod_eq_emod_of_nonneg (by omega)⟩) aj ?_;refine pj 7 11 (.int .u64 (IntKind.u64.wrap (2^ (u % 64)))) rfl rfl (by kernel_rfl) (by kernel_rfl) (by kernel_rfl) (fun _ _ _ h=>h) (Or.inl ⟨by rfl,fun W eP=>by go_simp;rw[show((u:Int) % 64).toNat=u % 64 by omega]⟩) aj ?_;refine ai 8 12 (.int .u64 (bits .or .u64 (x:Int) (IntKind.u64.wrap (2^ (u % 64))))) aj ?_;refine pj 9 13 (.pointer (some ⟨B,o+u/64,none⟩)) rfl rfl (by kernel_rfl) (by kernel_rfl) (by kernel_rfl) (fun _ _ _ h=>h) (Or.inl ⟨by rfl,fun W eP=>by go_simp;rw[if_pos (by omega),show((u:Int) /64).toNat=u/64 by omega]⟩) aj ?_;simp only[Act.put,Aa,Ad,Ac];refine At (by kernel_rfl) ?_ _;unfold eJ;simp only[Al,Ag,Ai];go_simp;rw[af7 x _ hx (by omega)];go_end0;exact⟨rfl,rfl⟩
def nu(cs:Array Value)(co:Nat)(f t:Int):Array Value:=(cs.setIfInBounds co (.int .i64 f)).setIfInBounds (co+1) (.int .i64 t)
theorem OV(h:co+1<cs.size)(f t:Int):(nu cs co f t)[co]? =some (.int .i64 f):=by
 unfold nu;rw[C5 (by omega),C8 (by omega)]
theorem aha(h:co+1<cs.size)(f t:Int):(nu cs co f t)[co+1]? =some (.int .i64 t):=by
 unfold nu;rw[C8 (by simpa using h)]
theorem Is(f f' t:Int):(nu cs co f t).setIfInBounds co (.int .i64 f')=nu cs co f' t:=by
 unfold nu;rw[Array.setIfInBounds_comm _ _ (by omega),Ez]
theorem aaq(f t t':Int):(nu cs co f t).setIfInBounds (co+1) (.int .i64 t')=nu cs co f t':=by
 unfold nu;rw[Ez]
theorem adX(w:World)(b co:Nat)(cs:Array Value)(ty:TypeId)(f t st en wd:Int)(h:aq w b (nu cs co f t) ty)(EJ:co+1<cs.size)(h0:0<=en/\en<=10000000000000)(h1:0<=wd/\wd<=4):Calls prog 64 #[.pointer (some ⟨b,co,none⟩),.int .i64 st,.int .i64 en,.int .i64 wd] w fun e w'=>
 e=.returned (.bool (!(st==en&&en==t)))/\aa (fun i=>i=b) w w'/\aq w' b (nu cs co (if st=en then en+wd else en) en) ty:=by
 have c0:w.cell? ⟨b,co,none⟩=some (.int .i64 f):=(h.cell co).trans (OV EJ f t);have c1:w.cell? ⟨b,co+1,none⟩=some (.int .i64 t):=(h.cell (co+1)).trans (aha EJ f t);have f0:=h.frozen co;have f1:=h.frozen (co+1);have H:=ab h;clear h;by_cases e1:st=en
 ·subst e1;by_cases e2:st=t
  ·subst e2;go_in;go_wp2_with fail;go_ret;refine⟨by simp,((aa.refl (fun i=>i=b) w).setCell (p:=⟨b,co,none⟩) (Or.inl rfl) _).setCell (p:=⟨b,co,none⟩) (Or.inl rfl) _,?_⟩;have:=((H.out).setCell co (.int .i64 st)).setCell co (.int .i64 (st+wd));rw[Is,Is]at this;simpa using this
  ·have e3:(st==t)=false:=(by simpa using e2);go_in;go_wp2_with fail;go_ret;refine⟨by simp,(((aa.refl (fun i=>i=b) w).setCell (p:=⟨b,co,none⟩) (Or.inl rfl) _).setCell (p:=⟨b,co,none⟩) (Or.inl rfl) _).setCell (p:=⟨b,co+1,none⟩) (Or.inl rfl) _,?_⟩;have:=(((H.out).setCell co (.int .i64 st)).setCell co (.int .i64 (st+wd))).setCell (co+1) (.int .i64 st);rw[Is,Is,aaq]at this;simpa using this
 ·have e3:(st==en)=false:=by simpa using e1
  go_in
  go_wp2_with fail
  go_ret
  refine⟨by simp,((aa.refl (fun i=>i=b) w).setCell (p:=⟨b,co,none⟩) (Or.inl rfl) _).setCell (p:=⟨b,co+1,none⟩) (Or.inl rfl) _,?_⟩;have:=((H.out).setCell co (.int .i64 en)).setCell (co+1) (.int .i64 en);rw[Is,aaq]at this;exact this
theorem VJ(w:World)(c:Int):Calls prog 141 #[.int .i32 c] w fun e w'=>e=.returned (.bool (kD c))/\w'=w:=by
 go_in
 go_wp2_with fail
 all_goals go_ret
 all_goals refine⟨?_,rfl⟩
 all_goals refine congrArg Ending.returned ?_
 all_goals refine congrArg Value.bool ?_
 all_goals unfold kD
 all_goals rw[Bg]
 all_goals simp
 all_goals omega
theorem abT(w:World)(e a b:Int):Calls prog 113 #[.int .i64 e,.int .i32 a,.int .i32 b] w fun r w'=>r=.returned (.bool (eU e a b))/\w'=w:=by
 have H1:=fun W=>VJ W a
 have H2:=fun W=>VJ W b
 have h1:=ab H1;have h2:=ab H2;clear H1 H2;unfold eU;by_cases e0:e=0
 ·subst e0;go_in;go_wp2_with fail;go_ret;exact⟨rfl,rfl⟩
 ·by_cases e1:e=1
  ·subst e1;go_in;go_wp2_with fail;go_ret;exact⟨rfl,rfl⟩
  ·have b0:(e==0)=false:=(by simpa using e0);have b1:(e==1)=false:=(by simpa using e1);go_in;go_wp2_with fail;refine(h1.out w).mono ?_;rintro r w' ⟨rfl,rfl⟩;go_wp2_with fail;refine(h2.out _).mono ?_;rintro r w' ⟨rfl,rfl⟩;go_wp2_with fail;go_ret;exact⟨rfl,rfl⟩
theorem afR(w:World)(s:ByteArray)(p:Nat)(A B C:Int)(D:Bool)(hp:p<=s.size)(hs:s.size<=1000000000)(hT:ik w):Calls prog 111 #[.agg #[.string s,.int .i64 A,.int .i32 B,.int .i32 C,.bool D],.int .i64 (p:Int)] w fun e w'=>
 e=.returned (.tuple #[.int .i32 (if 0<p then((Lib.decodeLastL (s.extract 0 p).data.toList).1:Int)else B),.int .i32 (if p<s.size then((Lib.decodeGo (s.extract p s.size)).1:Int)else C)])/\aa af w w':=by
 have mh:(s.extract 0 p).size<=9223372036854775807:=by rw[extract_size s 0 p hp];omega
 have cL:=ab fun(W:World) (hW:ik W)=>ahg (s.extract 0 p) W mh hW
 have cD:=ab fun(W:World) (hW:ik W)=>aau (s.extract p s.size) W hW
 have HT:=ab hT;clear hT;generalize((Lib.decodeLastL (s.extract 0 p).data.toList).1:Int)=la at cL⊢;generalize((Lib.decodeLastL (s.extract 0 p).data.toList).2:Int)=QF at cL;generalize((Lib.decodeGo (s.extract p s.size)).1:Int)=lb at cD⊢;generalize((Lib.decodeGo (s.extract p s.size)).2:Int)=lb2 at cD;obtain⟨a,HA⟩:∃a,Hid (a=if 0<p then la else B):=⟨_,(rfl:_=_)⟩
 obtain⟨b,HB⟩:∃b,Hid (b=if p<s.size then lb else C):=⟨_,(rfl:_=_)⟩
 rw[<-HA.out,<-HB.out];go_in;go_wp2_with fail;have c0:(w.alloc (.cells #[.string s,.int .i64 A,.int .i32 B,.int .i32 C,.bool D] 105)).cell? ⟨w.heap.size,0,none⟩=some (.string s):=(aq.new w _ _).cell 0;have c2:(w.alloc (.cells #[.string s,.int .i64 A,.int .i32 B,.int .i32 C,.bool D] 105)).cell? ⟨w.heap.size,2,none⟩=some (.int .i32 B):=(aq.new w _ _).cell 2;have c3:(w.alloc (.cells #[.string s,.int .i64 A,.int .i32 B,.int .i32 C,.bool D] 105)).cell? ⟨w.heap.size,3,none⟩=some (.int .i32 C):=(aq.new w _ _).cell 3;have BB:=ab (aq.new w #[.string s,.int .i64 A,.int .i32 B,.int .i32 C,.bool D] 105);have KK:Hid (aa af w (w.alloc (.cells #[.string s,.int .i64 A,.int .i32 B,.int .i32 C,.bool D] 105))):=(aa.refl af w).alloc _;generalize hW:(w.alloc (.cells #[.string s,.int .i64 A,.int .i32 B,.int .i32 C,.bool D] 105))=W at*;clear hW;go_big_quiet (fail);have H5:=ab (HT.out.iU (KK.out.drewN nq));have K1:=ab (KK.out.drewN nq);by_cases h0:0<p
 ·have h0':(0:Int)<(p:Int):=by omega
  go_wp2_with fail
  refine(cL.out _ H5.out).mono ?_;rintro e w2 ⟨rfl,Pm⟩;have B1:aq (W.drewN nq) w.heap.size #[.string s,.int .i64 A,.int .i32 B,.int .i32 C,.bool D] 105:=BB.out;have d0:w2.cell? ⟨w.heap.size,0,none⟩=some (.string s):=(B1.kept Pm (fun h=>h)).cell 0;have HT2:=ab (H5.out.iU Pm);have K2:=ab (K1.out.trans Pm);clear Pm B1;by_cases h1:p<s.size
  ·have gP:(p:Int)<(s.size:Int):=(by omega);go_wp2_with fail;refine(cD.out _ HT2.out).mono ?_;rintro e w3 ⟨rfl,Ug⟩;go_wp2_with fail;go_ret2;rw[show a=_ from HA.out.trans (if_pos h0),show b=_ from HB.out.trans (if_pos h1)];exact⟨rfl,K2.out.trans Ug⟩
  ·have gP:¬(p:Int)<(s.size:Int):=(by omega);go_wp2_with fail;go_ret2;rw[show a=_ from HA.out.trans (if_pos h0),show b=_ from HB.out.trans (if_neg h1)];exact⟨rfl,K2.out⟩
 ·have h0':¬(0:Int)<(p:Int):=by omega
  by_cases h1:p<s.size
  ·have gP:(p:Int)<(s.size:Int):=(by omega);go_wp2_with fail;refine(cD.out _ H5.out).mono ?_;rintro e w3 ⟨rfl,Ug⟩;go_wp2_with fail;go_ret2;rw[show a=_ from HA.out.trans (if_neg h0),show b=_ from HB.out.trans (if_pos h1)];exact⟨rfl,K1.out.trans Ug⟩
  ·have gP:¬(p:Int)<(s.size:Int):=(by omega);go_wp2_with fail;go_ret2;rw[show a=_ from HA.out.trans (if_neg h0),show b=_ from HB.out.trans (if_neg h1)];exact⟨rfl,K1.out⟩
end Go.Proofs.YtpdnofhackjfdaaGreatDoor
