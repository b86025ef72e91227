/- A pattern withou -/
import Derived.Test.YtpdnofhackjfdaaGreatDoorP18
set_option linter.all false
set_option maxRecDepth 100000
set_option maxHeartbeats 4000000
namespace Go.Proofs.YtpdnofhackjfdaaGreatDoor
open Go.Proofs.Tryz
variable {cs:Array Value} {s:ByteArray} {C:CT} {a b:cQ} {p:Int} {M ms:List MS} {base co hi i j lo:Nat} {q:Nv} {T:PT} {V V':VS} {v:Value} {w:World}
def cV(a b:cQ):Prop:=(b.form=none->a.form=none)/\(b.rep=none->a.rep=none)/\(b.cls=none->a.cls=none)
def jb(a:cQ):Prop:=a.form=none/\a.rep=none/\a.cls=none
theorem cV.refl(a:cQ):cV a a:=⟨fun h=>h,fun h=>h,fun h=>h⟩
theorem cV.trans{c:cQ}(h:cV a b)(h':cV b c):cV a c:=⟨fun x=>h.1 (h'.1 x),fun x=>h.2.1 (h'.2.1 x),fun x=>h.2.2 (h'.2.2 x)⟩
theorem cV.o7(h:cV a b)(hb:jb b):jb a:=⟨h.1 hb.1,h.2.1 hb.2.1,h.2.2 hb.2.2⟩
theorem cV.eo(a:cQ)(e p:Int):cV a (a.eo e p):=by
 unfold cQ.eo cQ.put;(repeat' split)<;>first|exact cV.refl _|(refine⟨fun h=>?_,fun h=>?_,fun h=>?_⟩<;>first|exact h|simp at h)
theorem alI:(a.eo 4 p).rep≠none:=by
 cases h:a.rep with
 |none=>simp[cQ.eo,cQ.put,cQ.get,h]
 |some x=>simp[cQ.eo,cQ.get,h]
theorem alG:(a.eo 5 p).cls≠none:=by
 cases h:a.cls with
 |none=>simp[cQ.eo,cQ.put,cQ.get,h]
 |some x=>simp[cQ.eo,cQ.get,h]
theorem ac2:(a.eo 3 p).form≠none:=by
 cases h:a.form with
 |none=>simp[cQ.eo,cQ.put,cQ.get,h]
 |some x=>simp[cQ.eo,cQ.get,h]
theorem Nw(g:RG)(st:RS):cV st.bm (Ho g st).bm:=cV.eo _ _ _
theorem uw(g:RG)(l:List UInt8)(st:RS):cV st.bm (eM g l st).bm:=by
 unfold eM;split
 ·exact cV.refl _
 ·exact Nw g st
theorem acW(g:RG)(l:List UInt8)(st:RS):cV st.bm (pq g l st).bm:=by
 unfold pq;split
 ·exact Nw g st
 ·exact cV.refl _
theorem CS(g:RG)(l:List UInt8)(st:RS):cV st.bm (fq g l st).bm:=by
 unfold fq;split<;>exact cV.refl _
theorem WM(g:RG)(st:RS):cV st.bm (jr g st).1.bm:=by
 unfold jr;split
 ·exact cV.refl _
 ·exact Nw g st
theorem WR(g:RG)(st:RS):cV st.bm (fD g st).1.bm:=by
 unfold fD;split
 ·exact(WM g st).trans (WM g _)
 ·exact WM g st
theorem amn(g:RG)(st:RS):cV st.bm (rZ g st).1.bm:=by
 unfold rZ;split
 ·exact cV.refl _
 ·exact WR g st
theorem ame(g:RG)(st:RS):cV st.bm (eF g st).1.bm:=by
 unfold eF;split
 ·exact((WR g st).trans (amn g {(fD g st).1 with next:=(fD g st).1.next+1})).trans (uw g _ _)
 ·exact(WR g st).trans (uw g _ _)
theorem WT(g:RG)(a:PT)(st:RS):cV st.bm (gJ g a st).1.bm:=by
 unfold gJ;split
 ·exact CS g _ {st with next:=st.next+1}
 ·split
  ·exact CS g _ {st with next:=st.next+1}
  ·split
   ·exact CS g _ {st with next:=st.next+1}
   ·split
    ·have h1:=ame g {st with next:=st.next+1};simp only;refine cV.trans ?_ (CS g _ _);split
     ·exact h1.trans (cV.eo _ _ _)
     ·exact h1
    ·exact cV.refl _
theorem amy(g:RG)(e:Bool)(st:RS):cV st.bm (lT g e st).1.bm:=by
 unfold lT
 cases e
 ·exact acW g _ st
 ·exact uw g _ st
theorem adK(g:RG)(st:RS):cV st.bm (df g st).1.bm:=(CS g _ st).trans (amy g _ _)
theorem adU(g:RG)(p:Int)(x:RS×Int):cV x.1.bm (qO g p x).bm:=by
 unfold qO;split
 ·have h1:=adK g {x.1 with next:=x.1.next+1};split
  ·exact h1.trans (cV.eo _ _ _)
  ·exact h1
 ·exact cV.refl _
theorem adB(g:RG)(st:RS):cV st.bm (fU g st).bm:=by
 unfold fU;split
 ·exact cV.refl _
 ·exact(adK g st).trans (adU g _ _)
theorem Rh(g:RG):∀(m:Nat) (st:RS),cV st.bm (mD g m st).bm
 |0,st=>cV.refl _
 |m+1,st=>by
  unfold mD;split
  ·exact cV.refl _
  ·exact(adB g st).trans (Rh g m _)
theorem amj(g:RG)(st:RS):cV st.bm (rY g st).bm:=(((CS g _ st).trans (adB g _)).trans (Rh g _ _)).trans (uw g _ _)
theorem adH(g:RG)(first:Nat):∀(m:Nat) (st:RS),cV st.bm (lA g first m st).bm
 |0,st=>cV.refl _
 |m+1,st=>by
  unfold lA;split
  ·exact adH g first m {st with next:=st.next+1}
  ·exact cV.refl _
theorem amv(g:RG)(first:Nat)(st:RS):cV st.bm (mZ g first st).bm:=by
 unfold mZ;split
 ·exact cV.eo _ _ _
 ·exact cV.refl _
theorem ams(g:RG)(st:RS):cV st.bm (pz g st).bm:=(((uw g _ st).trans (adH g _ _ _)).trans (amv g _ _)).trans (uw g _ _)
theorem aml(g:RG)(st:RS):cV st.bm (iu g st).bm:=by
 unfold iu;split
 ·exact cV.refl _
 ·split
  ·exact ams g {st with next:=st.next+2,aR:=st.aR+1}
  ·exact(CS g _ {st with next:=st.next+1}).trans (uw g _ _)
theorem amd(g:RG)(aE:RS->RS×PT)(halt:∀st,cV st.bm (aE st).1.bm)(st:RS):cV st.bm (dq g aE st).1.bm:=by
 unfold dq;split
 ·exact((aml g {st with next:=st.next+1}).trans (halt _)).trans (uw g _ _)
 ·split
  ·exact amj g {st with next:=st.next+1}
  ·split
   ·exact uw g _ {st with next:=st.next+1}
   ·split
    ·exact cV.refl _
    ·exact acW g _ st
theorem Rl(g:RG)(aE:RS->RS×PT)(halt:∀st,cV st.bm (aE st).1.bm):∀(m:Nat) (st:RS) (aA:List PT),cV st.bm (gS g aE m st aA).1.bm
 |0,st,aA=>cV.refl _
 |m+1,st,aA=>by
  unfold gS;split
  ·exact cV.refl _
  ·exact((amd g aE halt st).trans (WT g _ _)).trans (Rl g aE halt m _ _)
theorem adP(g:RG)(aE:RS->RS×PT)(halt:∀st,cV st.bm (aE st).1.bm)(st:RS):cV st.bm (dK g aE st).1.bm:=Rl g aE halt _ _ _
theorem JM(g:RG)(aE:RS->RS×PT)(halt:∀st,cV st.bm (aE st).1.bm):∀(m:Nat) (st:RS) (aA:List PT),cV st.bm (gi g aE m st aA).1.bm
 |0,st,aA=>cV.refl _
 |m+1,st,aA=>by
  unfold gi;split
  ·exact(adP g aE halt {st with next:=st.next+1}).trans (JM g aE halt m _ _)
  ·exact cV.refl _
theorem Rf(g:RG):∀(k:Nat) (st:RS),cV st.bm (aQ g k st).1.bm
 |0,st=>cV.refl _
 |k+1,st=>by
  unfold aQ;exact(adP g _ (Rf g k) st).trans (JM g _ (Rf g k) _ _ _)
theorem Wy:∀{a b:List CT},CT.ey a->CT.ey b->CT.ey (a++b)
 | [],b,_,hb=>hb
 |c::a,b,ha,hb=>by
  unfold CT.ey at ha;show CT.ey (c::(a++b))
  unfold CT.ey;exact⟨ha.1,Wy ha.2 hb⟩
theorem Nl{c:CT}(h:c.ok):CT.ey [c]:=by unfold CT.ey;exact⟨h,by unfold CT.ey;trivial⟩
theorem M_(sp:bF)(fo nt:Bool):(kj sp fo nt).ok:=by
 unfold kj CT.ok CT.ey;simp
theorem aax(e:Int):(u9 e).ok:=by
 unfold u9 CT.ok CT.ey;simp
theorem aap(g:RG)(st:RS):0<=(jr g st).2/\(jr g st).2<=9:=by
 unfold jr;split
 ·rename_i h
  have:=VU h;simp only;omega
 ·simp
theorem ac7(g:RG)(st:RS):0<=(fD g st).2/\(fD g st).2<=99:=by
 have h1:=aap g st;unfold fD;split
 ·have h2:=aap g (jr g st).1;simp only;omega
 ·omega
theorem ai7(g:RG)(st:RS): -1<=(rZ g st).2/\(rZ g st).2<=99:=by
 have h1:=ac7 g st;unfold rZ;split
 ·simp
 ·omega
theorem agd(g:RG)(st:RS):(0<=(eF g st).2.1/\(eF g st).2.1<=99)/\(-1<=(eF g st).2.2/\(eF g st).2.2<=99):=by
 have h1:=ac7 g st;have h2:=ai7 g {(fD g st).1 with next:=(fD g st).1.next+1};unfold eF;split
 ·exact⟨h1,h2⟩
 ·simp only;omega
theorem RT{a:CT}(ha:a.ok){lo hi:Int}(lz:Bool)(h:0<=lo/\lo<=20/\ -1<=hi/\hi<=20/\(hi= -1\/lo<=hi)):(tO a lo hi lz).ok:=by
 unfold tO CT.ok;exact⟨by omega,by simp,by simp,fun _=>h,Nl ha⟩
theorem anC(g:RG){a:CT}(ha:a.ok)(p:PT)(st:RS)(hc:jb (gJ g p st).1.bm):(mh g a st).ok:=by
 unfold gJ at hc;unfold mh;split
 ·exact RT ha _ (by omega)
 ·rename_i h1
  rw[if_neg h1]at hc;split
  ·exact RT ha _ (by omega)
  ·rename_i h2
   rw[if_neg h2]at hc;split
   ·exact RT ha _ (by omega)
   ·rename_i h3
    rw[if_neg h3]at hc;split
    ·rename_i h4
     rw[if_pos h4]at hc;have hb:=agd g {st with next:=st.next+1};have ji:=(CS g _ _).o7 hc;refine RT ha _ ?_;by_cases hx:(eF g {st with next:=st.next+1}).2.1>20\/(eF g {st with next:=st.next+1}).2.2>20\/((eF g {st with next:=st.next+1}).2.2≠ -1/\(eF g {st with next:=st.next+1}).2.2<(eF g {st with next:=st.next+1}).2.1)
     ·rw[if_pos hx]at ji;exact absurd ji.2.1 alI
     ·omega
    ·exact ha
theorem afQ(g:RG)(aE:RS->RS×PT)(bU:Bool->RS->CT)(nJ:∀fo st,jb (aE st).1.bm->(bU fo st).ok)(fo:Bool)(st:RS)(hc:jb (dq g aE st).1.bm):(jG g bU fo st).ok:=by
 unfold dq at hc;unfold jG;split
 ·rename_i h1
  rw[if_pos h1]at hc;have dR:=(uw g _ _).o7 (show jb (eM g JD (aE (iu g {st with next:=st.next+1})).1).bm from hc)
  have:∀(fo:Bool) (gr:Int),(CT.node 2 [] false false 0 gr 0 0 false [bU fo (iu g {st with next:=st.next+1})]).ok:=by
   intro fo gr;unfold CT.ok;exact⟨by omega,by simp,by simp,by simp,Nl (nJ _ _ dR)⟩
  unfold sC;split
  ·exact this _ _
  ·split
   ·exact this _ _
   ·exact this _ _
 ·split
  ·exact M_ _ _ _
  ·split
   ·unfold oh;(repeat' split)<;>first|exact M_ _ _ _|exact aax _
   ·split
    ·unfold IG;split<;>first|exact M_ _ _ _|exact aax _
    ·exact M_ _ _ _
theorem aey(g:RG)(aE:RS->RS×PT)(halt:∀st,cV st.bm (aE st).1.bm)(bU:Bool->RS->CT)(nJ:∀fo st,jb (aE st).1.bm->(bU fo st).ok)(fo:Bool):∀(m:Nat) (st:RS) (aA:List CT) (ps:List PT),CT.ey aA->jb (gS g aE m st ps).1.bm->CT.ey (km g aE bU fo m st aA)
 |0,st,aA,ps,ha,hc=>ha
 |m+1,st,aA,ps,ha,hc=>by
  unfold gS at hc;unfold km;split
  ·exact ha
  ·rename_i h1
   rw[if_neg h1]at hc;have c1:=(Rl g aE halt m _ _).o7 hc;have c2:=(WT g _ _).o7 c1;exact aey g aE halt bU nJ fo m _ _ _ (Wy ha (Nl (anC g (afQ g aE bU nJ fo st c2) _ _ c1))) hc
theorem aew(g:RG)(aE:RS->RS×PT)(halt:∀st,cV st.bm (aE st).1.bm)(bU:Bool->RS->CT)(nJ:∀fo st,jb (aE st).1.bm->(bU fo st).ok)(fo:Bool)(st:RS)(hc:jb (dK g aE st).1.bm):(lJ g aE bU fo st).ok:=by
 have:=aey g aE halt bU nJ fo _ st [] [] (by unfold CT.ey;trivial) hc;unfold lJ CT.ok;exact⟨by omega,by simp,by simp,by simp,this⟩
theorem ZM(g:RG)(aE:RS->RS×PT)(halt:∀st,cV st.bm (aE st).1.bm)(bU:Bool->RS->CT)(nJ:∀fo st,jb (aE st).1.bm->(bU fo st).ok)(fo:Bool):∀(m:Nat) (st:RS) (aA:List CT) (ps:List PT),CT.ey aA->aA≠ []->jb (gi g aE m st ps).1.bm->CT.ey (jU g aE bU fo m st aA)/\jU g aE bU fo m st aA≠ []
 |0,st,aA,ps,ha,az,hc=>⟨ha,az⟩
 |m+1,st,aA,ps,ha,az,hc=>by
  unfold gi at hc;unfold jU;split
  ·rename_i h1
   rw[if_pos h1]at hc;have c1:=(JM g aE halt m _ _).o7 hc;exact ZM g aE halt bU nJ fo m _ _ _ (Wy ha (Nl (aew g aE halt bU nJ fo _ c1))) (by simp) hc
  ·exact⟨ha,az⟩
theorem TC(g:RG):∀(k:Nat) (fo:Bool) (st:RS),jb (aQ g k st).1.bm->(dh g k fo st).ok
 |0,fo,st,hc=>M_ _ _ _
 |k+1,fo,st,hc=>by
  unfold aQ at hc;have hle:=Rf g k;have c1:=(JM g (aQ g k) hle _ _ _).o7 hc;have h1:=aew g (aQ g k) hle (dh g k) (fun fo st=>TC g k fo st) fo st c1;have h2:=ZM g (aQ g k) hle (dh g k) (fun fo st=>TC g k fo st) fo _ _ _ _ (Nl h1) (by simp) hc;unfold dh CT.ok;exact⟨by omega,by simp,fun _=>h2.2,by simp,h2.1⟩
theorem apq(g:RG)(st:RS)(hc:jb (dY g st).1.bm):(pL g st).ok:=by
 refine TC g _ false st ?_;unfold dY at hc;split at hc
 ·exact hc
 ·exact(Nw g _).o7 hc
open Go.RowKit Go.Maps
theorem aeD:∀(ts:List PT) (cs:List CT),cs.length=ts.length->(∀i,(h:i<ts.length)->(h':i<cs.length)->(cs[i]).sz=(ts[i]).size)->CT.cG cs=PT.i_ ts
 | [],[],_,_=>by simp[CT.cG,PT.i_]
 |t::ts,c::cs,hl,h=>by
  have h0:=h 0 (by simp) (by simp);have hr:=aeD ts cs (by simpa using hl) (fun i h1 h2=>by have:=h (i+1) (by simpa using h1) (by simpa using h2);simpa using this);simp only[CT.cG,PT.i_];simp only[Ai]at h0;omega
 | [],c::cs,hl,_=>by simp at hl
 |t::ts,[],hl,_=>by simp at hl
theorem cI.size_eq(h:cI w lo hi q T C):C.sz=T.size:=by
 induction h with
 |mk q tk pb bs ts cs V S sp fo nt hn hb hc hk hs oC hr ph ih=>
  have e:=aeD ts cs hn.2.1 (fun i h1 h2=>ih i h1 h2);have e2:(cs.length:Int)=ts.length:=by rw[hn.2.1]
  unfold CT.sz PT.size;rcases ph with⟨h1,h2,_⟩|⟨h1,h2⟩|⟨h1,h2⟩|⟨h1,h2⟩|⟨h1,h2,_⟩|⟨h1,h2⟩<;>rw[h1,h2,e]<;>simp[e2]
theorem amW{F:cQ}(h:(pick F).1=0):jb F/\F.u6=none:=by
 unfold pick at h;unfold jb
 cases h1:F.bl<;>rw[h1]at h<;>simp only at h
 ·cases h2:F.form<;>rw[h2]at h<;>simp only at h
  ·cases h3:F.rep<;>rw[h3]at h<;>simp only at h
   ·cases h4:F.cls<;>rw[h4]at h<;>simp only at h
    ·cases h5:F.CJ<;>rw[h5]at h<;>simp only at h
     ·cases h6:F.u6<;>rw[h6]at h<;>simp only at h
      ·exact⟨⟨rfl,rfl,rfl⟩,rfl⟩
      ·omega
     ·omega
    ·omega
   ·omega
  ·omega
 ·omega
theorem alF:(a.eo 7 p).u6≠none:=by
 cases h:a.u6 with
 |none=>simp[cQ.eo,cQ.put,cQ.get,h]
 |some x=>simp[cQ.eo,cQ.get,h]
theorem ahR{g:RG}(h:(pick (lK g s)).1=0):jb (dY g (di s)).1.bm/\(dY g (di s)).2.size<=1000:=by
 obtain⟨h1,h2⟩:=amW h;unfold lK at h1 h2;by_cases hs:1000<(dY g (di s)).2.size
 ·rw[if_pos hs]at h2;exact absurd h2 alF
 ·rw[if_neg hs]at h1;exact⟨h1,by omega⟩
theorem lk.V9{s:Int}(h:lk M V s V'):V'.bD.length+V.aL.length<=V.bD.length+V'.aL.length:=by
 induction h with
 |aJ V s v h hv=>omega
 |stop V s m hn h hk=>simp[VS.put]
 |take V s m hn h hk=>simp[VS.put,VS.iq];omega
 |one V V' s m hn h hk hv ih=>simp only[VS.put,Aj];omega
 |cA V V' V2 s m hn h hk hv hw ih uj=>simp only[VS.put,Aj];omega
theorem qi.V9{at_:Nat}(h:qi M at_ V V'):V'.bD.length+V.aL.length<=V.bD.length+V'.aL.length:=by
 induction h with
 |done a V h=>omega
 |step a V V' V2 t h hv hl ih=>have:=hv.V9;omega
def oU(w:World)(lo hi base:Nat)(v:Value)(ms:List MS):Prop:=∃ws:List Sv,w.ownsRow base 113 6 v ms.length (jw ws)/\ws.length=ms.length/\∀i,(h:i<ws.length)->(h':i<ms.length)->gu w lo hi ws[i] ms[i]
theorem oU.kept{w':World}{K:Nat->Prop}(h:oU w lo hi base v ms)(k:aa K w w')(h1:∀i,lo<=i->i<hi->¬K i)(h2:∀i,v.ownBlock=some i->¬K i)(hle:hi<=w.heap.size):oU w' lo hi base v ms:=by
 obtain⟨ws,a1,a2,a3⟩:=h;exact⟨ws,bY a1 k h2,a2,fun i b1 b2=>(a3 i b1 b2).kept k h1 hle⟩
structure so(C:CT)(V:VS)(j:Nat):Prop where
 first:(eY C).2.2=j
 acw:qi (eY C).1 0 (VS.first (eY C).1.length j) V
 inv:∃R,jE (eY C).1 R V/\Shut (eY C).1 R/\R j
 all:oO (eY C).1
 num:∀t,(t=j\/∃(s:Nat) (m:MS),s∈V.aL/\(eY C).1[s]? =some m/\m.kind=1/\t=m.next.toNat)->∃u:Nat,V.num[t]? =some (u:Int)
theorem so.exists(h:C.ok)(hs:C.sz<=1000):∃V j,so C V j/\(eY C).1.length<=4001/\1<=(eY C).1.length:=by
 obtain⟨R,h1,⟨j,h2,h3⟩,h4,h5,h6⟩:=ago h hs;obtain⟨V,v1,v2,v3⟩:=al1 h1 h3;exact⟨V,j,⟨h2,v1,⟨R,v2,h1,h3⟩,h4,v3⟩,h6,h5⟩
theorem so.adj(h:so C V j):V.aL.length<=(eY C).1.length/\V.bD.length<=(eY C).1.length+1/\(∀s∈V.aL,s<(eY C).1.length)/\j<(eY C).1.length/\V.num.length=(eY C).1.length:=by
 obtain⟨R,h1,h2,h3⟩:=h.inv;have a:=h1.adi;have b:=h.acw.V9;simp only[VS.first,Av,A8]at b;refine⟨a,by omega,fun s hs=>?_,?_,h1.len⟩
 ·obtain⟨k,hk,qG⟩:=C3 hs;have:=h1.at_ k s (by rw[Ae hk,qG]);have:=(Ag.1 this).1;rw[h1.len]at this;exact this
 ·obtain⟨m,hm,_⟩:=h2.cl j h3;exact(Ag.1 hm).1
theorem so.start(h:so C V j):∃u:Nat,V.num.getD j 0=(u:Int)/\u<V.aL.length:=by
 obtain⟨u,hu⟩:=h.num j (Or.inl rfl);obtain⟨R,h1,_⟩:=h.inv;obtain⟨k,hk,aN⟩:=h1.has j u hu (by omega);have e:k=u:=by omega
 subst e;exact⟨k,by rw[Af,hu];rfl,(Ag.1 aN).1⟩
theorem dr.iw{b:Nat}{st:List MS}(h:dr w b lo hi v st)(az:st≠ []):∃g c vs,v=.slice (some ⟨g,0,none⟩) st.length c/\je w g vs st/\∀i,(h:i<vs.length)->(h':i<st.length)->gu w lo hi vs[i] st[i]:=by
 obtain⟨vs,h1,h2,h3⟩:=h.row;obtain⟨hx,gO⟩:=h1;rcases gO with⟨_,h0⟩|⟨g,cap,aM,rfl,a1,a2,a3,a4,a5,a6⟩
 ·exact absurd (Ax.1 h0) az
 ·refine⟨g,cap,vs,rfl,⟨h2,fun i hi' j hj=>?_,(Am.1 a2).1,fun i b1 b2=>⟨(h3 i b1 b2).k,(h3 i b1 b2).nx,(h3 i b1 b2).ot⟩⟩,h3⟩;have hf:=Pj vs i (by omega) j hj;rw[<-hf,<-a6,Aw (by omega)];simp only[World.cell?,a2];simp
theorem ale(W:World)(p q:Int):(Instr.field 115 (.agg #[.int .i64 p,.int .i64 q]) 1).run prog W=.ok (.int .i64 q) W:=by
 simp[Instr.field,asAgg,go_sem]
theorem oU.block(h:oU w lo hi base v ms)(hi':v.ownBlock=some i):base<=i/\i<w.heap.size:=by
 obtain⟨ws,a1,_⟩:=h;exact dE a1 hi'
theorem akR{f:Func}{Q:Ending->World->Prop}{a:Act}{W:World}{c:Nat}{q:Int}(mw:f.results=#[ResultVar.cell i 73])(sZ:a.tmps.getD i undef=.pointer (some ⟨c,0,none⟩))(hd:a.defers=[])
 (hb:aq W c #[v,.int .i64 p,.int .i64 q] 73)(hQ:Q (.returned (.agg #[v,.int .i64 p,.int .i64 q])) W)(hv:∃ao n k,v=.slice ao n k:=by exact⟨_,_,_,rfl⟩):bodyPost prog f Q Exit.ret a W:=by
 have r0:W.cell? ⟨c,0,none⟩=some v:=hb.cell 0;have r1:W.cell? ⟨c,1,none⟩=some (.int .i64 p):=hb.cell 1;have r2:W.cell? ⟨c,2,none⟩=some (.int .i64 q):=hb.cell 2;have gg:a.tmps[i]?.getD undef=.pointer (some ⟨c,0,none⟩):=by simpa using sZ
 obtain⟨ao,n,k,rfl⟩:=hv;exact Bi (v:=.agg #[.slice ao n k,.int .i64 p,.int .i64 q]) (by simp[results,mw,go_sem,gg,r0,r1,r2]) hd hQ
theorem afA(hP:cI w lo hi q T C)(hle:hi<=w.heap.size)(dD:C.ok)(aP:C.sz<=1000)(x:Int)(y:Option Nat):
 Calls prog 23 #[tt q x y] w fun e w'=>∃(v':Value) (V:VS) (j:Nat),e=.returned (.agg #[v',.int .i64 (V.num.getD j 0),.int .i64 x])/\aa af w w'/\so C V j/\oU w' lo hi w.heap.size v' (sorted (eY C).1 V)/\(eY C).1.length<=4001:=by
 obtain⟨V,j,Uw,cT,Qg⟩:=so.exists dD aP;obtain⟨o1,o2,o3,o4,o5⟩:=Uw.adj;have iz:=od C dD aP;have AV:=CT.ze C dD;have ML:da [bN].length (0,0):=by unfold da;simp
 have PO:=ab (hP.amM (b:=w.heap.size+1+1) dD aP);have kA:aa af w ((w.alloc (.cells (gT q x y) 67)).alloc (.cells #[.slice none 0 0,.int .i64 0,.int .i64 0] 73)):=((aa.refl af w).alloc _).alloc _;have kB:aa af w (((w.alloc (.cells (gT q x y) 67)).alloc (.cells #[.slice none 0 0,.int .i64 0,.int .i64 0] 73)).alloc (.cells #[.slice none 0 0] 109)):=kA.alloc _
 have wR:dr (((w.alloc (.cells (gT q x y) 67)).alloc (.cells #[.slice none 0 0,.int .i64 0,.int .i64 0] 73)).alloc (.cells #[.slice none 0 0] 109)) (w.heap.size+1+1) lo hi (.slice none 0 0) []:=
  ⟨by have:=aq.new ((w.alloc (.cells (gT q x y) 67)).alloc (.cells #[.slice none 0 0,.int .i64 0,.int .i64 0] 73)) #[.slice none 0 0] 109;simpa using this,⟨[],A6 _ _ _ _,rfl,fun i h=>by simp at h⟩,by omega,by simp⟩
 have F1:=IA wR (gu.zero _ lo hi) (by simp);simp only[Sv.val,Sv.cells]at F1;have F1:=ab F1
 have KQ:bc (((w.alloc (.cells (gT q x y) 67)).alloc (.cells #[.slice none 0 0,.int .i64 0,.int .i64 0] 73)).alloc (.cells #[.slice none 0 0] 109)) (w.heap.size+1+1) (.slice none 0 0) w.heap.size (gT q x y) 67:=
  ⟨((aq.new w (gT q x y) 67).alloc _).alloc _,fun hx=>by rcases hx with hx|hx;(·omega);(·cases hx)⟩
 have KR:bc (((w.alloc (.cells (gT q x y) 67)).alloc (.cells #[.slice none 0 0,.int .i64 0,.int .i64 0] 73)).alloc (.cells #[.slice none 0 0] 109)) (w.heap.size+1+1) (.slice none 0 0) (w.heap.size+1) #[.slice none 0 0,.int .i64 0,.int .i64 0] 73:=
  ⟨by have:=(aq.new (w.alloc (.cells (gT q x y) 67)) #[.slice none 0 0,.int .i64 0,.int .i64 0] 73).alloc (.cells #[.slice none 0 0] 109);simpa using this,fun hx=>by rcases hx with hx|hx;(·omega);(·cases hx)⟩
 have PK:=ab (And.intro KQ (And.intro KR (And.intro kB wR)));have Oo:=ab Uw;have DK:=ab o3;clear kA kB wR KQ KR hP Uw o3 iz;simp only[tt];simp only[gT]at*;go_in;go_wp2_with fail;refine(F1.o).mono ?_;rintro e w3 ⟨rfl,v3,h3,k3⟩;obtain⟨KQ,KR,kB,wR⟩:=PK.o;have m0:=KQ.aX k3;have m1:=KR.aX k3;have b0:aq w3 w.heap.size (gT q x y) 67:=m0.aj;obtain⟨t0,t1,t2,t3,t4,t5,t6,t7,t8,t9⟩:=b0.NM;have S0:fa lo hi w (((w.alloc (.cells (gT q x y) 67)).alloc (.cells #[.slice none 0 0,.int .i64 0,.int .i64 0] 73)).alloc (.cells #[.slice none 0 0] 109)):=fun i _ h2=>kB.block i (by omega) (fun hx=>hx)
 have S3:=S0.aX wR k3;have F2:=PO.o w3 v3 [bN] (0,0) h3 ML S3 (by simp;omega);simp only[Nv.val,Nv.cells,cJ]at F2;have F2:=ab F2;have W3:aa af w w3:=kB.yN k3.kept (fun i hi'=>by have:=wR.au hi';omega);have mN:=ab (And.intro m0 (And.intro m1 (And.intro W3 h3)));have aqI:=k3.kept.size;have FJ:=h3.aj.lt;clear KQ KR kB wR m0 m1 b0 S0 S3 h3 k3 F1 PK W3 t8 t9;go_wp2_with fail;refine(F2.o).mono ?_;rintro e w4 ⟨rfl,v4,h4,k4⟩;obtain⟨m0,m1,W3,h3⟩:=mN.o;have n0:=m0.aX k4;have n1:=m1.aX k4;have W4:aa af w w4:=W3.yN k4.kept (fun i hi'=>by have:=h3.au hi';omega)
 obtain⟨g,c,vs,GJ,ab0,qH⟩:=h4.iw (by intro e;have:(eY C).1.length=0:=by rw[show(eY C).1=[]from e];rfl
                                     omega)
 subst GJ;have c4:w4.cell? ⟨w.heap.size+1+1,0,none⟩=some (.slice (some ⟨g,0,none⟩) (eY C).1.length c):=h4.aj.cell 0;have aby:=Oo.o.first
 have aqM:=W4.size;have F3:=ajT (c:=c) (lo:=lo) (hi:=hi) (start:=j) (VF:=V) ab0 qH (by omega) Oo.o.all cT Oo.o.acw (by omega) (by omega) DK.o o4;have F3:=ab F3;have hmv:=ale w4 (bu C [bN] (0,0)).2.1 (bu C [bN] (0,0)).2.2;have U1:(bu C [bN] (0,0)).2.2=(j:Int):=aby
 rw[U1]at hmv;simp only;rw[U1];have b0:aq w4 w.heap.size (gT q x y) 67:=n0.aj;have kh:=ab (And.intro n0.aj (And.intro n1.aj W4));have UL:=h4.aj.lt;clear m0 m1 W3 h3 n0 n1 W4 ab0 qH h4 k4 F2 mN b0 aby U1;go_wp2_with fail;refine(F3.o).mono ?_;rintro e w5 ⟨v',ws,rfl,k5,r1,r2,r3⟩;obtain⟨n0,n1,W4⟩:=kh.o;have p0:=n0.kept k5 (fun hx=>hx);have p1:=n1.kept k5 (fun hx=>hx);have c8:w5.cell? ⟨w.heap.size,8,none⟩=some (.int .i64 x):=p0.cell 8;have q0:w5.cell? ⟨w.heap.size+1,0,none⟩=some (.slice none 0 0):=p1.cell 0;have q1:w5.cell? ⟨w.heap.size+1,1,none⟩=some (.int .i64 0):=p1.cell 1;have q2:w5.cell? ⟨w.heap.size+1,2,none⟩=some (.int .i64 0):=p1.cell 2;have g0:=p1.frozen 0;have g1:=p1.frozen 1;have g2:=p1.frozen 2;obtain⟨OS,cv,rfl⟩:=cK r1;have s5:=k5.size;have MC:oU w5 lo hi w4.heap.size (.slice OS V.aL.length cv) (sorted (eY C).1 V):=⟨ws,by simpa[sorted]using r1,by simpa[sorted]using r2,r3⟩;have ax:Hid (aa af w w5/\oU w5 lo hi w4.heap.size (.slice OS V.aL.length cv) (sorted (eY C).1 V)/\aq w5 (w.heap.size+1) #[.slice none 0 0,.int .i64 0,.int .i64 0] 73):=⟨W4.trans k5,MC,p1⟩;generalize hu:V.num.getD j 0=u at*;have HU:=ab hu;clear n0 n1 W4 p0 p1 r1 r2 r3 k5 F3 kh MC hu;go_wp2_with fail;obtain⟨f1,f2,f3⟩:=ax.o;have B3:=((f3.setCell 0 (.slice OS V.aL.length cv)).setCell 1 (.int .i64 u)).setCell 2 (.int .i64 x)
 have k8:aa (fun i=>i=w.heap.size+1) w5 (((w5.setCell ⟨w.heap.size+1,0,none⟩ (.slice OS V.aL.length cv)).setCell ⟨w.heap.size+1,1,none⟩ (.int .i64 u)).setCell ⟨w.heap.size+1,2,none⟩ (.int .i64 x)):=
  (((aa.refl (fun i=>i=w.heap.size+1) w5).setCell (p:=⟨w.heap.size+1,0,none⟩) (Or.inl rfl) _).setCell (p:=⟨w.heap.size+1,1,none⟩) (Or.inl rfl) _).setCell (p:=⟨w.heap.size+1,2,none⟩) (Or.inl rfl) _
 refine akR results23 rfl rfl B3 ⟨_,V,j,by rw[HU.o],f1.yN k8 (fun i hi'=>by omega),Oo.o,?_,cT⟩;have f2':=f2.kept k8 (fun i _ h2 e=>by omega) (fun i hi' e=>by have:=f2.block hi';omega) (by omega);obtain⟨ws',g1',g2',g3'⟩:=f2';exact⟨ws',CM g1' (by omega),g2',g3'⟩
def kI(c:Int):Bool:=c==95||(decide (48<=c)&&decide (c<=57))||(decide (65<=c)&&decide (c<=90))||(decide (97<=c)&&decide (c<=122))
def e_(e ahead gM:Int):Bool:=if e=0 then ahead== -1 else if e=1 then gM== -1 else(kI ahead !=kI gM)==(e==2)
def Lc(s:ByteArray)(i:Nat):Int:=if i=0 then-1 else(fP s).bl (i-1)
theorem Xc(h:(aF s).length<=i):(fP s).bl i= -1:=by
 unfold TX.bl fP;simp[Cj h]
theorem ahl(s:ByteArray)(p:Nat)(h:p<s.size):(Utf8.decode s p).1<=1114111:=Lib.rune_le s p
theorem Rv(h:i<(aF s).length):0<=(fP s).bl i/\(fP s).bl i<=1114111:=by
 rw[Nz h];have:=ahl s (bd s i) (u2 h);omega
theorem afe(c:Int):kI c=bV (We 119) c:=by
 unfold kI We;rw[Be];simp[bV];omega
theorem ajx(s:ByteArray)(e:Int)(hi:i<=(aF s).length):e_ e (Lc s i) ((fP s).bl i)=EO (fP s) e i:=by
 have hl:(fP s).l.length=(aF s).length:=rfl
 have w1:kI (Lc s i)=(fP s).wm ((i:Int)-1):=by
  unfold Lc TX.wm;by_cases h0:i=0
  ·subst h0;rw[if_pos rfl];simp[kI]
  ·rw[if_neg h0,afe,hl];have:decide (0<=(i:Int)-1)=true:=by simp;omega
   have h2:decide ((i:Int)-1<((aF s).length:Int))=true:=by simp;omega
   rw[this,h2,show((i:Int)-1).toNat=i-1 by omega];simp
 have w2:kI ((fP s).bl i)=(fP s).wm (i:Int):=by
  unfold TX.wm;rw[hl];by_cases aw:i<(aF s).length
  ·rw[afe];simp[aw]
  ·rw[Xc (by omega)];have:decide ((i:Int)<((aF s).length:Int))=false:=by simp;omega
   rw[this];simp[kI]
 unfold e_ EO;by_cases e0:e=0
 ·rw[if_pos e0,if_pos e0];unfold Lc;by_cases h0:i=0
  ·subst h0;simp
  ·rw[if_neg h0];have:=Rv (s:=s) (i:=i-1) (by omega);rw[Be];simp;omega
 ·rw[if_neg e0,if_neg e0];by_cases e1:e=1
  ·rw[if_pos e1,if_pos e1,hl];by_cases aw:i<(aF s).length
   ·have:=Rv aw;rw[Be];simp;omega
   ·rw[Xc (by omega)];rw[Be];simp;omega
  ·rw[if_neg e1,if_neg e1,w1,w2];by_cases e2:e=2
   ·subst e2;simp
   ·rw[if_neg e2];have:(e==2)=false:=(by simpa using e2);rw[this];simp
theorem ae_(s:ByteArray)(p:Nat)(w:World)(hp:p<=s.size)(hs:s.size<=1000000000)(hT:jf w):Calls prog 62 #[.string s,.int .i64 (p:Int)] w fun e w'=>e=.returned (.int .i64 (max ((Lib.decodeGo (s.extract p s.size)).2:Int) 1))/\aa af w w':=by
 have cD:=aao (s.extract p s.size) w hT;go_in;go_wp2_with fail;refine cD.mono ?_;rintro e w' ⟨rfl,hK⟩;clear cD;go_wp2_with fail;go_ret;exact⟨rfl,hK⟩
theorem af4(x k:Nat)(hx:x<18446744073709551616):(bits BinOp.and IntKind.u64 ((x:Int) /2^k) 1 !=0)=x.testBit k:=by
 have aw:x/2^k<2^64:=Nat.lt_of_le_of_lt (Nat.div_le_self _ _) (by omega);have h:=(bits_nat .u64 64 (by decide) wraps_u64 (x/2^k) 1 aw (by decide)).1;have e:((x:Int) /2^k)=((x/2^k:Nat):Int):=by simp
 rw[e,show(1:Int)=((1:Nat):Int)from rfl,h,Nat.testBit,Nat.shiftRight_eq_div_pow,Nat.and_comm];rw[Be];simp only[bne_iff_ne,ne_eq];omega
theorem UI(w:World)(B o len cap:Nat)(x:Nat)(u:Nat)(hx:x<18446744073709551616)(hu:u/64<len)(jY:u<100000)(hc:w.cell? ⟨B,o+u/64,none⟩=some (.int .u64 (x:Int))):Calls prog 90 #[.slice (some ⟨B,o,none⟩) len cap,.int .i64 (u:Int)] w fun e w'=>e=.returned (.bool (x.testBit (u % 64)))/\w'=w:=by
 go_in
 go_wp2_with fail
 go_ret
 exact⟨by rw[af4 x _ hx];rfl,rfl⟩
theorem af5(x k:Nat)(hx:x<18446744073709551616)(hk:k<64):bits BinOp.or IntKind.u64 (x:Int) (IntKind.u64.wrap (2^k))=((x|||2^k:Nat):Int):=by
 have h2:2^k<2^64:=Nat.pow_lt_pow_right (by decide) hk;have e:(2:Int) ^k=((2^k:Nat):Int):=by simp
 rw[e,wraps_u64 _ (Int.natCast_nonneg _) (by exact_mod_cast h2)];exact(bits_nat .u64 64 (by decide) wraps_u64 x (2^k) (by omega) h2).2
theorem anf(w:World)(B o len cap:Nat)(x:Nat)(u:Nat)(hx:x<18446744073709551616)(hu:u/64<len)(jY:u<100000)(hc:w.cell? ⟨B,o+u/64,none⟩=some (.int .u64 (x:Int)))(hf:w.frozen? ⟨B,o+u/64,none⟩=false):Calls prog 114 #[.slice (some ⟨B,o,none⟩) len cap,.int .i64 (u:Int)] w fun e w'=>e=.returned (.tuple #[])/\w'=w.drew.setCell ⟨B,o+u/64,none⟩ (.int .u64 ((x|||2^ (u % 64):Nat):Int)):=by
 go_in
 refine gW (S:=fun W=>W.cell? ⟨B,o+u/64,none⟩=some (.int .u64 (x:Int))) 10 (by kernel_rfl) rfl rfl rfl (by kernel_rfl) (by kernel_rfl) ?_;have ak:(fun W:World=>W.cell? ⟨B,o+u/64,none⟩=some (.int .u64 (x:Int))) w.drew:=hc;refine ai 0 4 (.slice (some ⟨B,o,none⟩) len cap) ak ?_;refine ai 1 5 (.int .i64 (u:Int)) ak ?_;refine pA 2 6 (.int .i64 ((u:Int) /64)) rfl rfl (by kernel_rfl) (by kernel_rfl) (by kernel_rfl) (fun _ _ _ h=>h) (Or.inl ⟨by rfl,fun W eT=>by go_simp;rw[Cx];omega⟩) ak ?_;refine pA 3 7 (.pointer (some ⟨B,o+u/64,none⟩)) rfl rfl (by kernel_rfl) (by kernel_rfl) (by kernel_rfl) (fun _ _ _ h=>h) (Or.inl ⟨by rfl,fun W eT=>by go_simp;rw[if_pos (by omega),show((u:Int) /64).toNat=u/64 by omega]⟩) ak ?_;refine ai 4 8 (.int .u64 (x:Int)) ak ?_;refine ai 5 9 (.int .i64 (u:Int)) ak ?_;refine pA 6 10 (.int .i64 ((u:Int) % 64)) rfl rfl (by kernel_rfl) (by kernel_rfl) (by kernel_rfl) (fun _ _ _ h=>h) (Or.inl ⟨by rfl,fun W eT=>by go_simp;exact Int.tmod_eq_emod_of_nonneg (by omega)⟩) ak ?_;refine pA 7 11 (.int .u64 (IntKind.u64.wrap (2^ (u % 64)))) rfl rfl (by kernel_rfl) (by kernel_rfl) (by kernel_rfl) (fun _ _ _ h=>h) (Or.inl ⟨by rfl,fun W eT=>by go_simp;rw[show((u:Int) % 64).toNat=u % 64 by omega]⟩) ak ?_;refine ai 8 12 (.int .u64 (bits .or .u64 (x:Int) (IntKind.u64.wrap (2^ (u % 64))))) ak ?_;refine pA 9 13 (.pointer (some ⟨B,o+u/64,none⟩)) rfl rfl (by kernel_rfl) (by kernel_rfl) (by kernel_rfl) (fun _ _ _ h=>h) (Or.inl ⟨by rfl,fun W eT=>by go_simp;rw[if_pos (by omega),show((u:Int) /64).toNat=u/64 by omega]⟩) ak ?_;simp only[Act.put,Aa,Ad,Ac];refine At (by kernel_rfl) ?_ _;unfold eN;simp only[Ak,Ah,Ai];go_simp;rw[af5 x _ hx (by omega)];go_end0;exact⟨rfl,rfl⟩
def om(cs:Array Value)(co:Nat)(f t:Int):Array Value:=(cs.setIfInBounds co (.int .i64 f)).setIfInBounds (co+1) (.int .i64 t)
theorem Pb(h:co+1<cs.size)(f t:Int):(om cs co f t)[co]? =some (.int .i64 f):=by
 unfold om;rw[C4 (by omega),Da (by omega)]
theorem ahb(h:co+1<cs.size)(f t:Int):(om cs co f t)[co+1]? =some (.int .i64 t):=by
 unfold om;rw[Da (by simpa using h)]
theorem IJ(f f' t:Int):(om cs co f t).setIfInBounds co (.int .i64 f')=om cs co f' t:=by
 unfold om;rw[Array.setIfInBounds_comm _ _ (by omega),Fa]
theorem aak(f t t':Int):(om cs co f t).setIfInBounds (co+1) (.int .i64 t')=om cs co f t':=by
 unfold om;rw[Fa]
theorem adW(w:World)(b co:Nat)(cs:Array Value)(ty:TypeId)(f t st en wd:Int)(h:aq w b (om cs co f t) ty)(FT:co+1<cs.size)(h0:0<=en/\en<=10000000000000)(h1:0<=wd/\wd<=4):Calls prog 64 #[.pointer (some ⟨b,co,none⟩),.int .i64 st,.int .i64 en,.int .i64 wd] w fun e w'=>
 e=.returned (.bool (!(st==en&&en==t)))/\aa (fun i=>i=b) w w'/\aq w' b (om cs co (if st=en then en+wd else en) en) ty:=by
 have c0:w.cell? ⟨b,co,none⟩=some (.int .i64 f):=(h.cell co).trans (Pb FT f t);have c1:w.cell? ⟨b,co+1,none⟩=some (.int .i64 t):=(h.cell (co+1)).trans (ahb FT f t);have f0:=h.frozen co;have f1:=h.frozen (co+1);have H:=ab h;clear h;by_cases e1:st=en
 ·subst e1;by_cases e2:st=t
  ·subst e2;go_in;go_wp2_with fail;go_ret;refine⟨by simp,((aa.refl (fun i=>i=b) w).setCell (p:=⟨b,co,none⟩) (Or.inl rfl) _).setCell (p:=⟨b,co,none⟩) (Or.inl rfl) _,?_⟩;have:=((H.o).setCell co (.int .i64 st)).setCell co (.int .i64 (st+wd));rw[IJ,IJ]at this;simpa using this
  ·have e3:(st==t)=false:=(by simpa using e2);go_in;go_wp2_with fail;go_ret;refine⟨by simp,(((aa.refl (fun i=>i=b) w).setCell (p:=⟨b,co,none⟩) (Or.inl rfl) _).setCell (p:=⟨b,co,none⟩) (Or.inl rfl) _).setCell (p:=⟨b,co+1,none⟩) (Or.inl rfl) _,?_⟩;have:=(((H.o).setCell co (.int .i64 st)).setCell co (.int .i64 (st+wd))).setCell (co+1) (.int .i64 st);rw[IJ,IJ,aak]at this;simpa using this
 ·have e3:(st==en)=false:=by simpa using e1
  go_in
  go_wp2_with fail
  go_ret
  refine⟨by simp,((aa.refl (fun i=>i=b) w).setCell (p:=⟨b,co,none⟩) (Or.inl rfl) _).setCell (p:=⟨b,co+1,none⟩) (Or.inl rfl) _,?_⟩;have:=((H.o).setCell co (.int .i64 en)).setCell (co+1) (.int .i64 en);rw[IJ,aak]at this;exact this
theorem VZ(w:World)(c:Int):Calls prog 141 #[.int .i32 c] w fun e w'=>e=.returned (.bool (kI c))/\w'=w:=by
 go_in
 go_wp2_with fail
 all_goals go_ret
 all_goals refine⟨?_,rfl⟩
 all_goals refine congrArg Ending.returned ?_
 all_goals refine congrArg Value.bool ?_
 all_goals unfold kI
 all_goals rw[Be]
 all_goals simp
 all_goals omega
theorem abP(w:World)(e a b:Int):Calls prog 113 #[.int .i64 e,.int .i32 a,.int .i32 b] w fun r w'=>r=.returned (.bool (e_ e a b))/\w'=w:=by
 have H1:=fun W=>VZ W a
 have H2:=fun W=>VZ W b
 have h1:=ab H1;have h2:=ab H2;clear H1 H2;unfold e_;by_cases e0:e=0
 ·subst e0;go_in;go_wp2_with fail;go_ret;exact⟨rfl,rfl⟩
 ·by_cases e1:e=1
  ·subst e1;go_in;go_wp2_with fail;go_ret;exact⟨rfl,rfl⟩
  ·have b0:(e==0)=false:=(by simpa using e0);have b1:(e==1)=false:=(by simpa using e1);go_in;go_wp2_with fail;refine(h1.o w).mono ?_;rintro r w' ⟨rfl,rfl⟩;go_wp2_with fail;refine(h2.o _).mono ?_;rintro r w' ⟨rfl,rfl⟩;go_wp2_with fail;go_ret;exact⟨rfl,rfl⟩
theorem afO(w:World)(s:ByteArray)(p:Nat)(A B C:Int)(D:Bool)(hp:p<=s.size)(hs:s.size<=1000000000)(hT:jf w):Calls prog 111 #[.agg #[.string s,.int .i64 A,.int .i32 B,.int .i32 C,.bool D],.int .i64 (p:Int)] w fun e w'=>
 e=.returned (.tuple #[.int .i32 (if 0<p then((Lib.decodeLastL (s.extract 0 p).data.toList).1:Int)else B),.int .i32 (if p<s.size then((Lib.decodeGo (s.extract p s.size)).1:Int)else C)])/\aa af w w':=by
 have nO:(s.extract 0 p).size<=9223372036854775807:=by rw[extract_size s 0 p hp];omega
 have cL:=ab fun(W:World) (hW:jf W)=>ahh (s.extract 0 p) W nO hW
 have cD:=ab fun(W:World) (hW:jf W)=>aao (s.extract p s.size) W hW
 have HT:=ab hT;clear hT;generalize((Lib.decodeLastL (s.extract 0 p).data.toList).1:Int)=la at cL⊢;generalize((Lib.decodeLastL (s.extract 0 p).data.toList).2:Int)=QQ at cL;generalize((Lib.decodeGo (s.extract p s.size)).1:Int)=lb at cD⊢;generalize((Lib.decodeGo (s.extract p s.size)).2:Int)=lb2 at cD;obtain⟨a,HA⟩:∃a,Hid (a=if 0<p then la else B):=⟨_,(rfl:_=_)⟩
 obtain⟨b,HB⟩:∃b,Hid (b=if p<s.size then lb else C):=⟨_,(rfl:_=_)⟩
 rw[<-HA.o,<-HB.o];go_in;go_wp2_with fail;have c0:(w.alloc (.cells #[.string s,.int .i64 A,.int .i32 B,.int .i32 C,.bool D] 105)).cell? ⟨w.heap.size,0,none⟩=some (.string s):=(aq.new w _ _).cell 0;have c2:(w.alloc (.cells #[.string s,.int .i64 A,.int .i32 B,.int .i32 C,.bool D] 105)).cell? ⟨w.heap.size,2,none⟩=some (.int .i32 B):=(aq.new w _ _).cell 2;have c3:(w.alloc (.cells #[.string s,.int .i64 A,.int .i32 B,.int .i32 C,.bool D] 105)).cell? ⟨w.heap.size,3,none⟩=some (.int .i32 C):=(aq.new w _ _).cell 3;have BB:=ab (aq.new w #[.string s,.int .i64 A,.int .i32 B,.int .i32 C,.bool D] 105);have KK:Hid (aa af w (w.alloc (.cells #[.string s,.int .i64 A,.int .i32 B,.int .i32 C,.bool D] 105))):=(aa.refl af w).alloc _;generalize hW:(w.alloc (.cells #[.string s,.int .i64 A,.int .i32 B,.int .i32 C,.bool D] 105))=W at*;clear hW;go_big_quiet (fail);have Io:=ab (HT.o.jZ (KK.o.drewN nq));have K1:=ab (KK.o.drewN nq);by_cases h0:0<p
 ·have h0':(0:Int)<(p:Int):=by omega
  go_wp2_with fail
  refine(cL.o _ Io.o).mono ?_;rintro e w2 ⟨rfl,Pw⟩;have B1:aq (W.drewN nq) w.heap.size #[.string s,.int .i64 A,.int .i32 B,.int .i32 C,.bool D] 105:=BB.o;have d0:w2.cell? ⟨w.heap.size,0,none⟩=some (.string s):=(B1.kept Pw (fun h=>h)).cell 0;have HT2:=ab (Io.o.jZ Pw);have K2:=ab (K1.o.trans Pw);clear Pw B1;by_cases h1:p<s.size
  ·have gO:(p:Int)<(s.size:Int):=(by omega);go_wp2_with fail;refine(cD.o _ HT2.o).mono ?_;rintro e w3 ⟨rfl,Uu⟩;go_wp2_with fail;go_ret2;rw[show a=_ from HA.o.trans (if_pos h0),show b=_ from HB.o.trans (if_pos h1)];exact⟨rfl,K2.o.trans Uu⟩
  ·have gO:¬(p:Int)<(s.size:Int):=(by omega);go_wp2_with fail;go_ret2;rw[show a=_ from HA.o.trans (if_pos h0),show b=_ from HB.o.trans (if_neg h1)];exact⟨rfl,K2.o⟩
 ·have h0':¬(0:Int)<(p:Int):=by omega
  by_cases h1:p<s.size
  ·have gO:(p:Int)<(s.size:Int):=(by omega);go_wp2_with fail;refine(cD.o _ Io.o).mono ?_;rintro e w3 ⟨rfl,Uu⟩;go_wp2_with fail;go_ret2;rw[show a=_ from HA.o.trans (if_neg h0),show b=_ from HB.o.trans (if_pos h1)];exact⟨rfl,K1.o.trans Uu⟩
  ·have gO:¬(p:Int)<(s.size:Int):=(by omega);go_wp2_with fail;go_ret2;rw[show a=_ from HA.o.trans (if_neg h0),show b=_ from HB.o.trans (if_neg h1)];exact⟨rfl,K1.o⟩
