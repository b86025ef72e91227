/- A pattern's groups -/
import Derived.Test.YtpdnofhackjfdaaGreatDoorP19
set_option linter.all false
set_option maxRecDepth 100000
set_option maxHeartbeats 1000000
namespace Go.Proofs.YtpdnofhackjfdaaGreatDoor
open Go.Proofs.Tryz
variable {ops:Array Oper} {f:Bl} {a c:CT} {Q:Exit->Act->World->Prop} {G G':Int} {st:List MS} {cs l ws:List Nat} {rest:List Oper} {L i o u:Nat} {P:Program} {g:RG} {S sp:bD} {w:World}
theorem ac5(st:RS)(e p:Int):(st.eu e p).aQ=st.aQ:=rfl
theorem xt(g:RG)(l:List UInt8)(st:RS):(eI g l st).aQ=st.aQ:=by unfold eI;split<;>rfl
theorem acW(g:RG)(l:List UInt8)(st:RS):(pT g l st).aQ=st.aQ:=by unfold pT;split<;>rfl
theorem Hd(g:RG)(l:List UInt8)(st:RS):(fg g l st).aQ=st.aQ:=by unfold fg;split<;>rfl
theorem Wu(g:RG)(st:RS):(jo g st).1.aQ=st.aQ:=by unfold jo;split<;>rfl
theorem Wx(g:RG)(st:RS):(fA g st).1.aQ=st.aQ:=by
 unfold fA;split
 ·simp only;rw[Wu,Wu]
 ·exact Wu g st
theorem alY(g:RG)(st:RS):(r_ g st).1.aQ=st.aQ:=by
 unfold r_;split
 ·rfl
 ·exact Wx g st
theorem adw(g:RG)(st:RS):(ey g st).1.aQ=st.aQ:=by
 unfold ey;split
 ·simp only;rw[xt,alY];exact Wx g st
 ·simp only;rw[xt,Wx]
theorem adO(g:RG)(a:PT)(st:RS):(h_ g a st).1.aQ=st.aQ:=by
 unfold h_;split
 ·simp only;rw[Hd]
 ·split
  ·simp only;rw[Hd]
  ·split
   ·simp only;rw[Hd]
   ·split
    ·simp only;rw[Hd];split
     ·rw[ac5,adw]
     ·rw[adw]
    ·rfl
theorem al9(g:RG)(e:Bool)(st:RS):(lQ g e st).1.aQ=st.aQ:=by
 unfold lQ
 cases e
 ·exact acW g _ st
 ·exact xt g _ st
theorem Wz(g:RG)(st:RS):(dd g st).1.aQ=st.aQ:=by unfold dd;rw[al9,Hd]
theorem amb(g:RG)(p:Int)(x:RS×Int):(qN g p x).aQ=x.1.aQ:=by
 unfold qN;split
 ·split
  ·rw[ac5,Wz]
  ·rw[Wz]
 ·rfl
theorem adB(g:RG)(st:RS):(fT g st).aQ=st.aQ:=by
 unfold fT;split
 ·rfl
 ·rw[amb,Wz]
theorem adE(g:RG):∀(m:Nat) (st:RS),(mw g m st).aQ=st.aQ
 |0,st=>rfl
 |m+1,st=>by
  unfold mw;split
  ·rfl
  ·rw[adE g m,adB]
theorem alU(g:RG)(st:RS):(rZ g st).aQ=st.aQ:=by unfold rZ;rw[xt,adE,adB,Hd]
theorem adH(g:RG)(first:Nat):∀(m:Nat) (st:RS),(ly g first m st).aQ=st.aQ
 |0,st=>rfl
 |m+1,st=>by
  unfold ly;split
  ·rw[adH g first m]
  ·rfl
theorem al6(g:RG)(first:Nat)(st:RS):(mO g first st).aQ=st.aQ:=by
 unfold mO;split<;>rfl
theorem al3(g:RG)(st:RS):(pg g st).aQ=st.aQ:=by unfold pg;rw[xt,al6,adH,xt]
theorem adz(g:RG)(st:RS):st.aQ<=(ix g st).aQ/\(aG iq (ay g st)=false->(ix g st).aQ=st.aQ+1)/\(¬aG iq (ay g st)=false->aG BJ (ay g {st with next:=st.next+1})=true->(ix g st).aQ=st.aQ+1):=by
 unfold ix;by_cases h1:aG iq (ay g st)=false
 ·rw[if_pos h1];exact⟨by simp,fun _=>rfl,fun h=>absurd h1 h⟩
 ·rw[if_neg h1];by_cases h2:aG BJ (ay g {st with next:=st.next+1})=true
  ·rw[if_pos h2,al3];exact⟨by simp,fun h=>absurd h h1,fun _ _=>rfl⟩
  ·rw[if_neg h2,xt,Hd];exact⟨by simp,fun h=>absurd h h1,fun _ h=>absurd h h2⟩
def Gm(aE:RS->RS×PT):Prop:=∀st,st.aQ<=(aE st).1.aQ
theorem adu(g:RG)(aE:RS->RS×PT)(halt:Gm aE)(st:RS):st.aQ<=(dt g aE st).1.aQ:=by
 unfold dt;split
 ·unfold vU;simp only;rw[xt];have h1:=(adz g {st with next:=st.next+1}).1;have h2:=halt (ix g {st with next:=st.next+1});simp only at h1;omega
 ·split
  ·simp only;rw[alU];exact Ab _
  ·split
   ·simp only;rw[xt];exact Ab _
   ·split
    ·exact Ab _
    ·simp only;rw[acW];exact Ab _
theorem adT(g:RG)(aE:RS->RS×PT)(halt:Gm aE):∀(m:Nat) (st:RS) (aC:List PT),st.aQ<=(jq g aE m st aC).1.aQ
 |0,st,aC=>Ab _
 |m+1,st,aC=>by
  unfold jq;split
  ·exact Ab _
  ·have h1:=adT g aE halt m (h_ g (dt g aE st).2 (dt g aE st).1).1 (aC++[(h_ g (dt g aE st).2 (dt g aE st).1).2]);rw[adO]at h1;have h2:=adu g aE halt st;omega
theorem WC(g:RG)(aE:RS->RS×PT)(halt:Gm aE):Gm (eD g aE):=fun st=>adT g aE halt _ _ _
theorem adr(g:RG)(aE:RS->RS×PT)(halt:Gm aE):∀(m:Nat) (st:RS) (aC:List PT),st.aQ<=(iw g aE m st aC).1.aQ
 |0,st,aC=>Ab _
 |m+1,st,aC=>by
  unfold iw;split
  ·have h1:=adr g aE halt m (eD g aE {st with next:=st.next+1}).1 (aC++[(eD g aE {st with next:=st.next+1}).2]);have h2:=WC g aE halt {st with next:=st.next+1};simp only at h2;omega
  ·exact Ab _
theorem QW(g:RG):∀k:Nat,Gm (aV g k)
 |0=>fun st=>Ab _
 |k+1=>fun st=>by
  unfold aV;have h1:=WC g _ (QW g k) st;have h2:=adr g _ (QW g k) (g.rs.length+1) (eD g (aV g k) st).1 [(eD g (aV g k) st).2];simp only;omega
mutual
theorem aic(h:G<=G'):∀C:CT,C.gO G->C.gO G'
 |.node k sp fo nt ed gr lo hi lz cN,hg=>by
  unfold CT.gO at hg⊢;exact⟨hg.1,by omega,Pi h cN hg.2.2⟩
theorem Pi(h:G<=G'):∀cs:List CT,CT.fq G cs->CT.fq G' cs
 | [],_=>by unfold CT.fq;trivial
 |c::cs,hg=>by
  unfold CT.fq at hg⊢;exact⟨aic h c hg.1,Pi h cs hg.2⟩
end
theorem T2:∀{a b:List CT},CT.fq G a->CT.fq G b->CT.fq G (a++b)
 | [],b,_,hb=>hb
 |c::a,b,ha,hb=>by
  unfold CT.fq at ha;show CT.fq G (c::(a++b))
  unfold CT.fq;exact⟨ha.1,T2 ha.2 hb⟩
theorem DZ(h:c.gO G):CT.fq G [c]:=by unfold CT.fq;exact⟨h,by unfold CT.fq;trivial⟩
theorem Lu(G:Nat)(sp:bD)(fo nt:Bool):(l9 sp fo nt).gO (G:Int):=by
 unfold l9 CT.gO CT.fq;simp
theorem abe(G:Nat)(e:Int):(u9 e).gO (G:Int):=by
 unfold u9 CT.gO CT.fq;simp
theorem aie{G:Nat}(ha:a.gO (G:Int))(lo hi:Int)(lz:Bool):(tK a lo hi lz).gO (G:Int):=by
 unfold tK CT.gO;exact⟨Cg _,by omega,DZ ha⟩
theorem aid(g:RG){G:Nat}(ha:a.gO (G:Int))(st:RS):(ni g a st).gO (G:Int):=by
 unfold ni;(repeat' split)<;>first|exact aie ha _ _ _|exact ha
def Gc(aE:RS->RS×PT)(bS:Bool->RS->CT):Prop:=∀fo st,(bS fo st).gO ((aE st).1.aQ:Int)
theorem aib(g:RG)(aE:RS->RS×PT)(halt:Gm aE)(bS:Bool->RS->CT)(hc:Gc aE bS)(fo:Bool)(st:RS):(j8 g bS fo st).gO ((dt g aE st).1.aQ:Int):=by
 unfold j8 dt;by_cases h1:aG Jm (ay g st)=true
 ·rw[if_pos h1,if_pos h1];unfold vU;simp only;rw[xt];have hH:=adz g {st with next:=st.next+1};have hA:=halt (ix g {st with next:=st.next+1});unfold sE;split
  ·rename_i h2
   have:=hH.2.1 h2;unfold CT.gO;simp only at this⊢;exact⟨by omega,by omega,DZ (hc _ _)⟩
  ·rename_i h2
   split
   ·rename_i h3
    have:=hH.2.2 h2 h3;unfold CT.gO;simp only at this⊢;exact⟨by omega,by omega,DZ (hc _ _)⟩
   ·unfold CT.gO;exact⟨by omega,by omega,DZ (hc _ _)⟩
 ·rw[if_neg h1];split
  ·exact Lu _ _ _ _
  ·split
   ·unfold nY;(repeat' split)<;>first|exact Lu _ _ _ _|exact abe _ _
   ·split
    ·unfold Iq;(repeat' split)<;>first|exact Lu _ _ _ _|exact abe _ _
    ·exact Lu _ _ _ _
theorem abg(g:RG)(aE:RS->RS×PT)(halt:Gm aE)(bS:Bool->RS->CT)(hc:Gc aE bS)(fo:Bool):∀(m:Nat) (st:RS) (aC:List CT) (ps:List PT),CT.fq (st.aQ:Int) aC->CT.fq ((jq g aE m st ps).1.aQ:Int) (l_ g aE bS fo m st aC)
 |0,st,aC,ps,ha=>ha
 |m+1,st,aC,ps,ha=>by
  unfold jq l_;split
  ·exact ha
  ·refine abg g aE halt bS hc fo m _ _ _ ?_;have h1:=adu g aE halt st;rw[adO];exact T2 (Pi (by omega) _ ha) (DZ (aid g (aib g aE halt bS hc fo st) _))
theorem abf(g:RG)(aE:RS->RS×PT)(halt:Gm aE)(bS:Bool->RS->CT)(hc:Gc aE bS)(fo:Bool)(st:RS):(nj g aE bS fo st).gO ((eD g aE st).1.aQ:Int):=by
 unfold nj CT.gO eD;exact⟨Cg _,by omega,abg g aE halt bS hc fo _ st [] [] (by unfold CT.fq;trivial)⟩
theorem abd(g:RG)(aE:RS->RS×PT)(halt:Gm aE)(bS:Bool->RS->CT)(hc:Gc aE bS)(fo:Bool):∀(m:Nat) (st:RS) (aC:List CT) (ps:List PT),CT.fq (st.aQ:Int) aC->CT.fq ((iw g aE m st ps).1.aQ:Int) (ll g aE bS fo m st aC)
 |0,st,aC,ps,ha=>ha
 |m+1,st,aC,ps,ha=>by
  unfold iw ll;split
  ·refine abd g aE halt bS hc fo m _ _ _ ?_;have h1:=WC g aE halt {st with next:=st.next+1};simp only at h1;exact T2 (Pi (by omega) _ ha) (DZ (abf g aE halt bS hc fo _))
  ·exact ha
theorem Ph(g:RG):∀k:Nat,Gc (aV g k) (dI g k)
 |0=>fun fo st=>Lu _ _ _ _
 |k+1=>fun fo st=>by
  have h1:=abf g (aV g k) (QW g k) (dI g k) (Ph g k) fo st;unfold dI CT.gO aV;exact⟨Cg _,by omega,abd g (aV g k) (QW g k) (dI g k) (Ph g k) fo _ _ _ _ (DZ h1)⟩
theorem aif(g:RG)(st:RS):(oS g st).gO ((ee g st).1.aQ:Int):=by
 unfold ee;split
 ·exact Ph g _ false st
 ·exact Ph g _ false st
def jP(l:bD):Prop:=∀s∈l,0<=s.1/\s.1<=s.2/\s.2<=1114111
theorem jP.append{a b:bD}(ha:jP a)(hb:jP b):jP (a++b):=fun s hs=>(Ap.1 hs).elim (ha s) (hb s)
theorem jP.one{x y:Int}(h:0<=x/\x<=y/\y<=1114111):jP [(x,y)]:=fun s hs=>by simp at hs;subst hs;exact h
theorem jP.set(r:Int):jP (lV r):=by
 unfold lV;(repeat' split)<;>(intro s hs;simp at hs)<;>(rcases hs with rfl|rfl|rfl|rfl)<;>simp
theorem uX.Xu{fo nt:Bool}(h:uX S sp fo nt)(hw:jP sp):oQ S/\∀c,0<=c->c<=1114111->bU S c=fP sp fo nt c:=h.has hw
mutual
def CT.lC:CT->Prop
 |.node k sp fo nt ed gr lo hi lz cN=>jP sp/\CT.kC cN
def CT.kC:List CT->Prop
 | []=>True
 |c::cs=>CT.lC c/\CT.kC cs
end
def uW(g:RG):Prop:=∀r∈g.rs,0<=r/\r<=1114111
theorem aer(hg:uW g)(st:RS)(h:ay g st≠ -1):0<=ay g st/\ay g st<=1114111:=by
 unfold ay at h⊢;rw[Af]at h⊢
 cases e:g.rs[st.next]? with
 |none=>rw[e]at h;exact absurd rfl h
 |some r=>exact hg r (Ca e)
theorem acb{l:List UInt8}{r:Int}(h:aG l r=true):0<=r/\r<=255:=by
 unfold aG at h;obtain⟨b,hb,e⟩:=Cp.1 h;have:=b.toNat_lt;have:(b.toNat:Int)=r:=by simpa using e
 omega
theorem acY{l:List UInt8}{st:RS}(h:iY (eI g l st).bl):aG l (ay g st)=true:=by
 unfold eI at h;split at h
 ·assumption
 ·exact absurd h.1 ac4
theorem ak3{l:List UInt8}{st:RS}(h:iY (pT g l st).bl):ay g st≠ -1:=by
 unfold pT at h;split at h
 ·exact absurd h.1 ac4
 ·rename_i c;exact fun e=>c (Or.inl e)
theorem aaL{c:Int}(h:0<=c/\c<=1114111):0<=qp c/\qp c<=1114111:=by
 unfold qp;(repeat' split)<;>omega
theorem adg(hg:uW g){st:RS}(h:iY (dd g st).1.bl):0<=(dd g st).2/\(dd g st).2<=1114111:=by
 unfold dd lQ at h⊢;by_cases e:aG gj (ay g st)=true
 ·rw[e]at h⊢;simp only[if_true]at h⊢;have:=acb (acY h);exact aaL (by omega)
 ·rw[Ej.2 e]at h⊢;simp only[Aq,if_false]at h⊢;exact aer hg _ (ak3 h)
theorem acn(hg:uW g){st:RS}(h:iY (fT g st).bl):jP (iB g st):=by
 unfold fT at h;unfold iB;by_cases c:aG gj (ay g st)=true/\aG mq (ay g {st with next:=st.next+1})=true
 ·rw[if_pos c];exact jP.set _
 ·rw[if_neg c]at h⊢;have h1:=adg hg ((adV g _ _).oT h);by_cases d:aG xo (ay g (dd g st).1)=true
  ·rw[if_pos d];unfold qN at h;rw[if_pos d]at h;split at h
   ·exact absurd h.2.2 alg
   ·rename_i hn
    have h2:=adg hg h;exact jP.one ⟨h1.1,by omega,h2.2⟩
  ·rw[if_neg d];exact jP.one ⟨h1.1,Cg _,h1.2⟩
theorem aco(hg:uW g):∀(m:Nat) (st:RS) (aC:bD),jP aC->iY (mw g m st).bl->jP (rj g m st aC)
 |0,st,aC,ha,_=>ha
 |m+1,st,aC,ha,h=>by
  unfold mw at h;unfold rj;split
  ·exact ha
  ·rename_i c
   rw[if_neg c]at h;exact aco hg m _ _ (ha.append (acn hg ((QZ g m _).oT h))) h
theorem XD:∀{a b:List CT},CT.kC a->CT.kC b->CT.kC (a++b)
 | [],b,_,hb=>hb
 |c::a,b,ha,hb=>by
  unfold CT.kC at ha;show CT.kC (c::(a++b))
  unfold CT.kC;exact⟨ha.1,XD ha.2 hb⟩
theorem NB(h:c.lC):CT.kC [c]:=by unfold CT.kC;exact⟨h,by unfold CT.kC;trivial⟩
theorem JK:jP []:=fun s hs=>by cases hs
theorem JL(h:jP sp)(fo nt:Bool):(l9 sp fo nt).lC:=by
 unfold l9 CT.lC CT.kC;exact⟨h,trivial⟩
theorem afh(e:Int):(u9 e).lC:=by
 unfold u9 CT.lC CT.kC;exact⟨JK,trivial⟩
theorem aoP(ha:a.lC)(lo hi:Int)(lz:Bool):(tK a lo hi lz).lC:=by
 unfold tK CT.lC;exact⟨JK,NB ha⟩
theorem aoO(g:RG)(ha:a.lC)(st:RS):(ni g a st).lC:=by
 unfold ni;(repeat' split)<;>first|exact aoP ha _ _ _|exact ha
def Wc(aE:RS->RS×PT)(bS:Bool->RS->CT):Prop:=∀fo st,iY (aE st).1.bl->(bS fo st).lC
theorem aoN(hg:uW g)(aE:RS->RS×PT)(bS:Bool->RS->CT)(nE:Wc aE bS)(fo:Bool)(st:RS)(az:ay g st≠ -1)(hc:iY (dt g aE st).1.bl):(j8 g bS fo st).lC:=by
 unfold dt at hc;unfold j8;split
 ·rename_i h1
  rw[if_pos h1]at hc;have dR:=(uw g _ _).oT (show iY (eI g Jn (aE (ix g {st with next:=st.next+1})).1).bl from hc)
  have:∀(fo:Bool) (gr:Int),(CT.node 2 [] false false 0 gr 0 0 false [bS fo (ix g {st with next:=st.next+1})]).lC:=by
   intro fo gr;unfold CT.lC;exact⟨JK,NB (nE _ _ dR)⟩
  unfold sE;(repeat' split)<;>exact this _ _
 ·rename_i h1
  rw[if_neg h1]at hc;split
  ·rename_i h2
   rw[if_pos h2]at hc;unfold rZ at hc;have c1:=(uw g _ _).oT hc;have c2:=(QZ g _ _).oT c1;exact JL (aco hg _ _ _ (acn hg c2) c1) _ _
  ·rename_i h2
   rw[if_neg h2]at hc;split
   ·rename_i h3
    rw[if_pos h3]at hc;have:=acb (acY hc);unfold nY;have he:=aaL (c:=ay g {st with next:=st.next+1}) (by omega);(repeat' split)<;>first|exact JL (jP.set _) _ _|exact afh _|exact JL (jP.one ⟨he.1,Cg _,he.2⟩) _ _
   ·split
    ·unfold Iq;split<;>first|exact JL (jP.one (by omega)) _ _|exact afh _
    ·have:=aer hg st az;exact JL (jP.one ⟨this.1,Cg _,this.2⟩) _ _
theorem afj(hg:uW g)(aE:RS->RS×PT)(halt:∀st,cU st.bl (aE st).1.bl)(bS:Bool->RS->CT)(nE:Wc aE bS)(fo:Bool):∀(m:Nat) (st:RS) (aC:List CT) (ps:List PT),CT.kC aC->iY (jq g aE m st ps).1.bl->CT.kC (l_ g aE bS fo m st aC)
 |0,st,aC,ps,ha,hc=>ha
 |m+1,st,aC,ps,ha,hc=>by
  unfold jq at hc;unfold l_;split
  ·exact ha
  ·rename_i h1
   rw[if_neg h1]at hc;have c1:=(Q8 g aE halt m _ _).oT hc;have c2:=(WA g _ _).oT c1;exact afj hg aE halt bS nE fo m _ _ _ (XD ha (NB (aoO g (aoN hg aE bS nE fo st (fun e=>h1 (Or.inl e)) c2) _))) hc
theorem afi(hg:uW g)(aE:RS->RS×PT)(halt:∀st,cU st.bl (aE st).1.bl)(bS:Bool->RS->CT)(nE:Wc aE bS)(fo:Bool)(st:RS)(hc:iY (eD g aE st).1.bl):(nj g aE bS fo st).lC:=by
 have:=afj hg aE halt bS nE fo _ st [] [] (by unfold CT.kC;trivial) hc;unfold nj CT.lC;exact⟨JK,this⟩
theorem afg(hg:uW g)(aE:RS->RS×PT)(halt:∀st,cU st.bl (aE st).1.bl)(bS:Bool->RS->CT)(nE:Wc aE bS)(fo:Bool):∀(m:Nat) (st:RS) (aC:List CT) (ps:List PT),CT.kC aC->iY (iw g aE m st ps).1.bl->CT.kC (ll g aE bS fo m st aC)
 |0,st,aC,ps,ha,hc=>ha
 |m+1,st,aC,ps,ha,hc=>by
  unfold iw at hc;unfold ll;split
  ·rename_i h1
   rw[if_pos h1]at hc;have c1:=(Jv g aE halt m _ _).oT hc;exact afg hg aE halt bS nE fo m _ _ _ (XD ha (NB (afi hg aE halt bS nE fo _ c1))) hc
  ·exact ha
theorem XC(hg:uW g):∀(k:Nat),Wc (aV g k) (dI g k)
 |0=>fun fo st hc=>JL JK _ _
 |k+1=>fun fo st hc=>by
  unfold aV at hc;have hle:=QX g k;have c1:=(Jv g (aV g k) hle _ _ _).oT hc;have h1:=afi hg (aV g k) hle (dI g k) (XC hg k) fo st c1;have h2:=afg hg (aV g k) hle (dI g k) (XC hg k) fo _ _ _ _ (NB h1) hc;unfold dI CT.lC;exact⟨JK,h2⟩
theorem aoQ(hg:uW g)(st:RS)(hc:iY (ee g st).1.bl):(oS g st).lC:=by
 refine XC hg _ false st ?_;unfold ee at hc;split at hc
 ·exact hc
 ·exact(Nj g _).oT hc
def MQ(G:Int)(m:MS):Prop:=(m.kind=1->jP m.sp)/\(m.kind=3->0<=m.slot/\m.slot<2*G)/\(0<=m.kind/\m.kind<=4)
def iz(G:Int)(st:List MS):Prop:=∀m∈st,MQ G m
def BQ(G:Int)(f:Bl):Prop:=∀st nx,iz G st->iz G (f st nx).1
theorem iz.qS(h:iz G st){m:MS}(hm:MQ G m):iz G (st++[m]):=fun x hx=>by
 rcases Ap.1 hx with h1|h1
 ·exact h x h1
 ·simp at h1;subst h1;exact hm
theorem MQ.lJ(G:Int)(a b:Int):MQ G (j_ a b):=⟨fun h=>by simp[j_]at h,fun h=>by simp[j_]at h,by simp[j_]⟩
theorem MQ.zero(G:Int):MQ G bL:=⟨fun h=>by simp[bL]at h,fun h=>by simp[bL]at h,by simp[bL]⟩
theorem MQ.qT(G:Int)(e n:Int):MQ G (si e n):=⟨fun h=>by simp[si]at h,fun h=>by simp[si]at h,by simp[si]⟩
theorem MQ.mark{s:Int}(hs:0<=s/\s<2*G)(n:Int):MQ G (iG s n):=⟨fun h=>by simp[iG]at h,fun h=>hs,by simp[iG]⟩
theorem MQ.take(h:jP sp)(fo nt:Bool)(n:Int):MQ G (pk sp fo nt n):=⟨fun _=>h,fun h=>by simp[pk]at h,by simp[pk]⟩
theorem BQ.rS{s:Int->MS}(hs:∀n,MQ G (s n)):BQ G (eZ s):=fun st nx h=>by
 unfold eZ;(repeat' split)<;>first|exact h.qS (hs _)|exact(h.qS (hs _)).qS (hs _)
theorem iz.TP(h:iz G st)(a b:Int):iz G (dH st a b).1:=by
 unfold dH;(repeat' split)<;>first|exact h|exact h.qS (MQ.lJ G _ _)
theorem iz.lJ(h:iz G st)(f s:Ex):iz G (gE st f s).1:=by
 unfold gE;split
 ·exact h.TP _ _
 ·exact(h.TP _ _).TP _ _
theorem iz.DV(h:iz G st)(lz:Bool)(f s:Ex):iz G (dg lz st f s).1:=by
 unfold dg;split<;>exact h.lJ _ _
theorem BQ.gH(hf:BQ G f):∀m,BQ G (nc f m)
 |0=>fun st nx h=>h
 |m+1=>fun st nx h=>BQ.gH hf m _ _ (hf st nx h)
theorem BQ.nK(hf:BQ G f)(lz:Bool)(nx:Ex):∀m,BQ G (fJ f lz nx m)
 |0=>fun st a h=>h
 |m+1=>fun st a h=>BQ.nK hf lz nx m _ _ ((hf st a h).DV lz _ _)
theorem iz.getD(h:iz G st)(k:Nat):MQ G (st.getD k bL):=by
 rw[Af]
 cases e:st[k]? with
 |none=>exact MQ.zero G
 |some m=>exact h m (Ca e)
theorem BQ.loop(hf:BQ G f)(lz:Bool):BQ G (nb f lz):=fun st nx h=>by
 have h1:iz G (qj f lz st nx).1:=by unfold qj;exact(hf _ _ (h.qS (MQ.zero G))).DV lz _ _
 unfold nb;intro m hm;rcases Dr hm with h2|h2
 ·exact h1 m h2
 ·rw[h2];exact h1.getD _
theorem BQ.we(hf:BQ G f)(lo hi:Int)(lz:Bool):BQ G (nd f lo hi lz):=fun st nx h=>by
 unfold nd;split
 ·exact hf.gH _ _ _ (hf.loop lz st nx h)
 ·exact hf.gH _ _ _ (hf.nK lz nx _ st nx h)
mutual
theorem KQ:∀C:CT,C.gO G->C.lC->BQ G (bm C)
 |.node k sp fo nt ed gr a b lz cN,hg,hw=>by
  unfold CT.gO at hg;unfold CT.lC at hw;obtain⟨g1,g2,g3⟩:=hg;have sL:=afX cN g3 hw.2;have ED:=ZW cN g3 hw.2;have Ep:=ZR cN g3 hw.2;intro st nx h;unfold bm;split
  ·exact h.qS (MQ.take hw.1 _ _ _)
  ·split
   ·exact BQ.rS (MQ.qT G ed) st nx h
   ·split
    ·split
     ·exact sL st nx h
     ·exact BQ.rS (MQ.mark (by omega)) _ _ (sL _ _ (BQ.rS (MQ.mark (by omega)) st nx h))
    ·split
     ·exact ED st nx h
     ·split
      ·exact Ep st nx h
      ·exact sL.we a b lz st nx h
theorem afX:∀cs:List CT,CT.fq G cs->CT.kC cs->BQ G (l8 cs)
 | [],_,_=>fun st nx h=>by unfold l8;exact h
 |c::cs,hg,hw=>by
  unfold CT.fq at hg;unfold CT.kC at hw;unfold l8;exact KQ c hg.1 hw.1
theorem ZW:∀cs:List CT,CT.fq G cs->CT.kC cs->BQ G (j7 cs)
 | [],_,_=>fun st nx h=>by unfold j7;exact h
 |c::cs,hg,hw=>by
  unfold CT.fq at hg;unfold CT.kC at hw;unfold j7;have h1:=KQ c hg.1 hw.1;have h2:=ZW cs hg.2 hw.2;exact fun st nx h=>h1 _ _ (h2 st nx h)
theorem ZR:∀cs:List CT,CT.fq G cs->CT.kC cs->BQ G (jf cs)
 | [],_,_=>fun st nx h=>by unfold jf;exact h
 | [c],hg,hw=>by
   unfold CT.fq at hg;unfold CT.kC at hw;unfold jf;exact KQ c hg.1 hw.1
 |c::d::cs,hg,hw=>by
  unfold CT.fq at hg;unfold CT.kC at hw;have h1:=KQ c hg.1 hw.1;have h2:=ZR (d::cs) hg.2 hw.2;intro st nx h;unfold jf;exact(h1 _ _ (h2 st nx h)).lJ _ _
end
theorem KV{C:CT}(hg:C.gO G)(hw:C.lC):iz G (e_ C).1:=KQ C hg hw [bL] (0,0) (fun m hm=>by simp at hm;subst hm;exact MQ.zero G)
theorem aeK{M:List MS}{V:VS}(h:iz G M):iz G (sorted M V):=fun m hm=>by
 unfold sorted at hm;obtain⟨s,_,rfl⟩:=Bf.1 hm;have:=h.getD (G:=G) s;unfold MQ at*;simpa using this
open Go.Shelf Go.RowKit Go.Lib Go.Sort Go.Maps
theorem aap(p:Nat->Bool):∀n,(∀a b,a<=b->b<n->p a=true->p b=true)->(List.range n).countP (fun i=>!p i)<=n/\(∀t,t<(List.range n).countP (fun i=>!p i)->p t=false)/\(∀t,(List.range n).countP (fun i=>!p i)<=t->t<n->p t=true)
 |0,_=>⟨by simp,fun t h=>by simp at h,fun t _ h=>by omega⟩
 |n+1,hm=>by
  obtain⟨h1,h2,h3⟩:=aap p n (fun a b h1 h2=>hm a b h1 (by omega));rw[Fr,List.countP_append]
  cases e:p n with
  |true=>
   have:List.countP (fun i=>!p i) [n]=0:=by simp[e]
   rw[this,Dm];refine⟨by omega,h2,fun t ht hn=>?_⟩;by_cases h:t=n
   ·rw[h];exact e
   ·exact h3 t ht (by omega)
  |false=>
   have:List.countP (fun i=>!p i) [n]=1:=by simp[e]
   rw[this]
   have nA:∀t,t<n->p t=false:=fun t ht=>by
    cases e2:p t with
    |false=>rfl
    |true=>have:=hm t n (by omega) (by omega) e2;rw[e]at this;cases this
   have hk:(List.range n).countP (fun i=>!p i)=n:=by
    refine Nat.le_antisymm h1 ?_;refine Fh fun aw=>?_
    have:=h3 _ (Ab _) aw;rw[nA _ aw]at this
    cases this
   rw[hk];refine⟨by omega,fun t ht=>?_,fun t ht hn=>by omega⟩;by_cases h:t=n
   ·rw[h];exact e
   ·exact nA t (by omega)
def wg(S:bD)(i:Nat):Int:=(S.getD i (0,0)).2
def Pe(S:bD)(i:Nat):Int:=(S.getD i (0,0)).1
theorem JH(h:i<S.length):wg S i=(S[i]).2:=by unfold wg;rw[Af,Ae h];rfl
theorem TY(h:i<S.length):Pe S i=(S[i]).1:=by unfold Pe;rw[Af,Ae h];rfl
theorem ae5(h:oQ S){a b:Nat}(lq:a<=b)(hb:b<S.length):wg S a<=wg S b:=by
 rw[JH (by omega),JH hb];by_cases e:a=b
 ·subst e;exact Cg _
 ·have:=Ce.1 h.1 a b (by omega) hb (by omega);have:=h.2 _ (A5 hb);omega
def yl(S:bD)(c:Int):Nat:=(List.range S.length).countP (fun i=>!decide (c<=wg S i))
theorem anr(ht:oQ S)(c:Int):yl S c<=S.length/\(decide (yl S c<S.length)&&decide (Pe S (yl S c)<=c))=bU S c:=by
 obtain⟨h1,h2,h3⟩:=aap (fun i=>decide (c<=wg S i)) S.length (fun a b h1 h2 h=>by
  have:=ae5 ht h1 h2;simp only[Az]at h⊢;omega)
 refine⟨h1,?_⟩;change yl S c<=S.length at h1;have h2:∀t,t<yl S c->¬c<=wg S t:=fun t hh=>by have:=h2 t hh;simpa using this
 have h3:∀t,yl S c<=t->t<S.length->c<=wg S t:=fun t hh hl=>by have:=h3 t hh hl;simpa using this
 generalize yl S c=k at*
 rw[Bg,Je];simp only[Cm,Az];constructor
 ·rintro⟨a,b⟩;have:=h3 k (Ab _) a;rw[TY a]at b;rw[JH a]at this;exact⟨_,A5 a,b,this⟩
 ·rintro⟨s,hs,a,b⟩;obtain⟨t,hl,rfl⟩:=C4 hs
  have hkt:k<=t:=by
   refine Fh fun aw=>?_
   have:=h2 t aw;rw[JH hl]at this;exact this b
  have hk:k<S.length:=by omega
  refine⟨hk,?_⟩;rw[TY hk];by_cases e:k=t
  ·subst e;exact a
  ·have q:=Ce.1 ht.1 k t hk hl (by omega);have:=h3 k (Ab _) hk;rw[JH hk]at this;omega
theorem ais(w:World)(Bs Bc bs i cap:Nat)(S:bD)(c:Int)(h1:w.cell? ⟨Bs,0,none⟩=some (.slice (some ⟨bs,0,none⟩) S.length cap))(h2:w.cell? ⟨Bc,0,none⟩=some (.int .i32 c))(h3:w.cell? ⟨bs,i*2+1,none⟩=some (.int .i32 (wg S i)))(hi:i<S.length)(hl:S.length<=6000):
 Calls prog 140 #[.int .i64 (i:Int),.pointer (some ⟨Bs,0,none⟩),.pointer (some ⟨Bc,0,none⟩)] w fun e w'=>e=.returned (.bool (decide (c<=wg S i)))/\∃q,w'=w.drewN q:=by
 go_in
 go_wp2_with fail
 go_big_quiet (fail)
 go_wp2_with fail
 go_ret
 exact⟨rfl,_,rfl⟩
theorem Y6(w:World)(sa:Option Addr)(sc bs:Nat)(S:bD)(c:Int)(ha:S≠ []->sa=some ⟨bs,0,none⟩/\bs<w.heap.size)(hc:fV w bs S)(ht:oQ S)(hl:S.length<=6000):
 Calls prog 112 #[.slice sa S.length sc,.int .i32 c] w fun e w'=>e=.returned (.bool (bU S c))/\aa af w w':=by
 obtain⟨W0,vu⟩:∃W0,W0=(w.alloc (.cells #[.slice sa S.length sc] 61)).alloc (.cells #[.int .i32 c] 21):=⟨_,rfl⟩
 have K0:Hid (aa af w W0):=by rw[vu];exact((aa.refl af w).alloc _).alloc _
 have xi:W0.heap.size=w.heap.size+1+1:=by rw[vu];simp
 have B1:aq W0 w.heap.size #[.slice sa S.length sc] 61:=by rw[vu];exact(aq.new w _ _).alloc _
 have B2:aq W0 (w.heap.size+1) #[.int .i32 c] 21:=by
  rw[vu];have:=aq.new (w.alloc (.cells #[.slice sa S.length sc] 61)) #[.int .i32 c] 21;simpa using this
 have HS:=ab (anr ht c);have eg:∀args w,(callFunc 140 args).run prog w=.ok (.enter 140 args) w:=enters_of func140 (by kernel_rfl) rfl
 have hF:=Any.sort_Search Tryz.aep 140 #[.pointer (some ⟨w.heap.size,0,none⟩),.pointer (some ⟨w.heap.size+1,0,none⟩)] S.length (fun i=>decide (c<=wg S i)) W0 eg (by omega)
  (fun m os i hi=>by
    have az:S≠ []:=by intro e;subst e;simp at hi
    obtain⟨rfl,hb⟩:=ha az;have ck:∀{a:Addr} {v:Value},a.block<W0.heap.size->W0.cell? a=some v->(grow (W0.drewN m) os).cell? a=some v:=(fun aw pH=>cell_grown aw pH m os);refine(ais (grow (W0.drewN m) os) w.heap.size (w.heap.size+1) bs i sc S c (ck (by show w.heap.size<_;omega) (B1.cell 0)) (ck (by show w.heap.size+1<_;omega) (B2.cell 0)) (ck (by show bs<_;omega) ((K0.out.cell (p:=⟨bs,i*2+1,none⟩) hb (fun h=>h)).trans (by rw[JH hi];exact(hc i hi).2))) hi hl).mono ?_
    rintro e w' ⟨h1,n,h2⟩;exact⟨h1,n,#[],by rw[h2,grow_empty]⟩)
  (fun a b h1 h2 h=>by
    have:=ae5 ht h1 h2;simp only[Az]at h⊢;omega)
 change Calls _ _ _ _ (fun e w'=>e=.returned (.int .i64 (yl S c:Nat))/\_)at hF
 have HF:=ab hF;have HC:=ab hc;have HA:=ab ha;have iA:=ab B1;have jA:=ab B2;clear hF hc ha ht B1 B2 eg;obtain⟨k,hk⟩:∃k,k=yl S c:=⟨_,rfl⟩
 rw[<-hk]at HS HF;clear hk;go_in;go_wp2_with fail;rw[<-vu];refine(HF.out).mono ?_;rintro e w1 ⟨rfl,q,os,rfl⟩;have ck:Hid (∀{a:Addr} {v:Value},a.block<W0.heap.size->W0.cell? a=some v->(grow (W0.drewN q) os).cell? a=some v):=fun aw pH=>cell_grown aw pH q os
 have e1:(grow (W0.drewN q) os).cell? ⟨w.heap.size,0,none⟩=some (.slice sa S.length sc):=ck.out (by show w.heap.size<_;omega) (iA.out.cell 0);have e2:(grow (W0.drewN q) os).cell? ⟨w.heap.size+1,0,none⟩=some (.int .i32 c):=ck.out (by show w.heap.size+1<_;omega) (jA.out.cell 0);have KF:Hid (aa af w (grow (W0.drewN q) os)):=K0.out.trans (BE (below_grown_sl W0.heap.size W0 q os (Ab _)));by_cases aw:k<S.length
 ·have az:S≠ []:=by intro e;subst e;simp at aw
  obtain⟨rfl,hb⟩:=HA.out az;have e3:(grow (W0.drewN q) os).cell? ⟨bs,k*2,none⟩=some (.int .i32 (Pe S k)):=ck.out (by show bs<_;omega) ((K0.out.cell (p:=⟨bs,k*2,none⟩) hb (fun h=>h)).trans (by rw[TY aw];exact(HC.out k aw).1));generalize hW:grow (W0.drewN q) os=W at*;clear ck hW;go_wp2_with fail;go_big_quiet (fail);go_wp2_with fail;go_ret;refine⟨?_,KF.out.drewN _⟩;rw[<-HS.out.2];simp[aw]
 ·generalize hW:grow (W0.drewN q) os=W at*
  clear ck hW;go_wp2_with fail;go_big_quiet (fail);go_wp2_with fail;go_ret;refine⟨?_,KF.out.drewN _⟩;rw[<-HS.out.2];simp[aw]
def de(ws:List Nat):List Value:=ws.map fun(x:Nat)=>Value.int .u64 (x:Int)
theorem xH(ws:List Nat):(de ws).length=ws.length:=by simp[de]
def fW(ws:List Nat):Prop:=∀x∈ws,x<18446744073709551616
def gh(ws:List Nat)(o u:Nat):Bool:=(ws.getD (o+u/64) 0).testBit (u % 64)
def tj(ws:List Nat)(o u:Nat):List Nat:=ws.set (o+u/64) (ws.getD (o+u/64) 0|||2^ (u % 64))
theorem Ra(ws:List Nat)(o u:Nat):(tj ws o u).length=ws.length:=by simp[tj]
theorem Lr(l:List Nat)(k m:Nat)(v d:Nat)(h:k<l.length):(l.set k v).getD m d=if k=m then v else l.getD m d:=by
 rw[Af,Af,List.getElem?_set];by_cases e:k=m
 ·subst e;simp[h]
 ·simp[e]
theorem fW.getD(h:fW ws)(k:Nat):ws.getD k 0<18446744073709551616:=by
 rw[Af]
 cases e:ws[k]? with
 |none=>simp
 |some x=>exact h x (Ca e)
theorem fW.put(h:fW ws)(o u:Nat):fW (tj ws o u):=fun x hx=>by
 unfold tj at hx;rcases Dr hx with h1|h1
 ·exact h x h1
 ·subst h1;have h2:(2:Nat) ^ (u % 64)<2^64:=Nat.pow_lt_pow_right (by decide) (Nat.mod_lt _ (by decide));exact Nat.or_lt_two_pow (n:=64) (h.getD _) h2
theorem af5{v:Nat}(h:o+u/64<ws.length):gh (tj ws o u) o v=(gh ws o v||decide (v=u)):=by
 unfold gh tj;rw[Lr _ _ _ _ _ h];by_cases e:o+u/64=o+v/64
 ·rw[if_pos e,Nat.testBit_or,Nat.testBit_two_pow,<-e];congr 1;rw[Bg];simp only[Az];omega
 ·rw[if_neg e]
  have:decide (v=u)=false:=by
   rw[A8];intro h;subst h;exact e rfl
  rw[this,Bool.or_false]
theorem y_(l:List Nat)(o:Nat)(cs:List Nat)(h:o+cs.length<=l.length)(k d:Nat):(splice l o cs).getD k d=if o<=k/\k<o+cs.length then cs.getD (k-o) d else l.getD k d:=by
 unfold splice;simp only[Af];have hl:(l.take o).length=o:=by simp;omega
 by_cases h1:k<o
 ·rw[if_neg (by omega),A6 (by omega),Av h1]
 ·rw[Bt (by omega),hl];by_cases h2:k<o+cs.length
  ·rw[if_pos (by omega),A6 (by omega)]
  ·rw[if_neg (by omega),Bt (by omega),Dl];congr 2;omega
theorem Xw(l:List Nat)(o:Nat)(cs:List Nat):splice (de l) o (de cs)=de (splice l o cs):=by
 unfold splice de;simp[List.map_take,List.map_drop]
theorem fW.splice(hl:fW l)(hc:fW cs)(o:Nat):fW (splice l o cs):=fun x hx=>by
 unfold Go.splice at hx;rcases Ap.1 hx with h|h
 ·exact hl x (C0 h)
 ·rcases Ap.1 h with h|h
  ·exact hc x h
  ·exact hl x (Fk h)
theorem OO(h:o+cs.length<=l.length)(hu:u/64<cs.length):gh (splice l o cs) o u=gh cs 0 u:=by
 unfold gh;rw[y_ l o cs h,if_pos (by omega)];congr 2;omega
theorem ZY{o':Nat}(h:o+cs.length<=l.length)(hd:o'+L<=o\/o+cs.length<=o')(hu:u/64<L):gh (splice l o cs) o' u=gh l o' u:=by
 unfold gh;rw[y_ l o cs h,if_neg (by omega)]
def kV(l:List Nat)(o L:Nat):List Nat:=(l.drop o).take L
theorem JC(h:o+L<=l.length):(kV l o L).length=L:=by unfold kV;simp;omega
theorem Rk{k d:Nat}(hk:k<L):(kV l o L).getD k d=l.getD (o+k) d:=by
 unfold kV;simp only[Af];rw[Av hk,Dl]
theorem Tk(hu:u/64<L):gh (kV l o L) 0 u=gh l o u:=by
 unfold gh;rw[Ba,Rk hu]
theorem fW.kV(h:fW l)(o L:Nat):fW (kV l o L):=fun x hx=>h x (Fk (C0 hx))
theorem anP(h:o+L<=l.length):splice l o (kV l o L)=l:=by
 unfold splice;rw[JC h];unfold kV;rw[<-List.drop_drop,List.take_append_drop,List.take_append_drop]
theorem ahD{a b:List Nat}(hl:a.length=b.length)(hg:∀k,a.getD k 0=b.getD k 0):a=b:=by
 refine List.ext_getElem hl fun k h1 h2=>?_
 have:=hg k;rw[Af,Af,Ae h1,Ae h2]at this;simpa using this
theorem amM(h:o+cs.length<=l.length)(hu:u/64<cs.length):tj (splice l o cs) o u=splice l o (tj cs 0 u):=by
 have cT:=Dd l o cs h;have hp:o+(tj cs 0 u).length<=l.length:=by rw[Ra];exact h
 refine ahD ?_ fun k=>?_
 ·rw[Ra,cT,Dd l o _ hp]
 ·rw[y_ l o _ hp,Ra];unfold tj;rw[Lr _ _ _ _ _ (by omega),y_ l o cs h,y_ l o cs h];by_cases e1:o+u/64=k
  ·subst e1;rw[if_pos rfl,if_pos (by omega),if_pos (by omega),Ey,Ba,Lr _ _ _ _ _ hu,if_pos rfl]
  ·rw[if_neg e1];by_cases e2:o<=k/\k<o+cs.length
   ·rw[if_pos e2,if_pos e2,Ba,Lr _ _ _ _ _ hu,if_neg (by omega)]
   ·rw[if_neg e2,if_neg e2]
theorem ZZ(L u:Nat):gh (List.replicate L 0) 0 u=false:=by
 unfold gh;rw[Af,Cz];split<;>simp
theorem fW.JN(L:Nat):fW (List.replicate L 0):=fun x hx=>by rw[Dy hx];omega
theorem afr(v:Value)(n:Nat):(Builtin.zeroCells #[v] n).toList=List.replicate n v:=by
 unfold Builtin.zeroCells;refine List.ext_getElem (by simp) fun k h1 h2=>?_
 simp[Gd]
theorem aa.row(g:Nat)(cs:Array Value):aa (fun i=>i=g) w (w.setRow g cs):=⟨rfl,rfl,rfl,by simp[World.setRow],fun k _ hk=>setRow_other w g k cs hk⟩
theorem aqu{o:Oper}{a:Act}(gQ:o.guard=none)(d s:Operand)(dT sT:TypeId)
 (ho:o.op=.call {callee:=.builtin .copy,args:=#[d,s],argTypes:=#[dT,sT]})(elem:TypeId)(hu:P.underlying dT=some (.slice elem))(aS:(P.info? elem).map (·.size)=some 1)
 (g off L Lb Nn g2 vT:Nat)(hd:a.eval d=.slice (some ⟨g,off,none⟩) L Lb)(hs:a.eval s=.slice (some ⟨g2,vT,none⟩) L Nn)
 (ws:List Nat)(t:TypeId)(hg:aq w g (de ws).toArray t)(cs:List Nat)(hn:cs.length=L)
 (AU:∀k,k<L->w.cell? ⟨g2,vT+k,none⟩=some (.int .u64 (cs.getD k 0:Nat)))(tV:off+L<=ws.length)
 (h:∀w',aq w' g (de (splice ws off cs)).toArray t->aa (fun i=>i=g) w w'->wpList P ops Q rest (a.put o.dst (goInt L)) w'):wpList P ops Q (o::rest) a w:=by
 subst hn;refine wpList_copy_own gQ d s dT sT ho elem hu aS g off cs.length Lb ⟨g2,vT,none⟩ cs.length Nn hd hs _ t hg (de cs) (by simp[xH]) (fun j v hv=>?_) (by simpa[xH]using tV) (fun v hv=>?_) ?_
 ·have hj:j<cs.length:=by have:=(Ah.1 hv).1;simpa[xH]using this
  have:=AU j hj;have e:(⟨g2,vT,none⟩:Addr).add j=⟨g2,vT+j,none⟩:=by unfold Addr.add;split<;>simp_all
  rw[e,this];unfold de at hv;simp[Af,Ae hj]at hv⊢;exact hv
 ·unfold de at hv;obtain⟨x,_,rfl⟩:=Bf.1 hv;rfl
 ·rw[xH];refine h _ ?_ (aa.row g _);have:=setRow_heap w g _ (List.take off (de ws)++(de cs++List.drop (off+cs.length) (de ws))).toArray t _ hg;rw[<-Xw];unfold splice aq;rw[xH];exact this
theorem afq{o:Oper}{a:Act}{K:Act->World->Prop}(d s:Operand)(dT sT:TypeId)
 (ho:o.op=.call {callee:=.builtin .copy,args:=#[d,s],argTypes:=#[dT,sT]})(elem:TypeId)(hu:P.underlying dT=some (.slice elem))(aS:(P.info? elem).map (·.size)=some 1)
 (g off L Lb Nn g2 vT:Nat)(hd:a.eval d=.slice (some ⟨g,off,none⟩) L Lb)(hs:a.eval s=.slice (some ⟨g2,vT,none⟩) L Nn)
 (ws:List Nat)(t:TypeId)(hg:aq w g (de ws).toArray t)(cs:List Nat)(hn:cs.length=L)
 (AU:∀k,k<L->w.cell? ⟨g2,vT+k,none⟩=some (.int .u64 (cs.getD k 0:Nat)))(tV:off+L<=ws.length)
 (h:∀w',aq w' g (de (splice ws off cs)).toArray t->aa (fun i=>i=g) w w'->K (a.put o.dst (goInt L)) w'):o.wp P a w K Q:=by
 subst hn
 have sX:=run_copy_row P w dT sT o.type elem g off cs.length Lb ⟨g2,vT,none⟩ cs.length Nn (de ws).toArray t (de cs) hu aS hg (by simp[xH]) (fun j v hv=>by
  have hj:j<cs.length:=by have:=(Ah.1 hv).1;simpa[xH]using this
  have:=AU j hj;have e:(⟨g2,vT,none⟩:Addr).add j=⟨g2,vT+j,none⟩:=by unfold Addr.add;split<;>simp_all
  rw[e,this];unfold de at hv;simp[Af,Ae hj]at hv⊢;exact hv) (by simpa[xH]using tV) (fun v hv=>by
  unfold de at hv;obtain⟨x,_,rfl⟩:=Bf.1 hv;rfl)
 unfold Oper.wp;simp[execOp,ho,resolve,invoke,builtin,hd,hs,sX,Result.andThen];rw[xH];refine h _ ?_ (aa.row g _);have:=setRow_heap w g _ (List.take off (de ws)++(de cs++List.drop (off+cs.length) (de ws))).toArray t _ hg;rw[<-Xw];unfold splice aq;rw[xH];exact this
theorem aoY{o:Oper}{a:Act}(gQ:o.guard=none)(d:Operand)(dT:TypeId)
 (ho:o.op=.call {callee:=.builtin .clear,args:=#[d],argTypes:=#[dT]})(elem:TypeId)(hu:P.underlying dT=some (.slice elem))(hz:(zeroValue elem).run P w=.ok (.int .u64 0) w)
 (g off n c:Nat)(hd:a.eval d=.slice (some ⟨g,off,none⟩) n c)(hn:n≠0)
 (ws:List Nat)(t:TypeId)(hg:aq w g (de ws).toArray t)(tV:off+n<=ws.length)
 (h:∀w',aq w' g (de (splice ws off (List.replicate n 0))).toArray t->aa (fun i=>i=g) w w'->wpList P ops Q rest (a.put o.dst (.tuple #[])) w'):wpList P ops Q (o::rest) a w:=by
 refine wpList_plain gQ fun K hK=>?_
 have h:=h _ (setRow_heap w g _ _ t _ hg) (aa.row g _);have bt:=run_storeCells_at P g off t (List.replicate n (.int .u64 0)) 0 _ w hg (by simpa[de]using tV) (by intro v hv;rw[Dy hv];rfl)
 have sX:(Builtin.clear_ #[dT] o.type #[.slice (some ⟨g,off,none⟩) n c]).run P w=.ok (.tuple #[]) (w.setRow g (de (splice ws off (List.replicate n 0))).toArray):=by
  obtain⟨m,rfl⟩:∃m,n=m+1:=⟨n-1,by omega⟩
  have e:(Value.cells (.int .u64 0))=#[.int .u64 0]:=rfl;have e2:de (List.replicate (m+1) 0)=List.replicate (m+1) (.int .u64 0):=by simp[de]
  simp only[Builtin.clear_,go_sem];simp[Ga hu,hz,afr,bt];rw[<-Xw,e2];unfold splice;simp
 unfold Oper.wp;simp[execOp,ho,resolve,invoke,builtin,hd,sX,Result.andThen];exact hK _ _ h
end Go.Proofs.YtpdnofhackjfdaaGreatDoor
