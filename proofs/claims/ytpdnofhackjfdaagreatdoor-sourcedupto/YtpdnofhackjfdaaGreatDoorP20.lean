/- A pattern's grou -/
import Derived.Test.YtpdnofhackjfdaaGreatDoorP19
set_option linter.all false
set_option maxRecDepth 100000
set_option maxHeartbeats 1000000
namespace Go.Proofs.YtpdnofhackjfdaaGreatDoor
open Go.Proofs.Tryz
variable {ops:Array Oper} {f:Bl} {a c:CT} {Q:Exit->Act->World->Prop} {G G':Int} {st:List MS} {cs l ws:List Nat} {rest:List Oper} {L i o u:Nat} {P:Program} {g:RG} {S sp:bI} {w:World}
theorem adO(st:RS)(e p:Int):(st.eN e p).aT=st.aT:=rfl
theorem x8(g:RG)(l:List UInt8)(st:RS):(eY g l st).aT=st.aT:=by unfold eY;split<;>rfl
theorem adF(g:RG)(l:List UInt8)(st:RS):(qp g l st).aT=st.aT:=by unfold qp;split<;>rfl
theorem IG(g:RG)(l:List UInt8)(st:RS):(fG g l st).aT=st.aT:=by unfold fG;split<;>rfl
theorem X6(g:RG)(st:RS):(jx g st).1.aT=st.aT:=by unfold jx;split<;>rfl
theorem X_(g:RG)(st:RS):(fL g st).1.aT=st.aT:=by
 unfold fL;split
 ·simp only;rw[X6,X6]
 ·exact X6 g st
theorem amS(g:RG)(st:RS):(sE g st).1.aT=st.aT:=by
 unfold sE;split
 ·rfl
 ·exact X_ g st
theorem aeb(g:RG)(st:RS):(eO g st).1.aT=st.aT:=by
 unfold eO;split
 ·simp only;rw[x8,amS];exact X_ g st
 ·simp only;rw[x8,X_]
theorem aeu(g:RG)(a:PT)(st:RS):(iw g a st).1.aT=st.aT:=by
 unfold iw;split
 ·simp only;rw[IG]
 ·split
  ·simp only;rw[IG]
  ·split
   ·simp only;rw[IG]
   ·split
    ·simp only;rw[IG];split
     ·rw[adO,aeb]
     ·rw[aeb]
    ·rfl
theorem am3(g:RG)(e:Bool)(st:RS):(l9 g e st).1.aT=st.aT:=by
 unfold l9
 cases e
 ·exact adF g _ st
 ·exact x8 g _ st
theorem Yb(g:RG)(st:RS):(dq g st).1.aT=st.aT:=by unfold dq;rw[am3,IG]
theorem am6(g:RG)(p:Int)(x:RS×Int):(rA g p x).aT=x.1.aT:=by
 unfold rA;split
 ·split
  ·rw[adO,Yb]
  ·rw[Yb]
 ·rfl
theorem aeg(g:RG)(st:RS):(gi g st).aT=st.aT:=by
 unfold gi;split
 ·rfl
 ·rw[am6,Yb]
theorem aej(g:RG):∀(m:Nat) (st:RS),(mM g m st).aT=st.aT
 |0,st=>rfl
 |m+1,st=>by
  unfold mM;split
  ·rfl
  ·rw[aej g m,aeg]
theorem amO(g:RG)(st:RS):(sD g st).aT=st.aT:=by unfold sD;rw[x8,aej,aeg,IG]
theorem aem(g:RG)(first:Nat):∀(m:Nat) (st:RS),(lL g first m st).aT=st.aT
 |0,st=>rfl
 |m+1,st=>by
  unfold lL;split
  ·rw[aem g first m]
  ·rfl
theorem am0(g:RG)(first:Nat)(st:RS):(ng g first st).aT=st.aT:=by
 unfold ng;split<;>rfl
theorem amX(g:RG)(st:RS):(pL g st).aT=st.aT:=by unfold pL;rw[x8,am0,aem,x8]
theorem aee(g:RG)(st:RS):st.aT<=(iH g st).aT/\(aK iE (aC g st)=false->(iH g st).aT=st.aT+1)/\(¬aK iE (aC g st)=false->aK DL (aC g {st with next:=st.next+1})=true->(iH g st).aT=st.aT+1):=by
 unfold iH;by_cases h1:aK iE (aC g st)=false
 ·rw[if_pos h1];exact⟨by simp,fun _=>rfl,fun h=>absurd h1 h⟩
 ·rw[if_neg h1];by_cases h2:aK DL (aC g {st with next:=st.next+1})=true
  ·rw[if_pos h2,amX];exact⟨by simp,fun h=>absurd h h1,fun _ _=>rfl⟩
  ·rw[if_neg h2,x8,IG];exact⟨by simp,fun h=>absurd h h1,fun _ h=>absurd h h2⟩
def Gm(aI:RS->RS×PT):Prop:=∀st,st.aT<=(aI st).1.aT
theorem ad_(g:RG)(aI:RS->RS×PT)(halt:Gm aI)(st:RS):st.aT<=(dE g aI st).1.aT:=by
 unfold dE;split
 ·unfold wM;simp only;rw[x8];have h1:=(aee g {st with next:=st.next+1}).1;have h2:=halt (iH g {st with next:=st.next+1});simp only at h1;omega
 ·split
  ·simp only;rw[amO];exact Ab _
  ·split
   ·simp only;rw[x8];exact Ab _
   ·split
    ·exact Ab _
    ·simp only;rw[adF];exact Ab _
theorem aez(g:RG)(aI:RS->RS×PT)(halt:Gm aI):∀(m:Nat) (st:RS) (aF:List PT),st.aT<=(jy g aI m st aF).1.aT
 |0,st,aF=>Ab _
 |m+1,st,aF=>by
  unfold jy;split
  ·exact Ab _
  ·have h1:=aez g aI halt m (iw g (dE g aI st).2 (dE g aI st).1).1 (aF++[(iw g (dE g aI st).2 (dE g aI st).1).2]);rw[aeu]at h1;have h2:=ad_ g aI halt st;omega
theorem Yd(g:RG)(aI:RS->RS×PT)(halt:Gm aI):Gm (eR g aI):=fun st=>aez g aI halt _ _ _
theorem ad7(g:RG)(aI:RS->RS×PT)(halt:Gm aI):∀(m:Nat) (st:RS) (aF:List PT),st.aT<=(iG g aI m st aF).1.aT
 |0,st,aF=>Ab _
 |m+1,st,aF=>by
  unfold iG;split
  ·have h1:=ad7 g aI halt m (eR g aI {st with next:=st.next+1}).1 (aF++[(eR g aI {st with next:=st.next+1}).2]);have h2:=Yd g aI halt {st with next:=st.next+1};simp only at h2;omega
  ·exact Ab _
theorem Sk(g:RG):∀k:Nat,Gm (aY g k)
 |0=>fun st=>Ab _
 |k+1=>fun st=>by
  unfold aY;have h1:=Yd g _ (Sk g k) st;have h2:=ad7 g _ (Sk g k) (g.rs.length+1) (eR g (aY g k) st).1 [(eR g (aY g k) st).2];simp only;omega
mutual
theorem ai3(h:G<=G'):∀C:CT,C.g_ G->C.g_ G'
 |.node k sp fo nt ed gr lo hi lz cU,hg=>by
  unfold CT.g_ at hg⊢;exact⟨hg.1,by omega,QN h cU hg.2.2⟩
theorem QN(h:G<=G'):∀cs:List CT,CT.fI G cs->CT.fI G' cs
 | [],_=>by unfold CT.fI;trivial
 |c::cs,hg=>by
  unfold CT.fI at hg⊢;exact⟨ai3 h c hg.1,QN h cs hg.2⟩
end
theorem Vo:∀{a b:List CT},CT.fI G a->CT.fI G b->CT.fI G (a++b)
 | [],b,_,hb=>hb
 |c::a,b,ha,hb=>by
  unfold CT.fI at ha;show CT.fI G (c::(a++b))
  unfold CT.fI;exact⟨ha.1,Vo ha.2 hb⟩
theorem GC(h:c.g_ G):CT.fI G [c]:=by unfold CT.fI;exact⟨h,by unfold CT.fI;trivial⟩
theorem MB(G:Nat)(sp:bI)(fo nt:Bool):(mx sp fo nt).g_ (G:Int):=by
 unfold mx CT.g_ CT.fI;simp
theorem abU(G:Nat)(e:Int):(vH e).g_ (G:Int):=by
 unfold vH CT.g_ CT.fI;simp
theorem ai5{G:Nat}(ha:a.g_ (G:Int))(lo hi:Int)(lz:Bool):(ud a lo hi lz).g_ (G:Int):=by
 unfold ud CT.g_;exact⟨Cm _,by omega,GC ha⟩
theorem ai4(g:RG){G:Nat}(ha:a.g_ (G:Int))(st:RS):(nK g a st).g_ (G:Int):=by
 unfold nK;(repeat' split)<;>first|exact ai5 ha _ _ _|exact ha
def Gc(aI:RS->RS×PT)(bZ:Bool->RS->CT):Prop:=∀fo st,(bZ fo st).g_ ((aI st).1.aT:Int)
theorem ai2(g:RG)(aI:RS->RS×PT)(halt:Gm aI)(bZ:Bool->RS->CT)(hc:Gc aI bZ)(fo:Bool)(st:RS):(ko g bZ fo st).g_ ((dE g aI st).1.aT:Int):=by
 unfold ko dE;by_cases h1:aK Ke (aC g st)=true
 ·rw[if_pos h1,if_pos h1];unfold wM;simp only;rw[x8];have hH:=aee g {st with next:=st.next+1};have hA:=halt (iH g {st with next:=st.next+1});unfold sV;split
  ·rename_i h2
   have:=hH.2.1 h2;unfold CT.g_;simp only at this⊢;exact⟨by omega,by omega,GC (hc _ _)⟩
  ·rename_i h2
   split
   ·rename_i h3
    have:=hH.2.2 h2 h3;unfold CT.g_;simp only at this⊢;exact⟨by omega,by omega,GC (hc _ _)⟩
   ·unfold CT.g_;exact⟨by omega,by omega,GC (hc _ _)⟩
 ·rw[if_neg h1];split
  ·exact MB _ _ _ _
  ·split
   ·unfold ox;(repeat' split)<;>first|exact MB _ _ _ _|exact abU _ _
   ·split
    ·unfold Ji;(repeat' split)<;>first|exact MB _ _ _ _|exact abU _ _
    ·exact MB _ _ _ _
theorem abW(g:RG)(aI:RS->RS×PT)(halt:Gm aI)(bZ:Bool->RS->CT)(hc:Gc aI bZ)(fo:Bool):∀(m:Nat) (st:RS) (aF:List CT) (ps:List PT),CT.fI (st.aT:Int) aF->CT.fI ((jy g aI m st ps).1.aT:Int) (my g aI bZ fo m st aF)
 |0,st,aF,ps,ha=>ha
 |m+1,st,aF,ps,ha=>by
  unfold jy my;split
  ·exact ha
  ·refine abW g aI halt bZ hc fo m _ _ _ ?_;have h1:=ad_ g aI halt st;rw[aeu];exact Vo (QN (by omega) _ ha) (GC (ai4 g (ai2 g aI halt bZ hc fo st) _))
theorem abV(g:RG)(aI:RS->RS×PT)(halt:Gm aI)(bZ:Bool->RS->CT)(hc:Gc aI bZ)(fo:Bool)(st:RS):(nL g aI bZ fo st).g_ ((eR g aI st).1.aT:Int):=by
 unfold nL CT.g_ eR;exact⟨Cm _,by omega,abW g aI halt bZ hc fo _ st [] [] (by unfold CT.fI;trivial)⟩
theorem abT(g:RG)(aI:RS->RS×PT)(halt:Gm aI)(bZ:Bool->RS->CT)(hc:Gc aI bZ)(fo:Bool):∀(m:Nat) (st:RS) (aF:List CT) (ps:List PT),CT.fI (st.aT:Int) aF->CT.fI ((iG g aI m st ps).1.aT:Int) (lE g aI bZ fo m st aF)
 |0,st,aF,ps,ha=>ha
 |m+1,st,aF,ps,ha=>by
  unfold iG lE;split
  ·refine abT g aI halt bZ hc fo m _ _ _ ?_;have h1:=Yd g aI halt {st with next:=st.next+1};simp only at h1;exact Vo (QN (by omega) _ ha) (GC (abV g aI halt bZ hc fo _))
  ·exact ha
theorem QM(g:RG):∀k:Nat,Gc (aY g k) (dR g k)
 |0=>fun fo st=>MB _ _ _ _
 |k+1=>fun fo st=>by
  have h1:=abV g (aY g k) (Sk g k) (dR g k) (QM g k) fo st;unfold dR CT.g_ aY;exact⟨Cm _,by omega,abT g (aY g k) (Sk g k) (dR g k) (QM g k) fo _ _ _ _ (GC h1)⟩
theorem ai6(g:RG)(st:RS):(pk g st).g_ ((eJ g st).1.aT:Int):=by
 unfold eJ;split
 ·exact QM g _ false st
 ·exact QM g _ false st
def jX(l:bI):Prop:=∀s∈l,0<=s.1/\s.1<=s.2/\s.2<=1114111
theorem jX.append{a b:bI}(ha:jX a)(hb:jX b):jX (a++b):=fun s hs=>(Ap.1 hs).elim (ha s) (hb s)
theorem jX.one{x y:Int}(h:0<=x/\x<=y/\y<=1114111):jX [(x,y)]:=fun s hs=>by simp at hs;subst hs;exact h
theorem jX.set(r:Int):jX (mi r):=by
 unfold mi;(repeat' split)<;>(intro s hs;simp at hs)<;>(rcases hs with rfl|rfl|rfl|rfl)<;>simp
theorem vA.YR{fo nt:Bool}(h:vA S sp fo nt)(hw:jX sp):ph S/\∀c,0<=c->c<=1114111->cu S c=fW sp fo nt c:=h.has hw
mutual
def CT.lP:CT->Prop
 |.node k sp fo nt ed gr lo hi lz cU=>jX sp/\CT.kL cU
def CT.kL:List CT->Prop
 | []=>True
 |c::cs=>CT.lP c/\CT.kL cs
end
def vz(g:RG):Prop:=∀r∈g.rs,0<=r/\r<=1114111
theorem afb(hg:vz g)(st:RS)(h:aC g st≠ -1):0<=aC g st/\aC g st<=1114111:=by
 unfold aC at h⊢;rw[Af]at h⊢
 cases e:g.rs[st.next]? with
 |none=>rw[e]at h;exact absurd rfl h
 |some r=>exact hg r (Ce e)
theorem acT{l:List UInt8}{r:Int}(h:aK l r=true):0<=r/\r<=255:=by
 unfold aK at h;obtain⟨b,hb,e⟩:=Cu.1 h;have:=b.toNat_lt;have:(b.toNat:Int)=r:=by simpa using e
 omega
theorem adH{l:List UInt8}{st:RS}(h:jg (eY g l st).bA):aK l (aC g st)=true:=by
 unfold eY at h;split at h
 ·assumption
 ·exact absurd h.1 adN
theorem alX{l:List UInt8}{st:RS}(h:jg (qp g l st).bA):aC g st≠ -1:=by
 unfold qp at h;split at h
 ·exact absurd h.1 adN
 ·rename_i c;exact fun e=>c (Or.inl e)
theorem abp{c:Int}(h:0<=c/\c<=1114111):0<=qN c/\qN c<=1114111:=by
 unfold qN;(repeat' split)<;>omega
theorem adX(hg:vz g){st:RS}(h:jg (dq g st).1.bA):0<=(dq g st).2/\(dq g st).2<=1114111:=by
 unfold dq l9 at h⊢;by_cases e:aK gA (aC g st)=true
 ·rw[e]at h⊢;simp only[if_true]at h⊢;have:=acT (adH h);exact abp (by omega)
 ·rw[Eq.2 e]at h⊢;simp only[Aq,if_false]at h⊢;exact afb hg _ (alX h)
theorem ac3(hg:vz g){st:RS}(h:jg (gi g st).bA):jX (iN g st):=by
 unfold gi at h;unfold iN;by_cases c:aK gA (aC g st)=true/\aK mJ (aC g {st with next:=st.next+1})=true
 ·rw[if_pos c];exact jX.set _
 ·rw[if_neg c]at h⊢;have h1:=adX hg ((aeB g _ _).pq h);by_cases d:aK xW (aC g (dq g st).1)=true
  ·rw[if_pos d];unfold rA at h;rw[if_pos d]at h;split at h
   ·exact absurd h.2.2 amb
   ·rename_i hn
    have h2:=adX hg h;exact jX.one ⟨h1.1,by omega,h2.2⟩
  ·rw[if_neg d];exact jX.one ⟨h1.1,Cm _,h1.2⟩
theorem ac4(hg:vz g):∀(m:Nat) (st:RS) (aF:bI),jX aF->jg (mM g m st).bA->jX (rO g m st aF)
 |0,st,aF,ha,_=>ha
 |m+1,st,aF,ha,h=>by
  unfold mM at h;unfold rO;split
  ·exact ha
  ·rename_i c
   rw[if_neg c]at h;exact ac4 hg m _ _ (ha.append (ac3 hg ((Sn g m _).pq h))) h
theorem Y0:∀{a b:List CT},CT.kL a->CT.kL b->CT.kL (a++b)
 | [],b,_,hb=>hb
 |c::a,b,ha,hb=>by
  unfold CT.kL at ha;show CT.kL (c::(a++b))
  unfold CT.kL;exact⟨ha.1,Y0 ha.2 hb⟩
theorem OR(h:c.lP):CT.kL [c]:=by unfold CT.kL;exact⟨h,by unfold CT.kL;trivial⟩
theorem KI:jX []:=fun s hs=>by cases hs
theorem KJ(h:jX sp)(fo nt:Bool):(mx sp fo nt).lP:=by
 unfold mx CT.lP CT.kL;exact⟨h,trivial⟩
theorem af1(e:Int):(vH e).lP:=by
 unfold vH CT.lP CT.kL;exact⟨KI,trivial⟩
theorem ap4(ha:a.lP)(lo hi:Int)(lz:Bool):(ud a lo hi lz).lP:=by
 unfold ud CT.lP;exact⟨KI,OR ha⟩
theorem ap0(g:RG)(ha:a.lP)(st:RS):(nK g a st).lP:=by
 unfold nK;(repeat' split)<;>first|exact ap4 ha _ _ _|exact ha
def Wc(aI:RS->RS×PT)(bZ:Bool->RS->CT):Prop:=∀fo st,jg (aI st).1.bA->(bZ fo st).lP
theorem apZ(hg:vz g)(aI:RS->RS×PT)(bZ:Bool->RS->CT)(nS:Wc aI bZ)(fo:Bool)(st:RS)(aB:aC g st≠ -1)(hc:jg (dE g aI st).1.bA):(ko g bZ fo st).lP:=by
 unfold dE at hc;unfold ko;split
 ·rename_i h1
  rw[if_pos h1]at hc;have eD:=(uS g _ _).pq (show jg (eY g Kf (aI (iH g {st with next:=st.next+1})).1).bA from hc)
  have:∀(fo:Bool) (gr:Int),(CT.node 2 [] false false 0 gr 0 0 false [bZ fo (iH g {st with next:=st.next+1})]).lP:=by
   intro fo gr;unfold CT.lP;exact⟨KI,OR (nS _ _ eD)⟩
  unfold sV;(repeat' split)<;>exact this _ _
 ·rename_i h1
  rw[if_neg h1]at hc;split
  ·rename_i h2
   rw[if_pos h2]at hc;unfold sD at hc;have c1:=(uS g _ _).pq hc;have c2:=(Sn g _ _).pq c1;exact KJ (ac4 hg _ _ _ (ac3 hg c2) c1) _ _
  ·rename_i h2
   rw[if_neg h2]at hc;split
   ·rename_i h3
    rw[if_pos h3]at hc;have:=acT (adH hc);unfold ox;have he:=abp (c:=aC g {st with next:=st.next+1}) (by omega);(repeat' split)<;>first|exact KJ (jX.set _) _ _|exact af1 _|exact KJ (jX.one ⟨he.1,Cm _,he.2⟩) _ _
   ·split
    ·unfold Ji;split<;>first|exact KJ (jX.one (by omega)) _ _|exact af1 _
    ·have:=afb hg st aB;exact KJ (jX.one ⟨this.1,Cm _,this.2⟩) _ _
theorem af3(hg:vz g)(aI:RS->RS×PT)(halt:∀st,da st.bA (aI st).1.bA)(bZ:Bool->RS->CT)(nS:Wc aI bZ)(fo:Bool):∀(m:Nat) (st:RS) (aF:List CT) (ps:List PT),CT.kL aF->jg (jy g aI m st ps).1.bA->CT.kL (my g aI bZ fo m st aF)
 |0,st,aF,ps,ha,hc=>ha
 |m+1,st,aF,ps,ha,hc=>by
  unfold jy at hc;unfold my;split
  ·exact ha
  ·rename_i h1
   rw[if_neg h1]at hc;have c1:=(Ss g aI halt m _ _).pq hc;have c2:=(Yc g _ _).pq c1;exact af3 hg aI halt bZ nS fo m _ _ _ (Y0 ha (OR (ap0 g (apZ hg aI bZ nS fo st (fun e=>h1 (Or.inl e)) c2) _))) hc
theorem af2(hg:vz g)(aI:RS->RS×PT)(halt:∀st,da st.bA (aI st).1.bA)(bZ:Bool->RS->CT)(nS:Wc aI bZ)(fo:Bool)(st:RS)(hc:jg (eR g aI st).1.bA):(nL g aI bZ fo st).lP:=by
 have:=af3 hg aI halt bZ nS fo _ st [] [] (by unfold CT.kL;trivial) hc;unfold nL CT.lP;exact⟨KI,this⟩
theorem af0(hg:vz g)(aI:RS->RS×PT)(halt:∀st,da st.bA (aI st).1.bA)(bZ:Bool->RS->CT)(nS:Wc aI bZ)(fo:Bool):∀(m:Nat) (st:RS) (aF:List CT) (ps:List PT),CT.kL aF->jg (iG g aI m st ps).1.bA->CT.kL (lE g aI bZ fo m st aF)
 |0,st,aF,ps,ha,hc=>ha
 |m+1,st,aF,ps,ha,hc=>by
  unfold iG at hc;unfold lE;split
  ·rename_i h1
   rw[if_pos h1]at hc;have c1:=(Kn g aI halt m _ _).pq hc;exact af0 hg aI halt bZ nS fo m _ _ _ (Y0 ha (OR (af2 hg aI halt bZ nS fo _ c1))) hc
  ·exact ha
theorem YZ(hg:vz g):∀(k:Nat),Wc (aY g k) (dR g k)
 |0=>fun fo st hc=>KJ KI _ _
 |k+1=>fun fo st hc=>by
  unfold aY at hc;have hle:=Sl g k;have c1:=(Kn g (aY g k) hle _ _ _).pq hc;have h1:=af2 hg (aY g k) hle (dR g k) (YZ hg k) fo st c1;have h2:=af0 hg (aY g k) hle (dR g k) (YZ hg k) fo _ _ _ _ (OR h1) hc;unfold dR CT.lP;exact⟨KI,h2⟩
theorem ap5(hg:vz g)(st:RS)(hc:jg (eJ g st).1.bA):(pk g st).lP:=by
 refine YZ hg _ false st ?_;unfold eJ at hc;split at hc
 ·exact hc
 ·exact(Oz g _).pq hc
def MQ(G:Int)(m:MS):Prop:=(m.kind=1->jX m.sp)/\(m.kind=3->0<=m.slot/\m.slot<2*G)/\(0<=m.kind/\m.kind<=4)
def iJ(G:Int)(st:List MS):Prop:=∀m∈st,MQ G m
def BQ(G:Int)(f:Bl):Prop:=∀st nx,iJ G st->iJ G (f st nx).1
theorem iJ.rE(h:iJ G st){m:MS}(hm:MQ G m):iJ G (st++[m]):=fun x hx=>by
 rcases Ap.1 hx with h1|h1
 ·exact h x h1
 ·simp at h1;subst h1;exact hm
theorem MQ.lW(G:Int)(a b:Int):MQ G (ku a b):=⟨fun h=>by simp[ku]at h,fun h=>by simp[ku]at h,by simp[ku]⟩
theorem MQ.zero(G:Int):MQ G bS:=⟨fun h=>by simp[bS]at h,fun h=>by simp[bS]at h,by simp[bS]⟩
theorem MQ.rF(G:Int)(e n:Int):MQ G (sH e n):=⟨fun h=>by simp[sH]at h,fun h=>by simp[sH]at h,by simp[sH]⟩
theorem MQ.mark{s:Int}(hs:0<=s/\s<2*G)(n:Int):MQ G (iS s n):=⟨fun h=>by simp[iS]at h,fun h=>hs,by simp[iS]⟩
theorem MQ.take(h:jX sp)(fo nt:Bool)(n:Int):MQ G (pP sp fo nt n):=⟨fun _=>h,fun h=>by simp[pP]at h,by simp[pP]⟩
theorem BQ.su{s:Int->MS}(hs:∀n,MQ G (s n)):BQ G (fu s):=fun st nx h=>by
 unfold fu;(repeat' split)<;>first|exact h.rE (hs _)|exact(h.rE (hs _)).rE (hs _)
theorem iJ.Vd(h:iJ G st)(a b:Int):iJ G (dQ st a b).1:=by
 unfold dQ;(repeat' split)<;>first|exact h|exact h.rE (MQ.lW G _ _)
theorem iJ.lW(h:iJ G st)(f s:Ex):iJ G (gP st f s).1:=by
 unfold gP;split
 ·exact h.Vd _ _
 ·exact(h.Vd _ _).Vd _ _
theorem iJ.Gw(h:iJ G st)(lz:Bool)(f s:Ex):iJ G (dx lz st f s).1:=by
 unfold dx;split<;>exact h.lW _ _
theorem BQ.gR(hf:BQ G f):∀m,BQ G (nG f m)
 |0=>fun st nx h=>h
 |m+1=>fun st nx h=>BQ.gR hf m _ _ (hf st nx h)
theorem BQ.nX(hf:BQ G f)(lz:Bool)(nx:Ex):∀m,BQ G (fT f lz nx m)
 |0=>fun st a h=>h
 |m+1=>fun st a h=>BQ.nX hf lz nx m _ _ ((hf st a h).Gw lz _ _)
theorem iJ.getD(h:iJ G st)(k:Nat):MQ G (st.getD k bS):=by
 rw[Af]
 cases e:st[k]? with
 |none=>exact MQ.zero G
 |some m=>exact h m (Ce e)
theorem BQ.loop(hf:BQ G f)(lz:Bool):BQ G (nF f lz):=fun st nx h=>by
 have h1:iJ G (qI f lz st nx).1:=by unfold qI;exact(hf _ _ (h.rE (MQ.zero G))).Gw lz _ _
 unfold nF;intro m hm;rcases Dw hm with h2|h2
 ·exact h1 m h2
 ·rw[h2];exact h1.getD _
theorem BQ.wT(hf:BQ G f)(lo hi:Int)(lz:Bool):BQ G (nH f lo hi lz):=fun st nx h=>by
 unfold nH;split
 ·exact hf.gR _ _ _ (hf.loop lz st nx h)
 ·exact hf.gR _ _ _ (hf.nX lz nx _ st nx h)
mutual
theorem L8:∀C:CT,C.g_ G->C.lP->BQ G (bB C)
 |.node k sp fo nt ed gr a b lz cU,hg,hw=>by
  unfold CT.g_ at hg;unfold CT.lP at hw;obtain⟨g1,g2,g3⟩:=hg;have tc:=agH cU g3 hw.2;have GJ:=aaG cU g3 hw.2;have GG:=aaC cU g3 hw.2;intro st nx h;unfold bB;split
  ·exact h.rE (MQ.take hw.1 _ _ _)
  ·split
   ·exact BQ.su (MQ.rF G ed) st nx h
   ·split
    ·split
     ·exact tc st nx h
     ·exact BQ.su (MQ.mark (by omega)) _ _ (tc _ _ (BQ.su (MQ.mark (by omega)) st nx h))
    ·split
     ·exact GJ st nx h
     ·split
      ·exact GG st nx h
      ·exact tc.wT a b lz st nx h
theorem agH:∀cs:List CT,CT.fI G cs->CT.kL cs->BQ G (mw cs)
 | [],_,_=>fun st nx h=>by unfold mw;exact h
 |c::cs,hg,hw=>by
  unfold CT.fI at hg;unfold CT.kL at hw;unfold mw;exact L8 c hg.1 hw.1
theorem aaG:∀cs:List CT,CT.fI G cs->CT.kL cs->BQ G (km cs)
 | [],_,_=>fun st nx h=>by unfold km;exact h
 |c::cs,hg,hw=>by
  unfold CT.fI at hg;unfold CT.kL at hw;unfold km;have h1:=L8 c hg.1 hw.1;have h2:=aaG cs hg.2 hw.2;exact fun st nx h=>h1 _ _ (h2 st nx h)
theorem aaC:∀cs:List CT,CT.fI G cs->CT.kL cs->BQ G (jn cs)
 | [],_,_=>fun st nx h=>by unfold jn;exact h
 | [c],hg,hw=>by
   unfold CT.fI at hg;unfold CT.kL at hw;unfold jn;exact L8 c hg.1 hw.1
 |c::d::cs,hg,hw=>by
  unfold CT.fI at hg;unfold CT.kL at hw;have h1:=L8 c hg.1 hw.1;have h2:=aaC (d::cs) hg.2 hw.2;intro st nx h;unfold jn;exact(h1 _ _ (h2 st nx h)).lW _ _
end
theorem Mc{C:CT}(hg:C.g_ G)(hw:C.lP):iJ G (fy C).1:=L8 C hg hw [bS] (0,0) (fun m hm=>by simp at hm;subst hm;exact MQ.zero G)
theorem aft{M:List MS}{V:VS}(h:iJ G M):iJ G (sorted M V):=fun m hm=>by
 unfold sorted at hm;obtain⟨s,_,rfl⟩:=Be.1 hm;have:=h.getD (G:=G) s;unfold MQ at*;simpa using this
open Go.Shelf Go.RowKit Go.Lib Go.Sort Go.Maps
theorem aa4(p:Nat->Bool):∀n,(∀a b,a<=b->b<n->p a=true->p b=true)->(List.range n).countP (fun i=>!p i)<=n/\(∀t,t<(List.range n).countP (fun i=>!p i)->p t=false)/\(∀t,(List.range n).countP (fun i=>!p i)<=t->t<n->p t=true)
 |0,_=>⟨by simp,fun t h=>by simp at h,fun t _ h=>by omega⟩
 |n+1,hm=>by
  obtain⟨h1,h2,h3⟩:=aa4 p n (fun a b h1 h2=>hm a b h1 (by omega));rw[Fx,List.countP_append]
  cases e:p n with
  |true=>
   have:List.countP (fun i=>!p i) [n]=0:=by simp[e]
   rw[this,Dr];refine⟨by omega,h2,fun t ht hn=>?_⟩;by_cases h:t=n
   ·rw[h];exact e
   ·exact h3 t ht (by omega)
  |false=>
   have:List.countP (fun i=>!p i) [n]=1:=by simp[e]
   rw[this]
   have nP:∀t,t<n->p t=false:=fun t ht=>by
    cases e2:p t with
    |false=>rfl
    |true=>have:=hm t n (by omega) (by omega) e2;rw[e]at this;cases this
   have hk:(List.range n).countP (fun i=>!p i)=n:=by
    refine Nat.le_antisymm h1 ?_;refine Fo fun az=>?_
    have:=h3 _ (Ab _) az;rw[nP _ az]at this
    cases this
   rw[hk];refine⟨by omega,fun t ht=>?_,fun t ht hn=>by omega⟩;by_cases h:t=n
   ·rw[h];exact e
   ·exact nP t (by omega)
def wU(S:bI)(i:Nat):Int:=(S.getD i (0,0)).2
def QJ(S:bI)(i:Nat):Int:=(S.getD i (0,0)).1
theorem Ky(h:i<S.length):wU S i=(S[i]).2:=by unfold wU;rw[Af,Ae h];rfl
theorem Vk(h:i<S.length):QJ S i=(S[i]).1:=by unfold QJ;rw[Af,Ae h];rfl
theorem afO(h:ph S){a b:Nat}(lG:a<=b)(hb:b<S.length):wU S a<=wU S b:=by
 rw[Ky (by omega),Ky hb];by_cases e:a=b
 ·subst e;exact Cm _
 ·have:=Cj.1 h.1 a b (by omega) hb (by omega);have:=h.2 _ (A6 hb);omega
def yT(S:bI)(c:Int):Nat:=(List.range S.length).countP (fun i=>!decide (c<=wU S i))
theorem aow(ht:ph S)(c:Int):yT S c<=S.length/\(decide (yT S c<S.length)&&decide (QJ S (yT S c)<=c))=cu S c:=by
 obtain⟨h1,h2,h3⟩:=aa4 (fun i=>decide (c<=wU S i)) S.length (fun a b h1 h2 h=>by
  have:=afO ht h1 h2;simp only[A5]at h⊢;omega)
 refine⟨h1,?_⟩;change yT S c<=S.length at h1;have h2:∀t,t<yT S c->¬c<=wU S t:=fun t hh=>by have:=h2 t hh;simpa using this
 have h3:∀t,yT S c<=t->t<S.length->c<=wU S t:=fun t hh hl=>by have:=h3 t hh hl;simpa using this
 generalize yT S c=k at*
 rw[Bi,J6];simp only[Cq,A5];constructor
 ·rintro⟨a,b⟩;have:=h3 k (Ab _) a;rw[Vk a]at b;rw[Ky a]at this;exact⟨_,A6 a,b,this⟩
 ·rintro⟨s,hs,a,b⟩;obtain⟨t,hl,rfl⟩:=C6 hs
  have hkt:k<=t:=by
   refine Fo fun az=>?_
   have:=h2 t az;rw[Ky hl]at this;exact this b
  have hk:k<S.length:=by omega
  refine⟨hk,?_⟩;rw[Vk hk];by_cases e:k=t
  ·subst e;exact a
  ·have q:=Cj.1 ht.1 k t hk hl (by omega);have:=h3 k (Ab _) hk;rw[Ky hk]at this;omega
theorem ajh(w:World)(Bs Bc bs i cap:Nat)(S:bI)(c:Int)(h1:w.cell? (GB Bs 0)=some (.slice (some (GB bs 0)) S.length cap))(h2:w.cell? (GB Bc 0)=some (.int .i32 c))(h3:w.cell? ⟨bs,i*2+1,none⟩=some (.int .i32 (wU S i)))(hi:i<S.length)(hl:S.length<=6000):
 Calls prog 140 #[GW (i:Int),BT Bs 0,BT Bc 0] w fun e w'=>e=.returned (.bool (decide (c<=wU S i)))/\∃q,w'=w.drewN q:=by
 go_in
 go_wp2_with fail
 go_big_quiet (fail)
 go_wp2_with fail
 go_ret
 exact⟨rfl,_,rfl⟩
theorem aae(w:World)(sa:Option Addr)(sc bs:Nat)(S:bI)(c:Int)(ha:S≠ []->sa=some (GB bs 0)/\bs<w.heap.size)(hc:gj w bs S)(ht:ph S)(hl:S.length<=6000):
 Calls prog 112 #[.slice sa S.length sc,.int .i32 c] w fun e w'=>e=.returned (.bool (cu S c))/\aa ai w w':=by
 obtain⟨W0,vT⟩:∃W0,W0=(w.alloc (.cells #[.slice sa S.length sc] 61)).alloc (.cells #[.int .i32 c] 21):=⟨_,rfl⟩
 have K0:Hid (aa ai w W0):=by rw[vT];exact((aa.refl ai w).alloc _).alloc _
 have xQ:W0.heap.size=w.heap.size+1+1:=by rw[vT];simp
 have B1:au W0 w.heap.size #[.slice sa S.length sc] 61:=by rw[vT];exact(au.new w _ _).alloc _
 have B2:au W0 (w.heap.size+1) #[.int .i32 c] 21:=by
  rw[vT];have:=au.new (w.alloc (.cells #[.slice sa S.length sc] 61)) #[.int .i32 c] 21;simpa using this
 have HS:=ab (aow ht c);have eg:∀args w,(callFunc 140 args).run prog w=.ok (.enter 140 args) w:=enters_of func140 (by kernel_rfl) rfl
 have hF:=Any.sort_Search Tryz.afa 140 #[BT w.heap.size 0,.pointer (some ⟨w.heap.size+1,0,none⟩)] S.length (fun i=>decide (c<=wU S i)) W0 eg (by omega)
  (fun m os i hi=>by
    have aB:S≠ []:=by intro e;subst e;simp at hi
    obtain⟨rfl,hb⟩:=ha aB;have ck:∀{a:Addr} {v:Value},a.block<W0.heap.size->W0.cell? a=some v->(grow (W0.drewN m) os).cell? a=some v:=(fun az oD=>cell_grown az oD m os);refine(ajh (grow (W0.drewN m) os) w.heap.size (w.heap.size+1) bs i sc S c (ck (by show w.heap.size<_;omega) (B1.cell 0)) (ck (by show w.heap.size+1<_;omega) (B2.cell 0)) (ck (by show bs<_;omega) ((K0.o.cell (p:=⟨bs,i*2+1,none⟩) hb (fun h=>h)).trans (by rw[Ky hi];exact(hc i hi).2))) hi hl).mono ?_
    rintro e w' ⟨h1,n,h2⟩;exact⟨h1,n,#[],by rw[h2,grow_empty]⟩)
  (fun a b h1 h2 h=>by
    have:=afO ht h1 h2;simp only[A5]at h⊢;omega)
 change Calls _ _ _ _ (fun e w'=>e=.returned (GW (yT S c:Nat))/\_)at hF
 have HF:=ab hF;have HC:=ab hc;have HA:=ab ha;have gF:=ab B1;have iK:=ab B2;clear hF hc ha ht B1 B2 eg;obtain⟨k,hk⟩:∃k,k=yT S c:=⟨_,rfl⟩
 rw[<-hk]at HS HF;clear hk;go_in;go_wp2_with fail;rw[<-vT];refine(HF.o).mono ?_;rintro e w1 ⟨rfl,q,os,rfl⟩;have ck:Hid (∀{a:Addr} {v:Value},a.block<W0.heap.size->W0.cell? a=some v->(grow (W0.drewN q) os).cell? a=some v):=fun az oD=>cell_grown az oD q os
 have e1:(grow (W0.drewN q) os).cell? (GB w.heap.size 0)=some (.slice sa S.length sc):=ck.o (by show w.heap.size<_;omega) (gF.o.cell 0);have e2:(grow (W0.drewN q) os).cell? ⟨w.heap.size+1,0,none⟩=some (.int .i32 c):=ck.o (by show w.heap.size+1<_;omega) (iK.o.cell 0);have KF:Hid (aa ai w (grow (W0.drewN q) os)):=K0.o.trans (DI (below_grown_sl W0.heap.size W0 q os (Ab _)));by_cases az:k<S.length
 ·have aB:S≠ []:=by intro e;subst e;simp at az
  obtain⟨rfl,hb⟩:=HA.o aB;have e3:(grow (W0.drewN q) os).cell? ⟨bs,k*2,none⟩=some (.int .i32 (QJ S k)):=ck.o (by show bs<_;omega) ((K0.o.cell (p:=⟨bs,k*2,none⟩) hb (fun h=>h)).trans (by rw[Vk az];exact(HC.o k az).1));generalize hW:grow (W0.drewN q) os=W at*;clear ck hW;go_wp2_with fail;go_big_quiet (fail);go_wp2_with fail;go_ret;refine⟨?_,KF.o.drewN _⟩;rw[<-HS.o.2];simp[az]
 ·generalize hW:grow (W0.drewN q) os=W at*
  clear ck hW;go_wp2_with fail;go_big_quiet (fail);go_wp2_with fail;go_ret;refine⟨?_,KF.o.drewN _⟩;rw[<-HS.o.2];simp[az]
def dr(ws:List Nat):List Value:=ws.map fun(x:Nat)=>Value.int .u64 (x:Int)
theorem yn(ws:List Nat):(dr ws).length=ws.length:=by simp[dr]
def gu(ws:List Nat):Prop:=∀x∈ws,x<18446744073709551616
def gz(ws:List Nat)(o u:Nat):Bool:=(ws.getD (o+u/64) 0).testBit (u % 64)
def tK(ws:List Nat)(o u:Nat):List Nat:=ws.set (o+u/64) (ws.getD (o+u/64) 0|||2^ (u % 64))
theorem Sw(ws:List Nat)(o u:Nat):(tK ws o u).length=ws.length:=by simp[tK]
theorem My(l:List Nat)(k m:Nat)(v d:Nat)(h:k<l.length):(l.set k v).getD m d=if k=m then v else l.getD m d:=by
 rw[Af,Af,List.getElem?_set];by_cases e:k=m
 ·subst e;simp[h]
 ·simp[e]
theorem gu.getD(h:gu ws)(k:Nat):ws.getD k 0<18446744073709551616:=by
 rw[Af]
 cases e:ws[k]? with
 |none=>simp
 |some x=>exact h x (Ce e)
theorem gu.put(h:gu ws)(o u:Nat):gu (tK ws o u):=fun x hx=>by
 unfold tK at hx;rcases Dw hx with h1|h1
 ·exact h x h1
 ·subst h1;have h2:(2:Nat) ^ (u % 64)<2^64:=Nat.pow_lt_pow_right (by decide) (Nat.mod_lt _ (by decide));exact Nat.or_lt_two_pow (n:=64) (h.getD _) h2
theorem agS{v:Nat}(h:o+u/64<ws.length):gz (tK ws o u) o v=(gz ws o v||decide (v=u)):=by
 unfold gz tK;rw[My _ _ _ _ _ h];by_cases e:o+u/64=o+v/64
 ·rw[if_pos e,Nat.testBit_or,Nat.testBit_two_pow,<-e];congr 1;rw[Bi];simp only[A5];omega
 ·rw[if_neg e]
  have:decide (v=u)=false:=by
   rw[Bb];intro h;subst h;exact e rfl
  rw[this,Bool.or_false]
theorem zT(l:List Nat)(o:Nat)(cs:List Nat)(h:o+cs.length<=l.length)(k d:Nat):(splice l o cs).getD k d=if o<=k/\k<o+cs.length then cs.getD (k-o) d else l.getD k d:=by
 unfold splice;simp only[Af];have hl:(l.take o).length=o:=by simp;omega
 by_cases h1:k<o
 ·rw[if_neg (by omega),Ay (by omega),Av h1]
 ·rw[Br (by omega),hl];by_cases h2:k<o+cs.length
  ·rw[if_pos (by omega),Ay (by omega)]
  ·rw[if_neg (by omega),Br (by omega),Dq];congr 2;omega
theorem YV(l:List Nat)(o:Nat)(cs:List Nat):splice (dr l) o (dr cs)=dr (splice l o cs):=by
 unfold splice dr;simp[List.map_take,List.map_drop]
theorem gu.splice(hl:gu l)(hc:gu cs)(o:Nat):gu (splice l o cs):=fun x hx=>by
 unfold Go.splice at hx;rcases Ap.1 hx with h|h
 ·exact hl x (Cs h)
 ·rcases Ap.1 h with h|h
  ·exact hc x h
  ·exact hl x (Fr h)
theorem Qo(h:o+cs.length<=l.length)(hu:u/64<cs.length):gz (splice l o cs) o u=gz cs 0 u:=by
 unfold gz;rw[zT l o cs h,if_pos (by omega)];congr 2;omega
theorem aaI{o':Nat}(h:o+cs.length<=l.length)(hd:o'+L<=o\/o+cs.length<=o')(hu:u/64<L):gz (splice l o cs) o' u=gz l o' u:=by
 unfold gz;rw[zT l o cs h,if_neg (by omega)]
def ll(l:List Nat)(o L:Nat):List Nat:=(l.drop o).take L
theorem Kt(h:o+L<=l.length):(ll l o L).length=L:=by unfold ll;simp;omega
theorem SH{k d:Nat}(hk:k<L):(ll l o L).getD k d=l.getD (o+k) d:=by
 unfold ll;simp only[Af];rw[Av hk,Dq]
theorem UH(hu:u/64<L):gz (ll l o L) 0 u=gz l o u:=by
 unfold gz;rw[Ba,SH hu]
theorem gu.ll(h:gu l)(o L:Nat):gu (ll l o L):=fun x hx=>h x (Fr (Cs hx))
theorem aoU(h:o+L<=l.length):splice l o (ll l o L)=l:=by
 unfold splice;rw[Kt h];unfold ll;rw[<-List.drop_drop,Ds,Ds]
theorem aiu{a b:List Nat}(hl:a.length=b.length)(hg:∀k,a.getD k 0=b.getD k 0):a=b:=by
 refine List.ext_getElem hl fun k h1 h2=>?_
 have:=hg k;rw[Af,Af,Ae h1,Ae h2]at this;simpa using this
theorem anK(h:o+cs.length<=l.length)(hu:u/64<cs.length):tK (splice l o cs) o u=splice l o (tK cs 0 u):=by
 have dc:=Dh l o cs h;have hp:o+(tK cs 0 u).length<=l.length:=by rw[Sw];exact h
 refine aiu ?_ fun k=>?_
 ·rw[Sw,dc,Dh l o _ hp]
 ·rw[zT l o _ hp,Sw];unfold tK;rw[My _ _ _ _ _ (by omega),zT l o cs h,zT l o cs h];by_cases e1:o+u/64=k
  ·subst e1;rw[if_pos rfl,if_pos (by omega),if_pos (by omega),E9,Ba,My _ _ _ _ _ hu,if_pos rfl]
  ·rw[if_neg e1];by_cases e2:o<=k/\k<o+cs.length
   ·rw[if_pos e2,if_pos e2,Ba,My _ _ _ _ _ hu,if_neg (by omega)]
   ·rw[if_neg e2,if_neg e2]
theorem aaJ(L u:Nat):gz (List.replicate L 0) 0 u=false:=by
 unfold gz;rw[Af,C3];split<;>simp
theorem gu.KM(L:Nat):gu (List.replicate L 0):=fun x hx=>by rw[D6 hx];omega
theorem aga(v:Value)(n:Nat):(Builtin.zeroCells #[v] n).toList=List.replicate n v:=by
 unfold Builtin.zeroCells;refine List.ext_getElem (by simp) fun k h1 h2=>?_
 simp[Gl]
theorem aa.row(g:Nat)(cs:Array Value):aa (fun i=>i=g) w (w.setRow g cs):=⟨rfl,rfl,rfl,by simp[World.setRow],fun k _ hk=>setRow_other w g k cs hk⟩
theorem arw{o:Oper}{a:Act}(ia:o.guard=none)(d s:Operand)(dT sT:TypeId)
 (ho:o.op=.call {callee:=.builtin .copy,args:=#[d,s],argTypes:=#[dT,sT]})(elem:TypeId)(hu:P.underlying dT=some (.slice elem))(aW:(P.info? elem).map (·.size)=some 1)
 (g off L Mi OE g2 wK:Nat)(hd:a.eval d=.slice (some (GB g off)) L Mi)(hs:a.eval s=.slice (some (GB g2 wK)) L OE)
 (ws:List Nat)(t:TypeId)(hg:au w g (dr ws).toArray t)(cs:List Nat)(hn:cs.length=L)
 (CW:∀k,k<L->w.cell? ⟨g2,wK+k,none⟩=some (.int .u64 (cs.getD k 0:Nat)))(uw:off+L<=ws.length)
 (h:∀w',au w' g (dr (splice ws off cs)).toArray t->aa (fun i=>i=g) w w'->wpList P ops Q rest (a.put o.dst (goInt L)) w'):wpList P ops Q (o::rest) a w:=by
 subst hn;refine wpList_copy_own ia d s dT sT ho elem hu aW g off cs.length Mi (GB g2 wK) cs.length OE hd hs _ t hg (dr cs) (by simp[yn]) (fun j v hv=>?_) (by simpa[yn]using uw) (fun v hv=>?_) ?_
 ·have hj:j<cs.length:=by have:=(Ai.1 hv).1;simpa[yn]using this
  have:=CW j hj;have e:((GB g2 wK):Addr).add j=⟨g2,wK+j,none⟩:=by unfold Addr.add;split<;>simp_all
  rw[e,this];unfold dr at hv;simp[Af,Ae hj]at hv⊢;exact hv
 ·unfold dr at hv;obtain⟨x,_,rfl⟩:=Be.1 hv;rfl
 ·rw[yn];refine h _ ?_ (aa.row g _);have:=setRow_heap w g _ (List.take off (dr ws)++(dr cs++List.drop (off+cs.length) (dr ws))).toArray t _ hg;rw[<-YV];unfold splice au;rw[yn];exact this
theorem af_{o:Oper}{a:Act}{K:Act->World->Prop}(d s:Operand)(dT sT:TypeId)
 (ho:o.op=.call {callee:=.builtin .copy,args:=#[d,s],argTypes:=#[dT,sT]})(elem:TypeId)(hu:P.underlying dT=some (.slice elem))(aW:(P.info? elem).map (·.size)=some 1)
 (g off L Mi OE g2 wK:Nat)(hd:a.eval d=.slice (some (GB g off)) L Mi)(hs:a.eval s=.slice (some (GB g2 wK)) L OE)
 (ws:List Nat)(t:TypeId)(hg:au w g (dr ws).toArray t)(cs:List Nat)(hn:cs.length=L)
 (CW:∀k,k<L->w.cell? ⟨g2,wK+k,none⟩=some (.int .u64 (cs.getD k 0:Nat)))(uw:off+L<=ws.length)
 (h:∀w',au w' g (dr (splice ws off cs)).toArray t->aa (fun i=>i=g) w w'->K (a.put o.dst (goInt L)) w'):o.wp P a w K Q:=by
 subst hn
 have tw:=run_copy_row P w dT sT o.type elem g off cs.length Mi (GB g2 wK) cs.length OE (dr ws).toArray t (dr cs) hu aW hg (by simp[yn]) (fun j v hv=>by
  have hj:j<cs.length:=by have:=(Ai.1 hv).1;simpa[yn]using this
  have:=CW j hj;have e:((GB g2 wK):Addr).add j=⟨g2,wK+j,none⟩:=by unfold Addr.add;split<;>simp_all
  rw[e,this];unfold dr at hv;simp[Af,Ae hj]at hv⊢;exact hv) (by simpa[yn]using uw) (fun v hv=>by
  unfold dr at hv;obtain⟨x,_,rfl⟩:=Be.1 hv;rfl)
 unfold Oper.wp;simp[execOp,ho,resolve,invoke,builtin,hd,hs,tw,Result.andThen];rw[yn];refine h _ ?_ (aa.row g _);have:=setRow_heap w g _ (List.take off (dr ws)++(dr cs++List.drop (off+cs.length) (dr ws))).toArray t _ hg;rw[<-YV];unfold splice au;rw[yn];exact this
theorem aqc{o:Oper}{a:Act}(ia:o.guard=none)(d:Operand)(dT:TypeId)
 (ho:o.op=.call {callee:=.builtin .clear,args:=#[d],argTypes:=#[dT]})(elem:TypeId)(hu:P.underlying dT=some (.slice elem))(hz:(zeroValue elem).run P w=.ok (.int .u64 0) w)
 (g off n c:Nat)(hd:a.eval d=.slice (some (GB g off)) n c)(hn:n≠0)
 (ws:List Nat)(t:TypeId)(hg:au w g (dr ws).toArray t)(uw:off+n<=ws.length)
 (h:∀w',au w' g (dr (splice ws off (List.replicate n 0))).toArray t->aa (fun i=>i=g) w w'->wpList P ops Q rest (a.put o.dst (.tuple #[])) w'):wpList P ops Q (o::rest) a w:=by
 refine wpList_plain ia fun K hK=>?_
 have h:=h _ (setRow_heap w g _ _ t _ hg) (aa.row g _);have bD:=run_storeCells_at P g off t (List.replicate n (.int .u64 0)) 0 _ w hg (by simpa[dr]using uw) (by intro v hv;rw[D6 hv];rfl)
 have tw:(Builtin.clear_ #[dT] o.type #[.slice (some (GB g off)) n c]).run P w=.ok (.tuple #[]) (w.setRow g (dr (splice ws off (List.replicate n 0))).toArray):=by
  obtain⟨m,rfl⟩:∃m,n=m+1:=⟨n-1,by omega⟩
  have e:(Value.cells (.int .u64 0))=#[.int .u64 0]:=rfl;have e2:dr (List.replicate (m+1) 0)=List.replicate (m+1) (.int .u64 0):=by simp[dr]
  simp only[Builtin.clear_,go_sem];simp[Gi hu,hz,aga,bD];rw[<-YV,e2];unfold splice;simp
 unfold Oper.wp;simp[execOp,ho,resolve,invoke,builtin,hd,tw,Result.andThen];exact hK _ _ h
