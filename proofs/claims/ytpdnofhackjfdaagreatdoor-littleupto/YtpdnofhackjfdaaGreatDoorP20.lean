/- A pattern's grou -/
import Derived.Test.YtpdnofhackjfdaaGreatDoorP19
set_option linter.all false
set_option maxRecDepth 100000
set_option maxHeartbeats 1000000
namespace Go.Proofs.YtpdnofhackjfdaaGreatDoor
open Go.Proofs.Tryz
variable {ops:Array Oper} {f:Bl} {a c:CT} {Q:Exit->Act->World->Prop} {G G':Int} {st:List MS} {cs l ws:List Nat} {rest:List Oper} {L i o u:Nat} {P:Program} {g:RG} {S sp:bF} {w:World}
theorem ac3(st:RS)(e p:Int):(st.eo e p).aR=st.aR:=rfl
theorem xw(g:RG)(l:List UInt8)(st:RS):(eM g l st).aR=st.aR:=by unfold eM;split<;>rfl
theorem acV(g:RG)(l:List UInt8)(st:RS):(pq g l st).aR=st.aR:=by unfold pq;split<;>rfl
theorem Hs(g:RG)(l:List UInt8)(st:RS):(fq g l st).aR=st.aR:=by unfold fq;split<;>rfl
theorem WL(g:RG)(st:RS):(jr g st).1.aR=st.aR:=by unfold jr;split<;>rfl
theorem WQ(g:RG)(st:RS):(fD g st).1.aR=st.aR:=by
 unfold fD;split
 ·simp only;rw[WL,WL]
 ·exact WL g st
theorem amm(g:RG)(st:RS):(rZ g st).1.aR=st.aR:=by
 unfold rZ;split
 ·rfl
 ·exact WQ g st
theorem adv(g:RG)(st:RS):(eF g st).1.aR=st.aR:=by
 unfold eF;split
 ·simp only;rw[xw,amm];exact WQ g st
 ·simp only;rw[xw,WQ]
theorem adN(g:RG)(a:PT)(st:RS):(gJ g a st).1.aR=st.aR:=by
 unfold gJ;split
 ·simp only;rw[Hs]
 ·split
  ·simp only;rw[Hs]
  ·split
   ·simp only;rw[Hs]
   ·split
    ·simp only;rw[Hs];split
     ·rw[ac3,adv]
     ·rw[adv]
    ·rfl
theorem amx(g:RG)(e:Bool)(st:RS):(lT g e st).1.aR=st.aR:=by
 unfold lT
 cases e
 ·exact acV g _ st
 ·exact xw g _ st
theorem WS(g:RG)(st:RS):(df g st).1.aR=st.aR:=by unfold df;rw[amx,Hs]
theorem amB(g:RG)(p:Int)(x:RS×Int):(qO g p x).aR=x.1.aR:=by
 unfold qO;split
 ·split
  ·rw[ac3,WS]
  ·rw[WS]
 ·rfl
theorem adA(g:RG)(st:RS):(fU g st).aR=st.aR:=by
 unfold fU;split
 ·rfl
 ·rw[amB,WS]
theorem adD(g:RG):∀(m:Nat) (st:RS),(mD g m st).aR=st.aR
 |0,st=>rfl
 |m+1,st=>by
  unfold mD;split
  ·rfl
  ·rw[adD g m,adA]
theorem ami(g:RG)(st:RS):(rY g st).aR=st.aR:=by unfold rY;rw[xw,adD,adA,Hs]
theorem adG(g:RG)(first:Nat):∀(m:Nat) (st:RS),(lA g first m st).aR=st.aR
 |0,st=>rfl
 |m+1,st=>by
  unfold lA;split
  ·rw[adG g first m]
  ·rfl
theorem amu(g:RG)(first:Nat)(st:RS):(mZ g first st).aR=st.aR:=by
 unfold mZ;split<;>rfl
theorem amr(g:RG)(st:RS):(pz g st).aR=st.aR:=by unfold pz;rw[xw,amu,adG,xw]
theorem ady(g:RG)(st:RS):st.aR<=(iu g st).aR/\(aG ic (ay g st)=false->(iu g st).aR=st.aR+1)/\(¬aG ic (ay g st)=false->aG CG (ay g {st with next:=st.next+1})=true->(iu g st).aR=st.aR+1):=by
 unfold iu;by_cases h1:aG ic (ay g st)=false
 ·rw[if_pos h1];exact⟨by simp,fun _=>rfl,fun h=>absurd h1 h⟩
 ·rw[if_neg h1];by_cases h2:aG CG (ay g {st with next:=st.next+1})=true
  ·rw[if_pos h2,amr];exact⟨by simp,fun h=>absurd h h1,fun _ _=>rfl⟩
  ·rw[if_neg h2,xw,Hs];exact⟨by simp,fun h=>absurd h h1,fun _ h=>absurd h h2⟩
def Gm(aE:RS->RS×PT):Prop:=∀st,st.aR<=(aE st).1.aR
theorem adt(g:RG)(aE:RS->RS×PT)(halt:Gm aE)(st:RS):st.aR<=(dq g aE st).1.aR:=by
 unfold dq;split
 ·unfold vU;simp only;rw[xw];have h1:=(ady g {st with next:=st.next+1}).1;have h2:=halt (iu g {st with next:=st.next+1});simp only at h1;omega
 ·split
  ·simp only;rw[ami];exact Ab _
  ·split
   ·simp only;rw[xw];exact Ab _
   ·split
    ·exact Ab _
    ·simp only;rw[acV];exact Ab _
theorem adS(g:RG)(aE:RS->RS×PT)(halt:Gm aE):∀(m:Nat) (st:RS) (aA:List PT),st.aR<=(gS g aE m st aA).1.aR
 |0,st,aA=>Ab _
 |m+1,st,aA=>by
  unfold gS;split
  ·exact Ab _
  ·have h1:=adS g aE halt m (gJ g (dq g aE st).2 (dq g aE st).1).1 (aA++[(gJ g (dq g aE st).2 (dq g aE st).1).2]);rw[adN]at h1;have h2:=adt g aE halt st;omega
theorem WU(g:RG)(aE:RS->RS×PT)(halt:Gm aE):Gm (dK g aE):=fun st=>adS g aE halt _ _ _
theorem adq(g:RG)(aE:RS->RS×PT)(halt:Gm aE):∀(m:Nat) (st:RS) (aA:List PT),st.aR<=(gi g aE m st aA).1.aR
 |0,st,aA=>Ab _
 |m+1,st,aA=>by
  unfold gi;split
  ·have h1:=adq g aE halt m (dK g aE {st with next:=st.next+1}).1 (aA++[(dK g aE {st with next:=st.next+1}).2]);have h2:=WU g aE halt {st with next:=st.next+1};simp only at h2;omega
  ·exact Ab _
theorem Re(g:RG):∀k:Nat,Gm (aQ g k)
 |0=>fun st=>Ab _
 |k+1=>fun st=>by
  unfold aQ;have h1:=WU g _ (Re g k) st;have h2:=adq g _ (Re g k) (g.rs.length+1) (dK g (aQ g k) st).1 [(dK g (aQ g k) st).2];simp only;omega
mutual
theorem aio(h:G<=G'):∀C:CT,C.gN G->C.gN G'
 |.node k sp fo nt ed gr lo hi lz cP,hg=>by
  unfold CT.gN at hg⊢;exact⟨hg.1,by omega,Pr h cP hg.2.2⟩
theorem Pr(h:G<=G'):∀cs:List CT,CT.fu G cs->CT.fu G' cs
 | [],_=>by unfold CT.fu;trivial
 |c::cs,hg=>by
  unfold CT.fu at hg⊢;exact⟨aio h c hg.1,Pr h cs hg.2⟩
end
theorem Ue:∀{a b:List CT},CT.fu G a->CT.fu G b->CT.fu G (a++b)
 | [],b,_,hb=>hb
 |c::a,b,ha,hb=>by
  unfold CT.fu at ha;show CT.fu G (c::(a++b))
  unfold CT.fu;exact⟨ha.1,Ue ha.2 hb⟩
theorem EW(h:c.gN G):CT.fu G [c]:=by unfold CT.fu;exact⟨h,by unfold CT.fu;trivial⟩
theorem LN(G:Nat)(sp:bF)(fo nt:Bool):(kj sp fo nt).gN (G:Int):=by
 unfold kj CT.gN CT.fu;simp
theorem aba(G:Nat)(e:Int):(u9 e).gN (G:Int):=by
 unfold u9 CT.gN CT.fu;simp
theorem aiq{G:Nat}(ha:a.gN (G:Int))(lo hi:Int)(lz:Bool):(tO a lo hi lz).gN (G:Int):=by
 unfold tO CT.gN;exact⟨Ce _,by omega,EW ha⟩
theorem aip(g:RG){G:Nat}(ha:a.gN (G:Int))(st:RS):(mh g a st).gN (G:Int):=by
 unfold mh;(repeat' split)<;>first|exact aiq ha _ _ _|exact ha
def Gc(aE:RS->RS×PT)(bU:Bool->RS->CT):Prop:=∀fo st,(bU fo st).gN ((aE st).1.aR:Int)
theorem ain(g:RG)(aE:RS->RS×PT)(halt:Gm aE)(bU:Bool->RS->CT)(hc:Gc aE bU)(fo:Bool)(st:RS):(jG g bU fo st).gN ((dq g aE st).1.aR:Int):=by
 unfold jG dq;by_cases h1:aG G_ (ay g st)=true
 ·rw[if_pos h1,if_pos h1];unfold vU;simp only;rw[xw];have hH:=ady g {st with next:=st.next+1};have hA:=halt (iu g {st with next:=st.next+1});unfold sC;split
  ·rename_i h2
   have:=hH.2.1 h2;unfold CT.gN;simp only at this⊢;exact⟨by omega,by omega,EW (hc _ _)⟩
  ·rename_i h2
   split
   ·rename_i h3
    have:=hH.2.2 h2 h3;unfold CT.gN;simp only at this⊢;exact⟨by omega,by omega,EW (hc _ _)⟩
   ·unfold CT.gN;exact⟨by omega,by omega,EW (hc _ _)⟩
 ·rw[if_neg h1];split
  ·exact LN _ _ _ _
  ·split
   ·unfold oh;(repeat' split)<;>first|exact LN _ _ _ _|exact aba _ _
   ·split
    ·unfold IG;(repeat' split)<;>first|exact LN _ _ _ _|exact aba _ _
    ·exact LN _ _ _ _
theorem abc(g:RG)(aE:RS->RS×PT)(halt:Gm aE)(bU:Bool->RS->CT)(hc:Gc aE bU)(fo:Bool):∀(m:Nat) (st:RS) (aA:List CT) (ps:List PT),CT.fu (st.aR:Int) aA->CT.fu ((gS g aE m st ps).1.aR:Int) (km g aE bU fo m st aA)
 |0,st,aA,ps,ha=>ha
 |m+1,st,aA,ps,ha=>by
  unfold gS km;split
  ·exact ha
  ·refine abc g aE halt bU hc fo m _ _ _ ?_;have h1:=adt g aE halt st;rw[adN];exact Ue (Pr (by omega) _ ha) (EW (aip g (ain g aE halt bU hc fo st) _))
theorem abb(g:RG)(aE:RS->RS×PT)(halt:Gm aE)(bU:Bool->RS->CT)(hc:Gc aE bU)(fo:Bool)(st:RS):(lJ g aE bU fo st).gN ((dK g aE st).1.aR:Int):=by
 unfold lJ CT.gN dK;exact⟨Ce _,by omega,abc g aE halt bU hc fo _ st [] [] (by unfold CT.fu;trivial)⟩
theorem aa_(g:RG)(aE:RS->RS×PT)(halt:Gm aE)(bU:Bool->RS->CT)(hc:Gc aE bU)(fo:Bool):∀(m:Nat) (st:RS) (aA:List CT) (ps:List PT),CT.fu (st.aR:Int) aA->CT.fu ((gi g aE m st ps).1.aR:Int) (jU g aE bU fo m st aA)
 |0,st,aA,ps,ha=>ha
 |m+1,st,aA,ps,ha=>by
  unfold gi jU;split
  ·refine aa_ g aE halt bU hc fo m _ _ _ ?_;have h1:=WU g aE halt {st with next:=st.next+1};simp only at h1;exact Ue (Pr (by omega) _ ha) (EW (abb g aE halt bU hc fo _))
  ·exact ha
theorem Pq(g:RG):∀k:Nat,Gc (aQ g k) (dh g k)
 |0=>fun fo st=>LN _ _ _ _
 |k+1=>fun fo st=>by
  have h1:=abb g (aQ g k) (Re g k) (dh g k) (Pq g k) fo st;unfold dh CT.gN aQ;exact⟨Ce _,by omega,aa_ g (aQ g k) (Re g k) (dh g k) (Pq g k) fo _ _ _ _ (EW h1)⟩
theorem air(g:RG)(st:RS):(pL g st).gN ((dY g st).1.aR:Int):=by
 unfold dY;split
 ·exact Pq g _ false st
 ·exact Pq g _ false st
def jS(l:bF):Prop:=∀s∈l,0<=s.1/\s.1<=s.2/\s.2<=1114111
theorem jS.append{a b:bF}(ha:jS a)(hb:jS b):jS (a++b):=fun s hs=>(Al.1 hs).elim (ha s) (hb s)
theorem jS.one{x y:Int}(h:0<=x/\x<=y/\y<=1114111):jS [(x,y)]:=fun s hs=>by simp at hs;subst hs;exact h
theorem jS.set(r:Int):jS (lY r):=by
 unfold lY;(repeat' split)<;>(intro s hs;simp at hs)<;>(rcases hs with rfl|rfl|rfl|rfl)<;>simp
theorem uV.XF{fo nt:Bool}(h:uV S sp fo nt)(hw:jS sp):oX S/\∀c,0<=c->c<=1114111->bV S c=eV sp fo nt c:=h.has hw
mutual
def CT.lC:CT->Prop
 |.node k sp fo nt ed gr lo hi lz cP=>jS sp/\CT.kH cP
def CT.kH:List CT->Prop
 | []=>True
 |c::cs=>CT.lC c/\CT.kH cs
end
def uU(g:RG):Prop:=∀r∈g.rs,0<=r/\r<=1114111
theorem aep(hg:uU g)(st:RS)(h:ay g st≠ -1):0<=ay g st/\ay g st<=1114111:=by
 unfold ay at h⊢;rw[Af]at h⊢
 cases e:g.rs[st.next]? with
 |none=>rw[e]at h;exact absurd rfl h
 |some r=>exact hg r (Ca e)
theorem ab9{l:List UInt8}{r:Int}(h:aG l r=true):0<=r/\r<=255:=by
 unfold aG at h;obtain⟨b,hb,e⟩:=Cq.1 h;have:=b.toNat_lt;have:(b.toNat:Int)=r:=by simpa using e
 omega
theorem acX{l:List UInt8}{st:RS}(h:jb (eM g l st).bm):aG l (ay g st)=true:=by
 unfold eM at h;split at h
 ·assumption
 ·exact absurd h.1 ac2
theorem alo{l:List UInt8}{st:RS}(h:jb (pq g l st).bm):ay g st≠ -1:=by
 unfold pq at h;split at h
 ·exact absurd h.1 ac2
 ·rename_i c;exact fun e=>c (Or.inl e)
theorem aaG{c:Int}(h:0<=c/\c<=1114111):0<=qv c/\qv c<=1114111:=by
 unfold qv;(repeat' split)<;>omega
theorem adb(hg:uU g){st:RS}(h:jb (df g st).1.bm):0<=(df g st).2/\(df g st).2<=1114111:=by
 unfold df lT at h⊢;by_cases e:aG f_ (ay g st)=true
 ·rw[e]at h⊢;simp only[if_true]at h⊢;have:=ab9 (acX h);exact aaG (by omega)
 ·rw[En.2 e]at h⊢;simp only[Aq,if_false]at h⊢;exact aep hg _ (alo h)
theorem acj(hg:uU g){st:RS}(h:jb (fU g st).bm):jS (iy g st):=by
 unfold fU at h;unfold iy;by_cases c:aG f_ (ay g st)=true/\aG my (ay g {st with next:=st.next+1})=true
 ·rw[if_pos c];exact jS.set _
 ·rw[if_neg c]at h⊢;have h1:=adb hg ((adU g _ _).o7 h);by_cases d:aG xq (ay g (df g st).1)=true
  ·rw[if_pos d];unfold qO at h;rw[if_pos d]at h;split at h
   ·exact absurd h.2.2 alG
   ·rename_i hn
    have h2:=adb hg h;exact jS.one ⟨h1.1,by omega,h2.2⟩
  ·rw[if_neg d];exact jS.one ⟨h1.1,Ce _,h1.2⟩
theorem ack(hg:uU g):∀(m:Nat) (st:RS) (aA:bF),jS aA->jb (mD g m st).bm->jS (rp g m st aA)
 |0,st,aA,ha,_=>ha
 |m+1,st,aA,ha,h=>by
  unfold mD at h;unfold rp;split
  ·exact ha
  ·rename_i c
   rw[if_neg c]at h;exact ack hg m _ _ (ha.append (acj hg ((Rh g m _).o7 h))) h
theorem XM:∀{a b:List CT},CT.kH a->CT.kH b->CT.kH (a++b)
 | [],b,_,hb=>hb
 |c::a,b,ha,hb=>by
  unfold CT.kH at ha;show CT.kH (c::(a++b))
  unfold CT.kH;exact⟨ha.1,XM ha.2 hb⟩
theorem NP(h:c.lC):CT.kH [c]:=by unfold CT.kH;exact⟨h,by unfold CT.kH;trivial⟩
theorem J1:jS []:=fun s hs=>by cases hs
theorem J2(h:jS sp)(fo nt:Bool):(kj sp fo nt).lC:=by
 unfold kj CT.lC CT.kH;exact⟨h,trivial⟩
theorem afb(e:Int):(u9 e).lC:=by
 unfold u9 CT.lC CT.kH;exact⟨J1,trivial⟩
theorem apu(ha:a.lC)(lo hi:Int)(lz:Bool):(tO a lo hi lz).lC:=by
 unfold tO CT.lC;exact⟨J1,NP ha⟩
theorem apt(g:RG)(ha:a.lC)(st:RS):(mh g a st).lC:=by
 unfold mh;(repeat' split)<;>first|exact apu ha _ _ _|exact ha
def Wc(aE:RS->RS×PT)(bU:Bool->RS->CT):Prop:=∀fo st,jb (aE st).1.bm->(bU fo st).lC
theorem aps(hg:uU g)(aE:RS->RS×PT)(bU:Bool->RS->CT)(nJ:Wc aE bU)(fo:Bool)(st:RS)(az:ay g st≠ -1)(hc:jb (dq g aE st).1.bm):(jG g bU fo st).lC:=by
 unfold dq at hc;unfold jG;split
 ·rename_i h1
  rw[if_pos h1]at hc;have dR:=(uw g _ _).o7 (show jb (eM g JD (aE (iu g {st with next:=st.next+1})).1).bm from hc)
  have:∀(fo:Bool) (gr:Int),(CT.node 2 [] false false 0 gr 0 0 false [bU fo (iu g {st with next:=st.next+1})]).lC:=by
   intro fo gr;unfold CT.lC;exact⟨J1,NP (nJ _ _ dR)⟩
  unfold sC;(repeat' split)<;>exact this _ _
 ·rename_i h1
  rw[if_neg h1]at hc;split
  ·rename_i h2
   rw[if_pos h2]at hc;unfold rY at hc;have c1:=(uw g _ _).o7 hc;have c2:=(Rh g _ _).o7 c1;exact J2 (ack hg _ _ _ (acj hg c2) c1) _ _
  ·rename_i h2
   rw[if_neg h2]at hc;split
   ·rename_i h3
    rw[if_pos h3]at hc;have:=ab9 (acX hc);unfold oh;have he:=aaG (c:=ay g {st with next:=st.next+1}) (by omega);(repeat' split)<;>first|exact J2 (jS.set _) _ _|exact afb _|exact J2 (jS.one ⟨he.1,Ce _,he.2⟩) _ _
   ·split
    ·unfold IG;split<;>first|exact J2 (jS.one (by omega)) _ _|exact afb _
    ·have:=aep hg st az;exact J2 (jS.one ⟨this.1,Ce _,this.2⟩) _ _
theorem afd(hg:uU g)(aE:RS->RS×PT)(halt:∀st,cV st.bm (aE st).1.bm)(bU:Bool->RS->CT)(nJ:Wc aE bU)(fo:Bool):∀(m:Nat) (st:RS) (aA:List CT) (ps:List PT),CT.kH aA->jb (gS g aE m st ps).1.bm->CT.kH (km g aE bU fo m st aA)
 |0,st,aA,ps,ha,hc=>ha
 |m+1,st,aA,ps,ha,hc=>by
  unfold gS at hc;unfold km;split
  ·exact ha
  ·rename_i h1
   rw[if_neg h1]at hc;have c1:=(Rl g aE halt m _ _).o7 hc;have c2:=(WT g _ _).o7 c1;exact afd hg aE halt bU nJ fo m _ _ _ (XM ha (NP (apt g (aps hg aE bU nJ fo st (fun e=>h1 (Or.inl e)) c2) _))) hc
theorem afc(hg:uU g)(aE:RS->RS×PT)(halt:∀st,cV st.bm (aE st).1.bm)(bU:Bool->RS->CT)(nJ:Wc aE bU)(fo:Bool)(st:RS)(hc:jb (dK g aE st).1.bm):(lJ g aE bU fo st).lC:=by
 have:=afd hg aE halt bU nJ fo _ st [] [] (by unfold CT.kH;trivial) hc;unfold lJ CT.lC;exact⟨J1,this⟩
theorem afa(hg:uU g)(aE:RS->RS×PT)(halt:∀st,cV st.bm (aE st).1.bm)(bU:Bool->RS->CT)(nJ:Wc aE bU)(fo:Bool):∀(m:Nat) (st:RS) (aA:List CT) (ps:List PT),CT.kH aA->jb (gi g aE m st ps).1.bm->CT.kH (jU g aE bU fo m st aA)
 |0,st,aA,ps,ha,hc=>ha
 |m+1,st,aA,ps,ha,hc=>by
  unfold gi at hc;unfold jU;split
  ·rename_i h1
   rw[if_pos h1]at hc;have c1:=(JM g aE halt m _ _).o7 hc;exact afa hg aE halt bU nJ fo m _ _ _ (XM ha (NP (afc hg aE halt bU nJ fo _ c1))) hc
  ·exact ha
theorem XL(hg:uU g):∀(k:Nat),Wc (aQ g k) (dh g k)
 |0=>fun fo st hc=>J2 J1 _ _
 |k+1=>fun fo st hc=>by
  unfold aQ at hc;have hle:=Rf g k;have c1:=(JM g (aQ g k) hle _ _ _).o7 hc;have h1:=afc hg (aQ g k) hle (dh g k) (XL hg k) fo st c1;have h2:=afa hg (aQ g k) hle (dh g k) (XL hg k) fo _ _ _ _ (NP h1) hc;unfold dh CT.lC;exact⟨J1,h2⟩
theorem apv(hg:uU g)(st:RS)(hc:jb (dY g st).1.bm):(pL g st).lC:=by
 refine XL hg _ false st ?_;unfold dY at hc;split at hc
 ·exact hc
 ·exact(Nw g _).o7 hc
def MQ(G:Int)(m:MS):Prop:=(m.kind=1->jS m.sp)/\(m.kind=3->0<=m.slot/\m.slot<2*G)/\(0<=m.kind/\m.kind<=4)
def iL(G:Int)(st:List MS):Prop:=∀m∈st,MQ G m
def BQ(G:Int)(f:Bl):Prop:=∀st nx,iL G st->iL G (f st nx).1
theorem iL.qU(h:iL G st){m:MS}(hm:MQ G m):iL G (st++[m]):=fun x hx=>by
 rcases Al.1 hx with h1|h1
 ·exact h x h1
 ·simp at h1;subst h1;exact hm
theorem MQ.lL(G:Int)(a b:Int):MQ G (kt a b):=⟨fun h=>by simp[kt]at h,fun h=>by simp[kt]at h,by simp[kt]⟩
theorem MQ.zero(G:Int):MQ G bN:=⟨fun h=>by simp[bN]at h,fun h=>by simp[bN]at h,by simp[bN]⟩
theorem MQ.qV(G:Int)(e n:Int):MQ G (se e n):=⟨fun h=>by simp[se]at h,fun h=>by simp[se]at h,by simp[se]⟩
theorem MQ.mark{s:Int}(hs:0<=s/\s<2*G)(n:Int):MQ G (iB s n):=⟨fun h=>by simp[iB]at h,fun h=>hs,by simp[iB]⟩
theorem MQ.take(h:jS sp)(fo nt:Bool)(n:Int):MQ G (nT sp fo nt n):=⟨fun _=>h,fun h=>by simp[nT]at h,by simp[nT]⟩
theorem BQ.rR{s:Int->MS}(hs:∀n,MQ G (s n)):BQ G (fe s):=fun st nx h=>by
 unfold fe;(repeat' split)<;>first|exact h.qU (hs _)|exact(h.qU (hs _)).qU (hs _)
theorem iL.T3(h:iL G st)(a b:Int):iL G (dL st a b).1:=by
 unfold dL;(repeat' split)<;>first|exact h|exact h.qU (MQ.lL G _ _)
theorem iL.lL(h:iL G st)(f s:Ex):iL G (gC st f s).1:=by
 unfold gC;split
 ·exact h.T3 _ _
 ·exact(h.T3 _ _).T3 _ _
theorem iL.EP(h:iL G st)(lz:Bool)(f s:Ex):iL G (dj lz st f s).1:=by
 unfold dj;split<;>exact h.lL _ _
theorem BQ.gK(hf:BQ G f):∀m,BQ G (nz f m)
 |0=>fun st nx h=>h
 |m+1=>fun st nx h=>BQ.gK hf m _ _ (hf st nx h)
theorem BQ.nR(hf:BQ G f)(lz:Bool)(nx:Ex):∀m,BQ G (fK f lz nx m)
 |0=>fun st a h=>h
 |m+1=>fun st a h=>BQ.nR hf lz nx m _ _ ((hf st a h).EP lz _ _)
theorem iL.getD(h:iL G st)(k:Nat):MQ G (st.getD k bN):=by
 rw[Af]
 cases e:st[k]? with
 |none=>exact MQ.zero G
 |some m=>exact h m (Ca e)
theorem BQ.loop(hf:BQ G f)(lz:Bool):BQ G (ny f lz):=fun st nx h=>by
 have h1:iL G (qm f lz st nx).1:=by unfold qm;exact(hf _ _ (h.qU (MQ.zero G))).EP lz _ _
 unfold ny;intro m hm;rcases Dx hm with h2|h2
 ·exact h1 m h2
 ·rw[h2];exact h1.getD _
theorem BQ.wh(hf:BQ G f)(lo hi:Int)(lz:Bool):BQ G (nA f lo hi lz):=fun st nx h=>by
 unfold nA;split
 ·exact hf.gK _ _ _ (hf.loop lz st nx h)
 ·exact hf.gK _ _ _ (hf.nR lz nx _ st nx h)
mutual
theorem Lh:∀C:CT,C.gN G->C.lC->BQ G (bu C)
 |.node k sp fo nt ed gr a b lz cP,hg,hw=>by
  unfold CT.gN at hg;unfold CT.lC at hw;obtain⟨g1,g2,g3⟩:=hg;have sL:=afV cP g3 hw.2;have FE:=ZU cP g3 hw.2;have E_:=ZP cP g3 hw.2;intro st nx h;unfold bu;split
  ·exact h.qU (MQ.take hw.1 _ _ _)
  ·split
   ·exact BQ.rR (MQ.qV G ed) st nx h
   ·split
    ·split
     ·exact sL st nx h
     ·exact BQ.rR (MQ.mark (by omega)) _ _ (sL _ _ (BQ.rR (MQ.mark (by omega)) st nx h))
    ·split
     ·exact FE st nx h
     ·split
      ·exact E_ st nx h
      ·exact sL.wh a b lz st nx h
theorem afV:∀cs:List CT,CT.fu G cs->CT.kH cs->BQ G (mg cs)
 | [],_,_=>fun st nx h=>by unfold mg;exact h
 |c::cs,hg,hw=>by
  unfold CT.fu at hg;unfold CT.kH at hw;unfold mg;exact Lh c hg.1 hw.1
theorem ZU:∀cs:List CT,CT.fu G cs->CT.kH cs->BQ G (jv cs)
 | [],_,_=>fun st nx h=>by unfold jv;exact h
 |c::cs,hg,hw=>by
  unfold CT.fu at hg;unfold CT.kH at hw;unfold jv;have h1:=Lh c hg.1 hw.1;have h2:=ZU cs hg.2 hw.2;exact fun st nx h=>h1 _ _ (h2 st nx h)
theorem ZP:∀cs:List CT,CT.fu G cs->CT.kH cs->BQ G (iO cs)
 | [],_,_=>fun st nx h=>by unfold iO;exact h
 | [c],hg,hw=>by
   unfold CT.fu at hg;unfold CT.kH at hw;unfold iO;exact Lh c hg.1 hw.1
 |c::d::cs,hg,hw=>by
  unfold CT.fu at hg;unfold CT.kH at hw;have h1:=Lh c hg.1 hw.1;have h2:=ZP (d::cs) hg.2 hw.2;intro st nx h;unfold iO;exact(h1 _ _ (h2 st nx h)).lL _ _
end
theorem Tx{C:CT}(hg:C.gN G)(hw:C.lC):iL G (eY C).1:=Lh C hg hw [bN] (0,0) (fun m hm=>by simp at hm;subst hm;exact MQ.zero G)
theorem aoi{M:List MS}{V:VS}(h:iL G M):iL G (sorted M V):=fun m hm=>by
 unfold sorted at hm;obtain⟨s,_,rfl⟩:=Bg.1 hm;have:=h.getD (G:=G) s;unfold MQ at*;simpa using this
open Go.Shelf Go.RowKit Go.Lib Go.Sort Go.Maps
theorem aaj(p:Nat->Bool):∀n,(∀a b,a<=b->b<n->p a=true->p b=true)->(List.range n).countP (fun i=>!p i)<=n/\(∀t,t<(List.range n).countP (fun i=>!p i)->p t=false)/\(∀t,(List.range n).countP (fun i=>!p i)<=t->t<n->p t=true)
 |0,_=>⟨by simp,fun t h=>by simp at h,fun t _ h=>by omega⟩
 |n+1,hm=>by
  obtain⟨h1,h2,h3⟩:=aaj p n (fun a b h1 h2=>hm a b h1 (by omega));rw[Fx,List.countP_append]
  cases e:p n with
  |true=>
   have:List.countP (fun i=>!p i) [n]=0:=by simp[e]
   rw[this,Dt];refine⟨by omega,h2,fun t ht hn=>?_⟩;by_cases h:t=n
   ·rw[h];exact e
   ·exact h3 t ht (by omega)
  |false=>
   have:List.countP (fun i=>!p i) [n]=1:=by simp[e]
   rw[this]
   have nF:∀t,t<n->p t=false:=fun t ht=>by
    cases e2:p t with
    |false=>rfl
    |true=>have:=hm t n (by omega) (by omega) e2;rw[e]at this;cases this
   have hk:(List.range n).countP (fun i=>!p i)=n:=by
    refine Nat.le_antisymm h1 ?_;refine Fo fun aw=>?_
    have:=h3 _ (Ab _) aw;rw[nF _ aw]at this
    cases this
   rw[hk];refine⟨by omega,fun t ht=>?_,fun t ht hn=>by omega⟩;by_cases h:t=n
   ·rw[h];exact e
   ·exact nF t (by omega)
def wi(S:bF)(i:Nat):Int:=(S.getD i (0,0)).2
def Pn(S:bF)(i:Nat):Int:=(S.getD i (0,0)).1
theorem JZ(h:i<S.length):wi S i=(S[i]).2:=by unfold wi;rw[Af,Ae h];rfl
theorem T_(h:i<S.length):Pn S i=(S[i]).1:=by unfold Pn;rw[Af,Ae h];rfl
theorem ae1(h:oX S){a b:Nat}(lr:a<=b)(hb:b<S.length):wi S a<=wi S b:=by
 rw[JZ (by omega),JZ hb];by_cases e:a=b
 ·subst e;exact Ce _
 ·have:=Cd.1 h.1 a b (by omega) hb (by omega);have:=h.2 _ (A5 hb);omega
def yi(S:bF)(c:Int):Nat:=(List.range S.length).countP (fun i=>!decide (c<=wi S i))
theorem anT(ht:oX S)(c:Int):yi S c<=S.length/\(decide (yi S c<S.length)&&decide (Pn S (yi S c)<=c))=bV S c:=by
 obtain⟨h1,h2,h3⟩:=aaj (fun i=>decide (c<=wi S i)) S.length (fun a b h1 h2 h=>by
  have:=ae1 ht h1 h2;simp only[Az]at h⊢;omega)
 refine⟨h1,?_⟩;change yi S c<=S.length at h1;have h2:∀t,t<yi S c->¬c<=wi S t:=fun t hh=>by have:=h2 t hh;simpa using this
 have h3:∀t,yi S c<=t->t<S.length->c<=wi S t:=fun t hh hl=>by have:=h3 t hh hl;simpa using this
 generalize yi S c=k at*
 rw[Be,Jr];simp only[Co,Az];constructor
 ·rintro⟨a,b⟩;have:=h3 k (Ab _) a;rw[T_ a]at b;rw[JZ a]at this;exact⟨_,A5 a,b,this⟩
 ·rintro⟨s,hs,a,b⟩;obtain⟨t,hl,rfl⟩:=C3 hs
  have hkt:k<=t:=by
   refine Fo fun aw=>?_
   have:=h2 t aw;rw[JZ hl]at this;exact this b
  have hk:k<S.length:=by omega
  refine⟨hk,?_⟩;rw[T_ hk];by_cases e:k=t
  ·subst e;exact a
  ·have q:=Cd.1 ht.1 k t hk hl (by omega);have:=h3 k (Ab _) hk;rw[JZ hk]at this;omega
theorem aiF(w:World)(Bs Bc bs i cap:Nat)(S:bF)(c:Int)(h1:w.cell? ⟨Bs,0,none⟩=some (.slice (some ⟨bs,0,none⟩) S.length cap))(h2:w.cell? ⟨Bc,0,none⟩=some (.int .i32 c))(h3:w.cell? ⟨bs,i*2+1,none⟩=some (.int .i32 (wi S i)))(hi:i<S.length)(hl:S.length<=6000):
 Calls prog 140 #[.int .i64 (i:Int),.pointer (some ⟨Bs,0,none⟩),.pointer (some ⟨Bc,0,none⟩)] w fun e w'=>e=.returned (.bool (decide (c<=wi S i)))/\∃q,w'=w.drewN q:=by
 go_in
 go_wp2_with fail
 go_big_quiet (fail)
 go_wp2_with fail
 go_ret
 exact⟨rfl,_,rfl⟩
theorem Y6(w:World)(sa:Option Addr)(sc bs:Nat)(S:bF)(c:Int)(ha:S≠ []->sa=some ⟨bs,0,none⟩/\bs<w.heap.size)(hc:fV w bs S)(ht:oX S)(hl:S.length<=6000):
 Calls prog 112 #[.slice sa S.length sc,.int .i32 c] w fun e w'=>e=.returned (.bool (bV S c))/\aa af w w':=by
 obtain⟨W0,vt⟩:∃W0,W0=(w.alloc (.cells #[.slice sa S.length sc] 61)).alloc (.cells #[.int .i32 c] 21):=⟨_,rfl⟩
 have K0:Hid (aa af w W0):=by rw[vt];exact((aa.refl af w).alloc _).alloc _
 have xm:W0.heap.size=w.heap.size+1+1:=by rw[vt];simp
 have B1:aq W0 w.heap.size #[.slice sa S.length sc] 61:=by rw[vt];exact(aq.new w _ _).alloc _
 have B2:aq W0 (w.heap.size+1) #[.int .i32 c] 21:=by
  rw[vt];have:=aq.new (w.alloc (.cells #[.slice sa S.length sc] 61)) #[.int .i32 c] 21;simpa using this
 have HS:=ab (anT ht c);have eg:∀args w,(callFunc 140 args).run prog w=.ok (.enter 140 args) w:=enters_of func140 (by kernel_rfl) rfl
 have hF:=Any.sort_Search Tryz.aeo 140 #[.pointer (some ⟨w.heap.size,0,none⟩),.pointer (some ⟨w.heap.size+1,0,none⟩)] S.length (fun i=>decide (c<=wi S i)) W0 eg (by omega)
  (fun m os i hi=>by
    have az:S≠ []:=by intro e;subst e;simp at hi
    obtain⟨rfl,hb⟩:=ha az;have ck:∀{a:Addr} {v:Value},a.block<W0.heap.size->W0.cell? a=some v->(grow (W0.drewN m) os).cell? a=some v:=(fun aw rD=>cell_grown aw rD m os);refine(aiF (grow (W0.drewN m) os) w.heap.size (w.heap.size+1) bs i sc S c (ck (by show w.heap.size<_;omega) (B1.cell 0)) (ck (by show w.heap.size+1<_;omega) (B2.cell 0)) (ck (by show bs<_;omega) ((K0.o.cell (p:=⟨bs,i*2+1,none⟩) hb (fun h=>h)).trans (by rw[JZ hi];exact(hc i hi).2))) hi hl).mono ?_
    rintro e w' ⟨h1,n,h2⟩;exact⟨h1,n,#[],by rw[h2,grow_empty]⟩)
  (fun a b h1 h2 h=>by
    have:=ae1 ht h1 h2;simp only[Az]at h⊢;omega)
 change Calls _ _ _ _ (fun e w'=>e=.returned (.int .i64 (yi S c:Nat))/\_)at hF
 have HF:=ab hF;have HC:=ab hc;have HA:=ab ha;have ix:=ab B1;have jD:=ab B2;clear hF hc ha ht B1 B2 eg;obtain⟨k,hk⟩:∃k,k=yi S c:=⟨_,rfl⟩
 rw[<-hk]at HS HF;clear hk;go_in;go_wp2_with fail;rw[<-vt];refine(HF.o).mono ?_;rintro e w1 ⟨rfl,q,os,rfl⟩;have ck:Hid (∀{a:Addr} {v:Value},a.block<W0.heap.size->W0.cell? a=some v->(grow (W0.drewN q) os).cell? a=some v):=fun aw rD=>cell_grown aw rD q os
 have e1:(grow (W0.drewN q) os).cell? ⟨w.heap.size,0,none⟩=some (.slice sa S.length sc):=ck.o (by show w.heap.size<_;omega) (ix.o.cell 0);have e2:(grow (W0.drewN q) os).cell? ⟨w.heap.size+1,0,none⟩=some (.int .i32 c):=ck.o (by show w.heap.size+1<_;omega) (jD.o.cell 0);have KF:Hid (aa af w (grow (W0.drewN q) os)):=K0.o.trans (CE (below_grown_sl W0.heap.size W0 q os (Ab _)));by_cases aw:k<S.length
 ·have az:S≠ []:=by intro e;subst e;simp at aw
  obtain⟨rfl,hb⟩:=HA.o az;have e3:(grow (W0.drewN q) os).cell? ⟨bs,k*2,none⟩=some (.int .i32 (Pn S k)):=ck.o (by show bs<_;omega) ((K0.o.cell (p:=⟨bs,k*2,none⟩) hb (fun h=>h)).trans (by rw[T_ aw];exact(HC.o k aw).1));generalize hW:grow (W0.drewN q) os=W at*;clear ck hW;go_wp2_with fail;go_big_quiet (fail);go_wp2_with fail;go_ret;refine⟨?_,KF.o.drewN _⟩;rw[<-HS.o.2];simp[aw]
 ·generalize hW:grow (W0.drewN q) os=W at*
  clear ck hW;go_wp2_with fail;go_big_quiet (fail);go_wp2_with fail;go_ret;refine⟨?_,KF.o.drewN _⟩;rw[<-HS.o.2];simp[aw]
def dg(ws:List Nat):List Value:=ws.map fun(x:Nat)=>Value.int .u64 (x:Int)
theorem xJ(ws:List Nat):(dg ws).length=ws.length:=by simp[dg]
def fY(ws:List Nat):Prop:=∀x∈ws,x<18446744073709551616
def gd(ws:List Nat)(o u:Nat):Bool:=(ws.getD (o+u/64) 0).testBit (u % 64)
def tw(ws:List Nat)(o u:Nat):List Nat:=ws.set (o+u/64) (ws.getD (o+u/64) 0|||2^ (u % 64))
theorem Ro(ws:List Nat)(o u:Nat):(tw ws o u).length=ws.length:=by simp[tw]
theorem LK(l:List Nat)(k m:Nat)(v d:Nat)(h:k<l.length):(l.set k v).getD m d=if k=m then v else l.getD m d:=by
 rw[Af,Af,List.getElem?_set];by_cases e:k=m
 ·subst e;simp[h]
 ·simp[e]
theorem fY.getD(h:fY ws)(k:Nat):ws.getD k 0<18446744073709551616:=by
 rw[Af]
 cases e:ws[k]? with
 |none=>simp
 |some x=>exact h x (Ca e)
theorem fY.put(h:fY ws)(o u:Nat):fY (tw ws o u):=fun x hx=>by
 unfold tw at hx;rcases Dx hx with h1|h1
 ·exact h x h1
 ·subst h1;have h2:(2:Nat) ^ (u % 64)<2^64:=Nat.pow_lt_pow_right (by decide) (Nat.mod_lt _ (by decide));exact Nat.or_lt_two_pow (n:=64) (h.getD _) h2
theorem af3{v:Nat}(h:o+u/64<ws.length):gd (tw ws o u) o v=(gd ws o v||decide (v=u)):=by
 unfold gd tw;rw[LK _ _ _ _ _ h];by_cases e:o+u/64=o+v/64
 ·rw[if_pos e,Nat.testBit_or,Nat.testBit_two_pow,<-e];congr 1;rw[Be];simp only[Az];omega
 ·rw[if_neg e]
  have:decide (v=u)=false:=by
   rw[A7];intro h;subst h;exact e rfl
  rw[this,Bool.or_false]
theorem y_(l:List Nat)(o:Nat)(cs:List Nat)(h:o+cs.length<=l.length)(k d:Nat):(splice l o cs).getD k d=if o<=k/\k<o+cs.length then cs.getD (k-o) d else l.getD k d:=by
 unfold splice;simp only[Af];have hl:(l.take o).length=o:=by simp;omega
 by_cases h1:k<o
 ·rw[if_neg (by omega),A9 (by omega),Aw h1]
 ·rw[Cl (by omega),hl];by_cases h2:k<o+cs.length
  ·rw[if_pos (by omega),A9 (by omega)]
  ·rw[if_neg (by omega),Cl (by omega),Ds];congr 2;omega
theorem XH(l:List Nat)(o:Nat)(cs:List Nat):splice (dg l) o (dg cs)=dg (splice l o cs):=by
 unfold splice dg;simp[List.map_take,List.map_drop]
theorem fY.splice(hl:fY l)(hc:fY cs)(o:Nat):fY (splice l o cs):=fun x hx=>by
 unfold Go.splice at hx;rcases Al.1 hx with h|h
 ·exact hl x (Cf h)
 ·rcases Al.1 h with h|h
  ·exact hc x h
  ·exact hl x (Dz h)
theorem O0(h:o+cs.length<=l.length)(hu:u/64<cs.length):gd (splice l o cs) o u=gd cs 0 u:=by
 unfold gd;rw[y_ l o cs h,if_pos (by omega)];congr 2;omega
theorem ZW{o':Nat}(h:o+cs.length<=l.length)(hd:o'+L<=o\/o+cs.length<=o')(hu:u/64<L):gd (splice l o cs) o' u=gd l o' u:=by
 unfold gd;rw[y_ l o cs h,if_neg (by omega)]
def kZ(l:List Nat)(o L:Nat):List Nat:=(l.drop o).take L
theorem JT(h:o+L<=l.length):(kZ l o L).length=L:=by unfold kZ;simp;omega
theorem Rx{k d:Nat}(hk:k<L):(kZ l o L).getD k d=l.getD (o+k) d:=by
 unfold kZ;simp only[Af];rw[Aw hk,Ds]
theorem Tt(hu:u/64<L):gd (kZ l o L) 0 u=gd l o u:=by
 unfold gd;rw[Bf,Rx hu]
theorem fY.kZ(h:fY l)(o L:Nat):fY (kZ l o L):=fun x hx=>h x (Dz (Cf hx))
theorem aom(h:o+L<=l.length):splice l o (kZ l o L)=l:=by
 unfold splice;rw[JT h];unfold kZ;rw[<-Fg,List.take_append_drop,List.take_append_drop]
theorem ahI{a b:List Nat}(hl:a.length=b.length)(hg:∀k,a.getD k 0=b.getD k 0):a=b:=by
 refine List.ext_getElem hl fun k h1 h2=>?_
 have:=hg k;rw[Af,Af,Ae h1,Ae h2]at this;simpa using this
theorem ane(h:o+cs.length<=l.length)(hu:u/64<cs.length):tw (splice l o cs) o u=splice l o (tw cs 0 u):=by
 have cT:=Dg l o cs h;have hp:o+(tw cs 0 u).length<=l.length:=by rw[Ro];exact h
 refine ahI ?_ fun k=>?_
 ·rw[Ro,cT,Dg l o _ hp]
 ·rw[y_ l o _ hp,Ro];unfold tw;rw[LK _ _ _ _ _ (by omega),y_ l o cs h,y_ l o cs h];by_cases e1:o+u/64=k
  ·subst e1;rw[if_pos rfl,if_pos (by omega),if_pos (by omega),E9,Bf,LK _ _ _ _ _ hu,if_pos rfl]
  ·rw[if_neg e1];by_cases e2:o<=k/\k<o+cs.length
   ·rw[if_pos e2,if_pos e2,Bf,LK _ _ _ _ _ hu,if_neg (by omega)]
   ·rw[if_neg e2,if_neg e2]
theorem ZX(L u:Nat):gd (List.replicate L 0) 0 u=false:=by
 unfold gd;rw[Af,Cr];split<;>simp
theorem fY.J4(L:Nat):fY (List.replicate L 0):=fun x hx=>by rw[D4 hx];omega
theorem afm(v:Value)(n:Nat):(Builtin.zeroCells #[v] n).toList=List.replicate n v:=by
 unfold Builtin.zeroCells;refine List.ext_getElem (by simp) fun k h1 h2=>?_
 simp[Gj]
theorem aa.row(g:Nat)(cs:Array Value):aa (fun i=>i=g) w (w.setRow g cs):=⟨rfl,rfl,rfl,by simp[World.setRow],fun k _ hk=>setRow_other w g k cs hk⟩
theorem aqX{o:Oper}{a:Act}(iI:o.guard=none)(d s:Operand)(dT sT:TypeId)
 (ho:o.op=.call {callee:=.builtin .copy,args:=#[d,s],argTypes:=#[dT,sT]})(elem:TypeId)(hu:P.underlying dT=some (.slice elem))(aP:(P.info? elem).map (·.size)=some 1)
 (g off L Lr NA g2 vS:Nat)(hd:a.eval d=.slice (some ⟨g,off,none⟩) L Lr)(hs:a.eval s=.slice (some ⟨g2,vS,none⟩) L NA)
 (ws:List Nat)(t:TypeId)(hg:aq w g (dg ws).toArray t)(cs:List Nat)(hn:cs.length=L)
 (BF:∀k,k<L->w.cell? ⟨g2,vS+k,none⟩=some (.int .u64 (cs.getD k 0:Nat)))(tX:off+L<=ws.length)
 (h:∀w',aq w' g (dg (splice ws off cs)).toArray t->aa (fun i=>i=g) w w'->wpList P ops Q rest (a.put o.dst (goInt L)) w'):wpList P ops Q (o::rest) a w:=by
 subst hn;refine wpList_copy_own iI d s dT sT ho elem hu aP g off cs.length Lr ⟨g2,vS,none⟩ cs.length NA hd hs _ t hg (dg cs) (by simp[xJ]) (fun j v hv=>?_) (by simpa[xJ]using tX) (fun v hv=>?_) ?_
 ·have hj:j<cs.length:=by have:=(Ag.1 hv).1;simpa[xJ]using this
  have:=BF j hj;have e:(⟨g2,vS,none⟩:Addr).add j=⟨g2,vS+j,none⟩:=by unfold Addr.add;split<;>simp_all
  rw[e,this];unfold dg at hv;simp[Af,Ae hj]at hv⊢;exact hv
 ·unfold dg at hv;obtain⟨x,_,rfl⟩:=Bg.1 hv;rfl
 ·rw[xJ];refine h _ ?_ (aa.row g _);have:=setRow_heap w g _ (List.take off (dg ws)++(dg cs++List.drop (off+cs.length) (dg ws))).toArray t _ hg;rw[<-XH];unfold splice aq;rw[xJ];exact this
theorem afl{o:Oper}{a:Act}{K:Act->World->Prop}(d s:Operand)(dT sT:TypeId)
 (ho:o.op=.call {callee:=.builtin .copy,args:=#[d,s],argTypes:=#[dT,sT]})(elem:TypeId)(hu:P.underlying dT=some (.slice elem))(aP:(P.info? elem).map (·.size)=some 1)
 (g off L Lr NA g2 vS:Nat)(hd:a.eval d=.slice (some ⟨g,off,none⟩) L Lr)(hs:a.eval s=.slice (some ⟨g2,vS,none⟩) L NA)
 (ws:List Nat)(t:TypeId)(hg:aq w g (dg ws).toArray t)(cs:List Nat)(hn:cs.length=L)
 (BF:∀k,k<L->w.cell? ⟨g2,vS+k,none⟩=some (.int .u64 (cs.getD k 0:Nat)))(tX:off+L<=ws.length)
 (h:∀w',aq w' g (dg (splice ws off cs)).toArray t->aa (fun i=>i=g) w w'->K (a.put o.dst (goInt L)) w'):o.wp P a w K Q:=by
 subst hn
 have sY:=run_copy_row P w dT sT o.type elem g off cs.length Lr ⟨g2,vS,none⟩ cs.length NA (dg ws).toArray t (dg cs) hu aP hg (by simp[xJ]) (fun j v hv=>by
  have hj:j<cs.length:=by have:=(Ag.1 hv).1;simpa[xJ]using this
  have:=BF j hj;have e:(⟨g2,vS,none⟩:Addr).add j=⟨g2,vS+j,none⟩:=by unfold Addr.add;split<;>simp_all
  rw[e,this];unfold dg at hv;simp[Af,Ae hj]at hv⊢;exact hv) (by simpa[xJ]using tX) (fun v hv=>by
  unfold dg at hv;obtain⟨x,_,rfl⟩:=Bg.1 hv;rfl)
 unfold Oper.wp;simp[execOp,ho,resolve,invoke,builtin,hd,hs,sY,Result.andThen];rw[xJ];refine h _ ?_ (aa.row g _);have:=setRow_heap w g _ (List.take off (dg ws)++(dg cs++List.drop (off+cs.length) (dg ws))).toArray t _ hg;rw[<-XH];unfold splice aq;rw[xJ];exact this
theorem apG{o:Oper}{a:Act}(iI:o.guard=none)(d:Operand)(dT:TypeId)
 (ho:o.op=.call {callee:=.builtin .clear,args:=#[d],argTypes:=#[dT]})(elem:TypeId)(hu:P.underlying dT=some (.slice elem))(hz:(zeroValue elem).run P w=.ok (.int .u64 0) w)
 (g off n c:Nat)(hd:a.eval d=.slice (some ⟨g,off,none⟩) n c)(hn:n≠0)
 (ws:List Nat)(t:TypeId)(hg:aq w g (dg ws).toArray t)(tX:off+n<=ws.length)
 (h:∀w',aq w' g (dg (splice ws off (List.replicate n 0))).toArray t->aa (fun i=>i=g) w w'->wpList P ops Q rest (a.put o.dst (.tuple #[])) w'):wpList P ops Q (o::rest) a w:=by
 refine wpList_plain iI fun K hK=>?_
 have h:=h _ (setRow_heap w g _ _ t _ hg) (aa.row g _);have bC:=run_storeCells_at P g off t (List.replicate n (.int .u64 0)) 0 _ w hg (by simpa[dg]using tX) (by intro v hv;rw[D4 hv];rfl)
 have sY:(Builtin.clear_ #[dT] o.type #[.slice (some ⟨g,off,none⟩) n c]).run P w=.ok (.tuple #[]) (w.setRow g (dg (splice ws off (List.replicate n 0))).toArray):=by
  obtain⟨m,rfl⟩:∃m,n=m+1:=⟨n-1,by omega⟩
  have e:(Value.cells (.int .u64 0))=#[.int .u64 0]:=rfl;have e2:dg (List.replicate (m+1) 0)=List.replicate (m+1) (.int .u64 0):=by simp[dg]
  simp only[Builtin.clear_,go_sem];simp[Gh hu,hz,afm,bC];rw[<-XH,e2];unfold splice;simp
 unfold Oper.wp;simp[execOp,ho,resolve,invoke,builtin,hd,sY,Result.andThen];exact hK _ _ h
