/- Package whole's  -/
import Derived.Test.YtpdnofhackjfdaaGreatDoorP25
set_option linter.all false
set_option maxRecDepth 100000
set_option maxHeartbeats 8000000
namespace Go.Proofs.YtpdnofhackjfdaaGreatDoor
open Go.Proofs.Tryz
open Go.RowKit Go.Maps
variable {X:ByteArray} {c:CX} {res:iT} {gs:List Int} {wf wr:List Nat} {N2 b aq gb i i0 i1 j k u:Nat} {g:OG} {w w':World}
def OG.below(g:OG)(b:Nat):Prop:=(g.ob<b/\g.mb<b/\g.hi<=b)/\(0<b/\1<b)/\(g.cR<b/\g.fh<b/\g.rh<b)/\g.FB<b/\g.WB<b
theorem iB.below(h:iB w g aq wf wr):g.below w.heap.size:=⟨⟨h.rk.o.lt,h.rk.iz.lt,h.rk.le⟩,h.rk.jS.lt,h.lt,h.bf.lt,h.bw.lt⟩
theorem iB.xB(h:iB w g aq wf wr)(hb:g.below b)(k:aa (fun i=>b<=i) w w'):iB w' g aq wf wr where
 rk:=h.rk.kept k (by have:=hb.1;omega) (by have:=hb.1;omega) (fun i _ h2=>by have:=hb.1;omega) (by have:=hb.2.1;omega) (by have:=hb.2.1;omega)
 bg i hi:=(k.cell (p:=(GB g.cR i)) h.lt.1 (by have:=hb.2.2.1;show¬b<=g.cR;omega)).trans (h.bg i hi)
 fh i hi:=(k.cell (p:=(GB g.fh i)) h.lt.2.1 (by have:=hb.2.2.1;show¬b<=g.fh;omega)).trans (h.fh i hi)
 rh i hi:=(k.cell (p:=(GB g.rh i)) h.lt.2.2 (by have:=hb.2.2.1;show¬b<=g.rh;omega)).trans (h.rh i hi)
 lt:=by have:=k.size;have:=h.lt;omega
 bf:=h.bf.kept k (by have:=hb.2.2.2;omega)
 bw:=h.bw.kept k (by have:=hb.2.2.2;omega)
 fl:=h.fl
 wl:=h.wl
theorem pd.xB(h:pd w g aq wf wr)(hb:g.below b)(k:aa (fun i=>b<=i) w w'):pd w' g aq wf wr:=⟨h.at_.xB hb k,h.lt,h.Mu,h.rows⟩
theorem afX(w:World)(s:ByteArray)(i:Nat)(hi:i<(aJ s).length)(hs:s.size<=10000000)(hT:iM w):Calls prog 62 #[.string s,GW (bd s i:Int)] w fun e w'=>e=.returned (GW ((bd s (i+1):Int)-(bd s i:Int)))/\aa ai w w':=by
 refine(afZ s (bd s i) w (i_ s i) (by omega) hT).mono ?_;rintro e w' ⟨rfl,hk⟩;refine⟨?_,hk⟩;have h1:=xu hi;have h2:=uc hi;have h3:=pY hi;rw[UV s _ h1];congr 2;omega
theorem akP(gs:List Int)(k:Nat)(v:Int):(cQ gs).toArray.setIfInBounds k (GW v)=(cQ (gs.set k v)).toArray:=by
 unfold cQ;simp[Fj]
structure vu(w wr:World)(g:OG)(gb:Nat)(wf:List Nat)(i u:Nat)(gs:List Int)(res:iT)(N2:Nat):Prop where
 xT:i<=(aJ g.x.s).length
 afS:u<g.ms.length
 iI:dd g.ms g.x (u:Int) i gs=res
 o:∃aq wd,pd wr g aq wf wd/\g.aH.getD aq 0<=i
 fA:au wr gb (cQ gs).toArray 3
 len:gs.length=N2
 kept:aa (fun i=>i=g.ob\/i=g.WB) w wr
 box:au wr w.heap.size #[GW 0,GW 0,.slice none 0 0,.string ⟨#[]⟩] 46
theorem vu.iR{wr:World}(h:vu w wr g gb wf i u gs res N2)(k:aa ai wr w'):vu w w' g gb wf i u gs res N2:=by
 obtain⟨aq,wd,o1,o2⟩:=h.o;exact⟨h.xT,h.afS,h.iI,⟨aq,wd,o1.kept k,o2⟩,h.fA.kept k (fun h=>h),h.len,h.kept.trans (k.mono (fun _ h=>h.elim)),h.box.kept k (fun h=>h)⟩
theorem vu.go{wr:World}{i' u':Nat}(h:vu w wr g gb wf i u gs res N2)(hi:i<=i')(hi':i'<=(aJ g.x.s).length)(hu:u'<g.ms.length)(hr:dd g.ms g.x (u':Int) i' gs=res):vu w wr g gb wf i' u' gs res N2:=by
 obtain⟨aq,wd,o1,o2⟩:=h.o;exact⟨hi',hu,hr,⟨aq,wd,o1,by omega⟩,h.fA,h.len,h.kept,h.box⟩
def Uh(w:World)(g:OG)(wf:List Nat)(i0 j G:Nat)(jL:List Int)(e:Ending)(w':World):Prop:=((g.x.op&&decide (g.x.n<=j))=false->∃gb,e=.returned (.tuple #[.agg #[GW (g.x.aZ i0),GW (g.x.aZ j),.slice (some (GB gb 0)) (2*G) (2*G),.string (g.x.s.extract (bd g.x.s i0) (bd g.x.s j))],.bool true])/\w.heap.size<=gb/\au w' gb (cQ jL).toArray 3)/\((g.x.op&&decide (g.x.n<=j))=true->e=.returned (.tuple #[.agg #[GW 0,GW 0,.slice none 0 0,.string ⟨#[]⟩],.bool false]))/\∃L9 qy,pd w' g L9 wf qy/\g.aH.getD L9 0<=j/\aa (fun i=>i=g.ob\/i=g.WB) w w'
theorem ads{wd:List Nat}(hg:g.Ok)(hO:pd w g aq wf wd){u0 G:Nat}{jL:List Int}(cW:i0<=(aJ g.x.s).length)(oC:g.aH.getD aq 0<=i0)(bD:g.st=(u0:Int))(so:u0<g.ms.length)(hG:g.G=(G:Int))(Jv:G<=100000)(hR:dd g.ms g.x (u0:Int) i0 (List.replicate (2*G) (-1))=some (j,jL)):
 Calls prog 63 #[BT g.ob 0,GW (bd g.x.s i0:Int)] w fun e w'=>Uh w g wf i0 j G jL e w':=by
 have HG:=ab hg;have HO:=ab hO;have EB:=ab oC;have HR:=ab hR;have lS:=ab bD;have HFW:=ab (DV hg.fJ g.x so cW _ j jL hR);have ED:=ab hO.at_.below;have aW:=hg.size;have dy:=hg.bN;have TY:=ab hG;have c2:w.cell? (GB g.ob 2)=some (GW (G:Int)):=by rw[<-hG];exact hO.at_.rk.o.cell 2
 have kD:=hO.at_.rk.o.lt;obtain⟨N2,xD⟩:∃N2,N2=2*G:=⟨_,rfl⟩
 have hmul:2*(G:Int)=(N2:Int):=by omega
 rw[<-xD]at HR;have Ls:=ab xD;have aql:N2<=200000:=by omega
 clear hg hO oC hR bD hG xD;go_in;go_wp2_with fail;have KA:Hid (aa ai w ((w.alloc (.cells #[GW 0,GW 0,.slice none 0 0,.string ⟨#[]⟩] 46)).alloc (.cells #[GW (-1)] 3))):=((aa.refl ai w).alloc _).alloc _;have BX:Hid (au ((w.alloc (.cells #[GW 0,GW 0,.slice none 0 0,.string ⟨#[]⟩] 46)).alloc (.cells #[GW (-1)] 3)) w.heap.size #[GW 0,GW 0,.slice none 0 0,.string ⟨#[]⟩] 46):=(au.new w _ _).alloc _
 have cm:((w.alloc (.cells #[GW 0,GW 0,.slice none 0 0,.string ⟨#[]⟩] 46)).alloc (.cells #[GW (-1)] 3)).cell? ⟨w.heap.size+1,0,none⟩=some (GW (-1)):=by
  have:=(au.new (w.alloc (.cells #[GW 0,GW 0,.slice none 0 0,.string ⟨#[]⟩] 46)) #[GW (-1)] 3).cell 0;rw[fP]at this;exact this
 have WT:((w.alloc (.cells #[GW 0,GW 0,.slice none 0 0,.string ⟨#[]⟩] 46)).alloc (.cells #[GW (-1)] 3)).heap.size=w.heap.size+1+1:=by simp
 have F:=ab (an5 ((w.alloc (.cells #[GW 0,GW 0,.slice none 0 0,.string ⟨#[]⟩] 46)).alloc (.cells #[GW (-1)] 3)) (w.heap.size+1) N2 cm (by omega));refine(F.o).mono ?_;rintro e w2 ⟨gb,k_,rfl,oA,k2⟩;rw[WT]at k_
 have dD:Hid (vu w w2 g gb wf i0 u0 (List.replicate N2 (-1)) (some (j,jL)) N2):=by
  have k:aa ai w w2:=KA.o.trans k2;refine⟨cW,so,HR.o,⟨aq,wd,HO.o.kept k,EB.o⟩,?_,by simp,k.mono (fun _ h=>h.elim),BX.o.kept k2 (fun h=>h)⟩;have e:cQ (List.replicate N2 (-1))=List.replicate N2 (GW (-1)):=by unfold cQ;simp
  rw[e];exact oA
 have O2:=ab (HO.o.kept (KA.o.trans k2));have e4:w2.cell? (GB g.ob 4)=some (GW g.x.aE):=O2.o.at_.rk.o.cell 4;have e3:w2.cell? (GB g.ob 3)=some (.string g.x.s):=O2.o.at_.rk.o.cell 3;have e1:w2.cell? (GB g.ob 1)=some (GW (u0:Int)):=by rw[<-lS.o];exact O2.o.at_.rk.o.cell 1
 clear oA k2 F cm KA BX WT c2 HO O2 HR EB;go_wp2_with fail;go_big_quiet (fail);have ue:(w2.drewN nq).cell? (GB g.ob 1)=some (GW (u0:Int)):=e1;have aar:=ab (dD.o.iR ((aa.refl ai w2).drewN nq));generalize w2.drewN nq=w3 at*;clear dD e1 e3 e4;go_wp2_with fail;go_big_quiet (fail);have aas:=ab (aar.o.iR ((aa.refl ai w3).drewN nq));generalize w3.drewN nq=w4 at*;clear aar ue;go_wp2_with fail;go_loopg [9,10] (((aJ g.x.s).length-i0)*(g.ms.length+1)+u0) (fun kk v9 v10 wr=>∃(i u:Nat) (gs:List Int),v9=GW (bd g.x.s i:Int)/\v10=GW (u:Int)/\kk=((aJ g.x.s).length-i)*(g.ms.length+1)+u/\Hid (vu w wr g gb wf i u gs (some (j,jL)) N2))
 case atStart=>exact⟨i0,u0,_,rfl,rfl,rfl,aas⟩
 case round=>
  obtain⟨i,u,gs,rfl,rfl,eE,HM⟩:=hrel;clear aas;have hu:=HM.o.afS;have hi:=HM.o.xT;obtain⟨agV,wd1,o1,o2⟩:=HM.o.o;have O1:=ab o1;have gF:=ab o2;have e7:wr.cell? (GB g.ob 7)=some (.bool g.x.op):=o1.at_.rk.o.cell 7;have e0:wr.cell? (GB g.ob 0)=some (.slice (some (GB g.mb 0)) g.ms.length g.c):=o1.at_.rk.o.cell 0;obtain⟨q,⟨tr,qY⟩,zt,mG⟩:=o1.at_.rk.iz.at hu;obtain⟨d0,d1,d2,d3,d4,d5⟩:=mG wr o1.at_.rk.iz;have jc:=o1.at_.rk.wR u tr hu;rw[qY]at jc;have AK:=ab fun ht=>aof HG.o.fJ g.x hi (Ae hu) ht HM.o.iI
  have lR:=ab (HG.o.fJ u _ (Ae hu));have xe:=ab (HG.o.q _ (A6 hu));generalize hm:g.ms[u]=m at*;have ek:=jc.k;have esl:=jc.sl;have BC:=jc.nx;have BD:=jc.ot;clear hm mG qY tr zt jc o1 o2;obtain⟨qk,bV,cA,bY,bM,fF,DS,DT⟩:=q;simp only at d0 d1 d2 d3 d4 d5 ek esl BC BD;subst ek esl BC BD;have aqs:=i_ g.x.s i
  have acw:∀(i' u':Nat),u'<g.ms.length->(i<i'/\i'<=(aJ g.x.s).length\/i'=i/\u'<u)->((aJ g.x.s).length-i')*(g.ms.length+1)+u'<((aJ g.x.s).length-i)*(g.ms.length+1)+u:=by
   intro i' u' h1 h2;rcases h2 with⟨h2,h3⟩|⟨rfl,h2⟩
   ·have:=Bv (g.ms.length+1) (show(aJ g.x.s).length-i'+1<=(aJ g.x.s).length-i by omega);rw[Cw]at this;omega
   ·omega
  have Lq:=ab acw;have pW:=ab eE;clear acw eE;have JE:=HG.o.aE
  cases qj:(g.x.op&&decide (g.x.n<=i))with
  |true=>
   have eG:g.x.op=true/\g.x.n<=i:=(by simpa using qj);have hr:=HM.o.iI;rw[zO eG.1 eG.2]at hr;obtain⟨rfl,rfl⟩:i=j/\gs=jL:=by cases hr;exact⟨rfl,rfl⟩
   have JD:bd g.x.s i=g.x.s.size:=nI eG.2;have l7:¬(bd g.x.s i:Int)<(g.x.s.size:Int):=(by omega);rw[eG.1]at e7;have Pw:=ab eG;clear hr eG qj AK lR xe;have bx:=HM.o.box;have x0:wr.cell? (GB w.heap.size 0)=some (GW 0):=bx.cell 0;have x1:wr.cell? (GB w.heap.size 1)=some (GW 0):=bx.cell 1;have x2:wr.cell? (GB w.heap.size 2)=some (.slice none 0 0):=bx.cell 2;have x3:wr.cell? (GB w.heap.size 3)=some (.string ⟨#[]⟩):=bx.cell 3;have y0:=bx.frozen 0;have y1:=bx.frozen 1;have y2:=bx.frozen 2;have y3:=bx.frozen 3;have Tu:=ab bx;clear bx;go_wp2_with fail
   have B6:Hid (au ((((wr.setCell (GB w.heap.size 0) (GW 0)).setCell (GB w.heap.size 1) (GW 0)).setCell (GB w.heap.size 2) (.slice none 0 0)).setCell (GB w.heap.size 3) (.string ⟨#[]⟩)) w.heap.size #[GW 0,GW 0,.slice none 0 0,.string ⟨#[]⟩] 46):=by
    have:=(((Tu.o.setCell 0 (GW 0)).setCell 1 (GW 0)).setCell 2 (.slice none 0 0)).setCell 3 (.string ⟨#[]⟩);show au _ _ _ _
    simpa using this
   have K6:Hid (aa (fun i=>i=w.heap.size) wr ((((wr.setCell (GB w.heap.size 0) (GW 0)).setCell (GB w.heap.size 1) (GW 0)).setCell (GB w.heap.size 2) (.slice none 0 0)).setCell (GB w.heap.size 3) (.string ⟨#[]⟩))):=((((aa.refl (fun i=>i=w.heap.size) wr).setCell (p:=(GB w.heap.size 0)) (Or.inl rfl) _).setCell (p:=(GB w.heap.size 1)) (Or.inl rfl) _).setCell (p:=(GB w.heap.size 2)) (Or.inl rfl) _).setCell (p:=(GB w.heap.size 3)) (Or.inl rfl) _;generalize((((wr.setCell (GB w.heap.size 0) (GW 0)).setCell (GB w.heap.size 1) (GW 0)).setCell (GB w.heap.size 2) (.slice none 0 0)).setCell (GB w.heap.size 3) (.string ⟨#[]⟩))=w6 at*;have z0:w6.cell? (GB w.heap.size 0)=some (GW 0):=B6.o.cell 0;have z1:w6.cell? (GB w.heap.size 1)=some (GW 0):=B6.o.cell 1;have z2:w6.cell? (GB w.heap.size 2)=some (.slice none 0 0):=B6.o.cell 2;have z3:w6.cell? (GB w.heap.size 3)=some (.string ⟨#[]⟩):=B6.o.cell 3;refine Bm (v:=.tuple #[.agg #[GW 0,GW 0,.slice none 0 0,.string ⟨#[]⟩],.bool false]) ?_ rfl ?_
   ·rw[results_cell_tmp rfl];simp only[Array.getD_eq_getD_getElem?,List.getElem?_toArray,D9,Fc,De];go_simp
   ·obtain⟨vG,wW,o5,gI⟩:=HM.o.o;have uH:(g.x.op&&decide (g.x.n<=i))=true:=by rw[Pw.o.1,C2 Pw.o.2];rfl
    unfold Uh;exact⟨fun hx=>(by rw[uH]at hx;cases hx),fun _=>rfl,vG,wW,o5.xB ED.o (K6.o.mono (fun i h=>by subst h;exact Ab _)),gI,HM.o.kept.b_ K6.o (fun i hi e=>by omega)⟩
  |false=>
   have acv:g.x.op=true->(bd g.x.s i:Int)<(g.x.s.size:Int):=fun eG=>by
    rw[eG,Fb,Bb]at qj;have:=xu (s:=g.x.s) (i:=i) (show i<(aJ g.x.s).length by unfold CX.n at qj;omega);omega
   have ZY:=ab acv;clear acv
   cases eG:g.x.op
   all_goals rw[eG]at e7
   case' true=>have az:=ZY.o eG
   all_goals
    clear ZY;rcases AK.o qj with⟨k0,er⟩|⟨k1,ht,hn⟩|⟨k1,ht,er⟩|⟨k2,he,hn⟩|⟨k2,he,er⟩|⟨k3,hn⟩|⟨k4,v,ev,hn⟩|⟨k4,hn,ho⟩
    ·obtain⟨rfl,rfl⟩:j=i/\jL=gs:=by cases er;exact⟨rfl,rfl⟩
     have LC:=ab qj;rw[k0]at d0;have bT:=HFW.o;have xK:=fZ g.x.s bT.1;obtain⟨mn,dP⟩:∃mn,m.next=mn:=⟨_,rfl⟩
     have F:=(ab fun(W:World)=>aou (g.x.s.extract (bd g.x.s i0) (bd g.x.s j)) W (by rw[extract_size g.x.s _ _ (i_ g.x.s j)];omega));clear bT AK lR xe er;go_wp2_with fail;refine(F.o _).mono ?_;rintro e w5 ⟨rfl,k5⟩;have bx:=HM.o.box.kept k5 (fun h=>h);have x0:w5.cell? (GB w.heap.size 0)=some (GW 0):=bx.cell 0;have x1:w5.cell? (GB w.heap.size 1)=some (GW 0):=bx.cell 1;have x2:w5.cell? (GB w.heap.size 2)=some (.slice none 0 0):=bx.cell 2;have x3:w5.cell? (GB w.heap.size 3)=some (.string ⟨#[]⟩):=bx.cell 3;have y0:=bx.frozen 0;have y1:=bx.frozen 1;have y2:=bx.frozen 2;have y3:=bx.frozen 3;have Tu:=ab bx;have M5:=ab (HM.o.iR k5);clear k5 bx F;go_wp2_with fail
     have B6:Hid (au ((((w5.setCell (GB w.heap.size 0) (GW (g.x.aE+(bd g.x.s i0:Int)))).setCell (GB w.heap.size 1) (GW (g.x.aE+(bd g.x.s j:Int)))).setCell (GB w.heap.size 2) (.slice (some (GB gb 0)) N2 N2)).setCell (GB w.heap.size 3) (.string (g.x.s.extract (bd g.x.s i0) (bd g.x.s j)))) w.heap.size #[GW (g.x.aE+(bd g.x.s i0:Int)),GW (g.x.aE+(bd g.x.s j:Int)),.slice (some (GB gb 0)) N2 N2,.string (g.x.s.extract (bd g.x.s i0) (bd g.x.s j))] 46):=by
      have:=(((Tu.o.setCell 0 (GW (g.x.aE+(bd g.x.s i0:Int)))).setCell 1 (GW (g.x.aE+(bd g.x.s j:Int)))).setCell 2 (.slice (some (GB gb 0)) N2 N2)).setCell 3 (.string (g.x.s.extract (bd g.x.s i0) (bd g.x.s j)));show au _ _ _ _
      simpa using this
     have K6:Hid (aa (fun i=>i=w.heap.size) w5 ((((w5.setCell (GB w.heap.size 0) (GW (g.x.aE+(bd g.x.s i0:Int)))).setCell (GB w.heap.size 1) (GW (g.x.aE+(bd g.x.s j:Int)))).setCell (GB w.heap.size 2) (.slice (some (GB gb 0)) N2 N2)).setCell (GB w.heap.size 3) (.string (g.x.s.extract (bd g.x.s i0) (bd g.x.s j))))):=((((aa.refl (fun i=>i=w.heap.size) w5).setCell (p:=(GB w.heap.size 0)) (Or.inl rfl) _).setCell (p:=(GB w.heap.size 1)) (Or.inl rfl) _).setCell (p:=(GB w.heap.size 2)) (Or.inl rfl) _).setCell (p:=(GB w.heap.size 3)) (Or.inl rfl) _;generalize((((w5.setCell (GB w.heap.size 0) (GW (g.x.aE+(bd g.x.s i0:Int)))).setCell (GB w.heap.size 1) (GW (g.x.aE+(bd g.x.s j:Int)))).setCell (GB w.heap.size 2) (.slice (some (GB gb 0)) N2 N2)).setCell (GB w.heap.size 3) (.string (g.x.s.extract (bd g.x.s i0) (bd g.x.s j))))=w6 at*;have z0:w6.cell? (GB w.heap.size 0)=some (GW (g.x.aE+(bd g.x.s i0:Int))):=B6.o.cell 0;have z1:w6.cell? (GB w.heap.size 1)=some (GW (g.x.aE+(bd g.x.s j:Int))):=B6.o.cell 1;have z2:w6.cell? (GB w.heap.size 2)=some (.slice (some (GB gb 0)) N2 N2):=B6.o.cell 2;have z3:w6.cell? (GB w.heap.size 3)=some (.string (g.x.s.extract (bd g.x.s i0) (bd g.x.s j))):=B6.o.cell 3;refine Bm (v:=.tuple #[.agg #[GW (g.x.aE+(bd g.x.s i0:Int)),GW (g.x.aE+(bd g.x.s j:Int)),.slice (some (GB gb 0)) N2 N2,.string (g.x.s.extract (bd g.x.s i0) (bd g.x.s j))],.bool true]) ?_ rfl ?_
     ·rw[results_cell_tmp rfl];simp only[Array.getD_eq_getD_getElem?,List.getElem?_toArray,D9,Fc,De];go_simp
     ·obtain⟨vG,wW,o5,gI⟩:=M5.o.o;unfold Uh;rw[<-Ls.o];exact⟨fun _=>⟨gb,rfl,by omega,M5.o.fA.kept K6.o (by omega)⟩,fun hx=>(by rw[LC.o]at hx;cases hx),vG,wW,o5.xB ED.o (K6.o.mono (fun i h=>by subst h;exact Ab _)),gI,M5.o.kept.b_ K6.o (fun i hi e=>by omega)⟩
    ·rw[k1]at d0;have hN:=lR.o.2.1 k1;obtain⟨mn,dP⟩:∃mn:Nat,m.next=(mn:Int):=⟨m.next.toNat,by omega⟩
     rw[dP]at d4 hn
     have Wj:i<(aJ g.x.s).length:=by
      simp only[Cq,A5]at ht;exact ht.1
     have zp:mn<g.ms.length:=(by omega);have F:=afX wr g.x.s i Wj aW O1.o.at_.rk.jS;obtain⟨pQ,qm⟩:∃pQ,pQ=(bd g.x.s (i+1):Int)-(bd g.x.s i:Int):=⟨_,rfl⟩
     rw[<-qm]at F;have yY:(bd g.x.s i:Int)+pQ=(bd g.x.s (i+1):Int):=(by omega);have ab_:=i_ g.x.s (i+1);have HN:=ab hn;have F:=ab F;clear hn ht AK lR xe dP hN qm;go_wp2_with fail;refine(F.o).mono ?_;rintro e w5 ⟨rfl,k5⟩;have aA:=ab ((HM.o.iR k5).go (i':=i+1) (u':=mn) (by omega) Wj zp HN.o);clear k5 F;go_wp2_with fail;go_roundg (((aJ g.x.s).length-(i+1))*(g.ms.length+1)+mn)
     case measure=>exact Ej (Lq.o _ _ zp (Or.inl ⟨by omega,Wj⟩)) pW.o.symm
     case rel=>exact⟨i+1,mn,gs,rfl,rfl,rfl,aA⟩
    ·cases er
    ·rw[k2]at d0;have hN:=lR.o.2.2.1 (by omega);obtain⟨mn,dP⟩:∃mn:Nat,m.next=(mn:Int):=⟨m.next.toNat,by omega⟩
     rw[dP]at d4 hn;have Ho:mn<u:=(by omega);have aA:=ab (HM.o.go (i':=i) (u':=mn) (Ab _) hi (by omega) hn);clear hn he AK lR xe dP hN;go_wp2_with fail;go_roundg (((aJ g.x.s).length-(i))*(g.ms.length+1)+mn)
     case measure=>exact Ej (Lq.o _ _ (by omega) (Or.inr ⟨rfl,Ho⟩)) pW.o.symm
     case rel=>exact⟨i,mn,gs,rfl,rfl,rfl,aA⟩
    ·cases er
    ·rw[k3]at d0;have hN:=lR.o.2.2.1 (by omega);have hSl:=xe.o.2.1 k3;obtain⟨mn,dP⟩:∃mn:Nat,m.next=(mn:Int):=⟨m.next.toNat,by omega⟩
     obtain⟨sl,gX⟩:∃sl:Nat,m.slot=(sl:Int):=⟨m.slot.toNat,by omega⟩
     rw[dP]at d4 hn;rw[gX]at d3 hn;have Ho:mn<u:=(by omega);have ara:sl<N2:=by have:=Ls.o;have:=TY.o;omega
     have dc:=HM.o.len;have fgb:=HM.o.fA.frozen sl
     have cgb:wr.cell? (GB gb sl)=some (GW (gs.getD sl 0)):=by
      have:=HM.o.fA.cell sl;rw[this];unfold cQ;simp[Af,Ae (show sl<gs.length by omega)]
     have aA:Hid (vu w (wr.setCell (GB gb sl) (GW (g.x.aE+(bd g.x.s i:Int)))) g gb wf i mn (gs.set sl (g.x.aE+(bd g.x.s i:Int))) (some (j,jL)) N2):=by
      have k:aa (fun i=>i=gb) wr (wr.setCell (GB gb sl) (GW (g.x.aE+(bd g.x.s i:Int)))):=(aa.refl (fun i=>i=gb) wr).setCell (p:=(GB gb sl)) (Or.inl rfl) _;have dM:=HM.o.fA.setCell sl (GW (g.x.aE+(bd g.x.s i:Int)));rw[akP]at dM;refine⟨hi,by omega,?_,⟨agV,wd1,O1.o.xB ED.o (k.mono (fun i h=>by subst h;omega)),gF.o⟩,dM,by rw[Bp];exact dc,HM.o.kept.b_ k (fun i hi e=>by omega),HM.o.box.kept k (by omega)⟩;have:=hn;rw[Az]at this;exact this
     clear hn AK lR xe dP gX hN hSl dc;go_wp2_with fail;go_roundg (((aJ g.x.s).length-(i))*(g.ms.length+1)+mn)
     case measure=>exact Ej (Lq.o _ _ (by omega) (Or.inr ⟨rfl,Ho⟩)) pW.o.symm
     case rel=>exact⟨i,mn,gs.set sl (g.x.aE+(bd g.x.s i:Int)),rfl,rfl,rfl,aA⟩
    ·rw[k4]at d0;have hN:=lR.o.2.2.1 (by omega);obtain⟨mn,dP⟩:∃mn:Nat,m.next=(mn:Int):=⟨m.next.toNat,by omega⟩
     rw[dP]at d4 hn;have Ho:mn<u:=(by omega);have F:=US HG.o O1.o (u:=mn) (by omega) hi gF.o;rw[On HG.o.fJ g.x (show mn<g.ms.length by omega) hi gs,hn]at F;simp only[Fd]at F;have F:=ab F;rw[<-ev]at hn;have HN:=ab hn;clear hn ev AK lR xe dP hN;go_wp2_with fail;refine(F.o).mono ?_;rintro e w5 ⟨rfl,vG,wW,o5,gI,k5⟩;have aA:Hid (vu w w5 g gb wf i mn gs (some (j,jL)) N2):=⟨hi,by omega,HN.o,⟨vG,wW,o5,gI⟩,HM.o.fA.kept k5 (by have:=ED.o;unfold OG.below at this;omega),HM.o.len,HM.o.kept.trans k5,HM.o.box.kept k5 (by have:=ED.o;unfold OG.below at this;omega)⟩;clear o5 gI k5 F;go_wp2_with fail;go_roundg (((aJ g.x.s).length-(i))*(g.ms.length+1)+mn)
     case measure=>exact Ej (Lq.o _ _ (by omega) (Or.inr ⟨rfl,Ho⟩)) pW.o.symm
     case rel=>exact⟨i,mn,gs,rfl,rfl,rfl,aA⟩
    ·rw[k4]at d0;have hN:=lR.o.2.2.1 (by omega);have ajc:=lR.o.2.2.2 k4;obtain⟨mn,dP⟩:∃mn:Nat,m.next=(mn:Int):=⟨m.next.toNat,by omega⟩
     obtain⟨mo,fD⟩:∃mo:Nat,m.bj=(mo:Int):=⟨m.bj.toNat,by omega⟩
     rw[dP]at d4 hn;rw[fD]at d5 ho;have Ho:mn<u:=(by omega);have acy:mo<u:=(by omega);have F:=US HG.o O1.o (u:=mn) (by omega) hi gF.o;rw[On HG.o.fJ g.x (show mn<g.ms.length by omega) hi gs,hn]at F;simp only[Du]at F;have F:=ab F;have HN:=ab ho;clear hn ho AK lR xe dP fD hN ajc;go_wp2_with fail;refine(F.o).mono ?_;rintro e w5 ⟨rfl,vG,wW,o5,gI,k5⟩;have aA:Hid (vu w w5 g gb wf i mo gs (some (j,jL)) N2):=⟨hi,by omega,HN.o,⟨vG,wW,o5,gI⟩,HM.o.fA.kept k5 (by have:=ED.o;unfold OG.below at this;omega),HM.o.len,HM.o.kept.trans k5,HM.o.box.kept k5 (by have:=ED.o;unfold OG.below at this;omega)⟩;have g5:w5.cell? ⟨g.mb,u*6+5,none⟩=some (GW (mo:Int)):=(k5.cell (p:=⟨g.mb,u*6+5,none⟩) O1.o.at_.rk.iz.lt (by have h1:=HG.o.Jg.1;have h2:=HG.o.L6.2.1;show¬(g.mb=g.ob\/g.mb=g.WB);omega)).trans d5;clear o5 gI k5 F;go_wp2_with fail;go_roundg (((aJ g.x.s).length-(i))*(g.ms.length+1)+mo)
     case measure=>exact Ej (Lq.o _ _ (by omega) (Or.inr ⟨rfl,acy⟩)) pW.o.symm
     case rel=>exact⟨i,mo,gs,rfl,rfl,rfl,aA⟩
structure ki(X:ByteArray)(c:CX)(i0 i1:Nat):Prop where
 s:c.s=X.extract (bd X i0) (bd X i1)
 aE:c.aE=(bd X i0:Int)
 le:i0<=i1
 zy:i1<=(aJ X).length
 ah:∀e b,fi e c.ah b=fi e ((aQ X).ahead i0) b
 bh:c.op=false->∀e a,fi e a c.bh=fi e a ((aQ X).gZ i1)
theorem aeC{s:ByteArray}(cY:i<=j)(hj:j<=(aJ s).length):aJ (s.extract (bd s i) (bd s j))=((aJ s).drop i|>.take (j-i)).map fun p=>(p.1-bd s i,p.2):=by
 have hm:=fZ s cY;have aW:(s.extract (bd s i) (bd s j)).size=bd s j-bd s i:=extract_size s _ _ (i_ s j)
 have hN:j-i<=(s.extract (bd s i) (bd s j)).size:=by
  rw[aW]
  have:∀d,i+d<=j->bd s i+d<=bd s (i+d):=by
   intro d;induction d with
   |zero=>intro _;exact Ab _
   |succ d ih=>intro h;have:=ih (by omega);have:=(pY (s:=s) (i:=i+d) (by omega)).1;show bd s i+(d+1)<=bd s (i+d+1);omega
  have:=this (j-i) (by omega);rw[show i+(j-i)=j by omega]at this;omega
 unfold aJ;have:=ae8 cY hj (s.extract (bd s i) (bd s j)).size i hN (Ab _) cY;rw[Gf]at this;exact this
theorem ki.n(h:ki X c i0 i1):c.n=i1-i0:=by
 unfold CX.n;have:=h.zy;rw[h.s,aeC h.le h.zy];simp only[Cn,Cv,List.length_drop];omega
theorem ki.get(h:ki X c i0 i1)(hk:k<i1-i0):(aJ c.s)[k]? =((aJ X)[i0+k]?).map fun p=>(p.1-bd X i0,p.2):=by
 rw[h.s,aeC h.le h.zy,Cb,Av hk,Dq]
theorem ki.bF(h:ki X c i0 i1)(hk:k<i1-i0):c.bF k=(aQ X).bF (i0+k):=by
 unfold CX.bF TX.bF;show((List.map (·.2) (aJ c.s))[k]?).getD (-1)=((List.map (·.2) (aJ X))[i0+k]?).getD (-1)
 rw[Cb,Cb,h.get hk]
 cases(aJ X)[i0+k]? <;>rfl
theorem ki.bd(h:ki X c i0 i1)(hk:k<=i1-i0):(bd c.s k:Int)=(bd X (i0+k):Int)-(bd X i0:Int):=by
 have xK:=fZ X (show i0<=i0+k by omega);have hl:=h.le;have tm:=h.zy;by_cases az:k<i1-i0
 ·have hg:=h.get az;have hX:(aJ X)[i0+k]? =some (aJ X)[i0+k]:=Ae (by omega)
  have e1:Go.Proofs.YtpdnofhackjfdaaGreatDoor.bd c.s k=(aJ X)[i0+k].1-Go.Proofs.YtpdnofhackjfdaaGreatDoor.bd X i0:=by
   unfold Go.Proofs.YtpdnofhackjfdaaGreatDoor.bd at hg⊢;rw[hg,hX];rfl
  have e2:Go.Proofs.YtpdnofhackjfdaaGreatDoor.bd X (i0+k)=(aJ X)[i0+k].1:=AW (by omega);omega
 ·have e1:Go.Proofs.YtpdnofhackjfdaaGreatDoor.bd c.s k=c.s.size:=nI (by have:=h.n;unfold CX.n at this;omega);have e2:c.s.size=Go.Proofs.YtpdnofhackjfdaaGreatDoor.bd X i1-Go.Proofs.YtpdnofhackjfdaaGreatDoor.bd X i0:=by rw[h.s];exact extract_size X _ _ (i_ X i1)
  have e3:i0+k=i1:=by omega
  rw[e1,e2,e3];have:=fZ X h.le;omega
theorem ki.aZ(h:ki X c i0 i1)(hk:k<=i1-i0):c.aZ k=(aQ X).aZ (i0+k):=by
 have h1:=h.bd hk;have h2:=h.aE;unfold CX.aZ;rw[h1,h2];show _=(0:Int)+_
 unfold aQ;simp only;omega
theorem ki.eM(h:ki X c i0 i1)(hk:k<=i1-i0)(ho:(c.op&&decide (c.n<=k))=false)(e:Int):fi e (c.ahead k) (c.gZ k)=fi e ((aQ X).ahead (i0+k)) ((aQ X).gZ (i0+k)):=by
 have hl:=h.zy;have hn:=h.n
 have hb:∀a,fi e a (c.gZ k)=fi e a ((aQ X).gZ (i0+k)):=fun a=>by
  by_cases az:k<i1-i0
  ·have e1:c.gZ k=c.bF k:=if_pos (by omega);have e2:(aQ X).gZ (i0+k)=(aQ X).bF (i0+k):=if_pos (show i0+k<(aJ X).length by omega);rw[e1,e2,h.bF az]
  ·have eG:c.op=false:=by
    cases hc:c.op with
    |false=>rfl
    |true=>rw[hc]at ho;simp at ho;omega
   have e1:c.gZ k=c.bh:=if_neg (by omega);have:=h.le;rw[e1,h.bh eG,show i0+k=i1 by omega]
 rw[hb];by_cases h0:k=0
 ·subst h0;exact h.ah e _
 ·have e1:c.ahead k=c.bF (k-1):=if_neg h0;have e2:(aQ X).ahead (i0+k)=(aQ X).bF (i0+k-1):=if_neg (by omega);rw[e1,e2,h.bF (by omega),show i0+k-1=i0+(k-1) by omega]
theorem adZ{α:Type}{a b:Option α}{v:α}(h:a=some v):a.or b=some v:=by rw[h];rfl
def IF(i0:Nat)(r:iT):iT:=r.map fun v=>(i0+v.1,v.2)
structure Uq(X:ByteArray)(c:CX)(i0 i1:Nat)(rc rX:iT):Prop where
 no_:c.op=true->rc=none->rX=none
 so_:c.op=true->∀j gs,rc=some (j,gs)->j<c.n->rX=some (i0+j,gs)
 in_:c.op=false->∀j gs,rX=some (j,gs)->j<=i1->rc=some (j-i0,gs)
 off:c.op=false->rX=none->rc=none
theorem Yr{ms:List MS}(hg:fg ms)(h:ki X c i0 i1)(hu:u<ms.length)(hk:k<=c.n)(gs:List Int):Uq X c i0 i1 (dd ms c u k gs) (dd ms (aQ X) u (i0+k) gs):=by
 have hn:=h.n;have hl:=h.le;have tm:=h.zy;refine QL hg c.n (Q:=fun u k=>∀gs,Uq X c i0 i1 (dd ms c u k gs) (dd ms (aQ X) u (i0+k) gs)) (fun u k m hk hm Ic Ie gs=>?_) _ k (Ab _) hk u hu gs;have Wq:i0+k<=(aQ X).n:=by show _<=(aJ X).length;omega
 have hXt:((aQ X).op&&decide ((aQ X).n<=i0+k))=false:=rfl
 cases ht:(c.op&&decide (c.n<=k))with
 |true=>
  simp only[Cq,A5]at ht;rw[zO ht.1 ht.2];exact⟨fun _ h=>(by cases h),fun _ j dA h hj=>(by simp only[Bd,Cp]at h;omega),fun h=>(by rw[ht.1]at h;cases h),fun h=>(by rw[ht.1]at h;cases h)⟩
 |false=>
  obtain⟨⟨k0,k4⟩,g1,g2,g3⟩:=hg u m hm;have hu:=(Ai.1 hm).1;obtain⟨a0,a1,a2,a3,a4⟩:=oU hg c hk hm ht gs;obtain⟨b0,b1,b2,b3,b4⟩:=oU hg (aQ X) Wq hm hXt gs
  have T:∀v:Int,0<=v->v<u->∀gs,Uq X c i0 i1 (dd ms c v k gs) (dd ms (aQ X) v (i0+k) gs):=fun v h0 hv gs=>by
   obtain⟨q,rfl⟩:=Au h0;exact Ic q (by omega) gs
  by_cases e0:m.kind=0
  ·rw[a0 e0,b0 e0];refine⟨fun _ h=>(by cases h),fun _ j dA h hj=>?_,fun _ j dA h hj=>?_,fun _ h=>(by cases h)⟩
   ·simp only[Bd,Cp]at h⊢;exact⟨by omega,h.2⟩
   ·simp only[Bd,Cp]at h⊢;exact⟨by omega,h.2⟩
  ·by_cases e1:m.kind=1
   ·rw[a1 e1,b1 e1];have pE:=g1 e1;obtain⟨q,hq⟩:=Au pE.1;by_cases az:k<c.n
    ·have hX:i0+k<(aQ X).n:=by show _<(aJ X).length;omega
     rw[<-h.bF (by omega)];have d1:decide (k<c.n)=true:=C2 az;have d2:decide (i0+k<(aQ X).n)=true:=C2 hX;rw[d1,d2,Fb];by_cases uH:fW m.sp m.fo m.nt (c.bF k)=true
     ·rw[if_pos uH,if_pos uH,hq];have:=Ie q (by omega) az gs;rw[<-Dt]at this;exact this
     ·rw[if_neg uH,if_neg uH];exact⟨fun _ _=>rfl,fun _ j dA h _=>(by cases h),fun _ j dA h _=>(by cases h),fun _ _=>rfl⟩
    ·have d1:decide (k<c.n)=false:=Bg az;rw[d1,Ew];simp only[Aq,if_false]
     have eG:c.op=false:=by
      cases hc:c.op with
      |false=>rfl
      |true=>rw[hc]at ht;simp at ht;omega
     refine⟨fun h=>(by rw[eG]at h;cases h),fun h=>(by rw[eG]at h;cases h),fun _ j dA hr hj=>?_,fun _ _=>rfl⟩;exfalso;split at hr
     ·rename_i hc
      simp only[Cq,A5]at hc;rw[hq]at hr
      have qZ:i0+k+1<=j:=by
       have hx:i0+k+1<=(aQ X).n:=hc.1;have:=DV hg (aQ X) (show q<ms.length by omega) hx gs;exact(this _ _ hr).1
      omega
     ·cases hr
   ·have jZ:=g2 (by omega);by_cases e2:m.kind=2
    ·rw[a2 e2,b2 e2,<-h.eM (by omega) ht];by_cases hh:fi m.eM (c.ahead k) (c.gZ k)=true
     ·rw[if_pos hh,if_pos hh];exact T _ jZ.1 jZ.2 gs
     ·rw[if_neg hh,if_neg hh];exact⟨fun _ _=>rfl,fun _ j dA h _=>(by cases h),fun _ j dA h _=>(by cases h),fun _ _=>rfl⟩
    ·by_cases e3:m.kind=3
     ·rw[a3 e3,b3 e3,<-h.aZ (by omega)];exact T _ jZ.1 jZ.2 _
     ·have e4:m.kind=4:=(by omega);have ho:=g3 e4;rw[a4 e4,b4 e4];have A:=T _ jZ.1 jZ.2 gs;have B:=T _ ho.1 ho.2 gs;generalize dd ms c m.next k gs=ra at A⊢
      generalize dd ms (aQ X) m.next (i0+k) gs=xa at A⊢
      generalize dd ms c m.bj k gs=rb at B⊢
      generalize dd ms (aQ X) m.bj (i0+k) gs=xb at B⊢
      refine⟨fun eG hr=>?_,fun eG j dA hr hj=>?_,fun eG j dA hr hj=>?_,fun eG hr=>?_⟩
      ·cases ra with
       |some v=>cases hr
       |none=>rw[A.no_ eG rfl];exact B.no_ eG hr
      ·cases ra with
       |some v=>rw[adZ (A.so_ eG j dA hr hj)]
       |none=>rw[A.no_ eG rfl];exact B.so_ eG j dA hr hj
      ·cases xa with
       |some v=>rw[adZ (A.in_ eG j dA hr hj)]
       |none=>rw[A.off eG rfl];exact B.in_ eG j dA hr hj
      ·cases xa with
       |some v=>cases hr
       |none=>rw[A.off eG rfl];exact B.off eG hr
