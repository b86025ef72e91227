/- Little, walked -/
import Derived.Test.YtpdnofhackjfdaaGreatDoorP45
set_option linter.all false
set_option maxRecDepth 100000
set_option maxHeartbeats 8000000
namespace Go.Proofs.YtpdnofhackjfdaaGreatDoor
open Go.Proofs.Tryz
open Go.RowKit Go.Maps
theorem akH{w:World}{va vb:Value}{za zb:List Int}(ha:Iw w va za)(hb:Iw w vb zb)(la:za.length<=9000000)(lb:zb.length<=9000000)(hT:jf w):
 Calls prog 4 #[va,vb] w fun e w'=>e=.returned (.bool true)/\aa af w w':=by
 have F1:=ab (ahd 20 ha (by omega) (by decide));have F3:=ab (acC (of:=⟨#[97,98,99]⟩) hb (by omega) (by decide) (by decide));have HT:=ab hT;clear ha hb hT;go_in;go_wp2_with fail;refine(F1.o).mono ?_;rintro e w1 ⟨⟨v',rfl,BM⟩,rfl⟩;have F2:=ab (acC (of:=⟨#[97,98,99]⟩) BM (by have:=List.length_take_le 20 za;omega) (by decide) (by decide));have ajd:=List.length_take_le 20 za;clear F1 BM;go_wp2_with fail;refine(F2.o).mono ?_;rintro e w2 ⟨⟨u,rfl,yD,jY⟩,rfl⟩;clear F2;go_wp2_with fail;refine(F3.o).mono ?_;rintro e w3 ⟨⟨t,rfl,BJ,qI⟩,rfl⟩;clear F3;obtain⟨p,hp⟩:∃p,p=(⟨#[120]⟩:ByteArray)++u:=⟨_,rfl⟩
 rw[<-hp];obtain⟨xj,jX,nO⟩:=apy hp jY;have pP:p.size<=21:=by omega
 have nN:1<=p.size:=by omega
 obtain⟨X,hX⟩:∃X,X=t++p:=⟨_,rfl⟩
 have PI:X.size=t.size+p.size:=by rw[hX];exact Du
 have QD:∀x∈t.data.toList,x∈ ([97,98,99]:List UInt8):=qI
 obtain⟨h1,h2,h3⟩:=ade jX (by omega);have HA:Hid (jM X):=by rw[hX];exact afP QD jX
 have Yw:Hid (LD p X=[⟨t.size,t.size+p.size,[]⟩]):=by rw[hX];exact ahS xj jX (by omega) QD
 have mL:Hid (∀g,Iv p X g->Kd g X (sm t.size)):=fun g h=>by
  have hA:=HA.o;subst hX;exact akL h (by rw[h3,xj]) hA QD
 have SQ:Hid (∀i j,j<=t.size->X.extract i j=t.extract i j):=fun i j h=>by rw[hX];exact ahJ t p h
 have KO:Hid (X.extract t.size (t.size+p.size)=p):=by rw[hX];exact ahK t p
 have Ij:=ab h1;have oE:t.size<=9000000:=by omega
 obtain⟨ie,oz,Jq,kV,FP⟩:=Bp Tryz.VV;have F4:=ab fun(W:World) (k:aa af w3 W)=>alW p X W (by unfold maxLen;omega) (by omega) (HT.o.jZ k) 0 5 0 rfl
 clear hp xj jX yD jY BJ qI QD hX h1 h2 h3 nO ajd;go_wp2_with fail;refine(F4.o _ ?_).mono ?_
 ·exact aa.refl _ _
 rintro e w1 ⟨k1,⟨az,rfl⟩|⟨he,sb,fb,g,c,au,fix,rfl,hS,hP,hw,hO⟩⟩
 ·exact absurd Ij.o az
 have du:Hid (n_ w3 w1 sb fb g X fix (bR.new.rest g.ms g.u0 g.G X) (sm t.size) bR.new c au af (.slice none 0 0) [] w1):=by
  refine⟨hS,gj.nil w1 X,fun i hx=>hx.elim,hO,k1,rfl,fun _=>rfl,hw,fun i hi=>?_,⟨k1.size,Ab _⟩,⟨fun _=>⟨rfl,rfl,rfl,rfl⟩,fun h=>by cases h⟩⟩;obtain⟨A,hM,_⟩:=hS.at_.mem;exact hM.lt (Or.inr hi)
 have kJ:=ab hP.ok;have HG:=ab (mL.o g hP);have KH:Hid (bR.new.rest g.ms g.u0 g.G X=[⟨t.size,t.size+p.size,[]⟩]):=by rw[anF hP];exact Yw.o
 clear F4 hS hP hw hO k1 he mL Yw Ij HT;go_wp2_with fail;go_loopg [9,10] (t.size+1) (fun kk v9 v10 wr=>∃(i:Nat) (s:bR) (c:FC) (au O:Nat->Prop) (aT:List (Ev×Value)),kk=t.size+1-i/\i<=t.size+1/\v10=.int .i64 (i:Int)/\Hid (n_ w3 w1 sb fb g X fix (bR.new.rest g.ms g.u0 g.G X) (sm t.size) s c au O v9 aT wr)/\Hid (i<=t.size->s.aW=i/\s.f=i)/\Hid (i=t.size+1->s.aW=X.size))
 case atStart=>exact⟨0,bR.new,c,au,af,[],rfl,Ao _,rfl,du,ab (fun h=>⟨rfl,rfl⟩),ab (fun h=>by omega)⟩
 case round=>
  obtain⟨i,s,c2,aqV,O,aT,eZ,hi,rfl,HI,tG,Sx⟩:=hrel;clear du;by_cases dR:i<=t.size
  ·have hin':(i:Int)<=(t.size:Int):=(by omega);obtain⟨vA,pf⟩:=tG.o dR;have ajg:aT=[]:=akO HI.o (by omega);subst ajg;clear tG Sx;obtain⟨P,PD⟩:∃P:Nat,P=p.size:=⟨_,rfl⟩
   rcases(show i<t.size\/i=t.size by omega)with aw|heq
   case' inl=>
    have ajh:(i:Int)<(t.size:Int):=(by omega);have ib:=aeG t i aw;obtain⟨part,AZ⟩:∃part,part=t.extract i (i+1):=⟨_,rfl⟩
    rw[<-AZ]at ib;obtain⟨n,hn⟩:∃n,n=1:=⟨_,rfl⟩
    have KG:Hid (part=X.extract s.aW (s.aW+n)):=(by rw[AZ,hn,vA,SQ.o _ _ (by omega)]:part=X.extract s.aW (s.aW+n));have HJ:Hid (sm t.size (s.eG n)):=acF HI.o.j (by omega) (by omega) (Or.inl (by omega));have hnX:s.aW+n<=X.size:=(by omega);have ox:∀K:Nat,K<=P->¬((p.size:Int)<(K:Int)):=fun K h=>by omega
   case' inr=>
    have ajh:¬(i:Int)<(t.size:Int):=(by omega);obtain⟨n,hn⟩:∃n,n=p.size:=⟨_,rfl⟩
    have hnX:s.aW+n<=X.size:=(by omega);have HJ:Hid (sm t.size (s.eG n)):=acF HI.o.j (by omega) (by omega) (Or.inr (by omega));obtain⟨part,AZ⟩:∃part,part=p:=⟨_,rfl⟩
    rw[<-AZ];have DO:=ab AZ;have ox:∀K:Nat,K<=P->¬((part.size:Int)<(K:Int)):=fun K h=>by rw[AZ];omega
    have KG:Hid (part=X.extract s.aW (s.aW+n)):=(by rw[AZ,hn,vA,heq];exact KO.o.symm:part=X.extract s.aW (s.aW+n))
   all_goals
    have UW:∀W,(convert 9 42 (.string part)).run prog W=.ok (.slice (some ⟨W.heap.size,0,none⟩) part.size (grownCap W part.size 0 5)) (Lib.bytesWorld W 5 part):=(fun W=>ag8 W part);have kb:=agr wr 5 part
    have HB:=ab (HI.o.new kb);have F2:=ab (an7 (n:=n) (J:=sm t.size) kJ.o HB.o.at_ HB.o.fA hnX (by rw[<-KG.o];exact agq wr 5 part (grownCap_ge wr part.size 0 5)) HG.o HJ.o HB.o.wn);obtain⟨ao,cv,VJ⟩:=cK HI.o.cO.row;subst VJ;have HEQ:Hid (s.aW=i/\s.f=i/\(i<t.size/\n=1\/i=t.size/\n=p.size)/\P=p.size):=⟨vA,pf,by omega,PD⟩;clear kb HI HJ KG AZ hn vA pf PD;try clear heq
    go_wp2_with fail
    generalize Lib.bytesWorld wr 5 part=wb at*
    refine(F2.o).mono ?_;rintro e w2 ⟨v2,iY,s2,c3,Q8,O2,rfl,hF⟩;have F3:=ab (an8 hF.at_);obtain⟨q1,q2,q3⟩:=akK HA.o hF;have hf2:=hF.aW;obtain⟨vA,pf,h_,PD⟩:=HEQ.o
    have nK:(i<t.size/\(s2.K X).size=0/\iY=[])\/(i=t.size/\(s2.K X).size<=P):=by
     rcases(show i<t.size\/i=t.size by omega)with h|h
     ·exact Or.inl ⟨h,by rw[q2];have:=q1 (by omega);omega,akP HB.o.j hF (by omega)⟩
     ·have:=q3 (by omega);exact Or.inr ⟨h,by omega⟩
    have HQ:Hid ((i<t.size->s2.aW=i+1/\s2.f=i+1)/\(i=t.size->s2.aW=X.size)):=⟨fun h=>by have:=q1 (by omega);omega,fun h=>by omega⟩;obtain⟨K,hK⟩:∃K,K=(s2.K X).size:=⟨_,rfl⟩
    rw[<-hK]at F3 nK;clear F2 UW q1 q2 q3 hf2 hK vA pf h_ PD;have ox:=ox K (by omega);go_wp2_with fail;refine(F3.o).mono ?_;rintro e w4 ⟨rfl,k4⟩;have hF:=hF.new k4
    have cT:iY.length<=10000001:=by
     have h2:=congrArg List.length hF.rest;have h3:=aea g.ms g.u0 g.G X s;have h4:=Rw X;simp only[Aj,Db]at h2;omega
    clear F3 k4;rcases nK with⟨f1,f2,f3⟩|⟨f1,f2⟩<;>first|(exfalso;omega)|skip
    all_goals first|(have Om:Hid (iY.length=0):=(by rw[f3];rfl:iY.length=0);clear f3;subst f2)|skip
    all_goals
     have j_:=ab f1;clear f1;try clear f2
     rcases hF.cO.cell with⟨rfl,dS⟩|⟨eg,ec,rfl,PX,jj⟩
     ·have hF:=hF;try subst dS
      have qf:=ab (HB.o.ahN hF);have fW:Hid (w4.ownsRow 0 46 4 (.slice ao 0 cv) 0 (iF X [])):=qf.o.cO.row;clear hF HB cT;go_wp2_with (at_builtin;refine Dp rfl _ _ 24 rfl 0 46 ie 4 underlying24 oz _ _ _ rfl fW.o rfl ?_);try(have xi:=DO.o;clear DO;subst xi)
      go_roundg (t.size+1-(i+1))
      case measure=>omega
      case rel=>exact⟨i+1,s2,c3,Q8,O,[],rfl,by omega,by go_num,qf,ab (fun h=>HQ.o.1 (by omega)),ab (fun h=>HQ.o.2 (by omega))⟩
     ·have zz:=(ab fun(w7:World) (v7:Value) a b d=>HB.o.ahM (v3:=v7) (w3:=w7) hF a b d);have fW:Hid (w4.ownsRow 0 46 4 (.slice ao 0 cv) 0 (iF X [])):=(HB.o.aW hF).1.row;have HC:=ab (And.intro jj (And.intro hF.cO.one (TQ X iY)));clear hF HB jj;go_wp2_with (at_builtin;refine Ap _ rfl _ _ 24 rfl 0 46 ie _ 4 56 underlying24 oz Jq kV FP rfl (by decide) _ _ _ rfl fW.o ⟨eg,0,none⟩ iY.length ec (iF X iY) rfl ?c0 ?c1 ?c2 ?c3 ?c4 ?c5 ?_)
      case c0=>exact HC.o.2.2
      case c1=>exact HC.o.1
      case c2=>exact HC.o.2.1
      case c3=>unfold maxLen;omega
      case c4=>omega
      case c5=>exact Ao _
      intro v7 w7 mr AS Mr AG;obtain⟨O7,LY⟩:=zz.o w7 v7 (by rw[A8,Bf];exact mr) AS AG;have zy:=ab LY;obtain⟨ao7,cv7,BP⟩:=cK mr;clear zz HC fW mr AS Mr AG LY;subst BP;try have Vf:=Om.o
      go_wp2_with fail
      try(have xi:=DO.o;clear DO;subst xi)
      go_roundg (t.size+1-(i+1))
      case measure=>omega
      case rel=>exact⟨i+1,s2,c3,Q8,O7,_,rfl,by omega,by go_num,zy,ab (fun h=>HQ.o.1 (by omega)),ab (fun h=>HQ.o.2 (by omega))⟩
  ·have hin':¬(i:Int)<=(t.size:Int):=(by omega);have vA:=Sx.o (by omega);have F3:=ab (an6 kJ.o HI.o.at_ HI.o.fA vA);obtain⟨ao,cv,VJ⟩:=cK HI.o.cO.row;subst VJ;clear Sx tG vA;go_wp2_with fail;refine(F3.o).mono ?_;rintro e w2 ⟨v2,iY,rfl,hC⟩;clear F3;obtain⟨e1,e2,e3,e4⟩:=HI.o.Lp hC;rw[KH.o]at e3
   have cT:aT.length+iY.length=1:=by
    have h1:=congrArg List.length e3;simp only[Aj,Db,Av,A8]at h1;omega
   have HL:=ab cT;rcases hC.cO.cell with⟨rfl,rfl⟩|⟨eg,ec,rfl,PX,jj⟩
   ·have fW:Hid (w2.ownsRow 0 46 4 (.slice ao aT.length cv) aT.length (iF X aT)):=e1.row;have ax:Hid (KT w3 w2 sb p t.size (.slice ao aT.length cv)):=KT.of HA.o PI KO.o e1 (by rw[C8]at e3;exact e3) hC.aj e2;clear hC HI cT e1 e2 e3 e4;obtain⟨bk,cap,hv,d0,d1,d3,hB,hK⟩:=ax.o;simp only[Bq]at hv;obtain⟨rfl,mV,rfl⟩:=hv;rw[mV]at fW⊢;have F5:=ab (aeH hB);have HK:=ab hK;clear ax HL mV hB hK SQ KO KH HA HG kJ;go_wp2_with (at_builtin;refine Dp rfl _ _ 24 rfl 0 46 ie 4 underlying24 oz _ _ _ rfl fW.o rfl ?_);refine(F5.o).mono ?_;rintro e w5 ⟨rfl,k5⟩;have K5:=ab (HK.o.trans k5);clear F5 k5;go_wp2_with fail;go_ret;exact⟨rfl,K5.o⟩
   ·have zz:=(ab fun(w7:World) (v7:Value) a b d=>HI.o.an1 (v3:=v7) (w3:=w7) hC a b d);have fW:Hid (w2.ownsRow 0 46 4 (.slice ao aT.length cv) aT.length (iF X aT)):=e1.row;have HC:=ab (And.intro jj (And.intro hC.cO.one (TQ X iY)));have zv:=ab e3;clear hC HI jj e1 e2 e3 e4;go_wp2_with (at_builtin;refine Ap _ rfl _ _ 24 rfl 0 46 ie _ 4 56 underlying24 oz Jq kV FP rfl (by decide) _ _ _ rfl fW.o ⟨eg,0,none⟩ iY.length ec (iF X iY) rfl ?c0 ?c1 ?c2 ?c3 ?c4 ?c5 ?_)
    case c0=>exact HC.o.2.2
    case c1=>exact HC.o.1
    case c2=>exact HC.o.2.1
    case c3=>unfold maxLen;omega
    case c4=>omega
    case c5=>exact Ao _
    intro v7 w7 mr AS Mr AG;obtain⟨O7,hE7,gP,hB7⟩:=zz.o w7 v7 (by rw[HL.o];exact mr) AS AG;obtain⟨bk,cap,hv,d0,d1,d3,hB,hK⟩:=KT.of HA.o PI KO.o hE7 zv.o hB7 gP;have F5:=ab (aeH hB);have HK:=ab hK;subst hv;clear zz HC fW mr AS Mr AG hE7 gP hB7 zv HL hB hK SQ KO KH HA HG kJ cT PX;go_wp2_with fail;refine(F5.o).mono ?_;rintro e w5 ⟨rfl,k5⟩;have K5:=ab (HK.o.trans k5);clear F5 k5;go_wp2_with fail;go_ret;exact⟨rfl,K5.o⟩
