/- The builder's repetition -/
import Derived.Test.YtpdnofhackjfdaaGreatDoorP14
set_option linter.all false
set_option maxRecDepth 100000
set_option maxHeartbeats 4000000
namespace Go.Proofs.YtpdnofhackjfdaaGreatDoor
open Go.Proofs.Tryz
open Go.RowKit Go.Maps
variable {cs:List CT} {st:List MS} {b c hi k lo n pb:Nat} {N:Nv} {v:Value} {w w0:World}
def Ig(B0 B1 pb:Nat)(q N:Nv)(n1 n2:Int)(w':World):Prop:=tF w' B0 pb q N/\w'.cell? ⟨B1,0,none⟩=some (.int .i64 n1)/\w'.cell? ⟨B1,1,none⟩=some (.int .i64 n2)
theorem ag8{k:Nat}(h:lo<=hi):(hi-lo)*(4*c+2)+lo*(4*c)<=4*(hi*(c+1)):=by
 obtain⟨d,rfl⟩:∃d,hi=lo+d:=⟨hi-lo,by omega⟩
 rw[Ey,Cq,Et lo,Et d c,Et d (4*c)];have:lo*(4*c)=4*(lo*c):=by rw[Dx]
 have:d*(4*c)=4*(d*c):=by rw[Dx]
 omega
theorem ahq:(4*c+3)+lo*(4*c)<=4*((lo+1)*(c+1)):=by
 rw[Cq,Et lo];have:lo*(4*c)=4*(lo*c):=by rw[Dx]
 omega
theorem am9{q:Nv}{C:CT}(h:dm w b lo hi v st)(x:Ex)(hx:cZ st.length x)(hS:eY lo hi w0 w)(df:C.ok)(aS:(if q.hi= -1 then q.lo+1 else q.hi)*(C.sz+1)<=1000)(hP:C.sz<=1000->wH b lo hi w0 N C)
 (mM:q.pa=some ⟨pb,0,none⟩)(iM:q.pn=1)(dS:lo<=pb/\pb<hi)(hK:oM w0 pb 0 N)(hr:0<=q.lo/\q.lo<=20/\ -1<=q.hi/\q.hi<=20/\(q.hi= -1\/q.lo<=q.hi))(dh:st.length+4*((if q.hi= -1 then q.lo+1 else q.hi)*(C.sz+1)).toNat<=9000):
 Calls prog 68 #[.pointer (some ⟨b,0,none⟩),Nv.val q,cG x] w (lY w b lo hi v (nd (bm C) q.lo q.hi q.lz st x).1 (cG (nd (bm C) q.lo q.hi q.lz st x).2)):=by
 have aw:=h.ak.lt;have dN:=h.dN;have IQ:=CT.zb C df;obtain⟨x1,x2⟩:=x;have oo:pb<w.heap.size:=by omega
 have h1:=h.alloc (.cells q.cells 64);have h2:=h1.alloc (.cells (aI (x1,x2)) 115);have h3:=h2.alloc (.cells (aI (0,0)) 115);have l0:=((bc.new h q.cells 64).alloc (.cells (aI (x1,x2)) 115)).alloc (.cells (aI (0,0)) 115);have l1:=(bc.new h1 (aI (x1,x2)) 115).alloc (.cells (aI (0,0)) 115);have l2:=bc.new h2 (aI (0,0)) 115;have W3:=(((dW.refl b w v).alloc (.cells q.cells 64)).alloc (.cells (aI (x1,x2)) 115)).alloc (.cells (aI (0,0)) 115);have S3:=((hS.alloc (by omega) (.cells q.cells 64)).alloc (by simp;omega) (.cells (aI (x1,x2)) 115)).alloc (by simp;omega) (.cells (aI (0,0)) 115);simp only[ib]at l1 l2;simp only[aI]at l1 l2;have wB:=ab mM;have wC:=ab iM;have KK:=ab hK;obtain⟨m,hm⟩:∃m:Nat,q.lo=m:=⟨q.lo.toNat,by omega⟩
 have Oc:=ab hm;obtain⟨c,hc⟩:∃c:Nat,C.sz=c:=⟨C.sz.toNat,by omega⟩
 have yv:C.sz.toNat=c:=by omega
 have iF:q.lo.toNat=m:=by omega
 unfold nd;rw[iF];by_cases hh:q.hi= -1
 ·have hb:(q.hi== -1)=true:=by simp[hh]
  simp only[if_pos hh]at aS dh⊢;have L_:(q.lo+1)*(C.sz+1)=(((m+1)*(c+1):Nat):Int):=by rw[hm,hc];simp
  rw[L_]at aS dh;have xc:c+1<=(m+1)*(c+1):=Nat.le_mul_of_pos_left _ (by omega);have ud:C.sz<=1000:=by omega
  have bT:=ahq (lo:=m) (c:=c);have HB:Hid (0<m->BS (bm C) (4*C.sz.toNat)):=fun _=>nV C df ud
  have HP:Hid (0<m->wH b lo hi w0 N C):=fun _=>hP ud
  have F0:=akv h3 (x1,x2) (by exact hx) S3 df ud (hP ud) mM iM dS hK (by rw[yv];omega);have lp:=(nV C df ud).loop q.lz;have xa:=lp.fG st (x1,x2) hx;have na:=lp.bT st (x1,x2);generalize hA:nb (bm C) q.lz st (x1,x2)=A at*;obtain⟨sa,ya,yb⟩:=A;simp only at xa na F0⊢;have IR:sa.length+(m-0)*(4*C.sz.toNat)<=9000:=by rw[yv]at na⊢;rw[Nat.sub_zero];omega
  clear hA lp aS dh L_ xc bT na hm hc iF hh;simp only[cG,Nv.val,Nv.cells,aI]at F0;have JS:=ab F0;have dr:=ab (And.intro (And.intro l0 (And.intro l1 l2)) (And.intro W3 (And.intro h3 S3)));clear h h1 h2 h3 l0 l1 l2 W3 S3 hS hP mM iM F0 hK;simp only[Nv.val,cG,Nv.cells];go_in;go_wp2_with fail;refine(JS.out).mono ?_;rintro e w5 ⟨rfl,v5,h5,k5⟩;obtain⟨⟨l0,l1,l2⟩,W3,h3,S3⟩:=dr.out;have m1:=l1.aY k5;have m0:=l0.aY k5;obtain⟨z0,z1,z2,z3,z4,z5,z6,z7⟩:=m0.gZ;obtain⟨d0,d1,g0,g1⟩:=m1.cE;have N0:=(m0.a_ (d:=w.heap.size+1) (by omega) 0 (.int .i64 ya)).a_ (d:=w.heap.size+1) (by omega) 1 (.int .i64 yb);have N2:=((l2.aY k5).a_ (d:=w.heap.size+1) (by omega) 0 (.int .i64 ya)).a_ (d:=w.heap.size+1) (by omega) 1 (.int .i64 yb);have N1:=(m1.setCell 0 (.int .i64 ya)).setCell 1 (.int .i64 yb);have h7:=(h5.set m1.not (by omega) 0 (.int .i64 ya)).set m1.not (by omega) 1 (.int .i64 yb);have W7:=((W3.trans k5).set (c:=w.heap.size+1) (by omega) 0 (.int .i64 ya)).set (c:=w.heap.size+1) (by omega) 1 (.int .i64 yb);have S7:=((S3.aY h3 k5).set (c:=w.heap.size+1) (by omega) 0 (.int .i64 ya)).set (c:=w.heap.size+1) (by omega) 1 (.int .i64 yb);have jY:=ab (And.intro (And.intro h7 (And.intro W7 S7)) (And.intro N0 (And.intro N1 N2)));clear l0 l1 l2 W3 h3 S3 m1 m0 N0 N1 N2 h7 W7 S7 h5 k5 dr JS z0 z1 z2 z3 z4 z6 z7;go_wp2_with fail
  go_loopg [20] m (fun kk i wr=>∃(j:Nat) (v1:Value) (aA:List MS) (n1 n2:Int),i=.int .i64 j/\j<=m/\kk=m-j/\Hid (nc (bm C) (m-j) aA (n1,n2)=nc (bm C) m sa (ya,yb))/\aA.length+(m-j)*(4*C.sz.toNat)<=9000/\cZ aA.length (n1,n2)/\
   dm wr b lo hi v1 aA/\dW b w wr v v1/\eY lo hi w0 wr/\bc wr b v1 w.heap.size q.cells 64/\bc wr b v1 (w.heap.size+1) #[.int .i64 n1,.int .i64 n2] 115/\bc wr b v1 (w.heap.size+1+1) #[.int .i64 0,.int .i64 0] 115)
  case atStart=>
   obtain⟨⟨h7,W7,S7⟩,N0,N1,N2⟩:=jY.out;exact⟨0,v5,sa,ya,yb,rfl,Am _,rfl,rfl,IR,xa,h7,W7,S7,N0,N1,N2⟩
  case round=>
   clear jY;obtain⟨j,v1,aA,n1,n2,rfl,hj,rfl,HE,bM,s_,hB,hW,dQ,L0,L1,L2⟩:=hrel;have ub:=Oc.out;by_cases jH:j<m
   ·have rC:(j:Int)<q.lo:=(by omega);have iR:=hB.new ((aa.refl af wr).drew);have ny:=hW.new ((aa.refl af wr).drew);have gK:eY lo hi w0 wr.drew:=dQ;have M0:bc wr.drew b v1 w.heap.size q.cells 64:=⟨L0.ak,L0.not⟩;have M1:bc wr.drew b v1 (w.heap.size+1) #[.int .i64 n1,.int .i64 n2] 115:=⟨L1.ak,L1.not⟩;have M2:bc wr.drew b v1 (w.heap.size+1+1) #[.int .i64 0,.int .i64 0] 115:=⟨L2.ak,L2.not⟩;have LB:Ig w.heap.size (w.heap.size+1) pb q N n1 n2 wr.drew:=⟨tF.of M0 wB.out wC.out (KK.out.lU gK dS.1 dS.2),M1.cE.1,M1.cE.2.1⟩;have PS:=ab LB;have iC:=HB.out (by omega);have b1:=iC.fG aA (n1,n2) s_;have b2:=iC.bT aA (n1,n2)
    have hmul:(m-j)*(4*C.sz.toNat)=(m-(j+1))*(4*C.sz.toNat)+(4*C.sz.toNat):=by
     obtain⟨d,hd⟩:∃d,m-j=d+1:=⟨m-j-1,by omega⟩
     rw[hd,show m-(j+1)=d by omega,Fc]
    have F1:=HP.out (by omega) wr.drew v1 aA (n1,n2) iR s_ gK (by omega);simp only[Nv.val,Nv.cells,cG]at F1;have mC:=ab F1;have PK:=ab (And.intro (And.intro iR (And.intro ny gK)) (And.intro M0 (And.intro M1 M2)));clear hB hW dQ L0 L1 L2 iR ny gK M0 M1 M2 LB F1 iC ub;go_wp2_with fail;refine gW (S:=Ig w.heap.size (w.heap.size+1) pb q N n1 n2) 7 (by kernel_rfl) rfl rfl rfl (by kernel_rfl) (by kernel_rfl) ?_;have aj:=PS.out;refine ai 0 22 (.pointer (some ⟨b,0,none⟩)) aj ?_;refine ai 1 23 (.pointer (some ⟨w.heap.size,1,none⟩)) aj ?_;refine ai 2 24 (.slice (some ⟨pb,0,none⟩) 1 q.pc) aj ?_;refine ai 3 25 (.pointer (some ⟨pb,0,none⟩)) aj ?_;refine ai 4 26 (.agg #[.int .i64 N.k,.slice N.pa N.pn N.pc,.slice N.sa N.sn N.sc,.int .i64 N.ed,.int .i64 N.gr,.int .i64 N.lo,.int .i64 N.hi,.bool N.lz]) aj ?_;refine ai 5 27 (.agg #[.int .i64 n1,.int .i64 n2]) aj ?_;simp only[Act.put,Aa,Ad,Ac];refine bN 6 fun K hK=>?_
    go_simp;refine(mC.out).mono ?_;rintro e w6 ⟨rfl,v6,h6,k6⟩;dsimp only;obtain⟨⟨hB,hW,dQ⟩,M0,M1,M2⟩:=PK.out;have rB:Ig w.heap.size (w.heap.size+1) pb q N n1 n2 w6:=⟨tF.of (M0.aY k6) wB.out wC.out (KK.out.lU (dQ.aY hB k6) dS.1 dS.2),(M1.aY k6).cE.1,(M1.aY k6).cE.2.1⟩;refine hK.out _ _ rB (fun _=>?_);clear hK K;obtain⟨d0,d1,g0,g1⟩:=(M1.aY k6).cE;generalize hE:bm C aA (n1,n2)=E at*;obtain⟨uC,y1,y2⟩:=E;simp only at b1 b2 h6;have N0:=((M0.aY k6).a_ (d:=w.heap.size+1) (by omega) 0 (.int .i64 y1)).a_ (d:=w.heap.size+1) (by omega) 1 (.int .i64 y2);have N2:=((M2.aY k6).a_ (d:=w.heap.size+1) (by omega) 0 (.int .i64 y1)).a_ (d:=w.heap.size+1) (by omega) 1 (.int .i64 y2);have N1:=((M1.aY k6).setCell 0 (.int .i64 y1)).setCell 1 (.int .i64 y2);have h7:=(h6.set (M1.aY k6).not (by omega) 0 (.int .i64 y1)).set (M1.aY k6).not (by omega) 1 (.int .i64 y2);have W7:=((hW.trans k6).set (c:=w.heap.size+1) (by omega) 0 (.int .i64 y1)).set (c:=w.heap.size+1) (by omega) 1 (.int .i64 y2);have S7:=((dQ.aY hB k6).set (c:=w.heap.size+1) (by omega) 0 (.int .i64 y1)).set (c:=w.heap.size+1) (by omega) 1 (.int .i64 y2)
    have ja:Hid (nc (bm C) (m-(j+1)) uC (y1,y2)=nc (bm C) m sa (ya,yb)):=by
     rw[<-HE.out,show m-j=(m-(j+1))+1 by omega];show _=nc (bm C) (m-(j+1)) (bm C aA (n1,n2)).1 (bm C aA (n1,n2)).2
     rw[hE]
    have jY:=ab (And.intro (And.intro h7 (And.intro W7 S7)) (And.intro N0 (And.intro N1 N2)));clear hB hW dQ M0 M1 M2 h6 k6 rB PK N0 N1 N2 h7 W7 S7 hE HE mC PS aj;refine At (by kernel_rfl) ?_ _;unfold eJ;go_wp2_with fail;go_roundg (m-(j+1))
    case measure=>omega
    case rel=>
     obtain⟨⟨h7,W7,S7⟩,N0,N1,N2⟩:=jY.out;exact⟨j+1,v6,uC,y1,y2,by go_num,by omega,rfl,ja,by omega,b1,h7,W7,S7,N0,N1,N2⟩
   ·have ej:j=m:=(by omega);subst ej;have rC:¬((j:Int)<q.lo):=by omega
    have ja:Hid ((aA,(n1,n2))=nc (bm C) j sa (ya,yb)):=by
     have:=HE.out;rw[Fx]at this;exact this
    obtain⟨c0,c1,_,_⟩:=L1.cE;obtain⟨d0,d1,g0,g1⟩:=L2.cE;have ax:=ab (And.intro hB (And.intro hW L2));clear hB hW dQ L0 L1 L2 ub HE;go_wp2_with fail;rw[<-ja.out];exact mI ax.out.1 ax.out.2.1 ax.out.2.2 (by omega) (by omega) results68 rfl rfl
 ·have hb:(q.hi== -1)=false:=by simp[hh]
  simp only[if_neg hh]at aS dh⊢;obtain⟨k,hk⟩:∃k:Nat,q.hi=k:=⟨q.hi.toNat,by omega⟩
  have L_:q.hi*(C.sz+1)=((k*(c+1):Nat):Int):=by rw[hk,hc];simp
  rw[L_]at aS dh;have qA:m<=k:=by omega
  have ud:0<k->C.sz<=1000:=fun h0=>by
   have xc:c+1<=k*(c+1):=Nat.le_mul_of_pos_left _ h0;omega
  have bT:=ag8 (k:=k) (c:=c) qA;have hd:(q.hi-q.lo).toNat=k-m:=by omega
  have HB:Hid (0<m->BS (bm C) (4*C.sz.toNat)):=fun h0=>nV C df (ud (by omega))
  have HP:Hid (0<m->wH b lo hi w0 N C):=fun h0=>hP (ud (by omega))
  have F0:=alB h3 (x1,x2) (by exact hx) S3 df (fun h0=>ud (by omega)) (fun h0=>hP (ud (by omega))) mM iM dS hK ⟨by omega,by omega,by omega⟩ (by rw[yv,hd];omega)
  have xa:cZ (fJ (bm C) q.lz (x1,x2) (q.hi-q.lo).toNat st (x1,x2)).1.length (fJ (bm C) q.lz (x1,x2) (q.hi-q.lo).toNat st (x1,x2)).2/\(fJ (bm C) q.lz (x1,x2) (q.hi-q.lo).toNat st (x1,x2)).1.length<=st.length+(k-m)*(4*c+2):=by
   by_cases h0:k-m=0
   ·rw[hd,h0];exact⟨hx,by simp[fJ]⟩
   ·have op:=(nV C df (ud (by omega))).nK q.lz (q.hi-q.lo).toNat;rw[yv,hd]at op;rw[hd];exact⟨op.fG _ _ _ hx hx,op.bT _ _ _⟩
  generalize hA:fJ (bm C) q.lz (x1,x2) (q.hi-q.lo).toNat st (x1,x2)=A at*
  obtain⟨sa,ya,yb⟩:=A;obtain⟨xa,na⟩:=xa;simp only at xa na F0⊢;have IR:sa.length+(m-0)*(4*C.sz.toNat)<=9000:=by rw[yv,Nat.sub_zero];omega
  clear hA aS dh L_ bT na hm hc iF hh ud hk hd qA;simp only[cG,Nv.val,Nv.cells,aI]at F0;have JS:=ab F0;have dr:=ab (And.intro (And.intro l0 (And.intro l1 l2)) (And.intro W3 (And.intro h3 S3)));clear h h1 h2 h3 l0 l1 l2 W3 S3 hS hP mM iM F0 hK;simp only[Nv.val,cG,Nv.cells];go_in;go_wp2_with fail;refine(JS.out).mono ?_;rintro e w5 ⟨rfl,v5,h5,k5⟩;obtain⟨⟨l0,l1,l2⟩,W3,h3,S3⟩:=dr.out;have m1:=l1.aY k5;have m0:=l0.aY k5;obtain⟨z0,z1,z2,z3,z4,z5,z6,z7⟩:=m0.gZ;obtain⟨d0,d1,g0,g1⟩:=m1.cE;have N0:=(m0.a_ (d:=w.heap.size+1) (by omega) 0 (.int .i64 ya)).a_ (d:=w.heap.size+1) (by omega) 1 (.int .i64 yb);have N2:=((l2.aY k5).a_ (d:=w.heap.size+1) (by omega) 0 (.int .i64 ya)).a_ (d:=w.heap.size+1) (by omega) 1 (.int .i64 yb);have N1:=(m1.setCell 0 (.int .i64 ya)).setCell 1 (.int .i64 yb);have h7:=(h5.set m1.not (by omega) 0 (.int .i64 ya)).set m1.not (by omega) 1 (.int .i64 yb);have W7:=((W3.trans k5).set (c:=w.heap.size+1) (by omega) 0 (.int .i64 ya)).set (c:=w.heap.size+1) (by omega) 1 (.int .i64 yb);have S7:=((S3.aY h3 k5).set (c:=w.heap.size+1) (by omega) 0 (.int .i64 ya)).set (c:=w.heap.size+1) (by omega) 1 (.int .i64 yb);have jY:=ab (And.intro (And.intro h7 (And.intro W7 S7)) (And.intro N0 (And.intro N1 N2)));clear l0 l1 l2 W3 h3 S3 m1 m0 N0 N1 N2 h7 W7 S7 h5 k5 dr JS z0 z1 z2 z3 z4 z6 z7;go_wp2_with fail
  go_loopg [20] m (fun kk i wr=>∃(j:Nat) (v1:Value) (aA:List MS) (n1 n2:Int),i=.int .i64 j/\j<=m/\kk=m-j/\Hid (nc (bm C) (m-j) aA (n1,n2)=nc (bm C) m sa (ya,yb))/\aA.length+(m-j)*(4*C.sz.toNat)<=9000/\cZ aA.length (n1,n2)/\
   dm wr b lo hi v1 aA/\dW b w wr v v1/\eY lo hi w0 wr/\bc wr b v1 w.heap.size q.cells 64/\bc wr b v1 (w.heap.size+1) #[.int .i64 n1,.int .i64 n2] 115/\bc wr b v1 (w.heap.size+1+1) #[.int .i64 0,.int .i64 0] 115)
  case atStart=>
   obtain⟨⟨h7,W7,S7⟩,N0,N1,N2⟩:=jY.out;exact⟨0,v5,sa,ya,yb,rfl,Am _,rfl,rfl,IR,xa,h7,W7,S7,N0,N1,N2⟩
  case round=>
   clear jY;obtain⟨j,v1,aA,n1,n2,rfl,hj,rfl,HE,bM,s_,hB,hW,dQ,L0,L1,L2⟩:=hrel;have ub:=Oc.out;by_cases jH:j<m
   ·have rC:(j:Int)<q.lo:=(by omega);have iR:=hB.new ((aa.refl af wr).drew);have ny:=hW.new ((aa.refl af wr).drew);have gK:eY lo hi w0 wr.drew:=dQ;have M0:bc wr.drew b v1 w.heap.size q.cells 64:=⟨L0.ak,L0.not⟩;have M1:bc wr.drew b v1 (w.heap.size+1) #[.int .i64 n1,.int .i64 n2] 115:=⟨L1.ak,L1.not⟩;have M2:bc wr.drew b v1 (w.heap.size+1+1) #[.int .i64 0,.int .i64 0] 115:=⟨L2.ak,L2.not⟩;have LB:Ig w.heap.size (w.heap.size+1) pb q N n1 n2 wr.drew:=⟨tF.of M0 wB.out wC.out (KK.out.lU gK dS.1 dS.2),M1.cE.1,M1.cE.2.1⟩;have PS:=ab LB;have iC:=HB.out (by omega);have b1:=iC.fG aA (n1,n2) s_;have b2:=iC.bT aA (n1,n2)
    have hmul:(m-j)*(4*C.sz.toNat)=(m-(j+1))*(4*C.sz.toNat)+(4*C.sz.toNat):=by
     obtain⟨d,hd⟩:∃d,m-j=d+1:=⟨m-j-1,by omega⟩
     rw[hd,show m-(j+1)=d by omega,Fc]
    have F1:=HP.out (by omega) wr.drew v1 aA (n1,n2) iR s_ gK (by omega);simp only[Nv.val,Nv.cells,cG]at F1;have mC:=ab F1;have PK:=ab (And.intro (And.intro iR (And.intro ny gK)) (And.intro M0 (And.intro M1 M2)));clear hB hW dQ L0 L1 L2 iR ny gK M0 M1 M2 LB F1 iC ub;go_wp2_with fail;refine gW (S:=Ig w.heap.size (w.heap.size+1) pb q N n1 n2) 7 (by kernel_rfl) rfl rfl rfl (by kernel_rfl) (by kernel_rfl) ?_;have aj:=PS.out;refine ai 0 22 (.pointer (some ⟨b,0,none⟩)) aj ?_;refine ai 1 23 (.pointer (some ⟨w.heap.size,1,none⟩)) aj ?_;refine ai 2 24 (.slice (some ⟨pb,0,none⟩) 1 q.pc) aj ?_;refine ai 3 25 (.pointer (some ⟨pb,0,none⟩)) aj ?_;refine ai 4 26 (.agg #[.int .i64 N.k,.slice N.pa N.pn N.pc,.slice N.sa N.sn N.sc,.int .i64 N.ed,.int .i64 N.gr,.int .i64 N.lo,.int .i64 N.hi,.bool N.lz]) aj ?_;refine ai 5 27 (.agg #[.int .i64 n1,.int .i64 n2]) aj ?_;simp only[Act.put,Aa,Ad,Ac];refine bN 6 fun K hK=>?_
    go_simp;refine(mC.out).mono ?_;rintro e w6 ⟨rfl,v6,h6,k6⟩;dsimp only;obtain⟨⟨hB,hW,dQ⟩,M0,M1,M2⟩:=PK.out;have rB:Ig w.heap.size (w.heap.size+1) pb q N n1 n2 w6:=⟨tF.of (M0.aY k6) wB.out wC.out (KK.out.lU (dQ.aY hB k6) dS.1 dS.2),(M1.aY k6).cE.1,(M1.aY k6).cE.2.1⟩;refine hK.out _ _ rB (fun _=>?_);clear hK K;obtain⟨d0,d1,g0,g1⟩:=(M1.aY k6).cE;generalize hE:bm C aA (n1,n2)=E at*;obtain⟨uC,y1,y2⟩:=E;simp only at b1 b2 h6;have N0:=((M0.aY k6).a_ (d:=w.heap.size+1) (by omega) 0 (.int .i64 y1)).a_ (d:=w.heap.size+1) (by omega) 1 (.int .i64 y2);have N2:=((M2.aY k6).a_ (d:=w.heap.size+1) (by omega) 0 (.int .i64 y1)).a_ (d:=w.heap.size+1) (by omega) 1 (.int .i64 y2);have N1:=((M1.aY k6).setCell 0 (.int .i64 y1)).setCell 1 (.int .i64 y2);have h7:=(h6.set (M1.aY k6).not (by omega) 0 (.int .i64 y1)).set (M1.aY k6).not (by omega) 1 (.int .i64 y2);have W7:=((hW.trans k6).set (c:=w.heap.size+1) (by omega) 0 (.int .i64 y1)).set (c:=w.heap.size+1) (by omega) 1 (.int .i64 y2);have S7:=((dQ.aY hB k6).set (c:=w.heap.size+1) (by omega) 0 (.int .i64 y1)).set (c:=w.heap.size+1) (by omega) 1 (.int .i64 y2)
    have ja:Hid (nc (bm C) (m-(j+1)) uC (y1,y2)=nc (bm C) m sa (ya,yb)):=by
     rw[<-HE.out,show m-j=(m-(j+1))+1 by omega];show _=nc (bm C) (m-(j+1)) (bm C aA (n1,n2)).1 (bm C aA (n1,n2)).2
     rw[hE]
    have jY:=ab (And.intro (And.intro h7 (And.intro W7 S7)) (And.intro N0 (And.intro N1 N2)));clear hB hW dQ M0 M1 M2 h6 k6 rB PK N0 N1 N2 h7 W7 S7 hE HE mC PS aj;refine At (by kernel_rfl) ?_ _;unfold eJ;go_wp2_with fail;go_roundg (m-(j+1))
    case measure=>omega
    case rel=>
     obtain⟨⟨h7,W7,S7⟩,N0,N1,N2⟩:=jY.out;exact⟨j+1,v6,uC,y1,y2,by go_num,by omega,rfl,ja,by omega,b1,h7,W7,S7,N0,N1,N2⟩
   ·have ej:j=m:=(by omega);subst ej;have rC:¬((j:Int)<q.lo):=by omega
    have ja:Hid ((aA,(n1,n2))=nc (bm C) j sa (ya,yb)):=by
     have:=HE.out;rw[Fx]at this;exact this
    obtain⟨c0,c1,_,_⟩:=L1.cE;obtain⟨d0,d1,g0,g1⟩:=L2.cE;have ax:=ab (And.intro hB (And.intro hW L2));clear hB hW dQ L0 L1 L2 ub HE;go_wp2_with fail;rw[<-ja.out];exact mI ax.out.1 ax.out.2.1 ax.out.2.2 (by omega) (by omega) results68 rfl rfl
theorem Xr(cs:List CT)(i:Nat)(h:i<cs.length):CT.cB (cs.take (i+1))=CT.cB (cs.take i)+(cs[i]).sz:=by
 induction cs generalizing i with
 |nil=>simp at h
 |cons t ts ih=>
  cases i with
  |zero=>simp[CT.cB]
  |succ i=>
   have:=ih i (by simpa using h);simp only[D2,CT.cB,Ag];omega
theorem ade:∀{cs:List CT},CT.d_ cs->∀i,CT.d_ (cs.take i)
 | [],_,i=>by simp[CT.d_]
 |c::cs,h,0=>by simp[CT.d_]
 |c::cs,h,i+1=>by
  unfold CT.d_ at h;simp only[D2];unfold CT.d_;exact⟨h.1,ade h.2 i⟩
theorem GN:∀{cs:List CT},CT.d_ cs->∀i,(h:i<cs.length)->(cs[i]).ok
 | [],_,i,h=>by simp at h
 |c::cs,h,0,_=>by unfold CT.d_ at h;exact h.1
 |c::cs,h,i+1,hi=>by unfold CT.d_ at h;exact GN h.2 i (by simpa using hi)
theorem xF(h:CT.d_ cs)(i:Nat)(hi:i<cs.length):0<=CT.cB (cs.take i)/\0<=(cs[i]).sz/\CT.cB (cs.take i)+(cs[i]).sz<=CT.cB cs:=by
 have h1:=CT.v_ _ (ade h i);have h2:=CT.zb _ (GN h i hi);refine⟨h1,h2,?_⟩;rw[<-Xr cs i hi]
 have:∀{cs:List CT},CT.d_ cs->∀j,CT.cB (cs.take j)<=CT.cB cs:=by
  intro cs;induction cs with
  |nil=>intro _ j;simp[CT.cB]
  |cons c cs ih=>
   intro h j;unfold CT.d_ at h
   cases j with
   |zero=>simp only[List.take_zero];exact CT.v_ (c::cs) (by unfold CT.d_;exact h)
   |succ j=>simp only[D2,CT.cB];have:=ih h.2 j;omega
 exact this h (i+1)
theorem afU(h:cs.length=n+1):jf (cs.drop n)=bm (cs[n]'(by omega)):=by
 rw[Bu (by omega),Fa (by omega)];unfold jf;rfl
theorem afV(h:k+1<cs.length)(st:List MS)(nx:Ex):jf (cs.drop k) st nx=gE (bm (cs[k]'(by omega)) (jf (cs.drop (k+1)) st nx).1 nx).1 (bm (cs[k]'(by omega)) (jf (cs.drop (k+1)) st nx).1 nx).2 (jf (cs.drop (k+1)) st nx).2:=by
 rw[Bu (i:=k) (by omega),Bu (i:=k+1) h];rw[jf]
def p_(B0 pb i:Nat)(N:Nv)(x1 x2:Int)(w':World):Prop:=
 ((w'.cell? ⟨pb,i*8,none⟩=some (.int .i64 N.k)/\w'.cell? ⟨pb,i*8+1,none⟩=some (.slice N.pa N.pn N.pc)/\w'.cell? ⟨pb,i*8+2,none⟩=some (.slice N.sa N.sn N.sc)/\w'.cell? ⟨pb,i*8+3,none⟩=some (.int .i64 N.ed))/\
   w'.cell? ⟨pb,i*8+4,none⟩=some (.int .i64 N.gr)/\w'.cell? ⟨pb,i*8+5,none⟩=some (.int .i64 N.lo)/\w'.cell? ⟨pb,i*8+6,none⟩=some (.int .i64 N.hi)/\w'.cell? ⟨pb,i*8+7,none⟩=some (.bool N.lz))/\
 w'.cell? ⟨B0,0,none⟩=some (.int .i64 x1)/\w'.cell? ⟨B0,1,none⟩=some (.int .i64 x2)
theorem p_.of{W:World}{B0 i:Nat}{x1 x2:Int}{t:TypeId}(h:bc W b v B0 #[.int .i64 x1,.int .i64 x2] t)(hK:oM W pb i N):p_ B0 pb i N x1 x2 W:=⟨hK.gZ,h.cE.1,h.cE.2.1⟩
def NJ(B0 A pb i:Nat)(N:Nv)(x1 x2 a1 a2:Int)(w':World):Prop:=p_ B0 pb i N x1 x2 w'/\w'.cell? ⟨A,0,none⟩=some (.int .i64 a1)/\w'.cell? ⟨A,1,none⟩=some (.int .i64 a2)
theorem agM{pc:Nat}{V:Nat->Nv}(h:dm w b lo hi v st)(x:Ex)(hx:cZ st.length x)(hS:eY lo hi w0 w)(cT:cs.length=n+1)(hn:n<=400)(df:CT.d_ cs)(aS:CT.cB cs<=1000)(hP:∀i,(hi':i<cs.length)->wH b lo hi w0 (V i) cs[i])
 (dS:lo<=pb/\pb<hi)(hK:∀i,i<n+1->oM w0 pb i (V i))(dh:st.length+4*(CT.cB cs).toNat+2*n<=9000):
 Calls prog 67 #[.pointer (some ⟨b,0,none⟩),.slice (some ⟨pb,0,none⟩) (n+1) pc,cG x] w (lY w b lo hi v (jf cs st x).1 (cG (jf cs st x).2)):=by
 have aw:=h.ak.lt;have dN:=h.dN;obtain⟨x1,x2⟩:=x;have oo:pb<w.heap.size:=by omega
 have h1:=h.alloc (.cells (aI (x1,x2)) 115);have h2:=h1.alloc (.cells (aI (0,0)) 115);have l0:=(bc.new h (aI (x1,x2)) 115).alloc (.cells (aI (0,0)) 115);have l1:=bc.new h1 (aI (0,0)) 115;have W2:=((dW.refl b w v).alloc (.cells (aI (x1,x2)) 115)).alloc (.cells (aI (0,0)) 115);have S2:=(hS.alloc (by omega) (.cells (aI (x1,x2)) 115)).alloc (by simp;omega) (.cells (aI (0,0)) 115);simp only[ib]at l1;simp only[aI]at l0 l1 h2 W2 S2;have HK:=ab hK;have HP:=ab hP;have NZ:Hid (∀i,(hi':i<cs.length)->BS (bm cs[i]) (4*(cs[i]).sz.toNat)):=fun i hi'=>nV _ (GN df i hi') (by have:=xF df i hi';omega)
 have qX:Hid (∀i,(hi':i<cs.length)->0<=CT.cB (cs.take i)/\0<=(cs[i]).sz/\CT.cB (cs.take i)+(cs[i]).sz<=CT.cB cs/\CT.cB (cs.take (i+1))=CT.cB (cs.take i)+(cs[i]).sz):=fun i hi'=>⟨(xF df i hi').1,(xF df i hi').2.1,(xF df i hi').2.2,Xr cs i hi'⟩
 have qV:=ab cT;have iR:=h2.new ((aa.refl af _).drew);have ny:=W2.new ((aa.refl af _).drew);have M0:bc ((w.alloc (.cells #[.int .i64 x1,.int .i64 x2] 115)).alloc (.cells #[.int .i64 0,.int .i64 0] 115)).drew b v w.heap.size #[.int .i64 x1,.int .i64 x2] 115:=⟨l0.ak,l0.not⟩;have M1:bc ((w.alloc (.cells #[.int .i64 x1,.int .i64 x2] 115)).alloc (.cells #[.int .i64 0,.int .i64 0] 115)).drew b v (w.heap.size+1) #[.int .i64 0,.int .i64 0] 115:=⟨l1.ak,l1.not⟩;have gK:eY lo hi w0 ((w.alloc (.cells #[.int .i64 x1,.int .i64 x2] 115)).alloc (.cells #[.int .i64 0,.int .i64 0] 115)).drew:=S2;have PS:=ab (p_.of M0 ((hK n (by omega)).lU gK dS.1 dS.2));have hz:=qX.out n (by omega);have gz:=NZ.out n (by omega);have b1:=gz.fG st (x1,x2) hx;have b2:=gz.bT st (x1,x2);have b3:=gz.grow st (x1,x2);have EL:jf (cs.drop n) st (x1,x2)=bm (cs[n]'(by omega)) st (x1,x2):=by rw[afU cT]
 have PK:=ab (And.intro (And.intro iR (And.intro ny gK)) (And.intro M0 M1));generalize hD:bm (cs[n]'(by omega)) st (x1,x2)=D at*;obtain⟨sd,qZ,q_⟩:=D;simp only at b1 b2 b3;have HD:=ab hD;have HEL:=ab EL;have PD:sd.length+4*(CT.cB (cs.take n)).toNat+2*n<=9000:=by omega
 have hsd:st.length<=sd.length:=b3.1;have PG:st.length+4*((cs[n]'(by omega)).sz).toNat<=9000:=by omega
 clear h h1 h2 l0 l1 W2 S2 hS hK hP gz hD EL iR ny gK M0 M1 b3 hz b2;simp only[cG];go_in;go_wp2_with fail;go_cut [8] (fun s8 wx=>∃(A:Nat) (v1:Value),s8=.pointer (some ⟨A,0,none⟩)/\w.heap.size+2<=A/\dm wx b lo hi v1 sd/\dW b w wx v v1/\eY lo hi w0 wx/\bc wx b v1 w.heap.size #[.int .i64 x1,.int .i64 x2] 115/\bc wx b v1 (w.heap.size+1) #[.int .i64 0,.int .i64 0] 115/\bc wx b v1 A #[.int .i64 qZ,.int .i64 q_] 115)
 case first=>
  have hni:¬((n:Int)+1<=(n:Int)):=by omega
  have lN:n<cs.length:=by have:=qV.out;omega
  refine gW (S:=p_ w.heap.size pb n (V n) x1 x2) 8 (by kernel_rfl) rfl rfl rfl (by kernel_rfl) (by kernel_rfl) ?_;have aj:=PS.out;refine ai 0 13 (.pointer (some ⟨b,0,none⟩)) aj ?_;refine ai 1 14 (.slice (some ⟨pb,0,none⟩) (n+1) pc) aj ?_;refine ai 2 15 (.int .i64 n) aj ?_;refine ai 3 16 (.pointer (some ⟨pb,n*8,none⟩)) aj ?_;refine ai 4 17 (.agg #[.int .i64 (V n).k,.slice (V n).pa (V n).pn (V n).pc,.slice (V n).sa (V n).sn (V n).sc,.int .i64 (V n).ed,.int .i64 (V n).gr,.int .i64 (V n).lo,.int .i64 (V n).hi,.bool (V n).lz]) aj ?_;refine ai 5 18 (.agg #[.int .i64 x1,.int .i64 x2]) aj ?_;simp only[Act.put,Aa,Ad,Ac];clear PS hni;refine Fw (rs:=[6,7]) (by kernel_rfl) (by simp) (Dg rfl (fun K hK=>?_) (Dg rfl (fun K hK=>?_) Fo))
  ·obtain⟨⟨hB,hW,dQ⟩,M0,M1⟩:=PK.out;have F1:=HP.out n lN _ v st (x1,x2) hB hx dQ PG;rw[HD.out]at F1;simp only[Nv.val,Nv.cells,cG]at F1;have mC:=ab F1;clear F1 hB hW dQ M0 M1;go_simp;refine(mC.out).mono ?_;rintro e w5 ⟨rfl,v5,h5,k5⟩;dsimp only;obtain⟨⟨hB,hW,dQ⟩,M0,M1⟩:=PK.out;have S5:=dQ.aY hB k5;have m0:=M0.aY k5;have m1:=M1.aY k5;have oV:=p_.of m0 ((HK.out n (by omega)).lU S5 dS.1 dS.2);refine hK.out _ _ oV (fun _=>?_);clear hK K;have sz5:=(hW.trans k5).kept.size;have gy:=m1.ak.lt;have h6:=h5.alloc (.cells #[.int .i64 qZ,.int .i64 q_] 115);have W6:=(hW.trans k5).alloc (.cells #[.int .i64 qZ,.int .i64 q_] 115);have S6:=S5.alloc (by omega) (.cells #[.int .i64 qZ,.int .i64 q_] 115);have N0:=m0.alloc (.cells #[.int .i64 qZ,.int .i64 q_] 115);have N1:=m1.alloc (.cells #[.int .i64 qZ,.int .i64 q_] 115);have N2:=bc.new h5 #[.int .i64 qZ,.int .i64 q_] 115;have rB:=p_.of (m0.alloc (.cells #[.int .i64 0,.int .i64 0] 115)) ((HK.out n (by omega)).lU (S5.alloc (by omega) (.cells #[.int .i64 0,.int .i64 0] 115)) dS.1 dS.2);have jY:=ab (And.intro (And.intro h6 (And.intro W6 S6)) (And.intro N0 (And.intro N1 N2)));have Zm:=ab rB;clear hB hW dQ M0 M1 m0 m1 h5 k5 h6 W6 S6 N0 N1 N2 rB oV S5 aj PK mC;refine bN 7 fun K hK=>?_
   go_simp;refine hK.out _ _ Zm.out (fun _=>?_);clear hK K Zm;refine At (by kernel_rfl) ?_ _;unfold eJ;go_wp2_with fail;go_meet
   case rel=>
    obtain⟨⟨h6,W6,S6⟩,N0,N1,N2⟩:=jY.out;exact⟨w5.heap.size,v5,rfl,by omega,h6,W6,S6,N0,N1,N2⟩
  ·obtain⟨⟨hB,hW,dQ⟩,M0,M1⟩:=PK.out;have oc:=hB.alloc (.cells #[.int .i64 0,.int .i64 0] 115);have tS:=hW.alloc (.cells #[.int .i64 0,.int .i64 0] 115);have kM:=dQ.alloc (by simp;omega) (.cells #[.int .i64 0,.int .i64 0] 115);have Q0:=M0.alloc (.cells #[.int .i64 0,.int .i64 0] 115);have Q1:=M1.alloc (.cells #[.int .i64 0,.int .i64 0] 115);have Q2:=bc.new hB #[.int .i64 0,.int .i64 0] 115;have F1:=HP.out n lN _ v st (x1,x2) oc hx kM PG;rw[HD.out]at F1;simp only[Nv.val,Nv.cells,cG]at F1;have mC:=ab F1;have abm:=ab (p_.of Q0 ((HK.out n (by omega)).lU kM dS.1 dS.2));have mF:=ab (And.intro (And.intro oc (And.intro tS kM)) (And.intro Q0 (And.intro Q1 Q2)));clear hB hW dQ M0 M1 oc tS kM Q0 Q1 Q2 F1 PK aj;go_simp;refine hK.out _ _ abm.out (fun rA=>?_);clear hK K abm;refine bN 6 fun K hK=>?_
   go_simp;refine(mC.out).mono ?_;rintro e w5 ⟨rfl,v5,h5,k5⟩;dsimp only;obtain⟨⟨hB,hW,dQ⟩,M0,M1,M2⟩:=mF.out;have S5:=dQ.aY hB k5;have m0:=M0.aY k5;have m1:=M1.aY k5;have m2:=M2.aY k5;have BK:bc w5 b v5 (w.heap.size+1+1) #[.int .i64 0,.int .i64 0] 115:=(by simpa using m2);have oV:=p_.of m0 ((HK.out n (by omega)).lU S5 dS.1 dS.2);refine hK.out _ _ oV (fun _=>?_);clear hK K;obtain⟨d0,d1,g0,g1⟩:=BK.cE;have N0:=(m0.a_ (d:=w.heap.size+1+1) (by omega) 0 (.int .i64 qZ)).a_ (d:=w.heap.size+1+1) (by omega) 1 (.int .i64 q_);have N1:=(m1.a_ (d:=w.heap.size+1+1) (by omega) 0 (.int .i64 qZ)).a_ (d:=w.heap.size+1+1) (by omega) 1 (.int .i64 q_);have N2:=(BK.setCell 0 (.int .i64 qZ)).setCell 1 (.int .i64 q_);have h6:=(h5.set BK.not (by omega) 0 (.int .i64 qZ)).set BK.not (by omega) 1 (.int .i64 q_);have W6:=((hW.trans k5).set (c:=w.heap.size+1+1) (by omega) 0 (.int .i64 qZ)).set (c:=w.heap.size+1+1) (by omega) 1 (.int .i64 q_);have S6:=(S5.set (c:=w.heap.size+1+1) (by omega) 0 (.int .i64 qZ)).set (c:=w.heap.size+1+1) (by omega) 1 (.int .i64 q_);have jY:=ab (And.intro (And.intro h6 (And.intro W6 S6)) (And.intro N0 (And.intro N1 N2)));clear hB hW dQ M0 M1 M2 m0 m1 m2 BK h5 k5 h6 W6 S6 N0 N1 N2 oV S5 rA mF mC;refine At (by kernel_rfl) ?_ _;unfold eJ;go_wp2_with fail;go_meet
   case rel=>
    obtain⟨⟨h6,W6,S6⟩,N0,N1,N2⟩:=jY.out;exact⟨w.heap.size+1+1,v5,rfl,by omega,h6,W6,S6,N0,N1,N2⟩
 case rest=>
  obtain⟨A,v1,rfl,hA,hB,hW,dQ,L0,L1,L2⟩:=hcut;clear PK PS;have bt:st.length<=sd.length:=hsd;go_wp2_with fail
  go_loopg [9] n (fun kk i wr=>∃(k:Nat) (v2:Value) (aA:List MS) (a1 a2:Int),i=.int .i64 ((k:Int)-1)/\k<=n/\kk=k/\Hid (jf (cs.drop k) st (x1,x2)=(aA,(a1,a2)))/\st.length<=aA.length/\aA.length+4*(CT.cB (cs.take k)).toNat+2*k<=9000/\cZ aA.length (a1,a2)/\
   dm wr b lo hi v2 aA/\dW b w wr v v2/\eY lo hi w0 wr/\bc wr b v2 w.heap.size #[.int .i64 x1,.int .i64 x2] 115/\bc wr b v2 (w.heap.size+1) #[.int .i64 0,.int .i64 0] 115/\bc wr b v2 A #[.int .i64 a1,.int .i64 a2] 115)
  case atStart=>exact⟨n,v1,sd,qZ,q_,rfl,Ab _,rfl,HEL.out,hsd,PD,b1,hB,hW,dQ,L0,L1,L2⟩
  case round=>
   obtain⟨k',v2,aA,a1,a2,rfl,hk,eT,HE,im,bM,s_,oc,tS,kM,P0,P1,P2⟩:=hrel;clear hB hW dQ L0 L1 L2
   cases k' with
   |zero=>
    subst eT;obtain⟨c0,c1,_,_⟩:=P2.cE;obtain⟨d0,d1,g0,g1⟩:=P1.cE;have ax:=ab (And.intro oc (And.intro tS P1));have rC:¬((0:Int)<=((0:Nat):Int)-1):=(by omega);have ja:Hid (jf cs st (x1,x2)=(aA,(a1,a2))):=HE.out;clear oc tS kM P0 P1 P2 HE;go_wp2_with fail;rw[ja.out];exact mI ax.out.1 ax.out.2.1 ax.out.2.2 (by omega) (by omega) results67 rfl rfl
   |succ k=>
    subst eT;have aiB:((k+1:Nat):Int)-1=(k:Int):=(by omega);have oh:k<cs.length:=by have:=qV.out;omega
    have hz:=qX.out k oh;have gz:=NZ.out k oh;have c1':=gz.fG aA (x1,x2) (hx.mono im);have OS:=gz.bT aA (x1,x2);have zL:=gz.grow aA (x1,x2);have e3:=DX (bm cs[k] aA (x1,x2)).1 (bm cs[k] aA (x1,x2)).2 (a1,a2);have e4:=(Iy (st:=(bm cs[k] aA (x1,x2)).1) c1'.lR (s_.mono zL.1).lR (Or.inl (by have:=c1'.1;omega))).1
    have ja:Hid (jf (cs.drop k) st (x1,x2)=gE (bm cs[k] aA (x1,x2)).1 (bm cs[k] aA (x1,x2)).2 (a1,a2)):=by
     have:=HE.out;show _=_
     rw[afV (k:=k) (by have:=qV.out;omega),this]
    have iR:=oc.new ((aa.refl af wr).drew);have ny:=tS.new ((aa.refl af wr).drew);have gK:eY lo hi w0 wr.drew:=kM;have M0:bc wr.drew b v2 w.heap.size #[.int .i64 x1,.int .i64 x2] 115:=⟨P0.ak,P0.not⟩;have M1:bc wr.drew b v2 (w.heap.size+1) #[.int .i64 0,.int .i64 0] 115:=⟨P1.ak,P1.not⟩;have M2:bc wr.drew b v2 A #[.int .i64 a1,.int .i64 a2] 115:=⟨P2.ak,P2.not⟩;have PS:Hid (NJ w.heap.size A pb k (V k) x1 x2 a1 a2 wr.drew):=⟨p_.of M0 ((HK.out k (by omega)).lU gK dS.1 dS.2),M2.cE.1,M2.cE.2.1⟩;have F1:=HP.out k oh wr.drew v2 aA (x1,x2) iR (hx.mono im) gK (by omega);simp only[Nv.val,Nv.cells,cG]at F1;have mC:=ab F1;have PK:=ab (And.intro (And.intro iR (And.intro ny gK)) (And.intro M0 (And.intro M1 M2)));have wY:¬((n:Int)+1<=(k:Int)):=(by omega);clear oc tS kM P0 P1 P2 iR ny gK M0 M1 M2 F1 HE gz;go_wp2_with fail;refine gW (S:=NJ w.heap.size A pb k (V k) x1 x2 a1 a2) 10 (by kernel_rfl) rfl rfl rfl (by kernel_rfl) (by kernel_rfl) ?_;have aj:=PS.out;refine ai 0 26 (.pointer (some ⟨b,0,none⟩)) aj ?_;refine ai 1 27 (.pointer (some ⟨b,0,none⟩)) aj ?_;refine ai 2 28 (.slice (some ⟨pb,0,none⟩) (n+1) pc) aj ?_;refine ai 3 29 (.int .i64 k) aj ?_;refine ai 4 30 (.pointer (some ⟨pb,k*8,none⟩)) aj ?_;refine ai 5 31 (.agg #[.int .i64 (V k).k,.slice (V k).pa (V k).pn (V k).pc,.slice (V k).sa (V k).sn (V k).sc,.int .i64 (V k).ed,.int .i64 (V k).gr,.int .i64 (V k).lo,.int .i64 (V k).hi,.bool (V k).lz]) aj ?_;refine ai 6 32 (.agg #[.int .i64 x1,.int .i64 x2]) aj ?_;refine ai 8 34 (.agg #[.int .i64 a1,.int .i64 a2]) aj ?_;simp only[Act.put,Aa,Ad,Ac];refine bN 7 fun K hK=>?_
    go_simp;refine(mC.out).mono ?_;rintro e w5 ⟨rfl,v5,h5,k5⟩;dsimp only;obtain⟨⟨hB,hW,dQ⟩,M0,M1,M2⟩:=PK.out;have S5:=dQ.aY hB k5;have m0:=M0.aY k5;have m1:=M1.aY k5;have m2:=M2.aY k5;have oV:NJ w.heap.size A pb k (V k) x1 x2 a1 a2 w5:=⟨p_.of m0 ((HK.out k (by omega)).lU S5 dS.1 dS.2),m2.cE.1,m2.cE.2.1⟩;refine hK.out _ _ oV (fun _=>?_);clear hK K;have F2:=TT h5 (bm cs[k] aA (x1,x2)).2 (a1,a2) (by omega);simp only[cG]at F2;have JT:=ab F2;have mF:=ab (And.intro (And.intro h5 (And.intro (hW.trans k5) S5)) (And.intro m0 (And.intro m1 m2)));clear hB hW dQ M0 M1 M2 m0 m1 m2 h5 k5 oV S5 aj PK mC F2 PS;refine bN 9 fun K hK=>?_
    go_simp;refine(JT.out).mono ?_;rintro e w6 ⟨rfl,v6,h6,k6⟩;dsimp only;obtain⟨⟨hB,hW,dQ⟩,M0,M1,M2⟩:=mF.out;have S6:=dQ.aY hB k6;have m0:=M0.aY k6;have m1:=M1.aY k6;have m2:=M2.aY k6;have rB:NJ w.heap.size A pb k (V k) x1 x2 a1 a2 w6:=⟨p_.of m0 ((HK.out k (by omega)).lU S6 dS.1 dS.2),m2.cE.1,m2.cE.2.1⟩;refine hK.out _ _ rB (fun _=>?_);clear hK K;obtain⟨d0,d1,g0,g1⟩:=m2.cE;generalize hE:gE (bm cs[k] aA (x1,x2)).1 (bm cs[k] aA (x1,x2)).2 (a1,a2)=E at*;obtain⟨uC,y1,y2⟩:=E;simp only at e3 e4 h6;have N0:=(m0.a_ (d:=A) (by omega) 0 (.int .i64 y1)).a_ (d:=A) (by omega) 1 (.int .i64 y2);have N1:=(m1.a_ (d:=A) (by omega) 0 (.int .i64 y1)).a_ (d:=A) (by omega) 1 (.int .i64 y2);have N2:=(m2.setCell 0 (.int .i64 y1)).setCell 1 (.int .i64 y2);have h7:=(h6.set m2.not (by omega) 0 (.int .i64 y1)).set m2.not (by omega) 1 (.int .i64 y2);have W7:=((hW.trans k6).set (c:=A) (by omega) 0 (.int .i64 y1)).set (c:=A) (by omega) 1 (.int .i64 y2);have S7:=(S6.set (c:=A) (by omega) 0 (.int .i64 y1)).set (c:=A) (by omega) 1 (.int .i64 y2);have jY:=ab (And.intro (And.intro h7 (And.intro W7 S7)) (And.intro N0 (And.intro N1 N2)));clear hB hW dQ M0 M1 M2 m0 m1 m2 h6 k6 h7 W7 S7 N0 N1 N2 rB S6 mF JT hE;refine At (by kernel_rfl) ?_ _;unfold eJ;go_wp2_with fail;go_roundg k
    case measure=>omega
    case rel=>
     obtain⟨⟨h7,W7,S7⟩,N0,N1,N2⟩:=jY.out;exact⟨k,v6,uC,y1,y2,rfl,by omega,rfl,ja,by omega,by omega,e4,h7,W7,S7,N0,N1,N2⟩
end Go.Proofs.YtpdnofhackjfdaaGreatDoor
