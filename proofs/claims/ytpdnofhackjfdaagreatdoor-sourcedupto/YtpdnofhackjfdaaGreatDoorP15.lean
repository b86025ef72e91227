/- The builder's re -/
import Derived.Test.YtpdnofhackjfdaaGreatDoorP14
set_option linter.all false
set_option maxRecDepth 100000
set_option maxHeartbeats 4000000
namespace Go.Proofs.YtpdnofhackjfdaaGreatDoor
open Go.Proofs.Tryz
open Go.RowKit Go.Maps
variable {cs:List CT} {st:List MS} {b c hi k lo n pb:Nat} {N:Nv} {v:Value} {w w0:World}
def I_(B0 B1 pb:Nat)(q N:Nv)(n1 n2:Int)(w':World):Prop:=tZ w' B0 pb q N/\w'.cell? (GB B1 0)=some (GW n1)/\w'.cell? (GB B1 1)=some (GW n2)
theorem ahX{k:Nat}(h:lo<=hi):(hi-lo)*(4*c+2)+lo*(4*c)<=4*(hi*(c+1)):=by
 obtain⟨d,rfl⟩:∃d,hi=lo+d:=⟨hi-lo,by omega⟩
 rw[E9,Cw,E6 lo,E6 d c,E6 d (4*c)];have:lo*(4*c)=4*(lo*c):=by rw[D4]
 have:d*(4*c)=4*(d*c):=by rw[D4]
 omega
theorem aih:(4*c+3)+lo*(4*c)<=4*((lo+1)*(c+1)):=by
 rw[Cw,E6 lo];have:lo*(4*c)=4*(lo*c):=by rw[D4]
 omega
theorem an8{q:Nv}{C:CT}(h:dz w b lo hi v st)(x:Ex)(hx:df st.length x)(hS:ft lo hi w0 w)(dB:C.ok)(aW:(if q.hi= -1 then q.lo+1 else q.hi)*(C.sz+1)<=1000)(hP:C.sz<=1000->xo b lo hi w0 N C)
 (nd:q.pa=some (GB pb 0))(iY:q.pn=1)(ee:lo<=pb/\pb<hi)(hK:o9 w0 pb 0 N)(hr:0<=q.lo/\q.lo<=20/\ -1<=q.hi/\q.hi<=20/\(q.hi= -1\/q.lo<=q.hi))(dy:st.length+4*((if q.hi= -1 then q.lo+1 else q.hi)*(C.sz+1)).toNat<=9000):
 Calls prog 68 #[BT b 0,Nv.val q,cO x] w (ml w b lo hi v (nH (bB C) q.lo q.hi q.lz st x).1 (cO (nH (bB C) q.lo q.hi q.lz st x).2)):=by
 have az:=h.aq.lt;have dW:=h.dW;have JI:=CT.zV C dB;obtain⟨x1,x2⟩:=x;have oH:pb<w.heap.size:=by omega
 have h1:=h.alloc (.cells q.cells 64);have h2:=h1.alloc (.cells (aM (x1,x2)) 115);have h3:=h2.alloc (.cells (aM (0,0)) 115);have l0:=((bk.new h q.cells 64).alloc (.cells (aM (x1,x2)) 115)).alloc (.cells (aM (0,0)) 115);have l1:=(bk.new h1 (aM (x1,x2)) 115).alloc (.cells (aM (0,0)) 115);have l2:=bk.new h2 (aM (0,0)) 115;have W3:=(((ey.refl b w v).alloc (.cells q.cells 64)).alloc (.cells (aM (x1,x2)) 115)).alloc (.cells (aM (0,0)) 115);have S3:=((hS.alloc (by omega) (.cells q.cells 64)).alloc (by simp;omega) (.cells (aM (x1,x2)) 115)).alloc (by simp;omega) (.cells (aM (0,0)) 115);simp only[iy]at l1 l2;simp only[aM]at l1 l2;have xi:=ab nd;have xj:=ab iY;have KK:=ab hK;obtain⟨m,hm⟩:∃m:Nat,q.lo=m:=⟨q.lo.toNat,by omega⟩
 have Ps:=ab hm;obtain⟨c,hc⟩:∃c:Nat,C.sz=c:=⟨C.sz.toNat,by omega⟩
 have zb:C.sz.toNat=c:=by omega
 have iQ:q.lo.toNat=m:=by omega
 unfold nH;rw[iQ];by_cases hh:q.hi= -1
 ·have hb:(q.hi== -1)=true:=by simp[hh]
  simp only[if_pos hh]at aW dy⊢;have Nk:(q.lo+1)*(C.sz+1)=(((m+1)*(c+1):Nat):Int):=by rw[hm,hc];simp
  rw[Nk]at aW dy;have wo:c+1<=(m+1)*(c+1):=Nat.le_mul_of_pos_left _ (by omega);have uG:C.sz<=1000:=by omega
  have bN:=aih (lo:=m) (c:=c);have HB:Hid (0<m->BS (bB C) (4*C.sz.toNat)):=fun _=>oo C dB uG
  have HP:Hid (0<m->xo b lo hi w0 N C):=fun _=>hP uG
  have F0:=aln h3 (x1,x2) (by exact hx) S3 dB uG (hP uG) nd iY ee hK (by rw[zb];omega);have lp:=(oo C dB uG).loop q.lz;have xa:=lp.fQ st (x1,x2) hx;have na:=lp.bN st (x1,x2);generalize hA:nF (bB C) q.lz st (x1,x2)=A at*;obtain⟨sa,ya,yb⟩:=A;simp only at xa na F0⊢;have JJ:sa.length+(m-0)*(4*C.sz.toNat)<=9000:=by rw[zb]at na⊢;rw[Nat.sub_zero];omega
  clear hA lp aW dy Nk wo bN na hm hc iQ hh;simp only[cO,Nv.val,Nv.cells,aM]at F0;have KS:=ab F0;have dD:=ab (And.intro (And.intro l0 (And.intro l1 l2)) (And.intro W3 (And.intro h3 S3)));clear h h1 h2 h3 l0 l1 l2 W3 S3 hS hP nd iY F0 hK;simp only[Nv.val,cO,Nv.cells];go_in;go_wp2_with fail;refine(KS.o).mono ?_;rintro e w5 ⟨rfl,v5,h5,k5⟩;obtain⟨⟨l0,l1,l2⟩,W3,h3,S3⟩:=dD.o;have m1:=l1.a_ k5;have m0:=l0.a_ k5;obtain⟨z0,z1,z2,z3,z4,z5,z6,z7⟩:=m0.iq;obtain⟨d0,d1,g0,g1⟩:=m1.cM;have N0:=(m0.bj (d:=w.heap.size+1) (by omega) 0 (GW ya)).bj (d:=w.heap.size+1) (by omega) 1 (GW yb);have N2:=((l2.a_ k5).bj (d:=w.heap.size+1) (by omega) 0 (GW ya)).bj (d:=w.heap.size+1) (by omega) 1 (GW yb);have N1:=(m1.setCell 0 (GW ya)).setCell 1 (GW yb);have h7:=(h5.set m1.not (by omega) 0 (GW ya)).set m1.not (by omega) 1 (GW yb);have W7:=((W3.trans k5).set (c:=w.heap.size+1) (by omega) 0 (GW ya)).set (c:=w.heap.size+1) (by omega) 1 (GW yb);have S7:=((S3.a_ h3 k5).set (c:=w.heap.size+1) (by omega) 0 (GW ya)).set (c:=w.heap.size+1) (by omega) 1 (GW yb);have kh:=ab (And.intro (And.intro h7 (And.intro W7 S7)) (And.intro N0 (And.intro N1 N2)));clear l0 l1 l2 W3 h3 S3 m1 m0 N0 N1 N2 h7 W7 S7 h5 k5 dD KS z0 z1 z2 z3 z4 z6 z7;go_wp2_with fail
  go_loopg [20] m (fun kk i wr=>∃(j:Nat) (v1:Value) (aD:List MS) (n1 n2:Int),i=GW j/\j<=m/\kk=m-j/\Hid (nG (bB C) (m-j) aD (n1,n2)=nG (bB C) m sa (ya,yb))/\aD.length+(m-j)*(4*C.sz.toNat)<=9000/\df aD.length (n1,n2)/\
   dz wr b lo hi v1 aD/\ey b w wr v v1/\ft lo hi w0 wr/\bk wr b v1 w.heap.size q.cells 64/\bk wr b v1 (w.heap.size+1) #[GW n1,GW n2] 115/\bk wr b v1 (w.heap.size+1+1) #[GW 0,GW 0] 115)
  case atStart=>
   obtain⟨⟨h7,W7,S7⟩,N0,N1,N2⟩:=kh.o;exact⟨0,v5,sa,ya,yb,rfl,Al _,rfl,rfl,JJ,xa,h7,W7,S7,N0,N1,N2⟩
  case round=>
   clear kh;obtain⟨j,v1,aD,n1,n2,rfl,hj,rfl,HE,bT,tC,hB,hW,d_,L0,L1,L2⟩:=hrel;have uE:=Ps.o;by_cases jP:j<m
   ·have th:(j:Int)<q.lo:=(by omega);have jb:=hB.new ((aa.refl ai wr).drew);have nO:=hW.new ((aa.refl ai wr).drew);have gU:ft lo hi w0 wr.drew:=d_;have M0:bk wr.drew b v1 w.heap.size q.cells 64:=⟨L0.aq,L0.not⟩;have M1:bk wr.drew b v1 (w.heap.size+1) #[GW n1,GW n2] 115:=⟨L1.aq,L1.not⟩;have M2:bk wr.drew b v1 (w.heap.size+1+1) #[GW 0,GW 0] 115:=⟨L2.aq,L2.not⟩;have MM:I_ w.heap.size (w.heap.size+1) pb q N n1 n2 wr.drew:=⟨tZ.of M0 xi.o xj.o (KK.o.mh gU ee.1 ee.2),M1.cM.1,M1.cM.2.1⟩;have PS:=ab MM;have iO:=HB.o (by omega);have b1:=iO.fQ aD (n1,n2) tC;have b2:=iO.bN aD (n1,n2)
    have hmul:(m-j)*(4*C.sz.toNat)=(m-(j+1))*(4*C.sz.toNat)+(4*C.sz.toNat):=by
     obtain⟨d,hd⟩:∃d,m-j=d+1:=⟨m-j-1,by omega⟩
     rw[hd,show m-(j+1)=d by omega,Fh]
    have F1:=HP.o (by omega) wr.drew v1 aD (n1,n2) jb tC gU (by omega);simp only[Nv.val,Nv.cells,cO]at F1;have mS:=ab F1;have PK:=ab (And.intro (And.intro jb (And.intro nO gU)) (And.intro M0 (And.intro M1 M2)));clear hB hW d_ L0 L1 L2 jb nO gU M0 M1 M2 MM F1 iO uE;go_wp2_with fail;refine gD (S:=I_ w.heap.size (w.heap.size+1) pb q N n1 n2) 7 (by kernel_rfl) rfl rfl rfl (by kernel_rfl) (by kernel_rfl) ?_;have ak:=PS.o;refine aj 0 22 (BT b 0) ak ?_;refine aj 1 23 (BT w.heap.size 1) ak ?_;refine aj 2 24 (.slice (some (GB pb 0)) 1 q.pc) ak ?_;refine aj 3 25 (BT pb 0) ak ?_;refine aj 4 26 (.agg #[GW N.k,.slice N.pa N.pn N.pc,.slice N.sa N.sn N.sc,GW N.ed,GW N.gr,GW N.lo,GW N.hi,.bool N.lz]) ak ?_;refine aj 5 27 (.agg #[GW n1,GW n2]) ak ?_;simp only[Act.put,Aa,Ad,Ac];refine bR 6 fun K hK=>?_
    go_simp;refine(mS.o).mono ?_;rintro e w6 ⟨rfl,v6,h6,k6⟩;dsimp only;obtain⟨⟨hB,hW,d_⟩,M0,M1,M2⟩:=PK.o;have rW:I_ w.heap.size (w.heap.size+1) pb q N n1 n2 w6:=⟨tZ.of (M0.a_ k6) xi.o xj.o (KK.o.mh (d_.a_ hB k6) ee.1 ee.2),(M1.a_ k6).cM.1,(M1.a_ k6).cM.2.1⟩;refine hK.o _ _ rW (fun _=>?_);clear hK K;obtain⟨d0,d1,g0,g1⟩:=(M1.a_ k6).cM;generalize hE:bB C aD (n1,n2)=E at*;obtain⟨uX,y1,y2⟩:=E;simp only at b1 b2 h6;have N0:=((M0.a_ k6).bj (d:=w.heap.size+1) (by omega) 0 (GW y1)).bj (d:=w.heap.size+1) (by omega) 1 (GW y2);have N2:=((M2.a_ k6).bj (d:=w.heap.size+1) (by omega) 0 (GW y1)).bj (d:=w.heap.size+1) (by omega) 1 (GW y2);have N1:=((M1.a_ k6).setCell 0 (GW y1)).setCell 1 (GW y2);have h7:=(h6.set (M1.a_ k6).not (by omega) 0 (GW y1)).set (M1.a_ k6).not (by omega) 1 (GW y2);have W7:=((hW.trans k6).set (c:=w.heap.size+1) (by omega) 0 (GW y1)).set (c:=w.heap.size+1) (by omega) 1 (GW y2);have S7:=((d_.a_ hB k6).set (c:=w.heap.size+1) (by omega) 0 (GW y1)).set (c:=w.heap.size+1) (by omega) 1 (GW y2)
    have ji:Hid (nG (bB C) (m-(j+1)) uX (y1,y2)=nG (bB C) m sa (ya,yb)):=by
     rw[<-HE.o,show m-j=(m-(j+1))+1 by omega];show _=nG (bB C) (m-(j+1)) (bB C aD (n1,n2)).1 (bB C aD (n1,n2)).2
     rw[hE]
    have kh:=ab (And.intro (And.intro h7 (And.intro W7 S7)) (And.intro N0 (And.intro N1 N2)));clear hB hW d_ M0 M1 M2 h6 k6 rW PK N0 N1 N2 h7 W7 S7 hE HE mS PS ak;refine At (by kernel_rfl) ?_ _;unfold eo;go_wp2_with fail;go_roundg (m-(j+1))
    case measure=>omega
    case rel=>
     obtain⟨⟨h7,W7,S7⟩,N0,N1,N2⟩:=kh.o;exact⟨j+1,v6,uX,y1,y2,by go_num,by omega,rfl,ji,by omega,b1,h7,W7,S7,N0,N1,N2⟩
   ·have ej:j=m:=(by omega);subst ej;have th:¬((j:Int)<q.lo):=by omega
    have ji:Hid ((aD,(n1,n2))=nG (bB C) j sa (ya,yb)):=by
     have:=HE.o;rw[Gf]at this;exact this
    obtain⟨c0,c1,_,_⟩:=L1.cM;obtain⟨d0,d1,g0,g1⟩:=L2.cM;have aA:=ab (And.intro hB (And.intro hW L2));clear hB hW d_ L0 L1 L2 uE HE;go_wp2_with fail;rw[<-ji.o];exact mZ aA.o.1 aA.o.2.1 aA.o.2.2 (by omega) (by omega) results68 rfl rfl
 ·have hb:(q.hi== -1)=false:=by simp[hh]
  simp only[if_neg hh]at aW dy⊢;obtain⟨k,hk⟩:∃k:Nat,q.hi=k:=⟨q.hi.toNat,by omega⟩
  have Nk:q.hi*(C.sz+1)=((k*(c+1):Nat):Int):=by rw[hk,hc];simp
  rw[Nk]at aW dy;have qV:m<=k:=by omega
  have uG:0<k->C.sz<=1000:=fun h0=>by
   have wo:c+1<=k*(c+1):=Nat.le_mul_of_pos_left _ h0;omega
  have bN:=ahX (k:=k) (c:=c) qV;have hd:(q.hi-q.lo).toNat=k-m:=by omega
  have HB:Hid (0<m->BS (bB C) (4*C.sz.toNat)):=fun h0=>oo C dB (uG (by omega))
  have HP:Hid (0<m->xo b lo hi w0 N C):=fun h0=>hP (uG (by omega))
  have F0:=amt h3 (x1,x2) (by exact hx) S3 dB (fun h0=>uG (by omega)) (fun h0=>hP (uG (by omega))) nd iY ee hK ⟨by omega,by omega,by omega⟩ (by rw[zb,hd];omega)
  have xa:df (fT (bB C) q.lz (x1,x2) (q.hi-q.lo).toNat st (x1,x2)).1.length (fT (bB C) q.lz (x1,x2) (q.hi-q.lo).toNat st (x1,x2)).2/\(fT (bB C) q.lz (x1,x2) (q.hi-q.lo).toNat st (x1,x2)).1.length<=st.length+(k-m)*(4*c+2):=by
   by_cases h0:k-m=0
   ·rw[hd,h0];exact⟨hx,by simp[fT]⟩
   ·have op:=(oo C dB (uG (by omega))).nX q.lz (q.hi-q.lo).toNat;rw[zb,hd]at op;rw[hd];exact⟨op.fQ _ _ _ hx hx,op.bN _ _ _⟩
  generalize hA:fT (bB C) q.lz (x1,x2) (q.hi-q.lo).toNat st (x1,x2)=A at*
  obtain⟨sa,ya,yb⟩:=A;obtain⟨xa,na⟩:=xa;simp only at xa na F0⊢;have JJ:sa.length+(m-0)*(4*C.sz.toNat)<=9000:=by rw[zb,Nat.sub_zero];omega
  clear hA aW dy Nk bN na hm hc iQ hh uG hk hd qV;simp only[cO,Nv.val,Nv.cells,aM]at F0;have KS:=ab F0;have dD:=ab (And.intro (And.intro l0 (And.intro l1 l2)) (And.intro W3 (And.intro h3 S3)));clear h h1 h2 h3 l0 l1 l2 W3 S3 hS hP nd iY F0 hK;simp only[Nv.val,cO,Nv.cells];go_in;go_wp2_with fail;refine(KS.o).mono ?_;rintro e w5 ⟨rfl,v5,h5,k5⟩;obtain⟨⟨l0,l1,l2⟩,W3,h3,S3⟩:=dD.o;have m1:=l1.a_ k5;have m0:=l0.a_ k5;obtain⟨z0,z1,z2,z3,z4,z5,z6,z7⟩:=m0.iq;obtain⟨d0,d1,g0,g1⟩:=m1.cM;have N0:=(m0.bj (d:=w.heap.size+1) (by omega) 0 (GW ya)).bj (d:=w.heap.size+1) (by omega) 1 (GW yb);have N2:=((l2.a_ k5).bj (d:=w.heap.size+1) (by omega) 0 (GW ya)).bj (d:=w.heap.size+1) (by omega) 1 (GW yb);have N1:=(m1.setCell 0 (GW ya)).setCell 1 (GW yb);have h7:=(h5.set m1.not (by omega) 0 (GW ya)).set m1.not (by omega) 1 (GW yb);have W7:=((W3.trans k5).set (c:=w.heap.size+1) (by omega) 0 (GW ya)).set (c:=w.heap.size+1) (by omega) 1 (GW yb);have S7:=((S3.a_ h3 k5).set (c:=w.heap.size+1) (by omega) 0 (GW ya)).set (c:=w.heap.size+1) (by omega) 1 (GW yb);have kh:=ab (And.intro (And.intro h7 (And.intro W7 S7)) (And.intro N0 (And.intro N1 N2)));clear l0 l1 l2 W3 h3 S3 m1 m0 N0 N1 N2 h7 W7 S7 h5 k5 dD KS z0 z1 z2 z3 z4 z6 z7;go_wp2_with fail
  go_loopg [20] m (fun kk i wr=>∃(j:Nat) (v1:Value) (aD:List MS) (n1 n2:Int),i=GW j/\j<=m/\kk=m-j/\Hid (nG (bB C) (m-j) aD (n1,n2)=nG (bB C) m sa (ya,yb))/\aD.length+(m-j)*(4*C.sz.toNat)<=9000/\df aD.length (n1,n2)/\
   dz wr b lo hi v1 aD/\ey b w wr v v1/\ft lo hi w0 wr/\bk wr b v1 w.heap.size q.cells 64/\bk wr b v1 (w.heap.size+1) #[GW n1,GW n2] 115/\bk wr b v1 (w.heap.size+1+1) #[GW 0,GW 0] 115)
  case atStart=>
   obtain⟨⟨h7,W7,S7⟩,N0,N1,N2⟩:=kh.o;exact⟨0,v5,sa,ya,yb,rfl,Al _,rfl,rfl,JJ,xa,h7,W7,S7,N0,N1,N2⟩
  case round=>
   clear kh;obtain⟨j,v1,aD,n1,n2,rfl,hj,rfl,HE,bT,tC,hB,hW,d_,L0,L1,L2⟩:=hrel;have uE:=Ps.o;by_cases jP:j<m
   ·have th:(j:Int)<q.lo:=(by omega);have jb:=hB.new ((aa.refl ai wr).drew);have nO:=hW.new ((aa.refl ai wr).drew);have gU:ft lo hi w0 wr.drew:=d_;have M0:bk wr.drew b v1 w.heap.size q.cells 64:=⟨L0.aq,L0.not⟩;have M1:bk wr.drew b v1 (w.heap.size+1) #[GW n1,GW n2] 115:=⟨L1.aq,L1.not⟩;have M2:bk wr.drew b v1 (w.heap.size+1+1) #[GW 0,GW 0] 115:=⟨L2.aq,L2.not⟩;have MM:I_ w.heap.size (w.heap.size+1) pb q N n1 n2 wr.drew:=⟨tZ.of M0 xi.o xj.o (KK.o.mh gU ee.1 ee.2),M1.cM.1,M1.cM.2.1⟩;have PS:=ab MM;have iO:=HB.o (by omega);have b1:=iO.fQ aD (n1,n2) tC;have b2:=iO.bN aD (n1,n2)
    have hmul:(m-j)*(4*C.sz.toNat)=(m-(j+1))*(4*C.sz.toNat)+(4*C.sz.toNat):=by
     obtain⟨d,hd⟩:∃d,m-j=d+1:=⟨m-j-1,by omega⟩
     rw[hd,show m-(j+1)=d by omega,Fh]
    have F1:=HP.o (by omega) wr.drew v1 aD (n1,n2) jb tC gU (by omega);simp only[Nv.val,Nv.cells,cO]at F1;have mS:=ab F1;have PK:=ab (And.intro (And.intro jb (And.intro nO gU)) (And.intro M0 (And.intro M1 M2)));clear hB hW d_ L0 L1 L2 jb nO gU M0 M1 M2 MM F1 iO uE;go_wp2_with fail;refine gD (S:=I_ w.heap.size (w.heap.size+1) pb q N n1 n2) 7 (by kernel_rfl) rfl rfl rfl (by kernel_rfl) (by kernel_rfl) ?_;have ak:=PS.o;refine aj 0 22 (BT b 0) ak ?_;refine aj 1 23 (BT w.heap.size 1) ak ?_;refine aj 2 24 (.slice (some (GB pb 0)) 1 q.pc) ak ?_;refine aj 3 25 (BT pb 0) ak ?_;refine aj 4 26 (.agg #[GW N.k,.slice N.pa N.pn N.pc,.slice N.sa N.sn N.sc,GW N.ed,GW N.gr,GW N.lo,GW N.hi,.bool N.lz]) ak ?_;refine aj 5 27 (.agg #[GW n1,GW n2]) ak ?_;simp only[Act.put,Aa,Ad,Ac];refine bR 6 fun K hK=>?_
    go_simp;refine(mS.o).mono ?_;rintro e w6 ⟨rfl,v6,h6,k6⟩;dsimp only;obtain⟨⟨hB,hW,d_⟩,M0,M1,M2⟩:=PK.o;have rW:I_ w.heap.size (w.heap.size+1) pb q N n1 n2 w6:=⟨tZ.of (M0.a_ k6) xi.o xj.o (KK.o.mh (d_.a_ hB k6) ee.1 ee.2),(M1.a_ k6).cM.1,(M1.a_ k6).cM.2.1⟩;refine hK.o _ _ rW (fun _=>?_);clear hK K;obtain⟨d0,d1,g0,g1⟩:=(M1.a_ k6).cM;generalize hE:bB C aD (n1,n2)=E at*;obtain⟨uX,y1,y2⟩:=E;simp only at b1 b2 h6;have N0:=((M0.a_ k6).bj (d:=w.heap.size+1) (by omega) 0 (GW y1)).bj (d:=w.heap.size+1) (by omega) 1 (GW y2);have N2:=((M2.a_ k6).bj (d:=w.heap.size+1) (by omega) 0 (GW y1)).bj (d:=w.heap.size+1) (by omega) 1 (GW y2);have N1:=((M1.a_ k6).setCell 0 (GW y1)).setCell 1 (GW y2);have h7:=(h6.set (M1.a_ k6).not (by omega) 0 (GW y1)).set (M1.a_ k6).not (by omega) 1 (GW y2);have W7:=((hW.trans k6).set (c:=w.heap.size+1) (by omega) 0 (GW y1)).set (c:=w.heap.size+1) (by omega) 1 (GW y2);have S7:=((d_.a_ hB k6).set (c:=w.heap.size+1) (by omega) 0 (GW y1)).set (c:=w.heap.size+1) (by omega) 1 (GW y2)
    have ji:Hid (nG (bB C) (m-(j+1)) uX (y1,y2)=nG (bB C) m sa (ya,yb)):=by
     rw[<-HE.o,show m-j=(m-(j+1))+1 by omega];show _=nG (bB C) (m-(j+1)) (bB C aD (n1,n2)).1 (bB C aD (n1,n2)).2
     rw[hE]
    have kh:=ab (And.intro (And.intro h7 (And.intro W7 S7)) (And.intro N0 (And.intro N1 N2)));clear hB hW d_ M0 M1 M2 h6 k6 rW PK N0 N1 N2 h7 W7 S7 hE HE mS PS ak;refine At (by kernel_rfl) ?_ _;unfold eo;go_wp2_with fail;go_roundg (m-(j+1))
    case measure=>omega
    case rel=>
     obtain⟨⟨h7,W7,S7⟩,N0,N1,N2⟩:=kh.o;exact⟨j+1,v6,uX,y1,y2,by go_num,by omega,rfl,ji,by omega,b1,h7,W7,S7,N0,N1,N2⟩
   ·have ej:j=m:=(by omega);subst ej;have th:¬((j:Int)<q.lo):=by omega
    have ji:Hid ((aD,(n1,n2))=nG (bB C) j sa (ya,yb)):=by
     have:=HE.o;rw[Gf]at this;exact this
    obtain⟨c0,c1,_,_⟩:=L1.cM;obtain⟨d0,d1,g0,g1⟩:=L2.cM;have aA:=ab (And.intro hB (And.intro hW L2));clear hB hW d_ L0 L1 L2 uE HE;go_wp2_with fail;rw[<-ji.o];exact mZ aA.o.1 aA.o.2.1 aA.o.2.2 (by omega) (by omega) results68 rfl rfl
theorem YO(cs:List CT)(i:Nat)(h:i<cs.length):CT.cK (cs.take (i+1))=CT.cK (cs.take i)+(cs[i]).sz:=by
 induction cs generalizing i with
 |nil=>simp at h
 |cons t ts ih=>
  cases i with
  |zero=>simp[CT.cK]
  |succ i=>
   have:=ih i (by simpa using h);simp only[C5,CT.cK,Ag];omega
theorem adV:∀{cs:List CT},CT.eI cs->∀i,CT.eI (cs.take i)
 | [],_,i=>by simp[CT.eI]
 |c::cs,h,0=>by simp[CT.eI]
 |c::cs,h,i+1=>by
  unfold CT.eI at h;simp only[C5];unfold CT.eI;exact⟨h.1,adV h.2 i⟩
theorem Iv:∀{cs:List CT},CT.eI cs->∀i,(h:i<cs.length)->(cs[i]).ok
 | [],_,i,h=>by simp at h
 |c::cs,h,0,_=>by unfold CT.eI at h;exact h.1
 |c::cs,h,i+1,hi=>by unfold CT.eI at h;exact Iv h.2 i (by simpa using hi)
theorem yl(h:CT.eI cs)(i:Nat)(hi:i<cs.length):0<=CT.cK (cs.take i)/\0<=(cs[i]).sz/\CT.cK (cs.take i)+(cs[i]).sz<=CT.cK cs:=by
 have h1:=CT.wS _ (adV h i);have h2:=CT.zV _ (Iv h i hi);refine⟨h1,h2,?_⟩;rw[<-YO cs i hi]
 have:∀{cs:List CT},CT.eI cs->∀j,CT.cK (cs.take j)<=CT.cK cs:=by
  intro cs;induction cs with
  |nil=>intro _ j;simp[CT.cK]
  |cons c cs ih=>
   intro h j;unfold CT.eI at h
   cases j with
   |zero=>simp only[List.take_zero];exact CT.wS (c::cs) (by unfold CT.eI;exact h)
   |succ j=>simp only[C5,CT.cK];have:=ih h.2 j;omega
 exact this h (i+1)
theorem agE(h:cs.length=n+1):jn (cs.drop n)=bB (cs[n]'(by omega)):=by
 rw[Bw (by omega),Ff (by omega)];unfold jn;rfl
theorem agF(h:k+1<cs.length)(st:List MS)(nx:Ex):jn (cs.drop k) st nx=gP (bB (cs[k]'(by omega)) (jn (cs.drop (k+1)) st nx).1 nx).1 (bB (cs[k]'(by omega)) (jn (cs.drop (k+1)) st nx).1 nx).2 (jn (cs.drop (k+1)) st nx).2:=by
 rw[Bw (i:=k) (by omega),Bw (i:=k+1) h];rw[jn]
def qA(B0 pb i:Nat)(N:Nv)(x1 x2:Int)(w':World):Prop:=
 ((w'.cell? ⟨pb,i*8,none⟩=some (GW N.k)/\w'.cell? ⟨pb,i*8+1,none⟩=some (.slice N.pa N.pn N.pc)/\w'.cell? ⟨pb,i*8+2,none⟩=some (.slice N.sa N.sn N.sc)/\w'.cell? ⟨pb,i*8+3,none⟩=some (GW N.ed))/\
   w'.cell? ⟨pb,i*8+4,none⟩=some (GW N.gr)/\w'.cell? ⟨pb,i*8+5,none⟩=some (GW N.lo)/\w'.cell? ⟨pb,i*8+6,none⟩=some (GW N.hi)/\w'.cell? ⟨pb,i*8+7,none⟩=some (.bool N.lz))/\
 w'.cell? (GB B0 0)=some (GW x1)/\w'.cell? (GB B0 1)=some (GW x2)
theorem qA.of{W:World}{B0 i:Nat}{x1 x2:Int}{t:TypeId}(h:bk W b v B0 #[GW x1,GW x2] t)(hK:o9 W pb i N):qA B0 pb i N x1 x2 W:=⟨hK.iq,h.cM.1,h.cM.2.1⟩
def OZ(B0 A pb i:Nat)(N:Nv)(x1 x2 a1 a2:Int)(w':World):Prop:=qA B0 pb i N x1 x2 w'/\w'.cell? (GB A 0)=some (GW a1)/\w'.cell? (GB A 1)=some (GW a2)
theorem ahA{pc:Nat}{V:Nat->Nv}(h:dz w b lo hi v st)(x:Ex)(hx:df st.length x)(hS:ft lo hi w0 w)(dc:cs.length=n+1)(hn:n<=400)(dB:CT.eI cs)(aW:CT.cK cs<=1000)(hP:∀i,(hi':i<cs.length)->xo b lo hi w0 (V i) cs[i])
 (ee:lo<=pb/\pb<hi)(hK:∀i,i<n+1->o9 w0 pb i (V i))(dy:st.length+4*(CT.cK cs).toNat+2*n<=9000):
 Calls prog 67 #[BT b 0,.slice (some (GB pb 0)) (n+1) pc,cO x] w (ml w b lo hi v (jn cs st x).1 (cO (jn cs st x).2)):=by
 have az:=h.aq.lt;have dW:=h.dW;obtain⟨x1,x2⟩:=x;have oH:pb<w.heap.size:=by omega
 have h1:=h.alloc (.cells (aM (x1,x2)) 115);have h2:=h1.alloc (.cells (aM (0,0)) 115);have l0:=(bk.new h (aM (x1,x2)) 115).alloc (.cells (aM (0,0)) 115);have l1:=bk.new h1 (aM (0,0)) 115;have W2:=((ey.refl b w v).alloc (.cells (aM (x1,x2)) 115)).alloc (.cells (aM (0,0)) 115);have S2:=(hS.alloc (by omega) (.cells (aM (x1,x2)) 115)).alloc (by simp;omega) (.cells (aM (0,0)) 115);simp only[iy]at l1;simp only[aM]at l0 l1 h2 W2 S2;have HK:=ab hK;have HP:=ab hP;have Pi:Hid (∀i,(hi':i<cs.length)->BS (bB cs[i]) (4*(cs[i]).sz.toNat)):=fun i hi'=>oo _ (Iv dB i hi') (by have:=yl dB i hi';omega)
 have rJ:Hid (∀i,(hi':i<cs.length)->0<=CT.cK (cs.take i)/\0<=(cs[i]).sz/\CT.cK (cs.take i)+(cs[i]).sz<=CT.cK cs/\CT.cK (cs.take (i+1))=CT.cK (cs.take i)+(cs[i]).sz):=fun i hi'=>⟨(yl dB i hi').1,(yl dB i hi').2.1,(yl dB i hi').2.2,YO cs i hi'⟩
 have rI:=ab dc;have jb:=h2.new ((aa.refl ai _).drew);have nO:=W2.new ((aa.refl ai _).drew);have M0:bk ((w.alloc (.cells #[GW x1,GW x2] 115)).alloc (.cells #[GW 0,GW 0] 115)).drew b v w.heap.size #[GW x1,GW x2] 115:=⟨l0.aq,l0.not⟩;have M1:bk ((w.alloc (.cells #[GW x1,GW x2] 115)).alloc (.cells #[GW 0,GW 0] 115)).drew b v (w.heap.size+1) #[GW 0,GW 0] 115:=⟨l1.aq,l1.not⟩;have gU:ft lo hi w0 ((w.alloc (.cells #[GW x1,GW x2] 115)).alloc (.cells #[GW 0,GW 0] 115)).drew:=S2;have PS:=ab (qA.of M0 ((hK n (by omega)).mh gU ee.1 ee.2));have hz:=rJ.o n (by omega);have gJ:=Pi.o n (by omega);have b1:=gJ.fQ st (x1,x2) hx;have b2:=gJ.bN st (x1,x2);have b3:=gJ.grow st (x1,x2);have EL:jn (cs.drop n) st (x1,x2)=bB (cs[n]'(by omega)) st (x1,x2):=by rw[agE dc]
 have PK:=ab (And.intro (And.intro jb (And.intro nO gU)) (And.intro M0 M1));generalize hD:bB (cs[n]'(by omega)) st (x1,x2)=D at*;obtain⟨sd,rL,rM⟩:=D;simp only at b1 b2 b3;have HD:=ab hD;have HEL:=ab EL;have Wd:sd.length+4*(CT.cK (cs.take n)).toNat+2*n<=9000:=by omega
 have hsd:st.length<=sd.length:=b3.1;have Rb:st.length+4*((cs[n]'(by omega)).sz).toNat<=9000:=by omega
 clear h h1 h2 l0 l1 W2 S2 hS hK hP gJ hD EL jb nO gU M0 M1 b3 hz b2;simp only[cO];go_in;go_wp2_with fail;go_cut [8] (fun s8 wx=>∃(A:Nat) (v1:Value),s8=BT A 0/\w.heap.size+2<=A/\dz wx b lo hi v1 sd/\ey b w wx v v1/\ft lo hi w0 wx/\bk wx b v1 w.heap.size #[GW x1,GW x2] 115/\bk wx b v1 (w.heap.size+1) #[GW 0,GW 0] 115/\bk wx b v1 A #[GW rL,GW rM] 115)
 case first=>
  have hni:¬((n:Int)+1<=(n:Int)):=by omega
  have l7:n<cs.length:=by have:=rI.o;omega
  refine gD (S:=qA w.heap.size pb n (V n) x1 x2) 8 (by kernel_rfl) rfl rfl rfl (by kernel_rfl) (by kernel_rfl) ?_;have ak:=PS.o;refine aj 0 13 (BT b 0) ak ?_;refine aj 1 14 (.slice (some (GB pb 0)) (n+1) pc) ak ?_;refine aj 2 15 (GW n) ak ?_;refine aj 3 16 (.pointer (some ⟨pb,n*8,none⟩)) ak ?_;refine aj 4 17 (.agg #[GW (V n).k,.slice (V n).pa (V n).pn (V n).pc,.slice (V n).sa (V n).sn (V n).sc,GW (V n).ed,GW (V n).gr,GW (V n).lo,GW (V n).hi,.bool (V n).lz]) ak ?_;refine aj 5 18 (.agg #[GW x1,GW x2]) ak ?_;simp only[Act.put,Aa,Ad,Ac];clear PS hni;refine Ge (rs:=[6,7]) (by kernel_rfl) (by simp) (Dl rfl (fun K hK=>?_) (Dl rfl (fun K hK=>?_) Fu))
  ·obtain⟨⟨hB,hW,d_⟩,M0,M1⟩:=PK.o;have F1:=HP.o n l7 _ v st (x1,x2) hB hx d_ Rb;rw[HD.o]at F1;simp only[Nv.val,Nv.cells,cO]at F1;have mS:=ab F1;clear F1 hB hW d_ M0 M1;go_simp;refine(mS.o).mono ?_;rintro e w5 ⟨rfl,v5,h5,k5⟩;dsimp only;obtain⟨⟨hB,hW,d_⟩,M0,M1⟩:=PK.o;have S5:=d_.a_ hB k5;have m0:=M0.a_ k5;have m1:=M1.a_ k5;have py:=qA.of m0 ((HK.o n (by omega)).mh S5 ee.1 ee.2);refine hK.o _ _ py (fun _=>?_);clear hK K;have sz5:=(hW.trans k5).kept.size;have gI:=m1.aq.lt;have h6:=h5.alloc (.cells #[GW rL,GW rM] 115);have W6:=(hW.trans k5).alloc (.cells #[GW rL,GW rM] 115);have S6:=S5.alloc (by omega) (.cells #[GW rL,GW rM] 115);have N0:=m0.alloc (.cells #[GW rL,GW rM] 115);have N1:=m1.alloc (.cells #[GW rL,GW rM] 115);have N2:=bk.new h5 #[GW rL,GW rM] 115;have rW:=qA.of (m0.alloc (.cells #[GW 0,GW 0] 115)) ((HK.o n (by omega)).mh (S5.alloc (by omega) (.cells #[GW 0,GW 0] 115)) ee.1 ee.2);have kh:=ab (And.intro (And.intro h6 (And.intro W6 S6)) (And.intro N0 (And.intro N1 N2)));have PS6:=ab rW;clear hB hW d_ M0 M1 m0 m1 h5 k5 h6 W6 S6 N0 N1 N2 rW py S5 ak PK mS;refine bR 7 fun K hK=>?_
   go_simp;refine hK.o _ _ PS6.o (fun _=>?_);clear hK K PS6;refine At (by kernel_rfl) ?_ _;unfold eo;go_wp2_with fail;go_meet
   case rel=>
    obtain⟨⟨h6,W6,S6⟩,N0,N1,N2⟩:=kh.o;exact⟨w5.heap.size,v5,rfl,by omega,h6,W6,S6,N0,N1,N2⟩
  ·obtain⟨⟨hB,hW,d_⟩,M0,M1⟩:=PK.o;have oA:=hB.alloc (.cells #[GW 0,GW 0] 115);have ur:=hW.alloc (.cells #[GW 0,GW 0] 115);have kY:=d_.alloc (by simp;omega) (.cells #[GW 0,GW 0] 115);have Q0:=M0.alloc (.cells #[GW 0,GW 0] 115);have Q1:=M1.alloc (.cells #[GW 0,GW 0] 115);have Q2:=bk.new hB #[GW 0,GW 0] 115;have F1:=HP.o n l7 _ v st (x1,x2) oA hx kY Rb;rw[HD.o]at F1;simp only[Nv.val,Nv.cells,cO]at F1;have mS:=ab F1;have ab2:=ab (qA.of Q0 ((HK.o n (by omega)).mh kY ee.1 ee.2));have mV:=ab (And.intro (And.intro oA (And.intro ur kY)) (And.intro Q0 (And.intro Q1 Q2)));clear hB hW d_ M0 M1 oA ur kY Q0 Q1 Q2 F1 PK ak;go_simp;refine hK.o _ _ ab2.o (fun rV=>?_);clear hK K ab2;refine bR 6 fun K hK=>?_
   go_simp;refine(mS.o).mono ?_;rintro e w5 ⟨rfl,v5,h5,k5⟩;dsimp only;obtain⟨⟨hB,hW,d_⟩,M0,M1,M2⟩:=mV.o;have S5:=d_.a_ hB k5;have m0:=M0.a_ k5;have m1:=M1.a_ k5;have m2:=M2.a_ k5;have DM:bk w5 b v5 (w.heap.size+1+1) #[GW 0,GW 0] 115:=(by simpa using m2);have py:=qA.of m0 ((HK.o n (by omega)).mh S5 ee.1 ee.2);refine hK.o _ _ py (fun _=>?_);clear hK K;obtain⟨d0,d1,g0,g1⟩:=DM.cM;have N0:=(m0.bj (d:=w.heap.size+1+1) (by omega) 0 (GW rL)).bj (d:=w.heap.size+1+1) (by omega) 1 (GW rM);have N1:=(m1.bj (d:=w.heap.size+1+1) (by omega) 0 (GW rL)).bj (d:=w.heap.size+1+1) (by omega) 1 (GW rM);have N2:=(DM.setCell 0 (GW rL)).setCell 1 (GW rM);have h6:=(h5.set DM.not (by omega) 0 (GW rL)).set DM.not (by omega) 1 (GW rM);have W6:=((hW.trans k5).set (c:=w.heap.size+1+1) (by omega) 0 (GW rL)).set (c:=w.heap.size+1+1) (by omega) 1 (GW rM);have S6:=(S5.set (c:=w.heap.size+1+1) (by omega) 0 (GW rL)).set (c:=w.heap.size+1+1) (by omega) 1 (GW rM);have kh:=ab (And.intro (And.intro h6 (And.intro W6 S6)) (And.intro N0 (And.intro N1 N2)));clear hB hW d_ M0 M1 M2 m0 m1 m2 DM h5 k5 h6 W6 S6 N0 N1 N2 py S5 rV mV mS;refine At (by kernel_rfl) ?_ _;unfold eo;go_wp2_with fail;go_meet
   case rel=>
    obtain⟨⟨h6,W6,S6⟩,N0,N1,N2⟩:=kh.o;exact⟨w.heap.size+1+1,v5,rfl,by omega,h6,W6,S6,N0,N1,N2⟩
 case rest=>
  obtain⟨A,v1,rfl,hA,hB,hW,d_,L0,L1,L2⟩:=hcut;clear PK PS;have bD:st.length<=sd.length:=hsd;go_wp2_with fail
  go_loopg [9] n (fun kk i wr=>∃(k:Nat) (v2:Value) (aD:List MS) (a1 a2:Int),i=GW ((k:Int)-1)/\k<=n/\kk=k/\Hid (jn (cs.drop k) st (x1,x2)=(aD,(a1,a2)))/\st.length<=aD.length/\aD.length+4*(CT.cK (cs.take k)).toNat+2*k<=9000/\df aD.length (a1,a2)/\
   dz wr b lo hi v2 aD/\ey b w wr v v2/\ft lo hi w0 wr/\bk wr b v2 w.heap.size #[GW x1,GW x2] 115/\bk wr b v2 (w.heap.size+1) #[GW 0,GW 0] 115/\bk wr b v2 A #[GW a1,GW a2] 115)
  case atStart=>exact⟨n,v1,sd,rL,rM,rfl,Ab _,rfl,HEL.o,hsd,Wd,b1,hB,hW,d_,L0,L1,L2⟩
  case round=>
   obtain⟨k',v2,aD,a1,a2,rfl,hk,eE,HE,gW,bT,tC,oA,ur,kY,P0,P1,P2⟩:=hrel;clear hB hW d_ L0 L1 L2
   cases k' with
   |zero=>
    subst eE;obtain⟨c0,c1,_,_⟩:=P2.cM;obtain⟨d0,d1,g0,g1⟩:=P1.cM;have aA:=ab (And.intro oA (And.intro ur P1));have th:¬((0:Int)<=((0:Nat):Int)-1):=(by omega);have ji:Hid (jn cs st (x1,x2)=(aD,(a1,a2))):=HE.o;clear oA ur kY P0 P1 P2 HE;go_wp2_with fail;rw[ji.o];exact mZ aA.o.1 aA.o.2.1 aA.o.2.2 (by omega) (by omega) results67 rfl rfl
   |succ k=>
    subst eE;have ajq:((k+1:Nat):Int)-1=(k:Int):=(by omega);have mE:k<cs.length:=by have:=rI.o;omega
    have hz:=rJ.o k mE;have gJ:=Pi.o k mE;have c1':=gJ.fQ aD (x1,x2) (hx.mono gW);have Qs:=gJ.bN aD (x1,x2);have AZ:=gJ.grow aD (x1,x2);have e3:=Gy (bB cs[k] aD (x1,x2)).1 (bB cs[k] aD (x1,x2)).2 (a1,a2);have e4:=(Jp (st:=(bB cs[k] aD (x1,x2)).1) c1'.l_ (tC.mono AZ.1).l_ (Or.inl (by have:=c1'.1;omega))).1
    have ji:Hid (jn (cs.drop k) st (x1,x2)=gP (bB cs[k] aD (x1,x2)).1 (bB cs[k] aD (x1,x2)).2 (a1,a2)):=by
     have:=HE.o;show _=_
     rw[agF (k:=k) (by have:=rI.o;omega),this]
    have jb:=oA.new ((aa.refl ai wr).drew);have nO:=ur.new ((aa.refl ai wr).drew);have gU:ft lo hi w0 wr.drew:=kY;have M0:bk wr.drew b v2 w.heap.size #[GW x1,GW x2] 115:=⟨P0.aq,P0.not⟩;have M1:bk wr.drew b v2 (w.heap.size+1) #[GW 0,GW 0] 115:=⟨P1.aq,P1.not⟩;have M2:bk wr.drew b v2 A #[GW a1,GW a2] 115:=⟨P2.aq,P2.not⟩;have PS:Hid (OZ w.heap.size A pb k (V k) x1 x2 a1 a2 wr.drew):=⟨qA.of M0 ((HK.o k (by omega)).mh gU ee.1 ee.2),M2.cM.1,M2.cM.2.1⟩;have F1:=HP.o k mE wr.drew v2 aD (x1,x2) jb (hx.mono gW) gU (by omega);simp only[Nv.val,Nv.cells,cO]at F1;have mS:=ab F1;have PK:=ab (And.intro (And.intro jb (And.intro nO gU)) (And.intro M0 (And.intro M1 M2)));have xJ:¬((n:Int)+1<=(k:Int)):=(by omega);clear oA ur kY P0 P1 P2 jb nO gU M0 M1 M2 F1 HE gJ;go_wp2_with fail;refine gD (S:=OZ w.heap.size A pb k (V k) x1 x2 a1 a2) 10 (by kernel_rfl) rfl rfl rfl (by kernel_rfl) (by kernel_rfl) ?_;have ak:=PS.o;refine aj 0 26 (BT b 0) ak ?_;refine aj 1 27 (BT b 0) ak ?_;refine aj 2 28 (.slice (some (GB pb 0)) (n+1) pc) ak ?_;refine aj 3 29 (GW k) ak ?_;refine aj 4 30 (.pointer (some ⟨pb,k*8,none⟩)) ak ?_;refine aj 5 31 (.agg #[GW (V k).k,.slice (V k).pa (V k).pn (V k).pc,.slice (V k).sa (V k).sn (V k).sc,GW (V k).ed,GW (V k).gr,GW (V k).lo,GW (V k).hi,.bool (V k).lz]) ak ?_;refine aj 6 32 (.agg #[GW x1,GW x2]) ak ?_;refine aj 8 34 (.agg #[GW a1,GW a2]) ak ?_;simp only[Act.put,Aa,Ad,Ac];refine bR 7 fun K hK=>?_
    go_simp;refine(mS.o).mono ?_;rintro e w5 ⟨rfl,v5,h5,k5⟩;dsimp only;obtain⟨⟨hB,hW,d_⟩,M0,M1,M2⟩:=PK.o;have S5:=d_.a_ hB k5;have m0:=M0.a_ k5;have m1:=M1.a_ k5;have m2:=M2.a_ k5;have py:OZ w.heap.size A pb k (V k) x1 x2 a1 a2 w5:=⟨qA.of m0 ((HK.o k (by omega)).mh S5 ee.1 ee.2),m2.cM.1,m2.cM.2.1⟩;refine hK.o _ _ py (fun _=>?_);clear hK K;have F2:=Vg h5 (bB cs[k] aD (x1,x2)).2 (a1,a2) (by omega);simp only[cO]at F2;have KT:=ab F2;have mV:=ab (And.intro (And.intro h5 (And.intro (hW.trans k5) S5)) (And.intro m0 (And.intro m1 m2)));clear hB hW d_ M0 M1 M2 m0 m1 m2 h5 k5 py S5 ak PK mS F2 PS;refine bR 9 fun K hK=>?_
    go_simp;refine(KT.o).mono ?_;rintro e w6 ⟨rfl,v6,h6,k6⟩;dsimp only;obtain⟨⟨hB,hW,d_⟩,M0,M1,M2⟩:=mV.o;have S6:=d_.a_ hB k6;have m0:=M0.a_ k6;have m1:=M1.a_ k6;have m2:=M2.a_ k6;have rW:OZ w.heap.size A pb k (V k) x1 x2 a1 a2 w6:=⟨qA.of m0 ((HK.o k (by omega)).mh S6 ee.1 ee.2),m2.cM.1,m2.cM.2.1⟩;refine hK.o _ _ rW (fun _=>?_);clear hK K;obtain⟨d0,d1,g0,g1⟩:=m2.cM;generalize hE:gP (bB cs[k] aD (x1,x2)).1 (bB cs[k] aD (x1,x2)).2 (a1,a2)=E at*;obtain⟨uX,y1,y2⟩:=E;simp only at e3 e4 h6;have N0:=(m0.bj (d:=A) (by omega) 0 (GW y1)).bj (d:=A) (by omega) 1 (GW y2);have N1:=(m1.bj (d:=A) (by omega) 0 (GW y1)).bj (d:=A) (by omega) 1 (GW y2);have N2:=(m2.setCell 0 (GW y1)).setCell 1 (GW y2);have h7:=(h6.set m2.not (by omega) 0 (GW y1)).set m2.not (by omega) 1 (GW y2);have W7:=((hW.trans k6).set (c:=A) (by omega) 0 (GW y1)).set (c:=A) (by omega) 1 (GW y2);have S7:=(S6.set (c:=A) (by omega) 0 (GW y1)).set (c:=A) (by omega) 1 (GW y2);have kh:=ab (And.intro (And.intro h7 (And.intro W7 S7)) (And.intro N0 (And.intro N1 N2)));clear hB hW d_ M0 M1 M2 m0 m1 m2 h6 k6 h7 W7 S7 N0 N1 N2 rW S6 mV KT hE;refine At (by kernel_rfl) ?_ _;unfold eo;go_wp2_with fail;go_roundg k
    case measure=>omega
    case rel=>
     obtain⟨⟨h7,W7,S7⟩,N0,N1,N2⟩:=kh.o;exact⟨k,v6,uX,y1,y2,rfl,by omega,rfl,ji,by omega,by omega,e4,h7,W7,S7,N0,N1,N2⟩
