/- The builder's re -/
import Derived.Test.YtpdnofhackjfdaaGreatDoorP14
set_option linter.all false
set_option maxRecDepth 100000
set_option maxHeartbeats 4000000
namespace Go.Proofs.YtpdnofhackjfdaaGreatDoor
open Go.Proofs.Tryz
open Go.RowKit Go.Maps
variable {cs:List CT} {st:List MS} {b c hi k lo n pb:Nat} {N:Nv} {v:Value} {w w0:World}
def Ix(B0 B1 pb:Nat)(q N:Nv)(n1 n2:Int)(w':World):Prop:=tK w' B0 pb q N/\w'.cell? ⟨B1,0,none⟩=some (.int .i64 n1)/\w'.cell? ⟨B1,1,none⟩=some (.int .i64 n2)
theorem ag9{k:Nat}(h:lo<=hi):(hi-lo)*(4*c+2)+lo*(4*c)<=4*(hi*(c+1)):=by
 obtain⟨d,rfl⟩:∃d,hi=lo+d:=⟨hi-lo,by omega⟩
 rw[E9,Cs,E6 lo,E6 d c,E6 d (4*c)];have:lo*(4*c)=4*(lo*c):=by rw[D3]
 have:d*(4*c)=4*(d*c):=by rw[D3]
 omega
theorem ahr:(4*c+3)+lo*(4*c)<=4*((lo+1)*(c+1)):=by
 rw[Cs,E6 lo];have:lo*(4*c)=4*(lo*c):=by rw[D3]
 omega
theorem anE{q:Nv}{C:CT}(h:dr w b lo hi v st)(x:Ex)(hx:da st.length x)(hS:fa lo hi w0 w)(dD:C.ok)(aP:(if q.hi= -1 then q.lo+1 else q.hi)*(C.sz+1)<=1000)(hP:C.sz<=1000->wJ b lo hi w0 N C)
 (mX:q.pa=some ⟨pb,0,none⟩)(iJ:q.pn=1)(dX:lo<=pb/\pb<hi)(hK:oT w0 pb 0 N)(hr:0<=q.lo/\q.lo<=20/\ -1<=q.hi/\q.hi<=20/\(q.hi= -1\/q.lo<=q.hi))(dw:st.length+4*((if q.hi= -1 then q.lo+1 else q.hi)*(C.sz+1)).toNat<=9000):
 Calls prog 68 #[.pointer (some ⟨b,0,none⟩),Nv.val q,cJ x] w (l9 w b lo hi v (nA (bu C) q.lo q.hi q.lz st x).1 (cJ (nA (bu C) q.lo q.hi q.lz st x).2)):=by
 have aw:=h.aj.lt;have dQ:=h.dQ;have I5:=CT.ze C dD;obtain⟨x1,x2⟩:=x;have jX:pb<w.heap.size:=by omega
 have h1:=h.alloc (.cells q.cells 64);have h2:=h1.alloc (.cells (aI (x1,x2)) 115);have h3:=h2.alloc (.cells (aI (0,0)) 115);have l0:=((bc.new h q.cells 64).alloc (.cells (aI (x1,x2)) 115)).alloc (.cells (aI (0,0)) 115);have l1:=(bc.new h1 (aI (x1,x2)) 115).alloc (.cells (aI (0,0)) 115);have l2:=bc.new h2 (aI (0,0)) 115;have W3:=(((ee.refl b w v).alloc (.cells q.cells 64)).alloc (.cells (aI (x1,x2)) 115)).alloc (.cells (aI (0,0)) 115);have S3:=((hS.alloc (by omega) (.cells q.cells 64)).alloc (by simp;omega) (.cells (aI (x1,x2)) 115)).alloc (by simp;omega) (.cells (aI (0,0)) 115);simp only[ij]at l1 l2;simp only[aI]at l1 l2;have wC:=ab mX;have wD:=ab iJ;have KK:=ab hK;obtain⟨m,hm⟩:∃m:Nat,q.lo=m:=⟨q.lo.toNat,by omega⟩
 have On:=ab hm;obtain⟨c,hc⟩:∃c:Nat,C.sz=c:=⟨C.sz.toNat,by omega⟩
 have yt:C.sz.toNat=c:=by omega
 have iA:q.lo.toNat=m:=by omega
 unfold nA;rw[iA];by_cases hh:q.hi= -1
 ·have hb:(q.hi== -1)=true:=by simp[hh]
  simp only[if_pos hh]at aP dw⊢;have Mo:(q.lo+1)*(C.sz+1)=(((m+1)*(c+1):Nat):Int):=by rw[hm,hc];simp
  rw[Mo]at aP dw;have xh:c+1<=(m+1)*(c+1):=Nat.le_mul_of_pos_left _ (by omega);have uf:C.sz<=1000:=by omega
  have bJ:=ahr (lo:=m) (c:=c);have HB:Hid (0<m->BS (bu C) (4*C.sz.toNat)):=fun _=>od C dD uf
  have HP:Hid (0<m->wJ b lo hi w0 N C):=fun _=>hP uf
  have F0:=akJ h3 (x1,x2) (by exact hx) S3 dD uf (hP uf) mX iJ dX hK (by rw[yt];omega);have lp:=(od C dD uf).loop q.lz;have xa:=lp.fI st (x1,x2) hx;have na:=lp.bJ st (x1,x2);generalize hA:ny (bu C) q.lz st (x1,x2)=A at*;obtain⟨sa,ya,yb⟩:=A;simp only at xa na F0⊢;have I6:sa.length+(m-0)*(4*C.sz.toNat)<=9000:=by rw[yt]at na⊢;rw[Nat.sub_zero];omega
  clear hA lp aP dw Mo xh bJ na hm hc iA hh;simp only[cJ,Nv.val,Nv.cells,aI]at F0;have J9:=ab F0;have du:=ab (And.intro (And.intro l0 (And.intro l1 l2)) (And.intro W3 (And.intro h3 S3)));clear h h1 h2 h3 l0 l1 l2 W3 S3 hS hP mX iJ F0 hK;simp only[Nv.val,cJ,Nv.cells];go_in;go_wp2_with fail;refine(J9.o).mono ?_;rintro e w5 ⟨rfl,v5,h5,k5⟩;obtain⟨⟨l0,l1,l2⟩,W3,h3,S3⟩:=du.o;have m1:=l1.aX k5;have m0:=l0.aX k5;obtain⟨z0,z1,z2,z3,z4,z5,z6,z7⟩:=m0.gZ;obtain⟨d0,d1,g0,g1⟩:=m1.cA;have N0:=(m0.a_ (d:=w.heap.size+1) (by omega) 0 (.int .i64 ya)).a_ (d:=w.heap.size+1) (by omega) 1 (.int .i64 yb);have N2:=((l2.aX k5).a_ (d:=w.heap.size+1) (by omega) 0 (.int .i64 ya)).a_ (d:=w.heap.size+1) (by omega) 1 (.int .i64 yb);have N1:=(m1.setCell 0 (.int .i64 ya)).setCell 1 (.int .i64 yb);have h7:=(h5.set m1.not (by omega) 0 (.int .i64 ya)).set m1.not (by omega) 1 (.int .i64 yb);have W7:=((W3.trans k5).set (c:=w.heap.size+1) (by omega) 0 (.int .i64 ya)).set (c:=w.heap.size+1) (by omega) 1 (.int .i64 yb);have S7:=((S3.aX h3 k5).set (c:=w.heap.size+1) (by omega) 0 (.int .i64 ya)).set (c:=w.heap.size+1) (by omega) 1 (.int .i64 yb);have kh:=ab (And.intro (And.intro h7 (And.intro W7 S7)) (And.intro N0 (And.intro N1 N2)));clear l0 l1 l2 W3 h3 S3 m1 m0 N0 N1 N2 h7 W7 S7 h5 k5 du J9 z0 z1 z2 z3 z4 z6 z7;go_wp2_with fail
  go_loopg [20] m (fun kk i wr=>∃(j:Nat) (v1:Value) (aC:List MS) (n1 n2:Int),i=.int .i64 j/\j<=m/\kk=m-j/\Hid (nz (bu C) (m-j) aC (n1,n2)=nz (bu C) m sa (ya,yb))/\aC.length+(m-j)*(4*C.sz.toNat)<=9000/\da aC.length (n1,n2)/\
   dr wr b lo hi v1 aC/\ee b w wr v v1/\fa lo hi w0 wr/\bc wr b v1 w.heap.size q.cells 64/\bc wr b v1 (w.heap.size+1) #[.int .i64 n1,.int .i64 n2] 115/\bc wr b v1 (w.heap.size+1+1) #[.int .i64 0,.int .i64 0] 115)
  case atStart=>
   obtain⟨⟨h7,W7,S7⟩,N0,N1,N2⟩:=kh.o;exact⟨0,v5,sa,ya,yb,rfl,Ao _,rfl,rfl,I6,xa,h7,W7,S7,N0,N1,N2⟩
  case round=>
   clear kh;obtain⟨j,v1,aC,n1,n2,rfl,hj,rfl,HE,bP,ta,hB,hW,dW,L0,L1,L2⟩:=hrel;have ud:=On.o;by_cases iX:j<m
   ·have sP:(j:Int)<q.lo:=(by omega);have iT:=hB.new ((aa.refl af wr).drew);have nE:=hW.new ((aa.refl af wr).drew);have gH:fa lo hi w0 wr.drew:=dW;have M0:bc wr.drew b v1 w.heap.size q.cells 64:=⟨L0.aj,L0.not⟩;have M1:bc wr.drew b v1 (w.heap.size+1) #[.int .i64 n1,.int .i64 n2] 115:=⟨L1.aj,L1.not⟩;have M2:bc wr.drew b v1 (w.heap.size+1+1) #[.int .i64 0,.int .i64 0] 115:=⟨L2.aj,L2.not⟩;have LV:Ix w.heap.size (w.heap.size+1) pb q N n1 n2 wr.drew:=⟨tK.of M0 wC.o wD.o (KK.o.lX gH dX.1 dX.2),M1.cA.1,M1.cA.2.1⟩;have PS:=ab LV;have iz:=HB.o (by omega);have b1:=iz.fI aC (n1,n2) ta;have b2:=iz.bJ aC (n1,n2)
    have hmul:(m-j)*(4*C.sz.toNat)=(m-(j+1))*(4*C.sz.toNat)+(4*C.sz.toNat):=by
     obtain⟨d,hd⟩:∃d,m-j=d+1:=⟨m-j-1,by omega⟩
     rw[hd,show m-(j+1)=d by omega,Fi]
    have F1:=HP.o (by omega) wr.drew v1 aC (n1,n2) iT ta gH (by omega);simp only[Nv.val,Nv.cells,cJ]at F1;have mH:=ab F1;have PK:=ab (And.intro (And.intro iT (And.intro nE gH)) (And.intro M0 (And.intro M1 M2)));clear hB hW dW L0 L1 L2 iT nE gH M0 M1 M2 LV F1 iz ud;go_wp2_with fail;refine gW (S:=Ix w.heap.size (w.heap.size+1) pb q N n1 n2) 7 (by kernel_rfl) rfl rfl rfl (by kernel_rfl) (by kernel_rfl) ?_;have ak:=PS.o;refine ai 0 22 (.pointer (some ⟨b,0,none⟩)) ak ?_;refine ai 1 23 (.pointer (some ⟨w.heap.size,1,none⟩)) ak ?_;refine ai 2 24 (.slice (some ⟨pb,0,none⟩) 1 q.pc) ak ?_;refine ai 3 25 (.pointer (some ⟨pb,0,none⟩)) ak ?_;refine ai 4 26 (.agg #[.int .i64 N.k,.slice N.pa N.pn N.pc,.slice N.sa N.sn N.sc,.int .i64 N.ed,.int .i64 N.gr,.int .i64 N.lo,.int .i64 N.hi,.bool N.lz]) ak ?_;refine ai 5 27 (.agg #[.int .i64 n1,.int .i64 n2]) ak ?_;simp only[Act.put,Aa,Ad,Ac];refine bQ 6 fun K hK=>?_
    go_simp;refine(mH.o).mono ?_;rintro e w6 ⟨rfl,v6,h6,k6⟩;dsimp only;obtain⟨⟨hB,hW,dW⟩,M0,M1,M2⟩:=PK.o;have rC:Ix w.heap.size (w.heap.size+1) pb q N n1 n2 w6:=⟨tK.of (M0.aX k6) wC.o wD.o (KK.o.lX (dW.aX hB k6) dX.1 dX.2),(M1.aX k6).cA.1,(M1.aX k6).cA.2.1⟩;refine hK.o _ _ rC (fun _=>?_);clear hK K;obtain⟨d0,d1,g0,g1⟩:=(M1.aX k6).cA;generalize hE:bu C aC (n1,n2)=E at*;obtain⟨uC,y1,y2⟩:=E;simp only at b1 b2 h6;have N0:=((M0.aX k6).a_ (d:=w.heap.size+1) (by omega) 0 (.int .i64 y1)).a_ (d:=w.heap.size+1) (by omega) 1 (.int .i64 y2);have N2:=((M2.aX k6).a_ (d:=w.heap.size+1) (by omega) 0 (.int .i64 y1)).a_ (d:=w.heap.size+1) (by omega) 1 (.int .i64 y2);have N1:=((M1.aX k6).setCell 0 (.int .i64 y1)).setCell 1 (.int .i64 y2);have h7:=(h6.set (M1.aX k6).not (by omega) 0 (.int .i64 y1)).set (M1.aX k6).not (by omega) 1 (.int .i64 y2);have W7:=((hW.trans k6).set (c:=w.heap.size+1) (by omega) 0 (.int .i64 y1)).set (c:=w.heap.size+1) (by omega) 1 (.int .i64 y2);have S7:=((dW.aX hB k6).set (c:=w.heap.size+1) (by omega) 0 (.int .i64 y1)).set (c:=w.heap.size+1) (by omega) 1 (.int .i64 y2)
    have jd:Hid (nz (bu C) (m-(j+1)) uC (y1,y2)=nz (bu C) m sa (ya,yb)):=by
     rw[<-HE.o,show m-j=(m-(j+1))+1 by omega];show _=nz (bu C) (m-(j+1)) (bu C aC (n1,n2)).1 (bu C aC (n1,n2)).2
     rw[hE]
    have kh:=ab (And.intro (And.intro h7 (And.intro W7 S7)) (And.intro N0 (And.intro N1 N2)));clear hB hW dW M0 M1 M2 h6 k6 rC PK N0 N1 N2 h7 W7 S7 hE HE mH PS ak;refine At (by kernel_rfl) ?_ _;unfold eN;go_wp2_with fail;go_roundg (m-(j+1))
    case measure=>omega
    case rel=>
     obtain⟨⟨h7,W7,S7⟩,N0,N1,N2⟩:=kh.o;exact⟨j+1,v6,uC,y1,y2,by go_num,by omega,rfl,jd,by omega,b1,h7,W7,S7,N0,N1,N2⟩
   ·have ej:j=m:=(by omega);subst ej;have sP:¬((j:Int)<q.lo):=by omega
    have jd:Hid ((aC,(n1,n2))=nz (bu C) j sa (ya,yb)):=by
     have:=HE.o;rw[Gd]at this;exact this
    obtain⟨c0,c1,_,_⟩:=L1.cA;obtain⟨d0,d1,g0,g1⟩:=L2.cA;have ax:=ab (And.intro hB (And.intro hW L2));clear hB hW dW L0 L1 L2 ud HE;go_wp2_with fail;rw[<-jd.o];exact mR ax.o.1 ax.o.2.1 ax.o.2.2 (by omega) (by omega) results68 rfl rfl
 ·have hb:(q.hi== -1)=false:=by simp[hh]
  simp only[if_neg hh]at aP dw⊢;obtain⟨k,hk⟩:∃k:Nat,q.hi=k:=⟨q.hi.toNat,by omega⟩
  have Mo:q.hi*(C.sz+1)=((k*(c+1):Nat):Int):=by rw[hk,hc];simp
  rw[Mo]at aP dw;have qC:m<=k:=by omega
  have uf:0<k->C.sz<=1000:=fun h0=>by
   have xh:c+1<=k*(c+1):=Nat.le_mul_of_pos_left _ h0;omega
  have bJ:=ag9 (k:=k) (c:=c) qC;have hd:(q.hi-q.lo).toNat=k-m:=by omega
  have HB:Hid (0<m->BS (bu C) (4*C.sz.toNat)):=fun h0=>od C dD (uf (by omega))
  have HP:Hid (0<m->wJ b lo hi w0 N C):=fun h0=>hP (uf (by omega))
  have F0:=al0 h3 (x1,x2) (by exact hx) S3 dD (fun h0=>uf (by omega)) (fun h0=>hP (uf (by omega))) mX iJ dX hK ⟨by omega,by omega,by omega⟩ (by rw[yt,hd];omega)
  have xa:da (fK (bu C) q.lz (x1,x2) (q.hi-q.lo).toNat st (x1,x2)).1.length (fK (bu C) q.lz (x1,x2) (q.hi-q.lo).toNat st (x1,x2)).2/\(fK (bu C) q.lz (x1,x2) (q.hi-q.lo).toNat st (x1,x2)).1.length<=st.length+(k-m)*(4*c+2):=by
   by_cases h0:k-m=0
   ·rw[hd,h0];exact⟨hx,by simp[fK]⟩
   ·have op:=(od C dD (uf (by omega))).nR q.lz (q.hi-q.lo).toNat;rw[yt,hd]at op;rw[hd];exact⟨op.fI _ _ _ hx hx,op.bJ _ _ _⟩
  generalize hA:fK (bu C) q.lz (x1,x2) (q.hi-q.lo).toNat st (x1,x2)=A at*
  obtain⟨sa,ya,yb⟩:=A;obtain⟨xa,na⟩:=xa;simp only at xa na F0⊢;have I6:sa.length+(m-0)*(4*C.sz.toNat)<=9000:=by rw[yt,Nat.sub_zero];omega
  clear hA aP dw Mo bJ na hm hc iA hh uf hk hd qC;simp only[cJ,Nv.val,Nv.cells,aI]at F0;have J9:=ab F0;have du:=ab (And.intro (And.intro l0 (And.intro l1 l2)) (And.intro W3 (And.intro h3 S3)));clear h h1 h2 h3 l0 l1 l2 W3 S3 hS hP mX iJ F0 hK;simp only[Nv.val,cJ,Nv.cells];go_in;go_wp2_with fail;refine(J9.o).mono ?_;rintro e w5 ⟨rfl,v5,h5,k5⟩;obtain⟨⟨l0,l1,l2⟩,W3,h3,S3⟩:=du.o;have m1:=l1.aX k5;have m0:=l0.aX k5;obtain⟨z0,z1,z2,z3,z4,z5,z6,z7⟩:=m0.gZ;obtain⟨d0,d1,g0,g1⟩:=m1.cA;have N0:=(m0.a_ (d:=w.heap.size+1) (by omega) 0 (.int .i64 ya)).a_ (d:=w.heap.size+1) (by omega) 1 (.int .i64 yb);have N2:=((l2.aX k5).a_ (d:=w.heap.size+1) (by omega) 0 (.int .i64 ya)).a_ (d:=w.heap.size+1) (by omega) 1 (.int .i64 yb);have N1:=(m1.setCell 0 (.int .i64 ya)).setCell 1 (.int .i64 yb);have h7:=(h5.set m1.not (by omega) 0 (.int .i64 ya)).set m1.not (by omega) 1 (.int .i64 yb);have W7:=((W3.trans k5).set (c:=w.heap.size+1) (by omega) 0 (.int .i64 ya)).set (c:=w.heap.size+1) (by omega) 1 (.int .i64 yb);have S7:=((S3.aX h3 k5).set (c:=w.heap.size+1) (by omega) 0 (.int .i64 ya)).set (c:=w.heap.size+1) (by omega) 1 (.int .i64 yb);have kh:=ab (And.intro (And.intro h7 (And.intro W7 S7)) (And.intro N0 (And.intro N1 N2)));clear l0 l1 l2 W3 h3 S3 m1 m0 N0 N1 N2 h7 W7 S7 h5 k5 du J9 z0 z1 z2 z3 z4 z6 z7;go_wp2_with fail
  go_loopg [20] m (fun kk i wr=>∃(j:Nat) (v1:Value) (aC:List MS) (n1 n2:Int),i=.int .i64 j/\j<=m/\kk=m-j/\Hid (nz (bu C) (m-j) aC (n1,n2)=nz (bu C) m sa (ya,yb))/\aC.length+(m-j)*(4*C.sz.toNat)<=9000/\da aC.length (n1,n2)/\
   dr wr b lo hi v1 aC/\ee b w wr v v1/\fa lo hi w0 wr/\bc wr b v1 w.heap.size q.cells 64/\bc wr b v1 (w.heap.size+1) #[.int .i64 n1,.int .i64 n2] 115/\bc wr b v1 (w.heap.size+1+1) #[.int .i64 0,.int .i64 0] 115)
  case atStart=>
   obtain⟨⟨h7,W7,S7⟩,N0,N1,N2⟩:=kh.o;exact⟨0,v5,sa,ya,yb,rfl,Ao _,rfl,rfl,I6,xa,h7,W7,S7,N0,N1,N2⟩
  case round=>
   clear kh;obtain⟨j,v1,aC,n1,n2,rfl,hj,rfl,HE,bP,ta,hB,hW,dW,L0,L1,L2⟩:=hrel;have ud:=On.o;by_cases iX:j<m
   ·have sP:(j:Int)<q.lo:=(by omega);have iT:=hB.new ((aa.refl af wr).drew);have nE:=hW.new ((aa.refl af wr).drew);have gH:fa lo hi w0 wr.drew:=dW;have M0:bc wr.drew b v1 w.heap.size q.cells 64:=⟨L0.aj,L0.not⟩;have M1:bc wr.drew b v1 (w.heap.size+1) #[.int .i64 n1,.int .i64 n2] 115:=⟨L1.aj,L1.not⟩;have M2:bc wr.drew b v1 (w.heap.size+1+1) #[.int .i64 0,.int .i64 0] 115:=⟨L2.aj,L2.not⟩;have LV:Ix w.heap.size (w.heap.size+1) pb q N n1 n2 wr.drew:=⟨tK.of M0 wC.o wD.o (KK.o.lX gH dX.1 dX.2),M1.cA.1,M1.cA.2.1⟩;have PS:=ab LV;have iz:=HB.o (by omega);have b1:=iz.fI aC (n1,n2) ta;have b2:=iz.bJ aC (n1,n2)
    have hmul:(m-j)*(4*C.sz.toNat)=(m-(j+1))*(4*C.sz.toNat)+(4*C.sz.toNat):=by
     obtain⟨d,hd⟩:∃d,m-j=d+1:=⟨m-j-1,by omega⟩
     rw[hd,show m-(j+1)=d by omega,Fi]
    have F1:=HP.o (by omega) wr.drew v1 aC (n1,n2) iT ta gH (by omega);simp only[Nv.val,Nv.cells,cJ]at F1;have mH:=ab F1;have PK:=ab (And.intro (And.intro iT (And.intro nE gH)) (And.intro M0 (And.intro M1 M2)));clear hB hW dW L0 L1 L2 iT nE gH M0 M1 M2 LV F1 iz ud;go_wp2_with fail;refine gW (S:=Ix w.heap.size (w.heap.size+1) pb q N n1 n2) 7 (by kernel_rfl) rfl rfl rfl (by kernel_rfl) (by kernel_rfl) ?_;have ak:=PS.o;refine ai 0 22 (.pointer (some ⟨b,0,none⟩)) ak ?_;refine ai 1 23 (.pointer (some ⟨w.heap.size,1,none⟩)) ak ?_;refine ai 2 24 (.slice (some ⟨pb,0,none⟩) 1 q.pc) ak ?_;refine ai 3 25 (.pointer (some ⟨pb,0,none⟩)) ak ?_;refine ai 4 26 (.agg #[.int .i64 N.k,.slice N.pa N.pn N.pc,.slice N.sa N.sn N.sc,.int .i64 N.ed,.int .i64 N.gr,.int .i64 N.lo,.int .i64 N.hi,.bool N.lz]) ak ?_;refine ai 5 27 (.agg #[.int .i64 n1,.int .i64 n2]) ak ?_;simp only[Act.put,Aa,Ad,Ac];refine bQ 6 fun K hK=>?_
    go_simp;refine(mH.o).mono ?_;rintro e w6 ⟨rfl,v6,h6,k6⟩;dsimp only;obtain⟨⟨hB,hW,dW⟩,M0,M1,M2⟩:=PK.o;have rC:Ix w.heap.size (w.heap.size+1) pb q N n1 n2 w6:=⟨tK.of (M0.aX k6) wC.o wD.o (KK.o.lX (dW.aX hB k6) dX.1 dX.2),(M1.aX k6).cA.1,(M1.aX k6).cA.2.1⟩;refine hK.o _ _ rC (fun _=>?_);clear hK K;obtain⟨d0,d1,g0,g1⟩:=(M1.aX k6).cA;generalize hE:bu C aC (n1,n2)=E at*;obtain⟨uC,y1,y2⟩:=E;simp only at b1 b2 h6;have N0:=((M0.aX k6).a_ (d:=w.heap.size+1) (by omega) 0 (.int .i64 y1)).a_ (d:=w.heap.size+1) (by omega) 1 (.int .i64 y2);have N2:=((M2.aX k6).a_ (d:=w.heap.size+1) (by omega) 0 (.int .i64 y1)).a_ (d:=w.heap.size+1) (by omega) 1 (.int .i64 y2);have N1:=((M1.aX k6).setCell 0 (.int .i64 y1)).setCell 1 (.int .i64 y2);have h7:=(h6.set (M1.aX k6).not (by omega) 0 (.int .i64 y1)).set (M1.aX k6).not (by omega) 1 (.int .i64 y2);have W7:=((hW.trans k6).set (c:=w.heap.size+1) (by omega) 0 (.int .i64 y1)).set (c:=w.heap.size+1) (by omega) 1 (.int .i64 y2);have S7:=((dW.aX hB k6).set (c:=w.heap.size+1) (by omega) 0 (.int .i64 y1)).set (c:=w.heap.size+1) (by omega) 1 (.int .i64 y2)
    have jd:Hid (nz (bu C) (m-(j+1)) uC (y1,y2)=nz (bu C) m sa (ya,yb)):=by
     rw[<-HE.o,show m-j=(m-(j+1))+1 by omega];show _=nz (bu C) (m-(j+1)) (bu C aC (n1,n2)).1 (bu C aC (n1,n2)).2
     rw[hE]
    have kh:=ab (And.intro (And.intro h7 (And.intro W7 S7)) (And.intro N0 (And.intro N1 N2)));clear hB hW dW M0 M1 M2 h6 k6 rC PK N0 N1 N2 h7 W7 S7 hE HE mH PS ak;refine At (by kernel_rfl) ?_ _;unfold eN;go_wp2_with fail;go_roundg (m-(j+1))
    case measure=>omega
    case rel=>
     obtain⟨⟨h7,W7,S7⟩,N0,N1,N2⟩:=kh.o;exact⟨j+1,v6,uC,y1,y2,by go_num,by omega,rfl,jd,by omega,b1,h7,W7,S7,N0,N1,N2⟩
   ·have ej:j=m:=(by omega);subst ej;have sP:¬((j:Int)<q.lo):=by omega
    have jd:Hid ((aC,(n1,n2))=nz (bu C) j sa (ya,yb)):=by
     have:=HE.o;rw[Gd]at this;exact this
    obtain⟨c0,c1,_,_⟩:=L1.cA;obtain⟨d0,d1,g0,g1⟩:=L2.cA;have ax:=ab (And.intro hB (And.intro hW L2));clear hB hW dW L0 L1 L2 ud HE;go_wp2_with fail;rw[<-jd.o];exact mR ax.o.1 ax.o.2.1 ax.o.2.2 (by omega) (by omega) results68 rfl rfl
theorem XC(cs:List CT)(i:Nat)(h:i<cs.length):CT.cG (cs.take (i+1))=CT.cG (cs.take i)+(cs[i]).sz:=by
 induction cs generalizing i with
 |nil=>simp at h
 |cons t ts ih=>
  cases i with
  |zero=>simp[CT.cG]
  |succ i=>
   have:=ih i (by simpa using h);simp only[D8,CT.cG,Ah];omega
theorem ac_:∀{cs:List CT},CT.ey cs->∀i,CT.ey (cs.take i)
 | [],_,i=>by simp[CT.ey]
 |c::cs,h,0=>by simp[CT.ey]
 |c::cs,h,i+1=>by
  unfold CT.ey at h;simp only[D8];unfold CT.ey;exact⟨h.1,ac_ h.2 i⟩
theorem Hf:∀{cs:List CT},CT.ey cs->∀i,(h:i<cs.length)->(cs[i]).ok
 | [],_,i,h=>by simp at h
 |c::cs,h,0,_=>by unfold CT.ey at h;exact h.1
 |c::cs,h,i+1,hi=>by unfold CT.ey at h;exact Hf h.2 i (by simpa using hi)
theorem xG(h:CT.ey cs)(i:Nat)(hi:i<cs.length):0<=CT.cG (cs.take i)/\0<=(cs[i]).sz/\CT.cG (cs.take i)+(cs[i]).sz<=CT.cG cs:=by
 have h1:=CT.wg _ (ac_ h i);have h2:=CT.ze _ (Hf h i hi);refine⟨h1,h2,?_⟩;rw[<-XC cs i hi]
 have:∀{cs:List CT},CT.ey cs->∀j,CT.cG (cs.take j)<=CT.cG cs:=by
  intro cs;induction cs with
  |nil=>intro _ j;simp[CT.cG]
  |cons c cs ih=>
   intro h j;unfold CT.ey at h
   cases j with
   |zero=>simp only[List.take_zero];exact CT.wg (c::cs) (by unfold CT.ey;exact h)
   |succ j=>simp only[D8,CT.cG];have:=ih h.2 j;omega
 exact this h (i+1)
theorem afS(h:cs.length=n+1):iO (cs.drop n)=bu (cs[n]'(by omega)):=by
 rw[Bj (by omega),Fe (by omega)];unfold iO;rfl
theorem afT(h:k+1<cs.length)(st:List MS)(nx:Ex):iO (cs.drop k) st nx=gC (bu (cs[k]'(by omega)) (iO (cs.drop (k+1)) st nx).1 nx).1 (bu (cs[k]'(by omega)) (iO (cs.drop (k+1)) st nx).1 nx).2 (iO (cs.drop (k+1)) st nx).2:=by
 rw[Bj (i:=k) (by omega),Bj (i:=k+1) h];rw[iO]
def qe(B0 pb i:Nat)(N:Nv)(x1 x2:Int)(w':World):Prop:=
 ((w'.cell? ⟨pb,i*8,none⟩=some (.int .i64 N.k)/\w'.cell? ⟨pb,i*8+1,none⟩=some (.slice N.pa N.pn N.pc)/\w'.cell? ⟨pb,i*8+2,none⟩=some (.slice N.sa N.sn N.sc)/\w'.cell? ⟨pb,i*8+3,none⟩=some (.int .i64 N.ed))/\
   w'.cell? ⟨pb,i*8+4,none⟩=some (.int .i64 N.gr)/\w'.cell? ⟨pb,i*8+5,none⟩=some (.int .i64 N.lo)/\w'.cell? ⟨pb,i*8+6,none⟩=some (.int .i64 N.hi)/\w'.cell? ⟨pb,i*8+7,none⟩=some (.bool N.lz))/\
 w'.cell? ⟨B0,0,none⟩=some (.int .i64 x1)/\w'.cell? ⟨B0,1,none⟩=some (.int .i64 x2)
theorem qe.of{W:World}{B0 i:Nat}{x1 x2:Int}{t:TypeId}(h:bc W b v B0 #[.int .i64 x1,.int .i64 x2] t)(hK:oT W pb i N):qe B0 pb i N x1 x2 W:=⟨hK.gZ,h.cA.1,h.cA.2.1⟩
def NZ(B0 A pb i:Nat)(N:Nv)(x1 x2 a1 a2:Int)(w':World):Prop:=qe B0 pb i N x1 x2 w'/\w'.cell? ⟨A,0,none⟩=some (.int .i64 a1)/\w'.cell? ⟨A,1,none⟩=some (.int .i64 a2)
theorem agN{pc:Nat}{V:Nat->Nv}(h:dr w b lo hi v st)(x:Ex)(hx:da st.length x)(hS:fa lo hi w0 w)(cT:cs.length=n+1)(hn:n<=400)(dD:CT.ey cs)(aP:CT.cG cs<=1000)(hP:∀i,(hi':i<cs.length)->wJ b lo hi w0 (V i) cs[i])
 (dX:lo<=pb/\pb<hi)(hK:∀i,i<n+1->oT w0 pb i (V i))(dw:st.length+4*(CT.cG cs).toNat+2*n<=9000):
 Calls prog 67 #[.pointer (some ⟨b,0,none⟩),.slice (some ⟨pb,0,none⟩) (n+1) pc,cJ x] w (l9 w b lo hi v (iO cs st x).1 (cJ (iO cs st x).2)):=by
 have aw:=h.aj.lt;have dQ:=h.dQ;obtain⟨x1,x2⟩:=x;have jX:pb<w.heap.size:=by omega
 have h1:=h.alloc (.cells (aI (x1,x2)) 115);have h2:=h1.alloc (.cells (aI (0,0)) 115);have l0:=(bc.new h (aI (x1,x2)) 115).alloc (.cells (aI (0,0)) 115);have l1:=bc.new h1 (aI (0,0)) 115;have W2:=((ee.refl b w v).alloc (.cells (aI (x1,x2)) 115)).alloc (.cells (aI (0,0)) 115);have S2:=(hS.alloc (by omega) (.cells (aI (x1,x2)) 115)).alloc (by simp;omega) (.cells (aI (0,0)) 115);simp only[ij]at l1;simp only[aI]at l0 l1 h2 W2 S2;have HK:=ab hK;have HP:=ab hP;have Oc:Hid (∀i,(hi':i<cs.length)->BS (bu cs[i]) (4*(cs[i]).sz.toNat)):=fun i hi'=>od _ (Hf dD i hi') (by have:=xG dD i hi';omega)
 have qZ:Hid (∀i,(hi':i<cs.length)->0<=CT.cG (cs.take i)/\0<=(cs[i]).sz/\CT.cG (cs.take i)+(cs[i]).sz<=CT.cG cs/\CT.cG (cs.take (i+1))=CT.cG (cs.take i)+(cs[i]).sz):=fun i hi'=>⟨(xG dD i hi').1,(xG dD i hi').2.1,(xG dD i hi').2.2,XC cs i hi'⟩
 have qY:=ab cT;have iT:=h2.new ((aa.refl af _).drew);have nE:=W2.new ((aa.refl af _).drew);have M0:bc ((w.alloc (.cells #[.int .i64 x1,.int .i64 x2] 115)).alloc (.cells #[.int .i64 0,.int .i64 0] 115)).drew b v w.heap.size #[.int .i64 x1,.int .i64 x2] 115:=⟨l0.aj,l0.not⟩;have M1:bc ((w.alloc (.cells #[.int .i64 x1,.int .i64 x2] 115)).alloc (.cells #[.int .i64 0,.int .i64 0] 115)).drew b v (w.heap.size+1) #[.int .i64 0,.int .i64 0] 115:=⟨l1.aj,l1.not⟩;have gH:fa lo hi w0 ((w.alloc (.cells #[.int .i64 x1,.int .i64 x2] 115)).alloc (.cells #[.int .i64 0,.int .i64 0] 115)).drew:=S2;have PS:=ab (qe.of M0 ((hK n (by omega)).lX gH dX.1 dX.2));have hz:=qZ.o n (by omega);have gD:=Oc.o n (by omega);have b1:=gD.fI st (x1,x2) hx;have b2:=gD.bJ st (x1,x2);have b3:=gD.grow st (x1,x2);have EL:iO (cs.drop n) st (x1,x2)=bu (cs[n]'(by omega)) st (x1,x2):=by rw[afS cT]
 have PK:=ab (And.intro (And.intro iT (And.intro nE gH)) (And.intro M0 M1));generalize hD:bu (cs[n]'(by omega)) st (x1,x2)=D at*;obtain⟨sd,rj,rl⟩:=D;simp only at b1 b2 b3;have HD:=ab hD;have HEL:=ab EL;have vA:sd.length+4*(CT.cG (cs.take n)).toNat+2*n<=9000:=by omega
 have hsd:st.length<=sd.length:=b3.1;have PY:st.length+4*((cs[n]'(by omega)).sz).toNat<=9000:=by omega
 clear h h1 h2 l0 l1 W2 S2 hS hK hP gD hD EL iT nE gH M0 M1 b3 hz b2;simp only[cJ];go_in;go_wp2_with fail;go_cut [8] (fun s8 wx=>∃(A:Nat) (v1:Value),s8=.pointer (some ⟨A,0,none⟩)/\w.heap.size+2<=A/\dr wx b lo hi v1 sd/\ee b w wx v v1/\fa lo hi w0 wx/\bc wx b v1 w.heap.size #[.int .i64 x1,.int .i64 x2] 115/\bc wx b v1 (w.heap.size+1) #[.int .i64 0,.int .i64 0] 115/\bc wx b v1 A #[.int .i64 rj,.int .i64 rl] 115)
 case first=>
  have hni:¬((n:Int)+1<=(n:Int)):=by omega
  have lQ:n<cs.length:=by have:=qY.o;omega
  refine gW (S:=qe w.heap.size pb n (V n) x1 x2) 8 (by kernel_rfl) rfl rfl rfl (by kernel_rfl) (by kernel_rfl) ?_;have ak:=PS.o;refine ai 0 13 (.pointer (some ⟨b,0,none⟩)) ak ?_;refine ai 1 14 (.slice (some ⟨pb,0,none⟩) (n+1) pc) ak ?_;refine ai 2 15 (.int .i64 n) ak ?_;refine ai 3 16 (.pointer (some ⟨pb,n*8,none⟩)) ak ?_;refine ai 4 17 (.agg #[.int .i64 (V n).k,.slice (V n).pa (V n).pn (V n).pc,.slice (V n).sa (V n).sn (V n).sc,.int .i64 (V n).ed,.int .i64 (V n).gr,.int .i64 (V n).lo,.int .i64 (V n).hi,.bool (V n).lz]) ak ?_;refine ai 5 18 (.agg #[.int .i64 x1,.int .i64 x2]) ak ?_;simp only[Act.put,Aa,Ad,Ac];clear PS hni;refine Gb (rs:=[6,7]) (by kernel_rfl) (by simp) (Dk rfl (fun K hK=>?_) (Dk rfl (fun K hK=>?_) Fu))
  ·obtain⟨⟨hB,hW,dW⟩,M0,M1⟩:=PK.o;have F1:=HP.o n lQ _ v st (x1,x2) hB hx dW PY;rw[HD.o]at F1;simp only[Nv.val,Nv.cells,cJ]at F1;have mH:=ab F1;clear F1 hB hW dW M0 M1;go_simp;refine(mH.o).mono ?_;rintro e w5 ⟨rfl,v5,h5,k5⟩;dsimp only;obtain⟨⟨hB,hW,dW⟩,M0,M1⟩:=PK.o;have S5:=dW.aX hB k5;have m0:=M0.aX k5;have m1:=M1.aX k5;have o9:=qe.of m0 ((HK.o n (by omega)).lX S5 dX.1 dX.2);refine hK.o _ _ o9 (fun _=>?_);clear hK K;have sz5:=(hW.trans k5).kept.size;have gx:=m1.aj.lt;have h6:=h5.alloc (.cells #[.int .i64 rj,.int .i64 rl] 115);have W6:=(hW.trans k5).alloc (.cells #[.int .i64 rj,.int .i64 rl] 115);have S6:=S5.alloc (by omega) (.cells #[.int .i64 rj,.int .i64 rl] 115);have N0:=m0.alloc (.cells #[.int .i64 rj,.int .i64 rl] 115);have N1:=m1.alloc (.cells #[.int .i64 rj,.int .i64 rl] 115);have N2:=bc.new h5 #[.int .i64 rj,.int .i64 rl] 115;have rC:=qe.of (m0.alloc (.cells #[.int .i64 0,.int .i64 0] 115)) ((HK.o n (by omega)).lX (S5.alloc (by omega) (.cells #[.int .i64 0,.int .i64 0] 115)) dX.1 dX.2);have kh:=ab (And.intro (And.intro h6 (And.intro W6 S6)) (And.intro N0 (And.intro N1 N2)));have Zl:=ab rC;clear hB hW dW M0 M1 m0 m1 h5 k5 h6 W6 S6 N0 N1 N2 rC o9 S5 ak PK mH;refine bQ 7 fun K hK=>?_
   go_simp;refine hK.o _ _ Zl.o (fun _=>?_);clear hK K Zl;refine At (by kernel_rfl) ?_ _;unfold eN;go_wp2_with fail;go_meet
   case rel=>
    obtain⟨⟨h6,W6,S6⟩,N0,N1,N2⟩:=kh.o;exact⟨w5.heap.size,v5,rfl,by omega,h6,W6,S6,N0,N1,N2⟩
  ·obtain⟨⟨hB,hW,dW⟩,M0,M1⟩:=PK.o;have ow:=hB.alloc (.cells #[.int .i64 0,.int .i64 0] 115);have tV:=hW.alloc (.cells #[.int .i64 0,.int .i64 0] 115);have kR:=dW.alloc (by simp;omega) (.cells #[.int .i64 0,.int .i64 0] 115);have Q0:=M0.alloc (.cells #[.int .i64 0,.int .i64 0] 115);have Q1:=M1.alloc (.cells #[.int .i64 0,.int .i64 0] 115);have Q2:=bc.new hB #[.int .i64 0,.int .i64 0] 115;have F1:=HP.o n lQ _ v st (x1,x2) ow hx kR PY;rw[HD.o]at F1;simp only[Nv.val,Nv.cells,cJ]at F1;have mH:=ab F1;have abi:=ab (qe.of Q0 ((HK.o n (by omega)).lX kR dX.1 dX.2));have mN:=ab (And.intro (And.intro ow (And.intro tV kR)) (And.intro Q0 (And.intro Q1 Q2)));clear hB hW dW M0 M1 ow tV kR Q0 Q1 Q2 F1 PK ak;go_simp;refine hK.o _ _ abi.o (fun rB=>?_);clear hK K abi;refine bQ 6 fun K hK=>?_
   go_simp;refine(mH.o).mono ?_;rintro e w5 ⟨rfl,v5,h5,k5⟩;dsimp only;obtain⟨⟨hB,hW,dW⟩,M0,M1,M2⟩:=mN.o;have S5:=dW.aX hB k5;have m0:=M0.aX k5;have m1:=M1.aX k5;have m2:=M2.aX k5;have CH:bc w5 b v5 (w.heap.size+1+1) #[.int .i64 0,.int .i64 0] 115:=(by simpa using m2);have o9:=qe.of m0 ((HK.o n (by omega)).lX S5 dX.1 dX.2);refine hK.o _ _ o9 (fun _=>?_);clear hK K;obtain⟨d0,d1,g0,g1⟩:=CH.cA;have N0:=(m0.a_ (d:=w.heap.size+1+1) (by omega) 0 (.int .i64 rj)).a_ (d:=w.heap.size+1+1) (by omega) 1 (.int .i64 rl);have N1:=(m1.a_ (d:=w.heap.size+1+1) (by omega) 0 (.int .i64 rj)).a_ (d:=w.heap.size+1+1) (by omega) 1 (.int .i64 rl);have N2:=(CH.setCell 0 (.int .i64 rj)).setCell 1 (.int .i64 rl);have h6:=(h5.set CH.not (by omega) 0 (.int .i64 rj)).set CH.not (by omega) 1 (.int .i64 rl);have W6:=((hW.trans k5).set (c:=w.heap.size+1+1) (by omega) 0 (.int .i64 rj)).set (c:=w.heap.size+1+1) (by omega) 1 (.int .i64 rl);have S6:=(S5.set (c:=w.heap.size+1+1) (by omega) 0 (.int .i64 rj)).set (c:=w.heap.size+1+1) (by omega) 1 (.int .i64 rl);have kh:=ab (And.intro (And.intro h6 (And.intro W6 S6)) (And.intro N0 (And.intro N1 N2)));clear hB hW dW M0 M1 M2 m0 m1 m2 CH h5 k5 h6 W6 S6 N0 N1 N2 o9 S5 rB mN mH;refine At (by kernel_rfl) ?_ _;unfold eN;go_wp2_with fail;go_meet
   case rel=>
    obtain⟨⟨h6,W6,S6⟩,N0,N1,N2⟩:=kh.o;exact⟨w.heap.size+1+1,v5,rfl,by omega,h6,W6,S6,N0,N1,N2⟩
 case rest=>
  obtain⟨A,v1,rfl,hA,hB,hW,dW,L0,L1,L2⟩:=hcut;clear PK PS;have bC:st.length<=sd.length:=hsd;go_wp2_with fail
  go_loopg [9] n (fun kk i wr=>∃(k:Nat) (v2:Value) (aC:List MS) (a1 a2:Int),i=.int .i64 ((k:Int)-1)/\k<=n/\kk=k/\Hid (iO (cs.drop k) st (x1,x2)=(aC,(a1,a2)))/\st.length<=aC.length/\aC.length+4*(CT.cG (cs.take k)).toNat+2*k<=9000/\da aC.length (a1,a2)/\
   dr wr b lo hi v2 aC/\ee b w wr v v2/\fa lo hi w0 wr/\bc wr b v2 w.heap.size #[.int .i64 x1,.int .i64 x2] 115/\bc wr b v2 (w.heap.size+1) #[.int .i64 0,.int .i64 0] 115/\bc wr b v2 A #[.int .i64 a1,.int .i64 a2] 115)
  case atStart=>exact⟨n,v1,sd,rj,rl,rfl,Ab _,rfl,HEL.o,hsd,vA,b1,hB,hW,dW,L0,L1,L2⟩
  case round=>
   obtain⟨k',v2,aC,a1,a2,rfl,hk,eZ,HE,ia,bP,ta,ow,tV,kR,P0,P1,P2⟩:=hrel;clear hB hW dW L0 L1 L2
   cases k' with
   |zero=>
    subst eZ;obtain⟨c0,c1,_,_⟩:=P2.cA;obtain⟨d0,d1,g0,g1⟩:=P1.cA;have ax:=ab (And.intro ow (And.intro tV P1));have sP:¬((0:Int)<=((0:Nat):Int)-1):=(by omega);have jd:Hid (iO cs st (x1,x2)=(aC,(a1,a2))):=HE.o;clear ow tV kR P0 P1 P2 HE;go_wp2_with fail;rw[jd.o];exact mR ax.o.1 ax.o.2.1 ax.o.2.2 (by omega) (by omega) results67 rfl rfl
   |succ k=>
    subst eZ;have aiO:((k+1:Nat):Int)-1=(k:Int):=(by omega);have oA:k<cs.length:=by have:=qY.o;omega
    have hz:=qZ.o k oA;have gD:=Oc.o k oA;have c1':=gD.fI aC (x1,x2) (hx.mono ia);have O_:=gD.bJ aC (x1,x2);have zO:=gD.grow aC (x1,x2);have e3:=ET (bu cs[k] aC (x1,x2)).1 (bu cs[k] aC (x1,x2)).2 (a1,a2);have e4:=(IQ (st:=(bu cs[k] aC (x1,x2)).1) c1'.lU (ta.mono zO.1).lU (Or.inl (by have:=c1'.1;omega))).1
    have jd:Hid (iO (cs.drop k) st (x1,x2)=gC (bu cs[k] aC (x1,x2)).1 (bu cs[k] aC (x1,x2)).2 (a1,a2)):=by
     have:=HE.o;show _=_
     rw[afT (k:=k) (by have:=qY.o;omega),this]
    have iT:=ow.new ((aa.refl af wr).drew);have nE:=tV.new ((aa.refl af wr).drew);have gH:fa lo hi w0 wr.drew:=kR;have M0:bc wr.drew b v2 w.heap.size #[.int .i64 x1,.int .i64 x2] 115:=⟨P0.aj,P0.not⟩;have M1:bc wr.drew b v2 (w.heap.size+1) #[.int .i64 0,.int .i64 0] 115:=⟨P1.aj,P1.not⟩;have M2:bc wr.drew b v2 A #[.int .i64 a1,.int .i64 a2] 115:=⟨P2.aj,P2.not⟩;have PS:Hid (NZ w.heap.size A pb k (V k) x1 x2 a1 a2 wr.drew):=⟨qe.of M0 ((HK.o k (by omega)).lX gH dX.1 dX.2),M2.cA.1,M2.cA.2.1⟩;have F1:=HP.o k oA wr.drew v2 aC (x1,x2) iT (hx.mono ia) gH (by omega);simp only[Nv.val,Nv.cells,cJ]at F1;have mH:=ab F1;have PK:=ab (And.intro (And.intro iT (And.intro nE gH)) (And.intro M0 (And.intro M1 M2)));have wZ:¬((n:Int)+1<=(k:Int)):=(by omega);clear ow tV kR P0 P1 P2 iT nE gH M0 M1 M2 F1 HE gD;go_wp2_with fail;refine gW (S:=NZ w.heap.size A pb k (V k) x1 x2 a1 a2) 10 (by kernel_rfl) rfl rfl rfl (by kernel_rfl) (by kernel_rfl) ?_;have ak:=PS.o;refine ai 0 26 (.pointer (some ⟨b,0,none⟩)) ak ?_;refine ai 1 27 (.pointer (some ⟨b,0,none⟩)) ak ?_;refine ai 2 28 (.slice (some ⟨pb,0,none⟩) (n+1) pc) ak ?_;refine ai 3 29 (.int .i64 k) ak ?_;refine ai 4 30 (.pointer (some ⟨pb,k*8,none⟩)) ak ?_;refine ai 5 31 (.agg #[.int .i64 (V k).k,.slice (V k).pa (V k).pn (V k).pc,.slice (V k).sa (V k).sn (V k).sc,.int .i64 (V k).ed,.int .i64 (V k).gr,.int .i64 (V k).lo,.int .i64 (V k).hi,.bool (V k).lz]) ak ?_;refine ai 6 32 (.agg #[.int .i64 x1,.int .i64 x2]) ak ?_;refine ai 8 34 (.agg #[.int .i64 a1,.int .i64 a2]) ak ?_;simp only[Act.put,Aa,Ad,Ac];refine bQ 7 fun K hK=>?_
    go_simp;refine(mH.o).mono ?_;rintro e w5 ⟨rfl,v5,h5,k5⟩;dsimp only;obtain⟨⟨hB,hW,dW⟩,M0,M1,M2⟩:=PK.o;have S5:=dW.aX hB k5;have m0:=M0.aX k5;have m1:=M1.aX k5;have m2:=M2.aX k5;have o9:NZ w.heap.size A pb k (V k) x1 x2 a1 a2 w5:=⟨qe.of m0 ((HK.o k (by omega)).lX S5 dX.1 dX.2),m2.cA.1,m2.cA.2.1⟩;refine hK.o _ _ o9 (fun _=>?_);clear hK K;have F2:=T6 h5 (bu cs[k] aC (x1,x2)).2 (a1,a2) (by omega);simp only[cJ]at F2;have J_:=ab F2;have mN:=ab (And.intro (And.intro h5 (And.intro (hW.trans k5) S5)) (And.intro m0 (And.intro m1 m2)));clear hB hW dW M0 M1 M2 m0 m1 m2 h5 k5 o9 S5 ak PK mH F2 PS;refine bQ 9 fun K hK=>?_
    go_simp;refine(J_.o).mono ?_;rintro e w6 ⟨rfl,v6,h6,k6⟩;dsimp only;obtain⟨⟨hB,hW,dW⟩,M0,M1,M2⟩:=mN.o;have S6:=dW.aX hB k6;have m0:=M0.aX k6;have m1:=M1.aX k6;have m2:=M2.aX k6;have rC:NZ w.heap.size A pb k (V k) x1 x2 a1 a2 w6:=⟨qe.of m0 ((HK.o k (by omega)).lX S6 dX.1 dX.2),m2.cA.1,m2.cA.2.1⟩;refine hK.o _ _ rC (fun _=>?_);clear hK K;obtain⟨d0,d1,g0,g1⟩:=m2.cA;generalize hE:gC (bu cs[k] aC (x1,x2)).1 (bu cs[k] aC (x1,x2)).2 (a1,a2)=E at*;obtain⟨uC,y1,y2⟩:=E;simp only at e3 e4 h6;have N0:=(m0.a_ (d:=A) (by omega) 0 (.int .i64 y1)).a_ (d:=A) (by omega) 1 (.int .i64 y2);have N1:=(m1.a_ (d:=A) (by omega) 0 (.int .i64 y1)).a_ (d:=A) (by omega) 1 (.int .i64 y2);have N2:=(m2.setCell 0 (.int .i64 y1)).setCell 1 (.int .i64 y2);have h7:=(h6.set m2.not (by omega) 0 (.int .i64 y1)).set m2.not (by omega) 1 (.int .i64 y2);have W7:=((hW.trans k6).set (c:=A) (by omega) 0 (.int .i64 y1)).set (c:=A) (by omega) 1 (.int .i64 y2);have S7:=(S6.set (c:=A) (by omega) 0 (.int .i64 y1)).set (c:=A) (by omega) 1 (.int .i64 y2);have kh:=ab (And.intro (And.intro h7 (And.intro W7 S7)) (And.intro N0 (And.intro N1 N2)));clear hB hW dW M0 M1 M2 m0 m1 m2 h6 k6 h7 W7 S7 N0 N1 N2 rC S6 mN J_ hE;refine At (by kernel_rfl) ?_ _;unfold eN;go_wp2_with fail;go_roundg k
    case measure=>omega
    case rel=>
     obtain⟨⟨h7,W7,S7⟩,N0,N1,N2⟩:=kh.o;exact⟨k,v6,uC,y1,y2,rfl,by omega,rfl,jd,by omega,by omega,e4,h7,W7,S7,N0,N1,N2⟩
