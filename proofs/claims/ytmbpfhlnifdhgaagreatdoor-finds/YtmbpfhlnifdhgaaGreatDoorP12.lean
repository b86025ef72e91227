/- The builder's choice -/
import Derived.Test.YtmbpfhlnifdhgaaGreatDoorP11
set_option linter.unusedVariables false
set_option linter.unusedSimpArgs false
set_option maxRecDepth 100000
set_option maxHeartbeats 4000000
namespace Go.Proofs.YtmbpfhlnifdhgaaGreatDoor
open Go.Proofs.Tryz
open Go.RowKit Go.Maps
variable {eQ:Bool} {C:CT} {cq dx eG eL:Int} {cs:List CT} {M st:List MS} {vs:List Sv} {m:MS} {b base c cn g gn hi i k lo n nn pb fw e_ cN cO s start t:Nat} {V:Nat->Nv} {K R:Nat->Prop} {gu cM:Option Addr} {lv JC nv ov JH sv v:Value} {W w w' w0 w1 w2 w7:World}
theorem X8(cs:List CT)(i:Nat)(h:i<cs.length):CT.cW (cs.take (i+1))=CT.cW (cs.take i)+(cs[i]).sz:=by
 induction cs generalizing i with
 |nil=>simp at h
 |cons t ts ih=>
  cases i with
  |zero=>simp[CT.cW]
  |succ i=>
   have:=ih i (by simpa using h);simp only[Dn,CT.cW,Am];omega
theorem adC:∀{cs:List CT},CT.de cs->∀i,CT.de (cs.take i)
 | [],_,i=>by simp[CT.de]
 |c::cs,h,0=>by simp[CT.de]
 |c::cs,h,i+1=>by
  unfold CT.de at h;simp only[Dn];unfold CT.de;exact⟨h.1,adC h.2 i⟩
theorem Hf:∀{cs:List CT},CT.de cs->∀i,(h:i<cs.length)->(cs[i]).ok
 | [],_,i,h=>by simp at h
 |c::cs,h,0,_=>by unfold CT.de at h;exact h.1
 |c::cs,h,i+1,hi=>by unfold CT.de at h;exact Hf h.2 i (by simpa using hi)
theorem yK(h:CT.de cs)(i:Nat)(hi:i<cs.length):0<=CT.cW (cs.take i)/\0<=(cs[i]).sz/\CT.cW (cs.take i)+(cs[i]).sz<=CT.cW cs:=by
 have h1:=CT.xD _ (adC h i);have h2:=CT.AQ _ (Hf h i hi);refine⟨h1,h2,?_⟩;rw[<-X8 cs i hi]
 have:∀{cs:List CT},CT.de cs->∀j,CT.cW (cs.take j)<=CT.cW cs:=by
  intro cs;induction cs with
  |nil=>intro _ j;simp[CT.cW]
  |cons c cs ih=>
   intro h j;unfold CT.de at h
   cases j with
   |zero=>simp only[List.take_zero];exact CT.xD (c::cs) (by unfold CT.de;exact h)
   |succ j=>simp only[Dn,CT.cW];have:=ih h.2 j;omega
 exact this h (i+1)
theorem agq(h:cs.length=n+1):jh (cs.drop n)=bQ (cs[n]'(by omega)):=by
 rw[Bq (by omega),Ed (by omega)];unfold jh;rfl
theorem agr(h:k+1<cs.length)(st:List MS)(nx:Ex):jh (cs.drop k) st nx=gx (bQ (cs[k]'(by omega)) (jh (cs.drop (k+1)) st nx).1 nx).1 (bQ (cs[k]'(by omega)) (jh (cs.drop (k+1)) st nx).1 nx).2 (jh (cs.drop (k+1)) st nx).2:=by
 rw[Bq (i:=k) (by omega),Bq (i:=k+1) h];rw[jh]
def rq(B0 pb i:Nat)(N:Nv)(x1 x2:Int)(w':World):Prop:=
 ((w'.cell? ⟨pb,i*8,none⟩=some (.int .i64 N.k)/\w'.cell? ⟨pb,i*8+1,none⟩=some (.slice N.pa N.pn N.pc)/\w'.cell? ⟨pb,i*8+2,none⟩=some (.slice N.sa N.sn N.sc)/\w'.cell? ⟨pb,i*8+3,none⟩=some (.int .i64 N.ed))/\
   w'.cell? ⟨pb,i*8+4,none⟩=some (.int .i64 N.gr)/\w'.cell? ⟨pb,i*8+5,none⟩=some (.int .i64 N.lo)/\w'.cell? ⟨pb,i*8+6,none⟩=some (.int .i64 N.hi)/\w'.cell? ⟨pb,i*8+7,none⟩=some (.bool N.lz))/\
 w'.cell? ⟨B0,0,none⟩=some (.int .i64 x1)/\w'.cell? ⟨B0,1,none⟩=some (.int .i64 x2)
theorem rq.of{B0:Nat}{N:Nv}{x1 x2:Int}{t:TypeId}(h:bJ W b v B0 #[.int .i64 x1,.int .i64 x2] t)(hK:pV W pb i N):rq B0 pb i N x1 x2 W:=⟨hK.ib,h.cX.1,h.cX.2.1⟩
def Og(B0 A pb i:Nat)(N:Nv)(x1 x2 a1 a2:Int)(w':World):Prop:=rq B0 pb i N x1 x2 w'/\w'.cell? ⟨A,0,none⟩=some (.int .i64 a1)/\w'.cell? ⟨A,1,none⟩=some (.int .i64 a2)
theorem ahk{pc:Nat}(h:dH w b lo hi v st)(x:Ex)(hx:dv st.length x)(hS:fs lo hi w0 w)(dA:cs.length=n+1)(hn:n<=400)(bC:CT.de cs)(bm:CT.cW cs<=1000)(hP:∀i,(aS:i<cs.length)->xO b lo hi w0 (V i) cs[i])
 (dB:lo<=pb/\pb<hi)(hK:∀i,i<n+1->pV w0 pb i (V i))(dg:st.length+4*(CT.cW cs).toNat+2*n<=9000):
 Calls prog 52 #[.pointer (some ⟨b,0,none⟩),.slice (some ⟨pb,0,none⟩) (n+1) pc,cY x] w (mO w b lo hi v (jh cs st x).1 (cY (jh cs st x).2)):=by
 have ar:=h.ae.lt;have fO:=h.fO;obtain⟨x1,x2⟩:=x;have s_:pb<w.heap.size:=by omega
 have h1:=h.alloc (.cells (aP (x1,x2)) 98);have h2:=h1.alloc (.cells (aP (0,0)) 98);have l0:=(bJ.new h (aP (x1,x2)) 98).alloc (.cells (aP (0,0)) 98);have l1:=bJ.new h1 (aP (0,0)) 98;have W2:=((eM.refl b w v).alloc (.cells (aP (x1,x2)) 98)).alloc (.cells (aP (0,0)) 98);have S2:=(hS.alloc (by omega) (.cells (aP (x1,x2)) 98)).alloc (by simp;omega) (.cells (aP (0,0)) 98);simp only[tB]at l1;simp only[aP]at l0 l1 h2 W2 S2;have HK:=ai hK;have HP:=ai hP;have Ol:Hid (∀i,(aS:i<cs.length)->BS (bQ cs[i]) (4*(cs[i]).sz.toNat)):=fun i aS=>pf _ (Hf bC i aS) (by have:=yK bC i aS;omega)
 have xJ:Hid (∀i,(aS:i<cs.length)->0<=CT.cW (cs.take i)/\0<=(cs[i]).sz/\CT.cW (cs.take i)+(cs[i]).sz<=CT.cW cs/\CT.cW (cs.take (i+1))=CT.cW (cs.take i)+(cs[i]).sz):=fun i aS=>⟨(yK bC i aS).1,(yK bC i aS).2.1,(yK bC i aS).2.2,X8 cs i aS⟩
 have BF:=ai dA;have jy:=h2.new ((I.refl aq _).drew);have nN:=W2.new ((I.refl aq _).drew);have M0:bJ ((w.alloc (.cells #[.int .i64 x1,.int .i64 x2] 98)).alloc (.cells #[.int .i64 0,.int .i64 0] 98)).drew b v w.heap.size #[.int .i64 x1,.int .i64 x2] 98:=⟨l0.ae,l0.not⟩;have M1:bJ ((w.alloc (.cells #[.int .i64 x1,.int .i64 x2] 98)).alloc (.cells #[.int .i64 0,.int .i64 0] 98)).drew b v (w.heap.size+1) #[.int .i64 0,.int .i64 0] 98:=⟨l1.ae,l1.not⟩;have gG:fs lo hi w0 ((w.alloc (.cells #[.int .i64 x1,.int .i64 x2] 98)).alloc (.cells #[.int .i64 0,.int .i64 0] 98)).drew:=S2;have PS:=ai (rq.of M0 ((hK n (by omega)).mK gG dB.1 dB.2));have hz:=xJ.out n (by omega);have gj:=Ol.out n (by omega);have b1:=gj.fG st (x1,x2) hx;have b2:=gj.cB st (x1,x2);have b3:=gj.grow st (x1,x2);have EL:jh (cs.drop n) st (x1,x2)=bQ (cs[n]'(by omega)) st (x1,x2):=by rw[agq dA]
 have PK:=ai (And.intro (And.intro jy (And.intro nN gG)) (And.intro M0 M1));generalize hD:bQ (cs[n]'(by omega)) st (x1,x2)=D at*;obtain⟨sd,sG,sH⟩:=D;simp only at b1 b2 b3;have HD:=ai hD;have HEL:=ai EL;have Vl:sd.length+4*(CT.cW (cs.take n)).toNat+2*n<=9000:=by omega
 have hsd:st.length<=sd.length:=b3.1;have Qe:st.length+4*((cs[n]'(by omega)).sz).toNat<=9000:=by omega
 clear h h1 h2 l0 l1 W2 S2 hS hK hP gj hD EL jy nN gG M0 M1 b3 hz b2;simp only[cY];go_in;go_wp2_with fail;go_cut [8] (fun s8 wx=>∃(A:Nat) (v1:Value),s8=.pointer (some ⟨A,0,none⟩)/\w.heap.size+2<=A/\dH wx b lo hi v1 sd/\eM b w wx v v1/\fs lo hi w0 wx/\bJ wx b v1 w.heap.size #[.int .i64 x1,.int .i64 x2] 98/\bJ wx b v1 (w.heap.size+1) #[.int .i64 0,.int .i64 0] 98/\bJ wx b v1 A #[.int .i64 sG,.int .i64 sH] 98)
 case first=>
  have hni:¬((n:Int)+1<=(n:Int)):=by omega
  have mA:n<cs.length:=by have:=BF.out;omega
  refine kH (S:=rq w.heap.size pb n (V n) x1 x2) 8 (by kernel_rfl) rfl rfl rfl (by kernel_rfl) (by kernel_rfl) ?_;have az:=PS.out;refine aB 0 13 (.pointer (some ⟨b,0,none⟩)) az ?_;refine aB 1 14 (.slice (some ⟨pb,0,none⟩) (n+1) pc) az ?_;refine aB 2 15 (.int .i64 n) az ?_;refine aB 3 16 (.pointer (some ⟨pb,n*8,none⟩)) az ?_;refine aB 4 17 (.agg #[.int .i64 (V n).k,.slice (V n).pa (V n).pn (V n).pc,.slice (V n).sa (V n).sn (V n).sc,.int .i64 (V n).ed,.int .i64 (V n).gr,.int .i64 (V n).lo,.int .i64 (V n).hi,.bool (V n).lz]) az ?_;refine aB 5 18 (.agg #[.int .i64 x1,.int .i64 x2]) az ?_;simp only[Act.put,Ac,Ak,Aj];clear PS hni;refine Ax (rs:=[6,7]) (by kernel_rfl) (by simp) (An rfl (fun K hK=>?_) (An rfl (fun K hK=>?_) As))
  ·obtain⟨⟨hB,hW,eJ⟩,M0,M1⟩:=PK.out;have F1:=HP.out n mA _ v st (x1,x2) hB hx eJ Qe;rw[HD.out]at F1;simp only[Nv.val,Nv.cells,cY]at F1;have nw:=ai F1;clear F1 hB hW eJ M0 M1;go_simp;refine(nw.out).mono ?_;rintro e w5 ⟨rfl,v5,h5,k5⟩;dsimp only;obtain⟨⟨hB,hW,eJ⟩,M0,M1⟩:=PK.out;have S5:=eJ.bt hB k5;have m0:=M0.bt k5;have m1:=M1.bt k5;have sP:=rq.of m0 ((HK.out n (by omega)).mK S5 dB.1 dB.2);refine hK.out _ _ sP (fun _=>?_);clear hK K;have Sb:=(hW.trans k5).kept.size;have eY:=m1.ae.lt;have h6:=h5.alloc (.cells #[.int .i64 sG,.int .i64 sH] 98);have W6:=(hW.trans k5).alloc (.cells #[.int .i64 sG,.int .i64 sH] 98);have S6:=S5.alloc (by omega) (.cells #[.int .i64 sG,.int .i64 sH] 98);have N0:=m0.alloc (.cells #[.int .i64 sG,.int .i64 sH] 98);have N1:=m1.alloc (.cells #[.int .i64 sG,.int .i64 sH] 98);have N2:=bJ.new h5 #[.int .i64 sG,.int .i64 sH] 98;have sQ:=rq.of (m0.alloc (.cells #[.int .i64 0,.int .i64 0] 98)) ((HK.out n (by omega)).mK (S5.alloc (by omega) (.cells #[.int .i64 0,.int .i64 0] 98)) dB.1 dB.2);have kJ:=ai (And.intro (And.intro h6 (And.intro W6 S6)) (And.intro N0 (And.intro N1 N2)));have ZA:=ai sQ;clear hB hW eJ M0 M1 m0 m1 h5 k5 h6 W6 S6 N0 N1 N2 sQ sP S5 az PK nw;refine Ax (rs:=[7]) (by kernel_rfl) (by simp) (An rfl (fun K hK=>?_) As);go_simp;refine hK.out _ _ ZA.out (fun _=>?_);clear hK K ZA;refine Ba (by kernel_rfl) ?_ _;unfold iu;go_wp2_with fail;go_meet
   case rel=>
    obtain⟨⟨h6,W6,S6⟩,N0,N1,N2⟩:=kJ.out;exact⟨w5.heap.size,v5,rfl,by omega,h6,W6,S6,N0,N1,N2⟩
  ·obtain⟨⟨hB,hW,eJ⟩,M0,M1⟩:=PK.out;have fJ:=hB.alloc (.cells #[.int .i64 0,.int .i64 0] 98);have vh:=hW.alloc (.cells #[.int .i64 0,.int .i64 0] 98);have fN:=eJ.alloc (by simp;omega) (.cells #[.int .i64 0,.int .i64 0] 98);have Q0:=M0.alloc (.cells #[.int .i64 0,.int .i64 0] 98);have Q1:=M1.alloc (.cells #[.int .i64 0,.int .i64 0] 98);have Q2:=bJ.new hB #[.int .i64 0,.int .i64 0] 98;have F1:=HP.out n mA _ v st (x1,x2) fJ hx fN Qe;rw[HD.out]at F1;simp only[Nv.val,Nv.cells,cY]at F1;have nw:=ai F1;have abE:=ai (rq.of Q0 ((HK.out n (by omega)).mK fN dB.1 dB.2));have nA:=ai (And.intro (And.intro fJ (And.intro vh fN)) (And.intro Q0 (And.intro Q1 Q2)));clear hB hW eJ M0 M1 fJ vh fN Q0 Q1 Q2 F1 PK az;go_simp;refine hK.out _ _ abE.out (fun hS3=>?_);clear hK K abE;refine Ax (rs:=[6]) (by kernel_rfl) (by simp) (An rfl (fun K hK=>?_) As);go_simp;refine(nw.out).mono ?_;rintro e w5 ⟨rfl,v5,h5,k5⟩;dsimp only;obtain⟨⟨hB,hW,eJ⟩,M0,M1,M2⟩:=nA.out;have S5:=eJ.bt hB k5;have m0:=M0.bt k5;have m1:=M1.bt k5;have m2:=M2.bt k5;have EH:bJ w5 b v5 (w.heap.size+1+1) #[.int .i64 0,.int .i64 0] 98:=(by simpa using m2);have sP:=rq.of m0 ((HK.out n (by omega)).mK S5 dB.1 dB.2);refine hK.out _ _ sP (fun _=>?_);clear hK K;obtain⟨d0,d1,g0,g1⟩:=EH.cX;have N0:=(m0.ch (d:=w.heap.size+1+1) (by omega) 0 (.int .i64 sG)).ch (d:=w.heap.size+1+1) (by omega) 1 (.int .i64 sH);have N1:=(m1.ch (d:=w.heap.size+1+1) (by omega) 0 (.int .i64 sG)).ch (d:=w.heap.size+1+1) (by omega) 1 (.int .i64 sH);have N2:=(EH.setCell 0 (.int .i64 sG)).setCell 1 (.int .i64 sH);have h6:=(h5.set EH.not (by omega) 0 (.int .i64 sG)).set EH.not (by omega) 1 (.int .i64 sH);have W6:=((hW.trans k5).set (c:=w.heap.size+1+1) (by omega) 0 (.int .i64 sG)).set (c:=w.heap.size+1+1) (by omega) 1 (.int .i64 sH);have S6:=(S5.set (c:=w.heap.size+1+1) (by omega) 0 (.int .i64 sG)).set (c:=w.heap.size+1+1) (by omega) 1 (.int .i64 sH);have kJ:=ai (And.intro (And.intro h6 (And.intro W6 S6)) (And.intro N0 (And.intro N1 N2)));clear hB hW eJ M0 M1 M2 m0 m1 m2 EH h5 k5 h6 W6 S6 N0 N1 N2 sP S5 hS3 nA nw;refine Ba (by kernel_rfl) ?_ _;unfold iu;go_wp2_with fail;go_meet
   case rel=>
    obtain⟨⟨h6,W6,S6⟩,N0,N1,N2⟩:=kJ.out;exact⟨w.heap.size+1+1,v5,rfl,by omega,h6,W6,S6,N0,N1,N2⟩
 case rest=>
  obtain⟨A,v1,rfl,hA,hB,hW,eJ,L0,L1,L2⟩:=hcut;clear PK PS;have cS:st.length<=sd.length:=hsd;go_wp2_with fail
  go_loopg [9] n (fun kk i wr=>∃(k:Nat) (v2:Value) (ab:List MS) (a1 a2:Int),i=.int .i64 ((k:Int)-1)/\k<=n/\kk=k/\Hid (jh (cs.drop k) st (x1,x2)=(ab,(a1,a2)))/\st.length<=ab.length/\ab.length+4*(CT.cW (cs.take k)).toNat+2*k<=9000/\dv ab.length (a1,a2)/\
   dH wr b lo hi v2 ab/\eM b w wr v v2/\fs lo hi w0 wr/\bJ wr b v2 w.heap.size #[.int .i64 x1,.int .i64 x2] 98/\bJ wr b v2 (w.heap.size+1) #[.int .i64 0,.int .i64 0] 98/\bJ wr b v2 A #[.int .i64 a1,.int .i64 a2] 98)
  case atStart=>exact⟨n,v1,sd,sG,sH,rfl,Aa _,rfl,HEL.out,hsd,Vl,b1,hB,hW,eJ,L0,L1,L2⟩
  case round=>
   obtain⟨k',v2,ab,a1,a2,rfl,hk,gH,HE,iR,jk,uu,fJ,vh,fN,P0,P1,P2⟩:=hrel;clear hB hW eJ L0 L1 L2
   cases k' with
   |zero=>
    subst gH;obtain⟨c0,c1,_,_⟩:=P2.cX;obtain⟨d0,d1,g0,g1⟩:=P1.cX;have aO:=ai (And.intro fJ (And.intro vh P1));have mY:¬((0:Int)<=((0:Nat):Int)-1):=(by omega);have lH:Hid (jh cs st (x1,x2)=(ab,(a1,a2))):=HE.out;clear fJ vh fN P0 P1 P2 HE;go_wp2_with fail;rw[lH.out];exact nL aO.out.1 aO.out.2.1 aO.out.2.2 (by omega) (by omega) results52 rfl rfl
   |succ k=>
    subst gH;have P9:((k+1:Nat):Int)-1=(k:Int):=(by omega);have wQ:k<cs.length:=by have:=BF.out;omega
    have hz:=xJ.out k wQ;have gj:=Ol.out k wQ;have c1':=gj.fG ab (x1,x2) (hx.mono iR);have c2':=gj.cB ab (x1,x2);have c3':=gj.grow ab (x1,x2);have e3:=F5 (bQ cs[k] ab (x1,x2)).1 (bQ cs[k] ab (x1,x2)).2 (a1,a2);have e4:=(IB (st:=(bQ cs[k] ab (x1,x2)).1) c1'.mI (uu.mono c3'.1).mI (Or.inl (by have:=c1'.1;omega))).1
    have lH:Hid (jh (cs.drop k) st (x1,x2)=gx (bQ cs[k] ab (x1,x2)).1 (bQ cs[k] ab (x1,x2)).2 (a1,a2)):=by
     have:=HE.out;show _=_
     rw[agr (k:=k) (by have:=BF.out;omega),this]
    have jy:=fJ.new ((I.refl aq wr).drew);have nN:=vh.new ((I.refl aq wr).drew);have gG:fs lo hi w0 wr.drew:=fN;have M0:bJ wr.drew b v2 w.heap.size #[.int .i64 x1,.int .i64 x2] 98:=⟨P0.ae,P0.not⟩;have M1:bJ wr.drew b v2 (w.heap.size+1) #[.int .i64 0,.int .i64 0] 98:=⟨P1.ae,P1.not⟩;have M2:bJ wr.drew b v2 A #[.int .i64 a1,.int .i64 a2] 98:=⟨P2.ae,P2.not⟩;have PS:Hid (Og w.heap.size A pb k (V k) x1 x2 a1 a2 wr.drew):=⟨rq.of M0 ((HK.out k (by omega)).mK gG dB.1 dB.2),M2.cX.1,M2.cX.2.1⟩;have F1:=HP.out k wQ wr.drew v2 ab (x1,x2) jy (hx.mono iR) gG (by omega);simp only[Nv.val,Nv.cells,cY]at F1;have nw:=ai F1;have PK:=ai (And.intro (And.intro jy (And.intro nN gG)) (And.intro M0 (And.intro M1 M2)));have I7:¬((n:Int)+1<=(k:Int)):=(by omega);clear fJ vh fN P0 P1 P2 jy nN gG M0 M1 M2 F1 HE gj;go_wp2_with fail;refine kH (S:=Og w.heap.size A pb k (V k) x1 x2 a1 a2) 10 (by kernel_rfl) rfl rfl rfl (by kernel_rfl) (by kernel_rfl) ?_;have az:=PS.out;refine aB 0 26 (.pointer (some ⟨b,0,none⟩)) az ?_;refine aB 1 27 (.pointer (some ⟨b,0,none⟩)) az ?_;refine aB 2 28 (.slice (some ⟨pb,0,none⟩) (n+1) pc) az ?_;refine aB 3 29 (.int .i64 k) az ?_;refine aB 4 30 (.pointer (some ⟨pb,k*8,none⟩)) az ?_;refine aB 5 31 (.agg #[.int .i64 (V k).k,.slice (V k).pa (V k).pn (V k).pc,.slice (V k).sa (V k).sn (V k).sc,.int .i64 (V k).ed,.int .i64 (V k).gr,.int .i64 (V k).lo,.int .i64 (V k).hi,.bool (V k).lz]) az ?_;refine aB 6 32 (.agg #[.int .i64 x1,.int .i64 x2]) az ?_;refine aB 8 34 (.agg #[.int .i64 a1,.int .i64 a2]) az ?_;simp only[Act.put,Ac,Ak,Aj];refine Ax (rs:=[7]) (by kernel_rfl) (by simp) (An rfl (fun K hK=>?_) As);go_simp;refine(nw.out).mono ?_;rintro e w5 ⟨rfl,v5,h5,k5⟩;dsimp only;obtain⟨⟨hB,hW,eJ⟩,M0,M1,M2⟩:=PK.out;have S5:=eJ.bt hB k5;have m0:=M0.bt k5;have m1:=M1.bt k5;have m2:=M2.bt k5;have sP:Og w.heap.size A pb k (V k) x1 x2 a1 a2 w5:=⟨rq.of m0 ((HK.out k (by omega)).mK S5 dB.1 dB.2),m2.cX.1,m2.cX.2.1⟩;refine hK.out _ _ sP (fun _=>?_);clear hK K;have F2:=Uu h5 (bQ cs[k] ab (x1,x2)).2 (a1,a2) (by omega);simp only[cY]at F2;have Kb:=ai F2;have nA:=ai (And.intro (And.intro h5 (And.intro (hW.trans k5) S5)) (And.intro m0 (And.intro m1 m2)));clear hB hW eJ M0 M1 M2 m0 m1 m2 h5 k5 sP S5 az PK nw F2 PS;refine Ax (rs:=[9]) (by kernel_rfl) (by simp) (An rfl (fun K hK=>?_) As);go_simp;refine(Kb.out).mono ?_;rintro e w6 ⟨rfl,v6,h6,k6⟩;dsimp only;obtain⟨⟨hB,hW,eJ⟩,M0,M1,M2⟩:=nA.out;have S6:=eJ.bt hB k6;have m0:=M0.bt k6;have m1:=M1.bt k6;have m2:=M2.bt k6;have sQ:Og w.heap.size A pb k (V k) x1 x2 a1 a2 w6:=⟨rq.of m0 ((HK.out k (by omega)).mK S6 dB.1 dB.2),m2.cX.1,m2.cX.2.1⟩;refine hK.out _ _ sQ (fun _=>?_);clear hK K;obtain⟨d0,d1,g0,g1⟩:=m2.cX;generalize hE:gx (bQ cs[k] ab (x1,x2)).1 (bQ cs[k] ab (x1,x2)).2 (a1,a2)=E at*;obtain⟨bF,y1,y2⟩:=E;simp only at e3 e4 h6;have N0:=(m0.ch (d:=A) (by omega) 0 (.int .i64 y1)).ch (d:=A) (by omega) 1 (.int .i64 y2);have N1:=(m1.ch (d:=A) (by omega) 0 (.int .i64 y1)).ch (d:=A) (by omega) 1 (.int .i64 y2);have N2:=(m2.setCell 0 (.int .i64 y1)).setCell 1 (.int .i64 y2);have h7:=(h6.set m2.not (by omega) 0 (.int .i64 y1)).set m2.not (by omega) 1 (.int .i64 y2);have W7:=((hW.trans k6).set (c:=A) (by omega) 0 (.int .i64 y1)).set (c:=A) (by omega) 1 (.int .i64 y2);have S7:=(S6.set (c:=A) (by omega) 0 (.int .i64 y1)).set (c:=A) (by omega) 1 (.int .i64 y2);have kJ:=ai (And.intro (And.intro h7 (And.intro W7 S7)) (And.intro N0 (And.intro N1 N2)));clear hB hW eJ M0 M1 M2 m0 m1 m2 h6 k6 h7 W7 S7 N0 N1 N2 sQ S6 nA Kb hE;refine Ba (by kernel_rfl) ?_ _;unfold iu;go_wp2_with fail;go_roundg k
    case measure=>omega
    case rel=>
     obtain⟨⟨h7,W7,S7⟩,N0,N1,N2⟩:=kJ.out;exact⟨k,v6,bF,y1,y2,rfl,by omega,rfl,lH,by omega,by omega,e4,h7,W7,S7,N0,N1,N2⟩
theorem gF.mK{bs:Nat}{S:bN}(h:gF w0 bs S)(hs:fs lo hi w0 w)(hb:S≠ []->lo<=bs/\bs<hi):gF w bs S:=fun i aS=>by
 have aF:S≠ []:=by intro e;subst e;simp at aS
 obtain⟨b1,b2⟩:=hb aF;exact⟨(hs.cell b1 b2).trans (h i aS).1,(hs.cell b1 b2).trans (h i aS).2⟩
theorem agu(h:k<cs.length)(st:List MS)(nx:Ex):kL (cs.drop k) st nx=bQ cs[k] (kL (cs.drop (k+1)) st nx).1 (kL (cs.drop (k+1)) st nx).2:=by
 rw[Bq h];rw[kL]
theorem Z7(h:cs.length=1):mS cs=bQ (cs[0]'(by omega)):=by
 match cs,h with
 | [c],_=>rw[mS];rfl
theorem aff(h:cs.length=1):CT.cW cs=(cs[0]'(by omega)).sz:=by
 match cs,h with
 | [c],_=>simp[CT.cW]
def Tu(B0 pb i:Nat)(pn pc:Nat)(N:Nv)(x1 x2:Int)(w':World):Prop:=rq (B0+1) pb i N x1 x2 w'/\w'.cell? ⟨B0,1,none⟩=some (.slice (some ⟨pb,0,none⟩) pn pc)
theorem amC(h:dH w b lo hi v st)(x:Ex)(hS:fs lo hi w0 w){m:Int->MS}(hm:∀W n,fs lo hi w0 W->gw W lo hi ⟨1,cM,cO,cN,0,0,n,0⟩ (m n))(dg:st.length<10000):
 Calls prog 30 #[.pointer (some ⟨b,0,none⟩),Nv.val ⟨0,gu,e_,fw,cM,cO,cN,cq,dx,eL,eG,eQ⟩,cY x] w (mO w b lo hi v (st++[m x.2]) (cY (st.length,st.length))):=by
 have ar:=h.ae.lt;have fO:=h.fO;obtain⟨x1,x2⟩:=x;have h1:=h.alloc (.cells #[.int .i64 0,.slice gu e_ fw,.slice cM cO cN,.int .i64 cq,.int .i64 dx,.int .i64 eL,.int .i64 eG,.bool eQ] 43);have h2:=h1.alloc (.cells (aP (x1,x2)) 98);have h3:=h2.alloc (.cells (aP (0,0)) 98);have l0:=((bJ.new h #[.int .i64 0,.slice gu e_ fw,.slice cM cO cN,.int .i64 cq,.int .i64 dx,.int .i64 eL,.int .i64 eG,.bool eQ] 43).alloc (.cells (aP (x1,x2)) 98)).alloc (.cells (aP (0,0)) 98);have l1:=(bJ.new h1 (aP (x1,x2)) 98).alloc (.cells (aP (0,0)) 98);have l2:=bJ.new h2 (aP (0,0)) 98;have W3:=(((eM.refl b w v).alloc (.cells #[.int .i64 0,.slice gu e_ fw,.slice cM cO cN,.int .i64 cq,.int .i64 dx,.int .i64 eL,.int .i64 eG,.bool eQ] 43)).alloc (.cells (aP (x1,x2)) 98)).alloc (.cells (aP (0,0)) 98);have S3:=((hS.alloc (by omega) (.cells #[.int .i64 0,.slice gu e_ fw,.slice cM cO cN,.int .i64 cq,.int .i64 dx,.int .i64 eL,.int .i64 eG,.bool eQ] 43)).alloc (by simp;omega) (.cells (aP (x1,x2)) 98)).alloc (by simp;omega) (.cells (aP (0,0)) 98);simp only[tB]at l1 l2;simp only[aP]at l0 l1 l2 h3 W3 S3;simp only[Nv.val,Nv.cells,cY];have F1:=Ik h3 (hm _ x2 S3) dg;simp only[Sv.val,Sv.cells]at F1;have F1:=ai F1;have PK:=ai (And.intro l2 W3);clear h h1 h2 h3 l0 l1 l2 W3 S3 hS hm;go_in;go_wp2_with fail;refine(F1.out).mono ?_;rintro e w4 ⟨rfl,v4,h4,jn⟩;have m2:=PK.out.1.bt jn;obtain⟨c0,c1,f0,f1⟩:=m2.cX;have aO:=ai (And.intro h4 (And.intro (PK.out.2.trans jn) m2));clear m2 h4 jn F1 PK;go_wp2_with fail;exact nL aO.out.1 aO.out.2.1 aO.out.2.2 (by omega) (by omega) results30 rfl rfl
theorem amB(h:dH w b lo hi v st)(x:Ex)(hS:fs lo hi w0 w)(dg:st.length+2<=10000):
 Calls prog 30 #[.pointer (some ⟨b,0,none⟩),Nv.val ⟨1,gu,e_,fw,cM,cO,cN,cq,dx,eL,eG,eQ⟩,cY x] w (mO w b lo hi v (ft (tC cq) st x).1 (cY (ft (tC cq) st x).2)):=by
 have ar:=h.ae.lt;have fO:=h.fO;obtain⟨x1,x2⟩:=x;have h1:=h.alloc (.cells #[.int .i64 1,.slice gu e_ fw,.slice cM cO cN,.int .i64 cq,.int .i64 dx,.int .i64 eL,.int .i64 eG,.bool eQ] 43);have h2:=h1.alloc (.cells (aP (x1,x2)) 98);have h3:=h2.alloc (.cells (aP (0,0)) 98);have l0:=((bJ.new h #[.int .i64 1,.slice gu e_ fw,.slice cM cO cN,.int .i64 cq,.int .i64 dx,.int .i64 eL,.int .i64 eG,.bool eQ] 43).alloc (.cells (aP (x1,x2)) 98)).alloc (.cells (aP (0,0)) 98);have l1:=(bJ.new h1 (aP (x1,x2)) 98).alloc (.cells (aP (0,0)) 98);have l2:=bJ.new h2 (aP (0,0)) 98;have W3:=(((eM.refl b w v).alloc (.cells #[.int .i64 1,.slice gu e_ fw,.slice cM cO cN,.int .i64 cq,.int .i64 dx,.int .i64 eL,.int .i64 eG,.bool eQ] 43)).alloc (.cells (aP (x1,x2)) 98)).alloc (.cells (aP (0,0)) 98);have S3:=((hS.alloc (by omega) (.cells #[.int .i64 1,.slice gu e_ fw,.slice cM cO cN,.int .i64 cq,.int .i64 dx,.int .i64 eL,.int .i64 eG,.bool eQ] 43)).alloc (by simp;omega) (.cells (aP (x1,x2)) 98)).alloc (by simp;omega) (.cells (aP (0,0)) 98);simp only[tB]at l1 l2;simp only[aP]at l0 l1 l2 h3 W3 S3;simp only[Nv.val,Nv.cells,cY];have F1:=WK h3 ⟨2,none,0,0,cq,0,0,0⟩ (tC cq) (fun W n=>gw.vQ W lo hi _ n) (x1,x2) (by omega);simp only[Sv.val,Sv.cells,cY]at F1;have F1:=ai F1;have PK:=ai (And.intro l2 W3);clear h h1 h2 h3 l0 l1 l2 W3 S3 hS;go_in;go_wp2_with fail;refine(F1.out).mono ?_;rintro e w4 ⟨rfl,v4,h4,jn⟩;have m2:=PK.out.1.bt jn;obtain⟨c0,c1,f0,f1⟩:=m2.cX;have aO:=ai (And.intro h4 (And.intro (PK.out.2.trans jn) m2));clear m2 h4 jn F1 PK;go_wp2_with fail;exact nL aO.out.1 aO.out.2.1 aO.out.2.2 (by omega) (by omega) results30 rfl rfl
theorem amy(h:dH w b lo hi v st)(x:Ex)(hS:fs lo hi w0 w){R:List MS×Ex}(hF:∀W,dH W b lo hi v st->fs lo hi w0 W->Calls prog 51 #[.pointer (some ⟨b,0,none⟩),Nv.val ⟨2,gu,e_,fw,cM,cO,cN,cq,dx,eL,eG,eQ⟩,cY x] W (mO W b lo hi v R.1 (cY R.2))):
 Calls prog 30 #[.pointer (some ⟨b,0,none⟩),Nv.val ⟨2,gu,e_,fw,cM,cO,cN,cq,dx,eL,eG,eQ⟩,cY x] w (mO w b lo hi v R.1 (cY R.2)):=by
 have ar:=h.ae.lt;have fO:=h.fO;obtain⟨x1,x2⟩:=x;have h1:=h.alloc (.cells #[.int .i64 2,.slice gu e_ fw,.slice cM cO cN,.int .i64 cq,.int .i64 dx,.int .i64 eL,.int .i64 eG,.bool eQ] 43);have h2:=h1.alloc (.cells (aP (x1,x2)) 98);have h3:=h2.alloc (.cells (aP (0,0)) 98);have l0:=((bJ.new h #[.int .i64 2,.slice gu e_ fw,.slice cM cO cN,.int .i64 cq,.int .i64 dx,.int .i64 eL,.int .i64 eG,.bool eQ] 43).alloc (.cells (aP (x1,x2)) 98)).alloc (.cells (aP (0,0)) 98);have l1:=(bJ.new h1 (aP (x1,x2)) 98).alloc (.cells (aP (0,0)) 98);have l2:=bJ.new h2 (aP (0,0)) 98;have W3:=(((eM.refl b w v).alloc (.cells #[.int .i64 2,.slice gu e_ fw,.slice cM cO cN,.int .i64 cq,.int .i64 dx,.int .i64 eL,.int .i64 eG,.bool eQ] 43)).alloc (.cells (aP (x1,x2)) 98)).alloc (.cells (aP (0,0)) 98);have S3:=((hS.alloc (by omega) (.cells #[.int .i64 2,.slice gu e_ fw,.slice cM cO cN,.int .i64 cq,.int .i64 dx,.int .i64 eL,.int .i64 eG,.bool eQ] 43)).alloc (by simp;omega) (.cells (aP (x1,x2)) 98)).alloc (by simp;omega) (.cells (aP (0,0)) 98);simp only[tB]at l1 l2;simp only[aP]at l0 l1 l2 h3 W3 S3;obtain⟨NZ,r1,r2⟩:=R;simp only[Nv.val,Nv.cells,cY];have F1:=hF _ h3 S3;simp only[Nv.val,Nv.cells,cY]at F1;have F1:=ai F1;have PK:=ai (And.intro l2 W3);clear h h1 h2 h3 l0 l1 l2 W3 S3 hS hF;go_in;go_wp2_with fail;refine(F1.out).mono ?_;rintro e w4 ⟨rfl,v4,h4,jn⟩;have m2:=PK.out.1.bt jn;obtain⟨c0,c1,f0,f1⟩:=m2.cX;have aO:=ai (And.intro h4 (And.intro (PK.out.2.trans jn) m2));clear m2 h4 jn F1 PK;go_wp2_with fail;exact nL aO.out.1 aO.out.2.1 aO.out.2.2 (by omega) (by omega) results30 rfl rfl
theorem amz(h:dH w b lo hi v st)(x:Ex)(hS:fs lo hi w0 w){R:List MS×Ex}(hF:∀W,dH W b lo hi v st->fs lo hi w0 W->Calls prog 52 #[.pointer (some ⟨b,0,none⟩),.slice gu e_ fw,cY x] W (mO W b lo hi v R.1 (cY R.2))):
 Calls prog 30 #[.pointer (some ⟨b,0,none⟩),Nv.val ⟨4,gu,e_,fw,cM,cO,cN,cq,dx,eL,eG,eQ⟩,cY x] w (mO w b lo hi v R.1 (cY R.2)):=by
 have ar:=h.ae.lt;have fO:=h.fO;obtain⟨x1,x2⟩:=x;have h1:=h.alloc (.cells #[.int .i64 4,.slice gu e_ fw,.slice cM cO cN,.int .i64 cq,.int .i64 dx,.int .i64 eL,.int .i64 eG,.bool eQ] 43);have h2:=h1.alloc (.cells (aP (x1,x2)) 98);have h3:=h2.alloc (.cells (aP (0,0)) 98);have l0:=((bJ.new h #[.int .i64 4,.slice gu e_ fw,.slice cM cO cN,.int .i64 cq,.int .i64 dx,.int .i64 eL,.int .i64 eG,.bool eQ] 43).alloc (.cells (aP (x1,x2)) 98)).alloc (.cells (aP (0,0)) 98);have l1:=(bJ.new h1 (aP (x1,x2)) 98).alloc (.cells (aP (0,0)) 98);have l2:=bJ.new h2 (aP (0,0)) 98;have W3:=(((eM.refl b w v).alloc (.cells #[.int .i64 4,.slice gu e_ fw,.slice cM cO cN,.int .i64 cq,.int .i64 dx,.int .i64 eL,.int .i64 eG,.bool eQ] 43)).alloc (.cells (aP (x1,x2)) 98)).alloc (.cells (aP (0,0)) 98);have S3:=((hS.alloc (by omega) (.cells #[.int .i64 4,.slice gu e_ fw,.slice cM cO cN,.int .i64 cq,.int .i64 dx,.int .i64 eL,.int .i64 eG,.bool eQ] 43)).alloc (by simp;omega) (.cells (aP (x1,x2)) 98)).alloc (by simp;omega) (.cells (aP (0,0)) 98);simp only[tB]at l1 l2;simp only[aP]at l0 l1 l2 h3 W3 S3;obtain⟨NZ,r1,r2⟩:=R;simp only[Nv.val,Nv.cells,cY];have F1:=hF _ h3 S3;simp only[cY]at F1;have F1:=ai F1;have PK:=ai (And.intro l2 W3);clear h h1 h2 h3 l0 l1 l2 W3 S3 hS hF;go_in;go_wp2_with fail;refine(F1.out).mono ?_;rintro e w4 ⟨rfl,v4,h4,jn⟩;have m2:=PK.out.1.bt jn;obtain⟨c0,c1,f0,f1⟩:=m2.cX;have aO:=ai (And.intro h4 (And.intro (PK.out.2.trans jn) m2));clear m2 h4 jn F1 PK;go_wp2_with fail;exact nL aO.out.1 aO.out.2.1 aO.out.2.2 (by omega) (by omega) results30 rfl rfl
theorem amD(h:dH w b lo hi v st)(x:Ex)(hS:fs lo hi w0 w){R:List MS×Ex}(hF:∀W,dH W b lo hi v st->fs lo hi w0 W->Calls prog 53 #[.pointer (some ⟨b,0,none⟩),Nv.val ⟨5,gu,e_,fw,cM,cO,cN,cq,dx,eL,eG,eQ⟩,cY x] W (mO W b lo hi v R.1 (cY R.2))):
 Calls prog 30 #[.pointer (some ⟨b,0,none⟩),Nv.val ⟨5,gu,e_,fw,cM,cO,cN,cq,dx,eL,eG,eQ⟩,cY x] w (mO w b lo hi v R.1 (cY R.2)):=by
 have ar:=h.ae.lt;have fO:=h.fO;obtain⟨x1,x2⟩:=x;have h1:=h.alloc (.cells #[.int .i64 5,.slice gu e_ fw,.slice cM cO cN,.int .i64 cq,.int .i64 dx,.int .i64 eL,.int .i64 eG,.bool eQ] 43);have h2:=h1.alloc (.cells (aP (x1,x2)) 98);have h3:=h2.alloc (.cells (aP (0,0)) 98);have l0:=((bJ.new h #[.int .i64 5,.slice gu e_ fw,.slice cM cO cN,.int .i64 cq,.int .i64 dx,.int .i64 eL,.int .i64 eG,.bool eQ] 43).alloc (.cells (aP (x1,x2)) 98)).alloc (.cells (aP (0,0)) 98);have l1:=(bJ.new h1 (aP (x1,x2)) 98).alloc (.cells (aP (0,0)) 98);have l2:=bJ.new h2 (aP (0,0)) 98;have W3:=(((eM.refl b w v).alloc (.cells #[.int .i64 5,.slice gu e_ fw,.slice cM cO cN,.int .i64 cq,.int .i64 dx,.int .i64 eL,.int .i64 eG,.bool eQ] 43)).alloc (.cells (aP (x1,x2)) 98)).alloc (.cells (aP (0,0)) 98);have S3:=((hS.alloc (by omega) (.cells #[.int .i64 5,.slice gu e_ fw,.slice cM cO cN,.int .i64 cq,.int .i64 dx,.int .i64 eL,.int .i64 eG,.bool eQ] 43)).alloc (by simp;omega) (.cells (aP (x1,x2)) 98)).alloc (by simp;omega) (.cells (aP (0,0)) 98);simp only[tB]at l1 l2;simp only[aP]at l0 l1 l2 h3 W3 S3;obtain⟨NZ,r1,r2⟩:=R;simp only[Nv.val,Nv.cells,cY];have F1:=hF _ h3 S3;simp only[Nv.val,Nv.cells,cY]at F1;have F1:=ai F1;have PK:=ai (And.intro l2 W3);clear h h1 h2 h3 l0 l1 l2 W3 S3 hS hF;go_in;go_wp2_with fail;refine(F1.out).mono ?_;rintro e w4 ⟨rfl,v4,h4,jn⟩;have m2:=PK.out.1.bt jn;obtain⟨c0,c1,f0,f1⟩:=m2.cX;have aO:=ai (And.intro h4 (And.intro (PK.out.2.trans jn) m2));clear m2 h4 jn F1 PK;go_wp2_with fail;exact nL aO.out.1 aO.out.2.1 aO.out.2.2 (by omega) (by omega) results30 rfl rfl
theorem amA(h:dH w b lo hi v st)(x:Ex)(hS:fs lo hi w0 w)(hx:dv st.length x)(dA:cs.length=n)(hn:n<=400)(bC:CT.de cs)(bm:CT.cW cs<=1000)(hP:∀i,(aS:i<cs.length)->xO b lo hi w0 (V i) cs[i])
 (iD:e_=n)(dB:0<n->gu=some ⟨pb,0,none⟩/\lo<=pb/\pb<hi)(hK:∀i,i<n->pV w0 pb i (V i))(dg:st.length+4*(CT.cW cs).toNat<=9000):
 Calls prog 30 #[.pointer (some ⟨b,0,none⟩),Nv.val ⟨3,gu,e_,fw,cM,cO,cN,cq,dx,eL,eG,eQ⟩,cY x] w (mO w b lo hi v (kL cs st x).1 (cY (kL cs st x).2)):=by
 have ar:=h.ae.lt;have fO:=h.fO;obtain⟨x1,x2⟩:=x;have h1:=h.alloc (.cells #[.int .i64 3,.slice gu e_ fw,.slice cM cO cN,.int .i64 cq,.int .i64 dx,.int .i64 eL,.int .i64 eG,.bool eQ] 43);have h2:=h1.alloc (.cells (aP (x1,x2)) 98);have h3:=h2.alloc (.cells (aP (0,0)) 98);have l0:=((bJ.new h #[.int .i64 3,.slice gu e_ fw,.slice cM cO cN,.int .i64 cq,.int .i64 dx,.int .i64 eL,.int .i64 eG,.bool eQ] 43).alloc (.cells (aP (x1,x2)) 98)).alloc (.cells (aP (0,0)) 98);have l1:=(bJ.new h1 (aP (x1,x2)) 98).alloc (.cells (aP (0,0)) 98);have l2:=bJ.new h2 (aP (0,0)) 98;have W3:=(((eM.refl b w v).alloc (.cells #[.int .i64 3,.slice gu e_ fw,.slice cM cO cN,.int .i64 cq,.int .i64 dx,.int .i64 eL,.int .i64 eG,.bool eQ] 43)).alloc (.cells (aP (x1,x2)) 98)).alloc (.cells (aP (0,0)) 98);have S3:=((hS.alloc (by omega) (.cells #[.int .i64 3,.slice gu e_ fw,.slice cM cO cN,.int .i64 cq,.int .i64 dx,.int .i64 eL,.int .i64 eG,.bool eQ] 43)).alloc (by simp;omega) (.cells (aP (x1,x2)) 98)).alloc (by simp;omega) (.cells (aP (0,0)) 98);simp only[tB]at l1 l2;simp only[aP]at l0 l1 l2 h3 W3 S3;subst iD;have HK:=ai hK;have HP:=ai hP;have Ol:Hid (∀i,(aS:i<cs.length)->BS (bQ cs[i]) (4*(cs[i]).sz.toNat)):=fun i aS=>pf _ (Hf bC i aS) (by have:=yK bC i aS;omega)
 have xJ:Hid (∀i,(aS:i<cs.length)->0<=CT.cW (cs.take i)/\0<=(cs[i]).sz/\CT.cW (cs.take i)+(cs[i]).sz<=CT.cW cs/\CT.cW (cs.take (i+1))=CT.cW (cs.take i)+(cs[i]).sz):=fun i aS=>⟨(yK bC i aS).1,(yK bC i aS).2.1,(yK bC i aS).2.2,X8 cs i aS⟩
 have BF:=ai dA;have HPB:=ai dB
 have HE0:Hid (kL (cs.drop e_) st (x1,x2)=(st,(x1,x2))):=by
  show _=_
  rw[Ed (by omega)];rw[kL]
 have L_:st.length+4*(CT.cW (cs.take e_)).toNat<=9000:=by rw[Cp (by omega)];exact dg
 have gg:=ai (And.intro (And.intro l0 (And.intro l1 l2)) (And.intro W3 (And.intro h3 S3)));clear h h1 h2 h3 l0 l1 l2 W3 S3 hS hK hP dB;simp only[Nv.val,Nv.cells,cY];go_in;go_wp2_with fail
 go_loopg [8] e_ (fun kk i wr=>∃(k:Nat) (v2:Value) (ab:List MS) (a1 a2:Int),i=.int .i64 ((k:Int)-1)/\k<=e_/\kk=k/\Hid (kL (cs.drop k) st (x1,x2)=(ab,(a1,a2)))/\ab.length+4*(CT.cW (cs.take k)).toNat<=9000/\dv ab.length (a1,a2)/\
  dH wr b lo hi v2 ab/\eM b w wr v v2/\fs lo hi w0 wr/\bJ wr b v2 w.heap.size #[.int .i64 3,.slice gu e_ fw,.slice cM cO cN,.int .i64 cq,.int .i64 dx,.int .i64 eL,.int .i64 eG,.bool eQ] 43/\bJ wr b v2 (w.heap.size+1) #[.int .i64 a1,.int .i64 a2] 98/\bJ wr b v2 (w.heap.size+1+1) #[.int .i64 0,.int .i64 0] 98)
 case atStart=>
  obtain⟨⟨l0,l1,l2⟩,W3,h3,S3⟩:=gg.out;exact⟨e_,v,st,x1,x2,rfl,Aa _,rfl,HE0,L_,hx,h3,W3,S3,l0,l1,l2⟩
 case round=>
  obtain⟨k',v2,ab,a1,a2,rfl,hk,gH,HE,jk,uu,fJ,vh,fN,P0,P1,P2⟩:=hrel;clear gg
  cases k' with
  |zero=>
   subst gH;obtain⟨c0,c1,_,_⟩:=P1.cX;obtain⟨d0,d1,g0,g1⟩:=P2.cX;have aO:=ai (And.intro fJ (And.intro vh P2));have mY:¬((0:Int)<=((0:Nat):Int)-1):=(by omega);have lH:Hid (kL cs st (x1,x2)=(ab,(a1,a2))):=HE.out;clear fJ vh fN P0 P1 P2 HE;go_wp2_with fail;rw[lH.out];exact nL aO.out.1 aO.out.2.1 aO.out.2.2 (by omega) (by omega) results30 rfl rfl
  |succ k=>
   subst gH;obtain⟨nV,s_,oI⟩:=HPB.out (by omega);have P9:((k+1:Nat):Int)-1=(k:Int):=(by omega);have wQ:k<cs.length:=by have:=BF.out;omega
   have hz:=xJ.out k wQ;have gj:=Ol.out k wQ;have c1':=gj.fG ab (a1,a2) uu;have c2':=gj.cB ab (a1,a2);have c3':=gj.grow ab (a1,a2)
   have lH:Hid (kL (cs.drop k) st (x1,x2)=bQ cs[k] ab (a1,a2)):=by
    have:=HE.out;show _=_
    rw[agu wQ,this]
   subst nV;have jy:=fJ.new ((I.refl aq wr).drew);have nN:=vh.new ((I.refl aq wr).drew);have gG:fs lo hi w0 wr.drew:=fN;have M0:bJ wr.drew b v2 w.heap.size #[.int .i64 3,.slice (some ⟨pb,0,none⟩) e_ fw,.slice cM cO cN,.int .i64 cq,.int .i64 dx,.int .i64 eL,.int .i64 eG,.bool eQ] 43:=⟨P0.ae,P0.not⟩;have M1:bJ wr.drew b v2 (w.heap.size+1) #[.int .i64 a1,.int .i64 a2] 98:=⟨P1.ae,P1.not⟩;have M2:bJ wr.drew b v2 (w.heap.size+1+1) #[.int .i64 0,.int .i64 0] 98:=⟨P2.ae,P2.not⟩;have PS:Hid (Tu w.heap.size pb k e_ fw (V k) a1 a2 wr.drew):=⟨rq.of M1 ((HK.out k (by omega)).mK gG s_ oI),M0.ae.cell 1⟩;have F1:=HP.out k wQ wr.drew v2 ab (a1,a2) jy uu gG (by omega);simp only[Nv.val,Nv.cells,cY]at F1;have nw:=ai F1;have PK:=ai (And.intro (And.intro jy (And.intro nN gG)) (And.intro M0 (And.intro M1 M2)));have I7:¬((e_:Int)<=(k:Int)):=(by omega);clear fJ vh fN P0 P1 P2 jy nN gG M0 M1 M2 F1 HE gj;go_wp2_with fail;refine kH (S:=Tu w.heap.size pb k e_ fw (V k) a1 a2) 8 (by kernel_rfl) rfl rfl rfl (by kernel_rfl) (by kernel_rfl) ?_;have az:=PS.out;refine aB 0 47 (.pointer (some ⟨b,0,none⟩)) az ?_;refine aB 1 48 (.pointer (some ⟨w.heap.size,1,none⟩)) az ?_;refine aB 2 49 (.slice (some ⟨pb,0,none⟩) e_ fw) az ?_;refine aB 3 50 (.int .i64 k) az ?_;refine aB 4 51 (.pointer (some ⟨pb,k*8,none⟩)) az ?_;refine aB 5 52 (.agg #[.int .i64 (V k).k,.slice (V k).pa (V k).pn (V k).pc,.slice (V k).sa (V k).sn (V k).sc,.int .i64 (V k).ed,.int .i64 (V k).gr,.int .i64 (V k).lo,.int .i64 (V k).hi,.bool (V k).lz]) az ?_;refine aB 6 53 (.agg #[.int .i64 a1,.int .i64 a2]) az ?_;simp only[Act.put,Ac,Ak,Aj];refine Ax (rs:=[7]) (by kernel_rfl) (by simp) (An rfl (fun K hK=>?_) As);go_simp;refine(nw.out).mono ?_;rintro e w5 ⟨rfl,v5,h5,k5⟩;dsimp only;obtain⟨⟨hB,hW,eJ⟩,M0,M1,M2⟩:=PK.out;have S5:=eJ.bt hB k5;have m0:=M0.bt k5;have m1:=M1.bt k5;have m2:=M2.bt k5;have sP:Tu w.heap.size pb k e_ fw (V k) a1 a2 w5:=⟨rq.of m1 ((HK.out k (by omega)).mK S5 s_ oI),m0.ae.cell 1⟩;refine hK.out _ _ sP (fun _=>?_);clear hK K;obtain⟨d0,d1,g0,g1⟩:=m1.cX;generalize hE:bQ cs[k] ab (a1,a2)=E at*;obtain⟨bF,y1,y2⟩:=E;simp only at c1' c2' c3' h5;have N0:=(m0.ch (d:=w.heap.size+1) (by omega) 0 (.int .i64 y1)).ch (d:=w.heap.size+1) (by omega) 1 (.int .i64 y2);have N2:=(m2.ch (d:=w.heap.size+1) (by omega) 0 (.int .i64 y1)).ch (d:=w.heap.size+1) (by omega) 1 (.int .i64 y2);have N1:=(m1.setCell 0 (.int .i64 y1)).setCell 1 (.int .i64 y2);have h7:=(h5.set m1.not (by omega) 0 (.int .i64 y1)).set m1.not (by omega) 1 (.int .i64 y2);have W7:=((hW.trans k5).set (c:=w.heap.size+1) (by omega) 0 (.int .i64 y1)).set (c:=w.heap.size+1) (by omega) 1 (.int .i64 y2);have S7:=(S5.set (c:=w.heap.size+1) (by omega) 0 (.int .i64 y1)).set (c:=w.heap.size+1) (by omega) 1 (.int .i64 y2);have kJ:=ai (And.intro (And.intro h7 (And.intro W7 S7)) (And.intro N0 (And.intro N1 N2)));clear hB hW eJ M0 M1 M2 m0 m1 m2 h5 k5 h7 W7 S7 N0 N1 N2 sP S5 nw hE az PK PS;refine Ba (by kernel_rfl) ?_ _;unfold iu;go_wp2_with fail;go_roundg k
   case measure=>omega
   case rel=>
    obtain⟨⟨h7,W7,S7⟩,N0,N1,N2⟩:=kJ.out;exact⟨k,v5,bF,y1,y2,rfl,by omega,rfl,lH,by omega,c1',h7,W7,S7,N0,N1,N2⟩
theorem c_.amt{q:Nv}{T:PT}(h:c_ w0 lo hi q T C):C.ok->C.sz<=1000->xO b lo hi w0 q C:=by
 induction h with
 |mk q tk pb bs ts cs V S sp fo nt hn hb hc hk hs td hr qh ih=>
  intro bC bm W v st x hB hx hS dg;obtain⟨qk,gu,e_,fw,cM,cO,cN,cq,dx,eL,eG,eQ⟩:=q;unfold CT.ok at bC;obtain⟨aqB,ab_,aqC,ajA,DL⟩:=bC;simp only at hn hb hs hr qh;have aqR:=CT.xD cs DL;have PJ:∀i,i<cs.length->pV w0 pb i (V i):=fun i aS=>hc i (by omega)
  have IY:cs≠ []->ts≠ []:=by intro h1 h2;subst h2;exact h1 (Az.1 (by simpa using hn.2.1))
  have PW:cs≠ []->gu=some ⟨pb,0,none⟩/\lo<=pb/\pb<hi:=fun e=>hb (IY e)
  have PH:∀i,(h':i<cs.length)->(cs[i]).sz<=1000->xO b lo hi w0 (V i) cs[i]:=fun i h' hz=>ih i (by omega) h' (Hf DL i h') hz
  rcases qh with⟨rfl,_,oK⟩|⟨rfl,_⟩|⟨rfl,_⟩|⟨rfl,_⟩|⟨rfl,_,aF⟩|⟨rfl,_⟩
  ·have e:bQ (.node 0 sp fo nt cq dx eL eG eQ cs) st x=(st++[qt sp fo nt x.2],((st.length:Int),(st.length:Int))):=by
    rw[bQ];simp
   rw[e];refine amC hB x hS (m:=qt sp fo nt) (fun W' n gG=>⟨rfl,rfl,rfl,rfl,rfl,by simp[qt],fun _=>⟨S,bs,hn.2.2,hs,td.mK gG (fun h=>(hs h).2),oK,hr.2.2.2.2.2.1,hr.2.2.2.2.2.2⟩⟩) (by omega)
  ·have e:bQ (.node 1 sp fo nt cq dx eL eG eQ cs) st x=ft (tC cq) st x:=by
    rw[bQ];simp
   rw[e];exact amB hB x hS (by omega)
  ·have h1:=ab_ (Or.inl rfl);have DR:(CT.node 2 sp fo nt cq dx eL eG eQ cs).sz=min (CT.cW cs+1) 1001:=by rw[CT.sz];simp
   rw[DR]at bm dg;have Qx:=aff h1;obtain⟨p1,p2⟩:=PW (by intro e;subst e;simp at h1)
   have e:bQ (.node 2 sp fo nt cq dx eL eG eQ cs) st x=if dx=0 then bQ (cs[0]'(by omega)) st x else ft (iG (2*(dx-1))) (bQ (cs[0]'(by omega)) (ft (iG (2*(dx-1)+1)) st x).1 (ft (iG (2*(dx-1)+1)) st x).2).1 (bQ (cs[0]'(by omega)) (ft (iG (2*(dx-1)+1)) st x).1 (ft (iG (2*(dx-1)+1)) st x).2).2:=by
    rw[bQ,Z7 h1];simp
   rw[e];refine amy hB x hS (fun W' jy gG=>?_);exact akY jy x hx gG (Hf DL 0 (by omega)) (by omega) (PH 0 (by omega) (by omega)) p1 (by rw[hn.1,<-hn.2.1,h1]) p2 ((PJ 0 (by omega)).mK gG p2.1 p2.2) hr.2.2.2.1 (by omega)
  ·have DR:(CT.node 3 sp fo nt cq dx eL eG eQ cs).sz=min (CT.cW cs) 1001:=by rw[CT.sz];simp
   rw[DR]at bm dg;have e:bQ (.node 3 sp fo nt cq dx eL eG eQ cs) st x=kL cs st x:=by rw[bQ];simp
   rw[e];refine amA (pb:=pb) (n:=cs.length) (V:=V) hB x hS hx rfl (by omega) DL (by omega) (fun i h'=>PH i h' (by have:=yK DL i h';omega)) (by rw[hn.1,hn.2.1]) (fun h=>PW (by intro e;subst e;simp at h)) PJ (by omega)
  ·have hne':cs≠ []:=by intro h2;subst h2;exact aF (Az.1 (by have:=hn.2.1;simpa using this.symm))
   have dA:cs.length=(cs.length-1)+1:=by have:=Bu.2 hne';omega
   have DR:(CT.node 4 sp fo nt cq dx eL eG eQ cs).sz=min (CT.cW cs+((cs.length:Int)-1)) 1001:=by rw[CT.sz];simp
   rw[DR]at bm dg;obtain⟨p1,p2⟩:=PW hne';have e:bQ (.node 4 sp fo nt cq dx eL eG eQ cs) st x=jh cs st x:=by rw[bQ];simp
   rw[e];subst p1;have hq:e_=cs.length-1+1:=by rw[hn.1,<-hn.2.1];omega
   subst hq;refine amz hB x hS (fun W' jy gG=>?_);exact ahk (n:=cs.length-1) (V:=V) jy x hx gG dA (by omega) DL (by omega) (fun i h'=>PH i h' (by have:=yK DL i h';omega)) p2 (fun i h'=>PJ i (by omega)) (by omega)
  ·have h1:=ab_ (Or.inr rfl);have DR:(CT.node 5 sp fo nt cq dx eL eG eQ cs).sz=min ((if eG= -1 then eL+1 else eG)*(CT.cW cs+1)) 1001:=by rw[CT.sz];simp
   rw[DR]at bm dg;have Qx:=aff h1;rw[Qx]at bm dg;obtain⟨p1,p2⟩:=PW (by intro e;subst e;simp at h1)
   have e:bQ (.node 5 sp fo nt cq dx eL eG eQ cs) st x=ox (bQ (cs[0]'(by omega))) eL eG eQ st x:=by
    rw[bQ,Z7 h1];simp
   rw[e];refine amD hB x hS (fun W' jy gG=>?_);exact ane jy x hx gG (Hf DL 0 (by omega)) (by simp only;omega) (fun hz=>PH 0 (by omega) hz) p1 (by simp only;rw[hn.1,<-hn.2.1,h1]) p2 (PJ 0 (by omega)) (ajA rfl) (by simp only;omega)
structure VS where
 num:List Int
 aR:List Nat
 bV:List Nat
def VS.put(V:VS)(s:Nat):VS:=⟨V.num.set s V.aR.length,V.aR++[s],V.bV⟩
def VS.iz(V:VS)(t:Nat):VS:=⟨V.num,V.aR,V.bV++[t]⟩
inductive lM(M:List MS):VS->Int->VS->Prop where
 |sR (V:VS) (s:Nat) (v:Int) (h:V.num[s]? =some v) (hv:v≠ -1):lM M V s V
 |stop (V:VS) (s:Nat) (m:MS) (hn:V.num[s]? =some (-1)) (h:M[s]? =some m) (hk:m.aT≠1/\m.aT≠2/\m.aT≠3/\m.aT≠4):lM M V s (V.put s)
 |take (V:VS) (s:Nat) (m:MS) (hn:V.num[s]? =some (-1)) (h:M[s]? =some m) (hk:m.aT=1):lM M V s ((V.iz m.next.toNat).put s)
 |one (V V':VS) (s:Nat) (m:MS) (hn:V.num[s]? =some (-1)) (h:M[s]? =some m) (hk:m.aT=2\/m.aT=3) (hv:lM M V m.next V'):lM M V s (V'.put s)
 |cX (V V' V2:VS) (s:Nat) (m:MS) (hn:V.num[s]? =some (-1)) (h:M[s]? =some m) (hk:m.aT=4) (hv:lM M V m.next V') (hw:lM M V' m.ch V2):lM M V s (V2.put s)
def uU(M:List MS)(s t:Int):Prop:=∃(j:Nat) (m:MS),s=j/\M[j]? =some m/\(((m.aT=2\/m.aT=3\/m.aT=4)/\t=m.next)\/(m.aT=4/\t=m.ch))
inductive Reach(M:List MS):Int->Int->Prop where
 |refl (s:Int):Reach M s s
 |step (s t u:Int) (h:uU M s t) (hr:Reach M t u):Reach M s u
theorem Reach.trans{a b c:Int}(h:Reach M a b)(h':Reach M b c):Reach M a c:=by
 induction h with
 |refl s=>exact h'
 |step s t u hs hr ih=>exact Reach.step s t c hs (ih h')
theorem ff.adq{s:Int}(h:ff M s):∀c,uU M s c->¬Reach M c s:=by
 have key:∀{s c:Int},uU M s c->(∀d,uU M c d->¬Reach M d c)->¬Reach M c s:=by
  intro s c hs ih hr
  cases hr with
  |refl=>exact ih _ hs (Reach.refl _)
  |step _ d _ hd hr=>exact ih d hd (hr.trans (Reach.step _ _ _ hs (Reach.refl _)))
 induction h with
 |stop s m hm hk=>
  rintro c ⟨j,m',hj,h1,h2⟩;have:j=s:=by omega
  subst this;rw[hm]at h1
  cases h1;omega
 |one s m hm hk hn ih=>
  intro c hc;refine key hc ?_;obtain⟨j,m',hj,h1,h2⟩:=hc;have:j=s:=by omega
  subst this;rw[hm]at h1
  cases h1;rcases h2 with h2|h2
  ·rw[h2.2];exact ih
  ·omega
 |cX s m hm hk hn ho ih uv=>
  intro c hc;refine key hc ?_;obtain⟨j,m',hj,h1,h2⟩:=hc;have:j=s:=by omega
  subst this;rw[hm]at h1
  cases h1;rcases h2 with h2|h2
  ·rw[h2.2];exact ih
  ·rw[h2.2];exact uv
structure jI(M:List MS)(R:Nat->Prop)(V:VS):Prop where
 len:V.num.length=M.length
 wB:V.aR.length=V.num.countP (fun v=>v != -1)
 has:∀(s:Nat) (v:Int),V.num[s]? =some v->v≠ -1->∃k:Nat,v=k/\V.aR[k]? =some s
 at_:∀(k s:Nat),V.aR[k]? =some s->V.num[s]? =some (k:Int)
 QJ:∀s∈V.aR,R s
 bV:∀t∈V.bV,R t
 next:∀(k s:Nat) (m:MS),V.aR[k]? =some s->M[s]? =some m->(m.aT=1->m.next.toNat∈V.bV)/\(∀t,uU M s t->∃k':Nat,k'<k/\V.num[t.toNat]? =some (k':Int))
structure nC(M:List MS)(s:Int)(V V':VS):Prop where
 aR:∃l,V'.aR=V.aR++l/\∀t∈l,Reach M s (t:Int)
 bV:∃l,V'.bV=V.bV++l
theorem nC.refl(M:List MS)(s:Int)(V:VS):nC M s V V:=⟨⟨[],by simp,fun t h=>by simp at h⟩,⟨[],by simp⟩⟩
theorem nC.trans{s t u:Int}{V V' V2:VS}(h:nC M s V V')(h':nC M t V' V2)(hs:Reach M u s)(ht:Reach M u t):nC M u V V2:=by
 obtain⟨⟨l,h1,h2⟩,⟨l',h3⟩⟩:=h;obtain⟨⟨k,k1,k2⟩,⟨k',k3⟩⟩:=h';refine⟨⟨l++k,by rw[k1,h1,Cq],fun x hx=>?_⟩,⟨l'++k',by rw[k3,h3,Cq]⟩⟩;rcases A2.1 hx with hx|hx
 ·exact hs.trans (h2 x hx)
 ·exact ht.trans (k2 x hx)
theorem jI.ady{V V':VS}{s:Int}(h:jI M R V)(h':jI M R V')(e:nC M s V V'){v:Int}(ht:V.num[t]? =some v)(hv:v≠ -1):V'.num[t]? =some v:=by
 obtain⟨k,rfl,hk⟩:=h.has t v ht hv;obtain⟨⟨l,h1,_⟩,_⟩:=e;refine h'.at_ k t ?_;rw[h1,Au (Af.1 hk).1];exact hk
theorem jI.X5{V V':VS}{s:Int}(h:jI M R V)(h':jI M R V')(e:nC M s V V')(ht:V.num[t]? =some (-1))(hr:¬Reach M s t):V'.num[t]? =some (-1):=by
 have ar:t<V'.num.length:=by rw[h'.len,<-h.len];exact(Af.1 ht).1
 have hv:V'.num[t]? =some V'.num[t]:=Ab ar;by_cases hn:V'.num[t]= -1
 ·rw[hv,hn]
 ·exfalso
  obtain⟨k,e1,hk⟩:=h'.has t _ hv hn;obtain⟨⟨l,h1,h2⟩,_⟩:=e;rw[h1]at hk;by_cases lW:k<V.aR.length
  ·rw[Au lW]at hk;have:=h.at_ k t hk;rw[ht]at this
   cases this
  ·rw[Be (by omega)]at hk;exact hr (h2 t (Cg hk))
theorem jI.put{V:VS}(h:jI M R V)(hn:V.num[s]? =some (-1))(hR:R s)
 (hs:∀m,M[s]? =some m->(m.aT=1->m.next.toNat∈V.bV)/\(∀t,uU M s t->∃k':Nat,V.num[t.toNat]? =some (k':Int))):jI M R (V.put s):=by
 have ar:=(Af.1 hn).1
 have nS:∀t:Nat,(V.put s).num[t]? =if t=s then some (V.aR.length:Int)else V.num[t]? :=by
  intro t;show(V.num.set s (V.aR.length:Int))[t]? =_
  by_cases e:t=s
  ·subst e;rw[Dt ar,if_pos rfl]
  ·rw[A5 (fun e'=>e e'.symm),if_neg e]
 have hold:∀(k t:Nat),V.aR[k]? =some t->t≠s:=by
  intro k t hk e;subst e;have:=h.at_ k t hk;rw[hn]at this
  cases this
 refine⟨by show(V.num.set s _).length=_;rw[Bw];exact h.len,?_,fun t v ht hv=>?_,fun k t hk=>?_,fun t ht=>?_,h.bV,fun k t m hk hm=>?_⟩
 ·show(V.aR++[s]).length=(V.num.set s (V.aR.length:Int)).countP _
  have e:V.num[s]= -1:=by
   have:=Ab ar;rw[hn]at this;exact(Cr this).symm
  rw[List.countP_set ar,e,<-h.wB];have:((V.aR.length:Int) != -1)=true:=by simp
  simp[this]
 ·rw[nS]at ht;by_cases e:t=s
  ·rw[if_pos e]at ht
   cases ht;exact⟨V.aR.length,rfl,by show(V.aR++[s])[V.aR.length]? =_;simp[e]⟩
  ·rw[if_neg e]at ht;obtain⟨k,e1,hk⟩:=h.has t v ht hv;exact⟨k,e1,by show(V.aR++[s])[k]? =_;rw[Au (Af.1 hk).1];exact hk⟩
 ·rw[nS];have dL:(V.aR++[s])[k]? =some t:=hk;by_cases lW:k<V.aR.length
  ·rw[Au lW]at dL;rw[if_neg (hold k t dL)];exact h.at_ k t dL
  ·have:k=V.aR.length:=by
    have:=(Af.1 dL).1;simp at this;omega
   subst this;simp at dL;rw[if_pos dL.symm]
 ·have:t∈V.aR++[s]:=ht;rcases A2.1 this with h1|h1
  ·exact h.QJ t h1
  ·simp at h1;subst h1;exact hR
 ·have dL:(V.aR++[s])[k]? =some t:=hk;by_cases lW:k<V.aR.length
  ·rw[Au lW]at dL;obtain⟨a1,a2⟩:=h.next k t m dL hm
   refine⟨a1,fun u hu=>?_⟩;obtain⟨k',h1,h2⟩:=a2 u hu;refine⟨k',h1,?_⟩;rw[nS];by_cases e:u.toNat=s
   ·rw[e,hn]at h2;cases h2
   ·rw[if_neg e];exact h2
  ·have:k=V.aR.length:=by
    have:=(Af.1 dL).1;simp at this;omega
   subst this;simp at dL;subst dL;obtain⟨a1,a2⟩:=hs m hm;refine⟨a1,fun u hu=>?_⟩;obtain⟨k',h2⟩:=a2 u hu;have gH:=h.has u.toNat k' h2 (by omega);obtain⟨k2,e2,h3⟩:=gH;refine⟨k',by have:=(Af.1 h3).1;omega,?_⟩;rw[nS];by_cases e:u.toNat=s
   ·rw[e,hn]at h2;cases h2
   ·rw[if_neg e];exact h2
theorem nC.put{s:Int}{V V':VS}(h:nC M s V V')(ht:Reach M s t):nC M s V (V'.put t):=by
 obtain⟨⟨l,h1,h2⟩,⟨l',h3⟩⟩:=h;refine⟨⟨l++[t],by show V'.aR++[t]=_;rw[h1,Cq],fun x hx=>?_⟩,⟨l',h3⟩⟩;rcases A2.1 hx with hx|hx
 ·exact h2 x hx
 ·simp at hx;subst hx;exact ht
theorem VS.RR{V:VS}(h:s<V.num.length):(V.put s).num[s]? =some (V.aR.length:Int):=Dt h
structure Shut(M:List MS)(R:Nat->Prop):Prop where
 u7:∀s:Nat,R s->ff M s
 cl:∀s:Nat,R s->∃m,M[s]? =some m/\Fy (fun t=>∃j:Nat,t=j/\R j) m
theorem jI.iz{V:VS}(h:jI M R V)(ht:R t):jI M R (V.iz t):=
 ⟨h.len,h.wB,h.has,h.at_,h.QJ,fun x hx=>by
   rcases A2.1 (show x∈V.bV++[t]from hx)with h1|h1
   ·exact h.bV x h1
   ·simp at h1;subst h1;exact ht,fun k s m a b=>⟨fun c=>List.mem_append_left _ ((h.next k s m a b).1 c),(h.next k s m a b).2⟩⟩
theorem uU.aT{t:Int}(h:uU M s t)(hm:M[s]? =some m):((m.aT=2\/m.aT=3\/m.aT=4)/\t=m.next)\/(m.aT=4/\t=m.ch):=by
 obtain⟨j,m',hj,h1,h2⟩:=h;have:j=s:=by omega
 subst this;rw[hm]at h1
 cases h1;exact h2
theorem Shut.W_(hS:Shut M R){V:VS}(hV:jI M R V)(hR:R s):(∃k:Nat,V.num[s]? =some (k:Int))\/V.num[s]? =some (-1):=by
 obtain⟨m,hm,_⟩:=hS.cl s hR;have ar:s<V.num.length:=by rw[hV.len];exact(Af.1 hm).1
 have hv:V.num[s]? =some V.num[s]:=Ab ar;by_cases e:V.num[s]= -1
 ·right;rw[hv,e]
 ·left
  obtain⟨k,e1,_⟩:=hV.has s _ hv e;exact⟨k,by rw[hv,e1]⟩
theorem apc(hS:Shut M R){s:Int}(hE:ff M s):∀V,jI M R V->(∃j:Nat,s=j/\R j)->
 ∃V',lM M V s V'/\jI M R V'/\nC M s V V'/\(∃k:Nat,V'.num[s.toNat]? =some (k:Int))/\V'.bV.length+V.aR.length<=V.bV.length+V'.aR.length:=by
 induction hE with
 |stop s m hm hk=>
  rintro V hV ⟨j,hj,hR⟩;have:j=s:=by omega
  subst this;rcases hS.W_ hV hR with⟨k,h1⟩|hn
  ·exact⟨V,lM.sR V j k h1 (by omega),hV,nC.refl M _ V,⟨k,by simpa using h1⟩,Aa _⟩
  ·have ar:=(Af.1 hn).1;by_cases k1:m.aT=1
   ·obtain⟨m',jN,hc⟩:=hS.cl j hR;rw[hm]at jN;cases jN;obtain⟨t,ht,hRt⟩:=hc.1 (Or.inl k1);have hV':jI M R (V.iz m.next.toNat):=hV.iz (by rw[ht];simpa using hRt);have e1:nC M (j:Int) V (V.iz m.next.toNat):=⟨⟨[],by simp[VS.iz],fun t h=>by simp at h⟩,⟨[m.next.toNat],rfl⟩⟩;refine⟨(V.iz m.next.toNat).put j,lM.take V j m hn hm k1,hV'.put hn hR (fun m' jN=>?_),e1.put (Reach.refl _),⟨V.aR.length,by simpa using(show((V.iz m.next.toNat).put j).num[j]? =some (V.aR.length:Int)from VS.RR (V:=V.iz m.next.toNat) ar)⟩,?_⟩
    ·rw[hm]at jN;cases jN;exact⟨fun _=>by show m.next.toNat∈V.bV++[m.next.toNat];simp,fun t ht=>by have:=ht.aT hm;omega⟩
    ·show(V.bV++[m.next.toNat]).length+V.aR.length<=V.bV.length+(V.aR++[j]).length
     simp only[Ao,A1,A8];omega
   ·refine⟨V.put j,lM.stop V j m hn hm ⟨k1,hk⟩,hV.put hn hR (fun m' jN=>?_),(nC.refl M _ V).put (Reach.refl _),⟨V.aR.length,by simpa using VS.RR ar⟩,?_⟩
    ·rw[hm]at jN;cases jN;exact⟨fun e=>absurd e k1,fun t ht=>by have:=ht.aT hm;omega⟩
    ·show V.bV.length+V.aR.length<=V.bV.length+(V.aR++[j]).length
     simp only[Ao,A1,A8];omega
 |one s m hm hk hn ih=>
  rintro V hV ⟨j,hj,hR⟩;have:j=s:=by omega
  subst this;have P4:=(ff.one j m hm hk hn).adq;have cS:uU M j m.next:=⟨j,m,rfl,hm,Or.inl ⟨by omega,rfl⟩⟩
  rcases hS.W_ hV hR with⟨k,h1⟩|hnu
  ·exact⟨V,lM.sR V j k h1 (by omega),hV,nC.refl M _ V,⟨k,by simpa using h1⟩,Aa _⟩
  ·have ar:=(Af.1 hnu).1;obtain⟨m',jN,hc⟩:=hS.cl j hR;rw[hm]at jN;cases jN;obtain⟨V',v1,v2,v3,⟨k,v4⟩,v5⟩:=ih V hV (hc.1 (by omega));have dt:=hV.X5 v2 v3 hnu (P4 _ cS);have e3:nC M (j:Int) V V':=(nC.refl M (j:Int) V).trans v3 (Reach.refl _) (Reach.step _ _ _ cS (Reach.refl _));refine⟨V'.put j,lM.one V V' j m hnu hm hk v1,v2.put dt hR (fun m' jN=>?_),e3.put (Reach.refl _),⟨V'.aR.length,by simpa using VS.RR (V:=V') (by rw[v2.len,<-hV.len];exact ar)⟩,?_⟩
   ·rw[hm]at jN;cases jN;refine⟨fun e=>by omega,fun t ht=>?_⟩;have:=ht.aT hm;have e:t=m.next:=(by omega);rw[e]
    exact⟨k,v4⟩
   ·show V'.bV.length+V.aR.length<=V.bV.length+(V'.aR++[j]).length
    simp only[Ao,A1,A8];omega
 |cX s m hm hk hn ho ih uv=>
  rintro V hV ⟨j,hj,hR⟩;have:j=s:=by omega
  subst this;have P4:=(ff.cX j m hm hk hn ho).adq;have cS:uU M j m.next:=⟨j,m,rfl,hm,Or.inl ⟨by omega,rfl⟩⟩
  have ME:uU M j m.ch:=⟨j,m,rfl,hm,Or.inr ⟨by omega,rfl⟩⟩;rcases hS.W_ hV hR with⟨k,h1⟩|hnu
  ·exact⟨V,lM.sR V j k h1 (by omega),hV,nC.refl M _ V,⟨k,by simpa using h1⟩,Aa _⟩
  ·have ar:=(Af.1 hnu).1;obtain⟨m',jN,hc⟩:=hS.cl j hR;rw[hm]at jN;cases jN;obtain⟨V',v1,v2,v3,⟨k,v4⟩,v5⟩:=ih V hV (hc.1 (by omega));obtain⟨V2,w1,w2,w3,⟨k',w4⟩,w5⟩:=uv V' v2 (hc.2 hk);have dt:=v2.X5 w2 w3 (hV.X5 v2 v3 hnu (P4 _ cS)) (P4 _ ME);have e3:nC M (j:Int) V V2:=v3.trans w3 (Reach.step _ _ _ cS (Reach.refl _)) (Reach.step _ _ _ ME (Reach.refl _));refine⟨V2.put j,lM.cX V V' V2 j m hnu hm hk v1 w1,w2.put dt hR (fun m' jN=>?_),e3.put (Reach.refl _),⟨V2.aR.length,by simpa using VS.RR (V:=V2) (by rw[w2.len,<-hV.len];exact ar)⟩,?_⟩
   ·rw[hm]at jN;cases jN;refine⟨fun e=>by omega,fun t ht=>?_⟩;have:=ht.aT hm;by_cases e:t=m.next
    ·rw[e];exact⟨k,v2.ady w2 w3 v4 (by omega)⟩
    ·have e:t=m.ch:=(by omega);rw[e];exact⟨k',w4⟩
   ·show V2.bV.length+V.aR.length<=V.bV.length+(V2.aR++[j]).length
    simp only[Ao,A1,A8];omega
inductive ry(M:List MS):Nat->VS->VS->Prop where
 |done (at_:Nat) (V:VS) (h:V.bV.length<=at_):ry M at_ V V
 |step (at_:Nat) (V V' V2:VS) (t:Nat) (h:V.bV[at_]? =some t) (hv:lM M V t V') (hl:ry M (at_+1) V' V2):ry M at_ V V2
theorem jI.adI{V:VS}(h:jI M R V):V.aR.length<=M.length:=by
 rw[h.wB,<-h.len];exact List.countP_le_length
theorem ac4(hS:Shut M R):∀(n at_:Nat) (V:VS),M.length+2-at_<=n->jI M R V->at_<=V.bV.length->V.bV.length<=1+V.aR.length->(∀k t:Nat,k<at_->V.bV[k]? =some t->∃u:Nat,V.num[t]? =some (u:Int))->
 ∃V',ry M at_ V V'/\jI M R V'/\(∃l,V'.bV=V.bV++l)/\∀t∈V'.bV,∃u:Nat,V'.num[t]? =some (u:Int)
 |0,at_,V,hn,hV,hle,dg,Vh=>by
  have:=hV.adI;omega
 |n+1,at_,V,hn,hV,hle,dg,Vh=>by
  by_cases ar:at_<V.bV.length
  ·have ht:V.bV[at_]? =some V.bV[at_]:=Ab ar;have hR:=hV.bV _ (Ay ar);obtain⟨V',v1,v2,v3,⟨k,v4⟩,v5⟩:=apc hS (hS.u7 _ hR) V hV ⟨_,rfl,hR⟩;obtain⟨l,hl⟩:=v3.bV;have dA:V'.bV.length=V.bV.length+l.length:=by rw[hl,Ao]
   obtain⟨V2,w1,w2,⟨l',w3⟩,w4⟩:=ac4 hS n (at_+1) V' (by omega) v2 (by omega) (by omega) (fun i t hi hit=>by
    have gz:i<V.bV.length:=(by omega);rw[hl,Au gz]at hit;by_cases e:i=at_
    ·subst e;rw[ht]at hit
     cases hit;exact⟨k,by simpa using v4⟩
    ·obtain⟨u,hu⟩:=Vh i t (by omega) hit;exact⟨u,hV.ady v2 v3 hu (by omega)⟩)
   exact⟨V2,ry.step at_ V V' V2 _ ht v1 w1,w2,⟨l++l',by rw[w3,hl,Cq]⟩,w4⟩
  ·refine⟨V,ry.done at_ V (by omega),hV,⟨[],by simp⟩,fun t ht=>?_⟩;obtain⟨i,hi,rfl⟩:=Do ht;exact Vh i _ (by omega) (Ab hi)
def VS.first(n start:Nat):VS:=⟨List.replicate n (-1),[],[start]⟩
theorem jI.first(h:R start):jI M R (VS.first M.length start) where
 len:=by simp[VS.first]
 wB:=by simp[VS.first,List.countP_replicate]
 has s v h1 h2:=by
  have:v= -1:=by
   have:=Cg h1;simp[VS.first]at this;exact this.2
  exact absurd this h2
 at_ k s h1:=by simp[VS.first]at h1
 QJ s h1:=by simp[VS.first]at h1
 bV t h1:=by simp[VS.first]at h1;subst h1;exact h
 next k s m h1:=by simp[VS.first]at h1
def sorted(M:List MS)(V:VS):List MS:=V.aR.map fun s=>{M.getD s cy with next:=V.num.getD (M.getD s cy).next.toNat 0,ch:=V.num.getD (M.getD s cy).ch.toNat 0}
theorem alF(hS:Shut M R)(h:R start):∃V,ry M 0 (VS.first M.length start) V/\jI M R V/\∀t,(t=start\/∃(s:Nat) (m:MS),s∈V.aR/\M[s]? =some m/\m.aT=1/\t=m.next.toNat)->∃u:Nat,V.num[t]? =some (u:Int):=by
 obtain⟨V,h1,h2,⟨l,h3⟩,h4⟩:=ac4 hS (M.length+2) 0 (VS.first M.length start) (by omega) (jI.first h) (Aw _) (by simp[VS.first]) (fun k t hk=>by omega);refine⟨V,h1,h2,fun t ht=>h4 t ?_⟩;rcases ht with rfl|⟨s,m,hs,hm,hk,rfl⟩
 ·rw[h3];simp[VS.first]
 ·obtain⟨k,dL,yt⟩:=Do hs;exact(h2.next k s m (by rw[Ab dL,yt]) hm).1 hk
def fR(C:CT):List MS×Ex:=bQ C [⟨0,[],false,false,0,0,0,0⟩] (0,0)
theorem ag8(h:C.ok)(hs:C.sz<=1000):∃R,Shut (fR C).1 R/\(∃j:Nat,(fR C).2.2=j/\R j)/\pS (fR C).1/\1<=(fR C).1.length/\(fR C).1.length<=4001:=by
 have hb:=pf C h hs;have hx:dv [cy].length (0,0):=by unfold dv;simp
 have g:=hb.grow [cy] (0,0);have f:=hb.cB [cy] (0,0);have hn:=CT.AQ C h;have ha:=hb.pd [cy] (0,0) hx (by intro m hm;simp at hm;subst hm;unfold tM cy;simp);obtain⟨N,hN⟩:=hb.sub [cy] (0,0) hx (fR C).1 (fun j _ _=>rfl)
 have h0:(fR C).1[0]? =some cy:=by
  have:=Lz g.2 (j:=0) (by simp);exact this
 have e0:ff (fR C).1 ((0:Nat):Int):=ff.stop 0 cy h0 (by simp[cy])
 have zU:∀{t:Int},j7 N (0,0) t->∃j:Nat,t=j/\(N j\/j=0):=by
  intro t ht;rcases ht with⟨j,h1,h2⟩|h1|⟨h1,_⟩
  ·exact⟨j,h1,Or.inl h2⟩
  ·exact⟨0,h1,Or.inr rfl⟩
  ·exact⟨0,h1,Or.inr rfl⟩
 refine⟨fun j=>N j\/j=0,⟨fun s hs=>?_,fun s hs=>?_⟩,zU hN.th,ha,g.1,?_⟩
 ·rcases hs with hs|rfl
  ·exact hN.es e0 (Or.inr e0) s hs
  ·exact e0
 ·rcases hs with hs|rfl
  ·obtain⟨m,h1,h2⟩:=hN.cl s hs;exact⟨m,h1,h2.mono (fun t ht=>zU ht)⟩
  ·exact⟨cy,h0,fun h=>by simp[cy]at h,fun h=>by simp[cy]at h⟩
 ·show(bQ C [cy] (0,0)).1.length<=4001
  simp only[A1,A8]at f;omega
def iE(l:List Int):List Value:=l.map fun v=>.int .i64 v
def oR(l:List Nat):List Value:=l.map fun v:Nat=>.int .i64 (v:Int)
theorem tw{e:Nat}{xs:List Value}(h:w.ownsRow base e 1 v n xs)(hn:0<n):∃g c,v=.slice (some ⟨g,0,none⟩) n c/\base<=g/\g<w.heap.size/\n<=c/\(∀i,i<n->w.cell? ⟨g,i,none⟩=xs[i]?)/\∀i,w.frozen? ⟨g,i,none⟩=false:=by
 obtain⟨hx,h1⟩:=h;rcases h1 with⟨_,h0⟩|⟨g,cap,aU,rfl,a1,a2,a3,a4,a5,a6⟩
 ·omega
 ·refine⟨g,cap,rfl,a1,(Ah.1 a2).1,a3,fun i hi=>?_,fun i=>by simp[World.frozen?,a2]⟩;rw[<-a6,Al (by omega)];simp only[World.cell?,a2];simp
def oj(b:Nat)(nv ov lv:Value):Nat->Prop:=fun i=>i=b\/nv.ownBlock=some i\/ov.ownBlock=some i\/lv.ownBlock=some i
structure fH(w:World)(b base:Nat)(sv nv ov lv:Value)(V:VS):Prop where
 ae:ay w b #[sv,nv,ov,lv] 133
 num:w.ownsRow base 3 1 nv V.num.length (iE V.num)
 aR:w.ownsRow base 3 1 ov V.aR.length (oR V.aR)
 bV:w.ownsRow base 3 1 lv V.bV.length (oR V.bV)
 bb:base<=b
 an:∀i,nv.ownBlock=some i->i≠b/\ov.ownBlock≠some i/\lv.ownBlock≠some i
 ao:∀i,ov.ownBlock=some i->i≠b/\lv.ownBlock≠some i
 al:∀i,lv.ownBlock=some i->i≠b
theorem fH.aN{V:VS}(h:fH w b base sv nv ov lv V)(hi:oj b nv ov lv i):base<=i/\i<w.heap.size:=by
 rcases hi with rfl|hi|hi|hi
 ·exact⟨h.bb,h.ae.lt⟩
 ·exact cA h.num hi
 ·exact cA h.aR hi
 ·exact cA h.bV hi
theorem fH.kept{V:VS}(h:fH w b base sv nv ov lv V)(k:I K w w')(hK:∀i,K i->¬oj b nv ov lv i):fH w' b base sv nv ov lv V:=
 ⟨h.ae.kept k (fun hx=>hK b hx (Or.inl rfl)),dh h.num k (fun i hi hx=>hK i hx (Or.inr (Or.inl hi))),dh h.aR k (fun i hi hx=>hK i hx (Or.inr (Or.inr (Or.inl hi)))),dh h.bV k (fun i hi hx=>hK i hx (Or.inr (Or.inr (Or.inr hi)))),h.bb,h.an,h.ao,h.al⟩
theorem fH.new{V:VS}(h:fH w b base sv nv ov lv V)(k:I aq w w'):fH w' b base sv nv ov lv V:=h.kept k (fun i hx=>hx.elim)
structure ll(b:Nat)(w w':World)(nv ov lv jq jD:Value):Prop where
 kept:I (oj b nv ov lv) w w'
 ae:∀i,oj b nv jq jD i->oj b nv ov lv i\/w.heap.size<=i
theorem ll.refl(b:Nat)(w:World)(nv ov lv:Value):ll b w w nv ov lv ov lv:=⟨I.refl _ _,fun i h=>Or.inl h⟩
theorem ll.trans{ov2 lv2:Value}(h:ll b w w1 nv ov lv JH JC)(h':ll b w1 w2 nv JH JC ov2 lv2):ll b w w2 nv ov lv ov2 lv2 where
 kept:=h.kept.bY h'.kept (fun i hi hx=>by
  rcases h.ae i hx with h1|h1
  ·exact h1
  ·omega)
 ae i hi:=by
  have hs:=h.kept.size;rcases h'.ae i hi with h1|h1
  ·exact h.ae i h1
  ·right;omega
theorem ll.new(h:ll b w w1 nv ov lv JH JC)(k:I aq w1 w2):ll b w w2 nv ov lv JH JC:=⟨h.kept.bY k (fun i _ hx=>hx.elim),h.ae⟩
structure jg(w:World)(g:Nat)(vs:List Sv)(M:List MS):Prop where
 len:vs.length=M.length
 cell:∀i,(h:i<vs.length)->∀j,j<6->w.cell? ⟨g,i*6+j,none⟩=(vs[i]).cells[j]?
 lt:g<w.heap.size
 WL:∀i,(h:i<vs.length)->(h':i<M.length)->(vs[i]).k=(M[i]).aT/\(vs[i]).nx=(M[i]).next/\(vs[i]).ot=(M[i]).ch
theorem jg.kept(h:jg w g vs M)(k:I K w w')(hg:¬K g):jg w' g vs M:=
 ⟨h.len,fun i hi j hj=>(k.cell (p:=⟨g,i*6+j,none⟩) h.lt hg).trans (h.cell i hi j hj),A3 h.lt k.size,h.WL⟩
theorem jg.JW(h:jg w g vs M)(hm:M[s]? =some m):s<M.length/\∃q:Sv,(q.k=m.aT/\q.nx=m.next/\q.ot=m.ch)/\∀W,jg W g vs M->(W.cell? ⟨g,s*6,none⟩=some (.int .i64 q.k)/\W.cell? ⟨g,s*6+1,none⟩=some (.slice q.sa q.sn q.sc)/\W.cell? ⟨g,s*6+2,none⟩=some (.int .i64 q.ed)/\W.cell? ⟨g,s*6+3,none⟩=some (.int .i64 q.sl)/\W.cell? ⟨g,s*6+4,none⟩=some (.int .i64 q.nx)/\W.cell? ⟨g,s*6+5,none⟩=some (.int .i64 q.ot)):=by
 obtain⟨hs,e⟩:=Af.1 hm;have hv:s<vs.length:=by rw[h.len];exact hs
 refine⟨hs,vs[s],by rw[<-e];exact h.WL s hv hs,fun W hW=>?_⟩;exact⟨hW.cell s hv 0 (by omega),hW.cell s hv 1 (by omega),hW.cell s hv 2 (by omega),hW.cell s hv 3 (by omega),hW.cell s hv 4 (by omega),hW.cell s hv 5 (by omega)⟩
theorem lM.grow{V V':VS}{s:Int}(h:lM M V s V'):V'.num.length=V.num.length/\V.aR.length<=V'.aR.length/\V.bV.length<=V'.bV.length:=by
 induction h with
 |sR V s v h hv=>exact⟨rfl,Aa _,Aa _⟩
 |stop V s m hn h hk=>exact⟨by simp[VS.put],by simp[VS.put],by simp[VS.put]⟩
 |take V s m hn h hk=>exact⟨by simp[VS.put,VS.iz],by simp[VS.put,VS.iz],by simp[VS.put,VS.iz]⟩
 |one V V' s m hn h hk hv ih=>exact⟨by simp only[VS.put,Bw];exact ih.1,by simp only[VS.put,Ao];omega,by simp only[VS.put];omega⟩
 |cX V V' V2 s m hn h hk hv hw ih uv=>exact⟨by simp only[VS.put,Bw];omega,by simp only[VS.put,Ao];omega,by simp only[VS.put];omega⟩
theorem Tryz.G9:(prog.info? 3).map (fun i=>(i.zero,i.size,i.bytes))=some (some (.int .i64 0),1,8):=by kernel_rfl
theorem fH.akC{jD:Value}{V:VS}(h:fH w b base sv nv ov lv V)(t:Nat)(k0:I aq w W)(a8:w7.ownsRow base 3 1 jD (V.bV.length+1) (oR V.bV++[.int .i64 (t:Int)]))(hg:W.grownBy w7 lv.ownBlock)(bH:jD.ownBlock=lv.ownBlock\/jD.ownBlock=some W.heap.size):
 ay w7 b #[sv,nv,ov,lv] 133/\fH (w7.setCell ⟨b,3,none⟩ jD) b base sv nv ov jD (V.iz t)/\ll b w (w7.setCell ⟨b,3,none⟩ jD) nv ov lv ov jD:=by
 have V5:=k0.size;have k7:I (fun i=>lv.ownBlock=some i) w w7:=(k0.mono (fun i hx=>hx.elim)).dn hg (fun j hj=>Or.inl hj);have qi:lv.ownBlock≠some b:=fun e=>h.al b e rfl
 have b7:=h.ae.kept k7 qi
 have qK:∀i,jD.ownBlock=some i->lv.ownBlock=some i\/w.heap.size<=i:=by
  intro i hi;rcases bH with hl|hl
  ·exact Or.inl (hl▸hi)
  ·rw[hl]at hi;cases hi;right;omega
 have k8:I (oj b nv ov lv) w (w7.setCell ⟨b,3,none⟩ jD):=I.setCell (S:=oj b nv ov lv) (k7.mono (S':=oj b nv ov lv) (fun i hi=>Or.inr (Or.inr (Or.inr hi)))) (p:=⟨b,3,none⟩) (Or.inl (Or.inl rfl)) _;have kb:I (fun i=>i=b) w7 (w7.setCell ⟨b,3,none⟩ jD):=(I.refl (fun i=>i=b) w7).setCell (p:=⟨b,3,none⟩) (Or.inl rfl) jD
 have jO:∀i,jD.ownBlock=some i->i≠b:=fun i hi e=>by
  subst e;rcases qK i hi with h1|h1
  ·exact qi h1
  ·have:=h.ae.lt;omega
 refine⟨b7,⟨?_,?_,?_,?_,h.bb,fun i hi=>?_,fun i hi=>?_,jO⟩,⟨k8,fun i hi=>?_⟩⟩
 ·have:=b7.setCell 3 jD;simpa using this
 ·exact dh (dh h.num k7 (fun i hi hx=>(h.an i hi).2.2 hx)) kb (fun i hi e=>(h.an i hi).1 e)
 ·exact dh (dh h.aR k7 (fun i hi hx=>(h.ao i hi).2 hx)) kb (fun i hi e=>(h.ao i hi).1 e)
 ·have e1:(V.iz t).bV.length=V.bV.length+1:=by simp[VS.iz]
  have e2:oR (V.iz t).bV=oR V.bV++[.int .i64 (t:Int)]:=by simp[VS.iz,oR]
  rw[e1,e2];exact dh a8 kb (fun i hi e=>jO i hi e)
 ·refine⟨(h.an i hi).1,(h.an i hi).2.1,fun e=>?_⟩;rcases qK i e with h1|h1
  ·exact(h.an i hi).2.2 h1
  ·have:=cA h.num hi;omega
 ·refine⟨(h.ao i hi).1,fun e=>?_⟩;rcases qK i e with h1|h1
  ·exact(h.ao i hi).2 h1
  ·have:=cA h.aR hi;omega
 ·rcases hi with rfl|hi|hi|hi
  ·exact Or.inl (Or.inl rfl)
  ·exact Or.inl (Or.inr (Or.inl hi))
  ·exact Or.inl (Or.inr (Or.inr (Or.inl hi)))
  ·rcases qK i hi with h1|h1
   ·exact Or.inl (Or.inr (Or.inr (Or.inr h1)))
   ·exact Or.inr h1
theorem fH.ql{V:VS}(h:fH w b base sv (.slice (some ⟨g,0,none⟩) n c) ov lv V)(s:Nat)(u:Int):fH (w.setCell ⟨g,s,none⟩ (.int .i64 u)) b base sv (.slice (some ⟨g,0,none⟩) n c) ov lv ⟨V.num.set s u,V.aR,V.bV⟩:=by
 have hg:=h.an g rfl;have k:I (fun i=>i=g) w (w.setCell ⟨g,s,none⟩ (.int .i64 u)):=(I.refl (fun i=>i=g) w).setCell (p:=⟨g,s,none⟩) (Or.inl rfl) _;refine⟨h.ae.kept k (fun e=>hg.1 e.symm),?_,dh h.aR k (fun i hi e=>hg.2.1 (e▸hi)),dh h.bV k (fun i hi e=>hg.2.2 (e▸hi)),h.bb,h.an,h.ao,h.al⟩
 have hn:n=V.num.length:=by
  rcases h.num.2 with⟨h1,_⟩|⟨g',cap,aU,hv,_⟩
  ·cases h1
  ·cases hv;rfl
 subst hn;have:=Hl h.num s (.int .i64 u);have e:(iE V.num).set s (.int .i64 u)=iE (V.num.set s u):=by simp[iE,List.map_set]
 rw[e]at this;show(w.setCell ⟨g,s,none⟩ (.int .i64 u)).ownsRow base 3 1 _ (V.num.set s u).length (iE (V.num.set s u))
 rw[Bw];exact this
theorem ll.ql(h:ll b w w1 (.slice (some ⟨g,0,none⟩) n c) ov lv JH JC)(u:Value):ll b w (w1.setCell ⟨g,s,none⟩ u) (.slice (some ⟨g,0,none⟩) n c) ov lv JH JC:=
 ⟨h.kept.setCell (p:=⟨g,s,none⟩) (Or.inl (Or.inr (Or.inl rfl))) u,h.ae⟩
theorem fH.alG{jq:Value}{num:List Int}{aR bV:List Nat}(h:fH w b base sv nv ov lv ⟨num,aR,bV⟩)(t:Nat)(k0:I aq w W)(a8:w7.ownsRow base 3 1 jq (aR.length+1) (oR aR++[.int .i64 (t:Int)]))(hg:W.grownBy w7 ov.ownBlock)(bH:jq.ownBlock=ov.ownBlock\/jq.ownBlock=some W.heap.size):
 ay w7 b #[sv,nv,ov,lv] 133/\fH (w7.setCell ⟨b,2,none⟩ jq) b base sv nv jq lv ⟨num,aR++[t],bV⟩/\ll b w (w7.setCell ⟨b,2,none⟩ jq) nv ov lv jq lv:=by
 have V5:=k0.size;have k7:I (fun i=>ov.ownBlock=some i) w w7:=(k0.mono (fun i hx=>hx.elim)).dn hg (fun j hj=>Or.inl hj);have qi:ov.ownBlock≠some b:=fun e=>(h.ao b e).1 rfl
 have b7:=h.ae.kept k7 qi
 have qK:∀i,jq.ownBlock=some i->ov.ownBlock=some i\/w.heap.size<=i:=by
  intro i hi;rcases bH with hl|hl
  ·exact Or.inl (hl▸hi)
  ·rw[hl]at hi;cases hi;right;omega
 have k8:I (oj b nv ov lv) w (w7.setCell ⟨b,2,none⟩ jq):=I.setCell (S:=oj b nv ov lv) (k7.mono (S':=oj b nv ov lv) (fun i hi=>Or.inr (Or.inr (Or.inl hi)))) (p:=⟨b,2,none⟩) (Or.inl (Or.inl rfl)) _;have kb:I (fun i=>i=b) w7 (w7.setCell ⟨b,2,none⟩ jq):=(I.refl (fun i=>i=b) w7).setCell (p:=⟨b,2,none⟩) (Or.inl rfl) jq
 have jO:∀i,jq.ownBlock=some i->i≠b:=fun i hi e=>by
  subst e;rcases qK i hi with h1|h1
  ·exact qi h1
  ·have:=h.ae.lt;omega
 refine⟨b7,⟨?_,?_,?_,?_,h.bb,fun i hi=>?_,fun i hi=>?_,h.al⟩,⟨k8,fun i hi=>?_⟩⟩
 ·have:=b7.setCell 2 jq;simpa using this
 ·exact dh (dh h.num k7 (fun i hi hx=>(h.an i hi).2.1 hx)) kb (fun i hi e=>(h.an i hi).1 e)
 ·have e2:oR (aR++[t])=oR aR++[.int .i64 (t:Int)]:=by simp[oR]
  show World.ownsRow _ base 3 1 jq (aR++[t]).length (oR (aR++[t]))
  rw[Ao,e2];exact dh a8 kb (fun i hi e=>jO i hi e)
 ·exact dh (dh h.bV k7 (fun i hi hx=>(h.ao i hx).2 hi)) kb (fun i hi e=>h.al i hi e)
 ·refine⟨(h.an i hi).1,fun e=>?_,(h.an i hi).2.2⟩;rcases qK i e with h1|h1
  ·exact(h.an i hi).2.1 h1
  ·have:=cA h.num hi;omega
 ·refine⟨jO i hi,fun e=>?_⟩;rcases qK i hi with h1|h1
  ·exact(h.ao i h1).2 e
  ·have:=cA h.bV e;omega
 ·rcases hi with rfl|hi|hi|hi
  ·exact Or.inl (Or.inl rfl)
  ·exact Or.inl (Or.inr (Or.inl hi))
  ·rcases qK i hi with h1|h1
   ·exact Or.inl (Or.inr (Or.inr (Or.inl h1)))
   ·exact Or.inr h1
  ·exact Or.inl (Or.inr (Or.inr (Or.inr hi)))
def y9(w:World)(b base g:Nat)(sv nv ov lv:Value)(vs:List Sv)(M:List MS)(V':VS):Ending->World->Prop:=fun e w'=>e=.returned (.tuple #[])/\∃jq jD,fH w' b base sv nv jq jD V'/\jg w' g vs M/\ll b w w' nv ov lv jq jD
theorem Nk(w:World)(t:Int)(j:Nat)(u:Value)(h: [Value.int .i64 t][j]? =some u):(w.alloc (.cells #[.int .i64 t] 3)).cell? (Addr.add ⟨w.heap.size,0,none⟩ j)=some u:=vE w #[.int .i64 t] 3 j u h
theorem Nl(w:World)(t:Int)(k:Nat)(hk:w.heap.size=k)(j:Nat)(u:Value)(h: [Value.int .i64 t][j]? =some u):(w.alloc (.cells #[.int .i64 t] 3)).drew.cell? (Addr.add ⟨k,0,none⟩ j)=some u:=by subst hk;exact Nk w t j u h
theorem zM(t:Int):∀u∈ [Value.int .i64 t],u.oneCell'=true:=by intro u hu;simp at hu;subst hu;rfl
theorem apb{V:VS}{v:Int}(h:fH w b base (.slice (some ⟨g,0,none⟩) M.length c) nv ov lv V)(hM:jg w g vs M)(hn:V.num[s]? =some v)(hv:v≠ -1):
 Calls prog 54 #[.pointer (some ⟨b,0,none⟩),.int .i64 (s:Int)] w (y9 w b base g (.slice (some ⟨g,0,none⟩) M.length c) nv ov lv vs M V):=by
 have ar:=(Af.1 hn).1;obtain⟨gn,cn,rfl,g1,g2,g3,g4,g5⟩:=tw h.num (by omega);have c1:w.cell? ⟨b,1,none⟩=some (.slice (some ⟨gn,0,none⟩) V.num.length cn):=h.ae.cell 1;have cs:w.cell? ⟨gn,s,none⟩=some (.int .i64 v):=by rw[g4 s ar];simp[iE,hn]
 have hd:(v== -1)=false:=by simpa using hv
 have ue:¬((V.num.length:Int)<=(s:Int)):=by omega
 have OO:=ai (And.intro h hM);clear h hM g4 g5 hn hv;go_in;go_wp2_with fail;go_end0;exact⟨rfl,ov,lv,OO.out.1,OO.out.2,ll.refl _ _ _ _ _⟩
theorem fH.fz{V:VS}(h:fH w b base sv (.slice (some ⟨gn,0,none⟩) nn cn) ov lv V)(s:Nat):w.frozen? ⟨gn,s,none⟩=false:=by
 rcases h.num.2 with⟨h1,_⟩|⟨g',cap,aU,hv,a1,a2,_⟩
 ·cases h1
 ·cases hv;simp[World.frozen?,a2]
theorem fH.TZ{V:VS}(h:fH w b base sv (.slice (some ⟨gn,0,none⟩) nn cn) ov lv V)(hs:s<V.num.length):∃u,w.cell? ⟨gn,s,none⟩=some (.int .i64 u):=by
 obtain⟨g',c',hx,_,_,_,h4,_⟩:=tw h.num (by omega)
 cases hx;exact⟨V.num[s],by rw[h4 s hs];simp[iE,hs]⟩
def BY(b:Nat)(nv ov:Value)(w':World):Prop:=w'.cell? ⟨b,1,none⟩=some nv/\w'.cell? ⟨b,2,none⟩=some ov
theorem Se{W5:World}{yE zV:Value}{V4:VS}(h5:fH W5 b base sv (.slice (some ⟨gn,0,none⟩) nn cn) yE zV ⟨V4.num.set s (V4.aR.length:Int),V4.aR,V4.bV⟩)(hM5:jg W5 g vs M)(k5:ll b w W5 (.slice (some ⟨gn,0,none⟩) nn cn) ov lv yE zV)(kj:g<base):
 (∀W,I aq W5 W->W.ownsRow base 3 1 yE V4.aR.length (oR V4.aR))/\
 (∀W w7 jq,I aq W5 W->w7.ownsRow base 3 1 jq (V4.aR.length+1) (oR V4.aR++[.int .i64 (s:Int)])->W.grownBy w7 yE.ownBlock->(jq.ownBlock=yE.ownBlock\/jq.ownBlock=some W.heap.size)->
   ay w7 b #[sv,.slice (some ⟨gn,0,none⟩) nn cn,yE,zV] 133/\fH (w7.setCell ⟨b,2,none⟩ jq) b base sv (.slice (some ⟨gn,0,none⟩) nn cn) jq zV (V4.put s)/\jg (w7.setCell ⟨b,2,none⟩ jq) g vs M/\ll b w (w7.setCell ⟨b,2,none⟩ jq) (.slice (some ⟨gn,0,none⟩) nn cn) ov lv jq zV):=by
 refine⟨fun W kW=>dh h5.aR kW (fun i _ hx=>hx),fun W w7 jq kW ho hg hl=>?_⟩;obtain⟨r1,r2,r3⟩:=h5.alG s kW ho hg hl;exact⟨r1,r2,hM5.kept r3.kept (fun hx=>by have:=h5.aN hx;omega),k5.trans r3⟩
theorem jg.ql(h:jg w g vs M)(aF:g≠gn)(u:Value):jg (w.setCell ⟨gn,s,none⟩ u) g vs M:=h.kept ((I.refl (fun i=>i=gn) _).setCell (p:=⟨gn,s,none⟩) (Or.inl rfl) _) aF
theorem apf{V:VS}(h:fH w b base (.slice (some ⟨g,0,none⟩) M.length c) nv ov lv V)(hM:jg w g vs M)(kj:g<base)(hn:V.num[s]? =some (-1))(hm:M[s]? =some m)(hk:m.aT≠1/\m.aT≠2/\m.aT≠3/\m.aT≠4)(dg:V.aR.length<=9000):
 Calls prog 54 #[.pointer (some ⟨b,0,none⟩),.int .i64 (s:Int)] w (y9 w b base g (.slice (some ⟨g,0,none⟩) M.length c) nv ov lv vs M (V.put s)):=by
 have ar:=(Af.1 hn).1;obtain⟨i0,b_,cE,cI,cH⟩:=A7 Tryz.G9;obtain⟨gn,cn,rfl,g1,g2,g3,g4,g5⟩:=tw h.num (by omega);obtain⟨DO,q,⟨q1,q2,q3⟩,qc⟩:=hM.JW hm;obtain⟨qk,cM,cO,cN,cq,fF,JP,JQ⟩:=q;simp only at q1 q2 q3 qc;subst q1 q2 q3;have gj:=h.ae.lt;have c0:w.cell? ⟨b,0,none⟩=some (.slice (some ⟨g,0,none⟩) M.length c):=h.ae.cell 0;have c1:w.cell? ⟨b,1,none⟩=some (.slice (some ⟨gn,0,none⟩) V.num.length cn):=h.ae.cell 1;have cs:w.cell? ⟨gn,s,none⟩=some (.int .i64 (-1)):=by rw[g4 s ar];simp[iE,hn]
 have ue:¬((V.num.length:Int)<=(s:Int)):=by omega
 have gz:¬((M.length:Int)<=(s:Int)):=by omega
 obtain⟨d0,d1,d2,d3,d4,d5⟩:=qc w hM;have h1:=h.new ((I.refl aq w).alloc (.cells #[.int .i64 m.aT,.slice cM cO cN,.int .i64 cq,.int .i64 fF,.int .i64 m.next,.int .i64 m.ch] 96));have rL:=hM.kept ((I.refl aq w).alloc (.cells #[.int .i64 m.aT,.slice cM cO cN,.int .i64 cq,.int .i64 fF,.int .i64 m.next,.int .i64 m.ch] 96)) (fun hx=>hx);have w1:=(ll.refl b w (.slice (some ⟨gn,0,none⟩) V.num.length cn) ov lv).new ((I.refl aq w).alloc (.cells #[.int .i64 m.aT,.slice cM cO cN,.int .i64 cq,.int .i64 fF,.int .i64 m.next,.int .i64 m.ch] 96));have L1:=ay.new w #[.int .i64 m.aT,.slice cM cO cN,.int .i64 cq,.int .i64 fF,.int .i64 m.next,.int .i64 m.ch] 96;have n1:¬oj b (.slice (some ⟨gn,0,none⟩) V.num.length cn) ov lv w.heap.size:=fun hx=>by have:=h.aN hx;omega
 have k1:(m.aT==1)=false:=by simpa using hk.1
 have k2:(m.aT==2)=false:=by simpa using hk.2.1
 have k3:(m.aT==3)=false:=by simpa using hk.2.2.1
 have k4:(m.aT==4)=false:=by simpa using hk.2.2.2
 have Fg:w.frozen? ⟨gn,s,none⟩=false:=g5 s;have Gr:gn≠b:=(h.an gn rfl).1;have U7:b≠gn:=fun e=>Gr e.symm
 have Gq:g≠gn:=by omega
 obtain⟨eP,lq,GG⟩:=dY h.aR;subst GG;have E1:(w).cell? ⟨b,1,none⟩=some (.slice (some ⟨gn,0,none⟩) V.num.length cn):=h.ae.cell 1;have E2:(w).cell? ⟨b,2,none⟩=some (.slice eP (V).aR.length lq):=h.ae.cell 2;have TS:Hid (BY b (.slice (some ⟨gn,0,none⟩) V.num.length cn) (.slice eP (V).aR.length lq) (w.alloc (.cells #[.int .i64 m.aT,.slice cM cO cN,.int .i64 cq,.int .i64 fF,.int .i64 m.next,.int .i64 m.ch] 96)).drew):=⟨h1.ae.cell 1,h1.ae.cell 2⟩;obtain⟨HR,GR⟩:=Se (((h.ql s (V.aR.length:Int)).new ((I.refl aq _).alloc (.cells #[.int .i64 m.aT,.slice cM cO cN,.int .i64 cq,.int .i64 fF,.int .i64 m.next,.int .i64 m.ch] 96))).new ((I.refl aq _).drew)) (((hM.ql Gq _).kept ((I.refl aq _).alloc (.cells #[.int .i64 m.aT,.slice cM cO cN,.int .i64 cq,.int .i64 fF,.int .i64 m.next,.int .i64 m.ch] 96)) (fun hx=>hx)).kept ((I.refl aq _).drew) (fun hx=>hx)) ((((ll.refl b w (.slice (some ⟨gn,0,none⟩) V.num.length cn) (.slice eP V.aR.length lq) lv).ql _).new ((I.refl aq _).alloc (.cells #[.int .i64 m.aT,.slice cM cO cN,.int .i64 cq,.int .i64 fF,.int .i64 m.next,.int .i64 m.ch] 96))).new ((I.refl aq _).drew)) kj;have HR:=ai HR;have GR:=ai GR;have FZ:(w).frozen? ⟨gn,s,none⟩=false:=Fg;have SZ:Hid (base<=(w).heap.size):=by have:=h.bb;have:=h.ae.lt;show _<=_;omega
 clear h hM g4 g5 hn hm qc h1 rL w1 L1 n1 hk;go_in;go_wp2_with fail;refine kH (S:=BY b (.slice (some ⟨gn,0,none⟩) V.num.length cn) (.slice eP (V).aR.length lq)) 11 (by kernel_rfl) rfl rfl rfl (by kernel_rfl) (by kernel_rfl) ?_;have az:=TS.out;refine aB 0 52 (.pointer (some ⟨b,0,none⟩)) az ?_;refine aB 1 53 (.pointer (some ⟨b,0,none⟩)) az ?_;refine aB 2 54 (.pointer (some ⟨b,1,none⟩)) az ?_;refine aB 3 55 (.slice (some ⟨gn,0,none⟩) V.num.length cn) az ?_;refine aB 4 56 (.int .i64 (s:Int)) az ?_;refine aB 5 57 (.pointer (some ⟨b,0,none⟩)) az ?_;refine aB 6 58 (.pointer (some ⟨b,0,none⟩)) az ?_;refine aB 7 59 (.pointer (some ⟨b,2,none⟩)) az ?_;refine aB 8 60 (.slice eP (V).aR.length lq) az ?_;refine aB 9 61 (.int .i64 ((V).aR.length:Int)) az ?_;refine aB 10 62 (.pointer (some ⟨gn,s,none⟩)) az ?_;simp only[Act.put,Ac,Ak,Aj];refine Ba (by kernel_rfl) ?_ _;unfold iu;clear az;simp only[A4,Am,Ap];go_simp;go_wp2_with (at_builtin;refine Ad _ rfl _ _ 65 rfl base 3 i0 _ 1 8 underlying65 b_ cE cI cH rfl (by decide) _ _ _ rfl (HR.out _ ((I.refl _ _).alloc _)) _ 1 1 [.int .i64 (s:Int)] rfl rfl ?c1 ?c2 ?c3 ?c4 ?c5 ?_)
 case c1=>exact Nl _ (s:Int) _ (by simp)
 case c2=>exact zM _
 case c3=>unfold maxLen;omega
 case c4=>omega
 case c5=>have:=SZ.out;simp;omega
 intro v' w7 bE aX cJ bH;obtain⟨rA,c',rfl⟩:=dY bE;obtain⟨b7,fS,F4,bt⟩:=GR.out _ _ _ ((I.refl _ _).alloc _) bE aX (by simpa using bH);have c7:w7.cell? ⟨b,2,none⟩=some (.slice eP (V).aR.length lq):=b7.cell 2;have f7:=b7.frozen 2;clear HR GR TS b7;go_wp2_with fail;go_end0;exact⟨rfl,_,_,fS,F4,bt⟩
theorem apd{V:VS}(h:fH w b base (.slice (some ⟨g,0,none⟩) M.length c) nv ov lv V)(hM:jg w g vs M)(kj:g<base)(hn:V.num[s]? =some (-1))(hm:M[s]? =some m)(hk:m.aT=2\/m.aT=3){V':VS}(hF:(∀W ov lv,fH W b base (.slice (some ⟨g,0,none⟩) M.length c) nv ov lv (V)->jg W g vs M->Calls prog 54 #[.pointer (some ⟨b,0,none⟩),.int .i64 m.next] W (y9 W b base g (.slice (some ⟨g,0,none⟩) M.length c) nv ov lv vs M (V'))))(mA:V'.num.length=V.num.length)(dg:V'.aR.length<=9000):
 Calls prog 54 #[.pointer (some ⟨b,0,none⟩),.int .i64 (s:Int)] w (y9 w b base g (.slice (some ⟨g,0,none⟩) M.length c) nv ov lv vs M (V'.put s)):=by
 have ar:=(Af.1 hn).1;obtain⟨i0,b_,cE,cI,cH⟩:=A7 Tryz.G9;obtain⟨gn,cn,rfl,g1,g2,g3,g4,g5⟩:=tw h.num (by omega);obtain⟨DO,q,⟨q1,q2,q3⟩,qc⟩:=hM.JW hm;obtain⟨qk,cM,cO,cN,cq,fF,JP,JQ⟩:=q;simp only at q1 q2 q3 qc;subst q1 q2 q3;have gj:=h.ae.lt;have c0:w.cell? ⟨b,0,none⟩=some (.slice (some ⟨g,0,none⟩) M.length c):=h.ae.cell 0;have c1:w.cell? ⟨b,1,none⟩=some (.slice (some ⟨gn,0,none⟩) V.num.length cn):=h.ae.cell 1;have cs:w.cell? ⟨gn,s,none⟩=some (.int .i64 (-1)):=by rw[g4 s ar];simp[iE,hn]
 have ue:¬((V.num.length:Int)<=(s:Int)):=by omega
 have gz:¬((M.length:Int)<=(s:Int)):=by omega
 obtain⟨d0,d1,d2,d3,d4,d5⟩:=qc w hM;have h1:=h.new ((I.refl aq w).alloc (.cells #[.int .i64 m.aT,.slice cM cO cN,.int .i64 cq,.int .i64 fF,.int .i64 m.next,.int .i64 m.ch] 96));have rL:=hM.kept ((I.refl aq w).alloc (.cells #[.int .i64 m.aT,.slice cM cO cN,.int .i64 cq,.int .i64 fF,.int .i64 m.next,.int .i64 m.ch] 96)) (fun hx=>hx);have w1:=(ll.refl b w (.slice (some ⟨gn,0,none⟩) V.num.length cn) ov lv).new ((I.refl aq w).alloc (.cells #[.int .i64 m.aT,.slice cM cO cN,.int .i64 cq,.int .i64 fF,.int .i64 m.next,.int .i64 m.ch] 96));have L1:=ay.new w #[.int .i64 m.aT,.slice cM cO cN,.int .i64 cq,.int .i64 fF,.int .i64 m.next,.int .i64 m.ch] 96;have n1:¬oj b (.slice (some ⟨gn,0,none⟩) V.num.length cn) ov lv w.heap.size:=fun hx=>by have:=h.aN hx;omega
 have F1:=hF _ ov lv h1 rL;have F1:=ai F1;have k1:(m.aT==1)=false:=by rcases hk with e|e<;>simp[e]
 have PK:=ai (And.intro w1 h1);have HGB:=ai kj;clear h hM g4 g5 hn hm qc h1 rL w1 L1 n1 hF;rcases(show((m.aT==2)=true)\/((m.aT==2)=false/\(m.aT==3)=true) by rcases hk with e|e<;>simp[e])with e|⟨e,e'⟩
 all_goals
  clear hk;go_in;go_wp2_with fail;refine(F1.out).mono ?_;rintro e2 w4 ⟨rfl,yE,zV,h4,x9,jn⟩;have si:=PK.out.1.trans jn;have Fg:=h4.fz s;obtain⟨u4,Yv⟩:=h4.TZ (s:=s) (by first|omega|(simp only[VS.iz];omega));have Gr:gn≠b:=(h4.an gn rfl).1;have U7:b≠gn:=fun e=>Gr e.symm
  have Gq:g≠gn:=by omega
  obtain⟨eP,lq,GG⟩:=dY h4.aR;subst GG;have E1:(w4).cell? ⟨b,1,none⟩=some (.slice (some ⟨gn,0,none⟩) V.num.length cn):=h4.ae.cell 1;have E2:(w4).cell? ⟨b,2,none⟩=some (.slice eP (V').aR.length lq):=h4.ae.cell 2;have TS:Hid (BY b (.slice (some ⟨gn,0,none⟩) V.num.length cn) (.slice eP (V').aR.length lq) (w4).drew):=⟨h4.ae.cell 1,h4.ae.cell 2⟩;obtain⟨HR,GR⟩:=Se ((h4.ql s ((V').aR.length:Int)).new ((I.refl aq _).drew)) ((x9.ql Gq _).kept ((I.refl aq _).drew) (fun hx=>hx)) ((si.ql _).new ((I.refl aq _).drew)) kj;have HR:=ai HR;have GR:=ai GR;have FZ:(w4).frozen? ⟨gn,s,none⟩=false:=Fg;have SZ:Hid (base<=(w4).heap.size):=by have:=h4.bb;have:=h4.ae.lt;show _<=_;omega
  clear h4 x9 si jn PK F1 E1 kj;go_wp2_with fail;refine kH (S:=BY b (.slice (some ⟨gn,0,none⟩) V.num.length cn) (.slice eP (V').aR.length lq)) 11 (by kernel_rfl) rfl rfl rfl (by kernel_rfl) (by kernel_rfl) ?_;have az:=TS.out;refine aB 0 52 (.pointer (some ⟨b,0,none⟩)) az ?_;refine aB 1 53 (.pointer (some ⟨b,0,none⟩)) az ?_;refine aB 2 54 (.pointer (some ⟨b,1,none⟩)) az ?_;refine aB 3 55 (.slice (some ⟨gn,0,none⟩) V.num.length cn) az ?_;refine aB 4 56 (.int .i64 (s:Int)) az ?_;refine aB 5 57 (.pointer (some ⟨b,0,none⟩)) az ?_;refine aB 6 58 (.pointer (some ⟨b,0,none⟩)) az ?_;refine aB 7 59 (.pointer (some ⟨b,2,none⟩)) az ?_;refine aB 8 60 (.slice eP (V').aR.length lq) az ?_;refine aB 9 61 (.int .i64 ((V').aR.length:Int)) az ?_;refine aB 10 62 (.pointer (some ⟨gn,s,none⟩)) az ?_;simp only[Act.put,Ac,Ak,Aj];refine Ba (by kernel_rfl) ?_ _;unfold iu;clear az;simp only[A4,Am,Ap];go_simp;go_wp2_with (at_builtin;refine Ad _ rfl _ _ 65 rfl base 3 i0 _ 1 8 underlying65 b_ cE cI cH rfl (by decide) _ _ _ rfl (HR.out _ ((I.refl _ _).alloc _)) _ 1 1 [.int .i64 (s:Int)] rfl rfl ?c1 ?c2 ?c3 ?c4 ?c5 ?_)
  case c1=>exact Nl _ (s:Int) _ (by simp)
  case c2=>exact zM _
  case c3=>unfold maxLen;omega
  case c4=>omega
  case c5=>have:=SZ.out;simp;omega
  intro v' w7 bE aX cJ bH;obtain⟨rA,c',rfl⟩:=dY bE;obtain⟨b7,fS,F4,bt⟩:=GR.out _ _ _ ((I.refl _ _).alloc _) bE aX (by simpa using bH);have c7:w7.cell? ⟨b,2,none⟩=some (.slice eP (V').aR.length lq):=b7.cell 2;have f7:=b7.frozen 2;clear HR GR TS b7;go_wp2_with fail;go_end0;exact⟨rfl,_,_,fS,F4,bt⟩
theorem aph{V:VS}(h:fH w b base (.slice (some ⟨g,0,none⟩) M.length c) nv ov lv V)(hM:jg w g vs M)(kj:g<base)(hn:V.num[s]? =some (-1))(hm:M[s]? =some m)(hk:m.aT=4){V' V2:VS}(hF:(∀W ov lv,fH W b base (.slice (some ⟨g,0,none⟩) M.length c) nv ov lv (V)->jg W g vs M->Calls prog 54 #[.pointer (some ⟨b,0,none⟩),.int .i64 m.next] W (y9 W b base g (.slice (some ⟨g,0,none⟩) M.length c) nv ov lv vs M (V'))))(LJ:(∀W ov lv,fH W b base (.slice (some ⟨g,0,none⟩) M.length c) nv ov lv (V')->jg W g vs M->Calls prog 54 #[.pointer (some ⟨b,0,none⟩),.int .i64 m.ch] W (y9 W b base g (.slice (some ⟨g,0,none⟩) M.length c) nv ov lv vs M (V2))))(aqy:V'.num.length=V.num.length)(mA:V2.num.length=V.num.length)(dg:V2.aR.length<=9000):
 Calls prog 54 #[.pointer (some ⟨b,0,none⟩),.int .i64 (s:Int)] w (y9 w b base g (.slice (some ⟨g,0,none⟩) M.length c) nv ov lv vs M (V2.put s)):=by
 have ar:=(Af.1 hn).1;obtain⟨i0,b_,cE,cI,cH⟩:=A7 Tryz.G9;obtain⟨gn,cn,rfl,g1,g2,g3,g4,g5⟩:=tw h.num (by omega);obtain⟨DO,q,⟨q1,q2,q3⟩,qc⟩:=hM.JW hm;obtain⟨qk,cM,cO,cN,cq,fF,JP,JQ⟩:=q;simp only at q1 q2 q3 qc;subst q1 q2 q3;have gj:=h.ae.lt;have c0:w.cell? ⟨b,0,none⟩=some (.slice (some ⟨g,0,none⟩) M.length c):=h.ae.cell 0;have c1:w.cell? ⟨b,1,none⟩=some (.slice (some ⟨gn,0,none⟩) V.num.length cn):=h.ae.cell 1;have cs:w.cell? ⟨gn,s,none⟩=some (.int .i64 (-1)):=by rw[g4 s ar];simp[iE,hn]
 have ue:¬((V.num.length:Int)<=(s:Int)):=by omega
 have gz:¬((M.length:Int)<=(s:Int)):=by omega
 obtain⟨d0,d1,d2,d3,d4,d5⟩:=qc w hM;have h1:=h.new ((I.refl aq w).alloc (.cells #[.int .i64 m.aT,.slice cM cO cN,.int .i64 cq,.int .i64 fF,.int .i64 m.next,.int .i64 m.ch] 96));have rL:=hM.kept ((I.refl aq w).alloc (.cells #[.int .i64 m.aT,.slice cM cO cN,.int .i64 cq,.int .i64 fF,.int .i64 m.next,.int .i64 m.ch] 96)) (fun hx=>hx);have w1:=(ll.refl b w (.slice (some ⟨gn,0,none⟩) V.num.length cn) ov lv).new ((I.refl aq w).alloc (.cells #[.int .i64 m.aT,.slice cM cO cN,.int .i64 cq,.int .i64 fF,.int .i64 m.next,.int .i64 m.ch] 96));have L1:=ay.new w #[.int .i64 m.aT,.slice cM cO cN,.int .i64 cq,.int .i64 fF,.int .i64 m.next,.int .i64 m.ch] 96;have n1:¬oj b (.slice (some ⟨gn,0,none⟩) V.num.length cn) ov lv w.heap.size:=fun hx=>by have:=h.aN hx;omega
 have F1:=hF _ ov lv h1 rL;have F1:=ai F1;have vW:=ai LJ;have PK:=ai (And.intro (And.intro w1 h1) (And.intro L1 n1));clear h hM g4 g5 hn hm qc h1 rL w1 L1 n1 hF LJ;have k1:(m.aT==1)=false:=by simp[hk]
 have k2:(m.aT==2)=false:=by simp[hk]
 have k3:(m.aT==3)=false:=by simp[hk]
 have k4:(m.aT==4)=true:=by simp[hk]
 clear hk;go_in;go_wp2_with fail;refine(F1.out).mono ?_;rintro e2 w3 ⟨rfl,ov3,lv3,h3,hM3,Ws⟩;have kk3:=PK.out.1.1.trans Ws;have L3:=PK.out.2.1.kept Ws.kept PK.out.2.2;have l5:w3.cell? ⟨w.heap.size,5,none⟩=some (.int .i64 m.ch):=L3.cell 5;have F2:=ai (vW.out _ _ _ h3 hM3);have K3:=ai kk3;clear h3 hM3 Ws kk3 L3 vW PK F1;go_wp2_with fail;refine(F2.out).mono ?_;rintro e2 w4 ⟨rfl,yE,zV,h4,x9,jn⟩;have si:=K3.out.trans jn;have Fg:=h4.fz s;obtain⟨u4,Yv⟩:=h4.TZ (s:=s) (by omega);have Gr:gn≠b:=(h4.an gn rfl).1;have U7:b≠gn:=fun e=>Gr e.symm
 have Gq:g≠gn:=by omega
 obtain⟨eP,lq,GG⟩:=dY h4.aR;subst GG;have E1:(w4).cell? ⟨b,1,none⟩=some (.slice (some ⟨gn,0,none⟩) V.num.length cn):=h4.ae.cell 1;have E2:(w4).cell? ⟨b,2,none⟩=some (.slice eP (V2).aR.length lq):=h4.ae.cell 2;have TS:Hid (BY b (.slice (some ⟨gn,0,none⟩) V.num.length cn) (.slice eP (V2).aR.length lq) (w4).drew):=⟨h4.ae.cell 1,h4.ae.cell 2⟩;obtain⟨HR,GR⟩:=Se ((h4.ql s ((V2).aR.length:Int)).new ((I.refl aq _).drew)) ((x9.ql Gq _).kept ((I.refl aq _).drew) (fun hx=>hx)) ((si.ql _).new ((I.refl aq _).drew)) kj;have HR:=ai HR;have GR:=ai GR;have FZ:(w4).frozen? ⟨gn,s,none⟩=false:=Fg;have SZ:Hid (base<=(w4).heap.size):=by have:=h4.bb;have:=h4.ae.lt;show _<=_;omega
 clear h4 x9 si jn K3 F2 E1;go_wp2_with fail;refine kH (S:=BY b (.slice (some ⟨gn,0,none⟩) V.num.length cn) (.slice eP (V2).aR.length lq)) 11 (by kernel_rfl) rfl rfl rfl (by kernel_rfl) (by kernel_rfl) ?_;have az:=TS.out;refine aB 0 52 (.pointer (some ⟨b,0,none⟩)) az ?_;refine aB 1 53 (.pointer (some ⟨b,0,none⟩)) az ?_;refine aB 2 54 (.pointer (some ⟨b,1,none⟩)) az ?_;refine aB 3 55 (.slice (some ⟨gn,0,none⟩) V.num.length cn) az ?_;refine aB 4 56 (.int .i64 (s:Int)) az ?_;refine aB 5 57 (.pointer (some ⟨b,0,none⟩)) az ?_;refine aB 6 58 (.pointer (some ⟨b,0,none⟩)) az ?_;refine aB 7 59 (.pointer (some ⟨b,2,none⟩)) az ?_;refine aB 8 60 (.slice eP (V2).aR.length lq) az ?_;refine aB 9 61 (.int .i64 ((V2).aR.length:Int)) az ?_;refine aB 10 62 (.pointer (some ⟨gn,s,none⟩)) az ?_;simp only[Act.put,Ac,Ak,Aj];refine Ba (by kernel_rfl) ?_ _;unfold iu;clear az;simp only[A4,Am,Ap];go_simp;go_wp2_with (at_builtin;refine Ad _ rfl _ _ 65 rfl base 3 i0 _ 1 8 underlying65 b_ cE cI cH rfl (by decide) _ _ _ rfl (HR.out _ ((I.refl _ _).alloc _)) _ 1 1 [.int .i64 (s:Int)] rfl rfl ?c1 ?c2 ?c3 ?c4 ?c5 ?_)
 case c1=>exact Nl _ (s:Int) _ (by simp)
 case c2=>exact zM _
 case c3=>unfold maxLen;omega
 case c4=>omega
 case c5=>have:=SZ.out;simp;omega
 intro v' w7 bE aX cJ bH;obtain⟨rA,c',rfl⟩:=dY bE;obtain⟨b7,fS,F4,bt⟩:=GR.out _ _ _ ((I.refl _ _).alloc _) bE aX (by simpa using bH);have c7:w7.cell? ⟨b,2,none⟩=some (.slice eP (V2).aR.length lq):=b7.cell 2;have f7:=b7.frozen 2;clear HR GR TS b7;go_wp2_with fail;go_end0;exact⟨rfl,_,_,fS,F4,bt⟩
end Go.Proofs.YtmbpfhlnifdhgaaGreatDoor
