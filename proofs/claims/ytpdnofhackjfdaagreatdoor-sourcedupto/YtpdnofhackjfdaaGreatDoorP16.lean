/- The builder's pi -/
import Derived.Test.YtpdnofhackjfdaaGreatDoorP15
set_option linter.all false
set_option maxRecDepth 100000
set_option maxHeartbeats 4000000
namespace Go.Proofs.YtpdnofhackjfdaaGreatDoor
open Go.Proofs.Tryz
open Go.RowKit Go.Maps
variable {eL:Bool} {bM di dX eh:Int} {cs:List CT} {M st:List MS} {R:List MS×Ex} {vs:List Sv} {b base c g hi lo n fE eT bY cA s:Nat} {K:Nat->Prop} {gN bV:Option Addr} {V:VS} {lv wH nv ov Km sv v:Value} {W w w' w0 w1 w2 w7:World}
theorem gj.mh{bs:Nat}{S:bI}(h:gj w0 bs S)(hs:ft lo hi w0 w)(hb:S≠ []->lo<=bs/\bs<hi):gj w bs S:=fun i hi'=>by
 have aB:S≠ []:=by intro e;subst e;simp at hi'
 obtain⟨b1,b2⟩:=hb aB;exact⟨(hs.cell b1 b2).trans (h i hi').1,(hs.cell b1 b2).trans (h i hi').2⟩
theorem agI{k:Nat}(h:k<cs.length)(st:List MS)(nx:Ex):km (cs.drop k) st nx=bB cs[k] (km (cs.drop (k+1)) st nx).1 (km (cs.drop (k+1)) st nx).2:=by
 rw[Bw h];rw[km]
theorem aaE(h:cs.length=1):mw cs=bB (cs[0]'(by omega)):=by
 match cs,h with
 | [c],_=>rw[mw];rfl
theorem afH(h:cs.length=1):CT.cK cs=(cs[0]'(by omega)).sz:=by
 match cs,h with
 | [c],_=>simp[CT.cK]
def Ur(B0 pb i:Nat)(pn pc:Nat)(N:Nv)(x1 x2:Int)(w':World):Prop:=qA (B0+1) pb i N x1 x2 w'/\w'.cell? (GB B0 1)=some (.slice (some (GB pb 0)) pn pc)
theorem anw(h:dz w b lo hi v st)(x:Ex)(hS:ft lo hi w0 w){m:Int->MS}(hm:∀W n,ft lo hi w0 W->gG W lo hi ⟨1,bV,cA,bY,0,0,n,0⟩ (m n))(dy:st.length<10000):
 Calls prog 44 #[BT b 0,Nv.val ⟨0,gN,eT,fE,bV,cA,bY,bM,di,eh,dX,eL⟩,cO x] w (ml w b lo hi v (st++[m x.2]) (cO (st.length,st.length))):=by
 have az:=h.aq.lt;have dW:=h.dW;obtain⟨x1,x2⟩:=x;have h1:=h.alloc (.cells #[GW 0,.slice gN eT fE,.slice bV cA bY,GW bM,GW di,GW eh,GW dX,.bool eL] 64);have h2:=h1.alloc (.cells (aM (x1,x2)) 115);have h3:=h2.alloc (.cells (aM (0,0)) 115);have l0:=((bk.new h #[GW 0,.slice gN eT fE,.slice bV cA bY,GW bM,GW di,GW eh,GW dX,.bool eL] 64).alloc (.cells (aM (x1,x2)) 115)).alloc (.cells (aM (0,0)) 115);have l1:=(bk.new h1 (aM (x1,x2)) 115).alloc (.cells (aM (0,0)) 115);have l2:=bk.new h2 (aM (0,0)) 115;have W3:=(((ey.refl b w v).alloc (.cells #[GW 0,.slice gN eT fE,.slice bV cA bY,GW bM,GW di,GW eh,GW dX,.bool eL] 64)).alloc (.cells (aM (x1,x2)) 115)).alloc (.cells (aM (0,0)) 115);have S3:=((hS.alloc (by omega) (.cells #[GW 0,.slice gN eT fE,.slice bV cA bY,GW bM,GW di,GW eh,GW dX,.bool eL] 64)).alloc (by simp;omega) (.cells (aM (x1,x2)) 115)).alloc (by simp;omega) (.cells (aM (0,0)) 115);simp only[iy]at l1 l2;simp only[aM]at l0 l1 l2 h3 W3 S3;simp only[Nv.val,Nv.cells,cO];have F1:=Jd h3 (hm _ x2 S3) dy;simp only[Sv.val,Sv.cells]at F1;have F1:=ab F1;have PK:=ab (And.intro l2 W3);clear h h1 h2 h3 l0 l1 l2 W3 S3 hS hm;go_in;go_wp2_with fail;refine(F1.o).mono ?_;rintro e w4 ⟨rfl,v4,h4,jt⟩;have m2:=PK.o.1.a_ jt;obtain⟨c0,c1,f0,f1⟩:=m2.cM;have aA:=ab (And.intro h4 (And.intro (PK.o.2.trans jt) m2));clear m2 h4 jt F1 PK;go_wp2_with fail;exact mZ aA.o.1 aA.o.2.1 aA.o.2.2 (by omega) (by omega) results44 rfl rfl
theorem anv(h:dz w b lo hi v st)(x:Ex)(hS:ft lo hi w0 w)(dy:st.length+2<=10000):
 Calls prog 44 #[BT b 0,Nv.val ⟨1,gN,eT,fE,bV,cA,bY,bM,di,eh,dX,eL⟩,cO x] w (ml w b lo hi v (fu (sH bM) st x).1 (cO (fu (sH bM) st x).2)):=by
 have az:=h.aq.lt;have dW:=h.dW;obtain⟨x1,x2⟩:=x;have h1:=h.alloc (.cells #[GW 1,.slice gN eT fE,.slice bV cA bY,GW bM,GW di,GW eh,GW dX,.bool eL] 64);have h2:=h1.alloc (.cells (aM (x1,x2)) 115);have h3:=h2.alloc (.cells (aM (0,0)) 115);have l0:=((bk.new h #[GW 1,.slice gN eT fE,.slice bV cA bY,GW bM,GW di,GW eh,GW dX,.bool eL] 64).alloc (.cells (aM (x1,x2)) 115)).alloc (.cells (aM (0,0)) 115);have l1:=(bk.new h1 (aM (x1,x2)) 115).alloc (.cells (aM (0,0)) 115);have l2:=bk.new h2 (aM (0,0)) 115;have W3:=(((ey.refl b w v).alloc (.cells #[GW 1,.slice gN eT fE,.slice bV cA bY,GW bM,GW di,GW eh,GW dX,.bool eL] 64)).alloc (.cells (aM (x1,x2)) 115)).alloc (.cells (aM (0,0)) 115);have S3:=((hS.alloc (by omega) (.cells #[GW 1,.slice gN eT fE,.slice bV cA bY,GW bM,GW di,GW eh,GW dX,.bool eL] 64)).alloc (by simp;omega) (.cells (aM (x1,x2)) 115)).alloc (by simp;omega) (.cells (aM (0,0)) 115);simp only[iy]at l1 l2;simp only[aM]at l0 l1 l2 h3 W3 S3;simp only[Nv.val,Nv.cells,cO];have F1:=Xx h3 ⟨2,none,0,0,bM,0,0,0⟩ (sH bM) (fun W n=>gG.rF W lo hi _ n) (x1,x2) (by omega);simp only[Sv.val,Sv.cells,cO]at F1;have F1:=ab F1;have PK:=ab (And.intro l2 W3);clear h h1 h2 h3 l0 l1 l2 W3 S3 hS;go_in;go_wp2_with fail;refine(F1.o).mono ?_;rintro e w4 ⟨rfl,v4,h4,jt⟩;have m2:=PK.o.1.a_ jt;obtain⟨c0,c1,f0,f1⟩:=m2.cM;have aA:=ab (And.intro h4 (And.intro (PK.o.2.trans jt) m2));clear m2 h4 jt F1 PK;go_wp2_with fail;exact mZ aA.o.1 aA.o.2.1 aA.o.2.2 (by omega) (by omega) results44 rfl rfl
theorem ans(h:dz w b lo hi v st)(x:Ex)(hS:ft lo hi w0 w)(hF:∀W,dz W b lo hi v st->ft lo hi w0 W->Calls prog 66 #[BT b 0,Nv.val ⟨2,gN,eT,fE,bV,cA,bY,bM,di,eh,dX,eL⟩,cO x] W (ml W b lo hi v R.1 (cO R.2))):
 Calls prog 44 #[BT b 0,Nv.val ⟨2,gN,eT,fE,bV,cA,bY,bM,di,eh,dX,eL⟩,cO x] w (ml w b lo hi v R.1 (cO R.2)):=by
 have az:=h.aq.lt;have dW:=h.dW;obtain⟨x1,x2⟩:=x;have h1:=h.alloc (.cells #[GW 2,.slice gN eT fE,.slice bV cA bY,GW bM,GW di,GW eh,GW dX,.bool eL] 64);have h2:=h1.alloc (.cells (aM (x1,x2)) 115);have h3:=h2.alloc (.cells (aM (0,0)) 115);have l0:=((bk.new h #[GW 2,.slice gN eT fE,.slice bV cA bY,GW bM,GW di,GW eh,GW dX,.bool eL] 64).alloc (.cells (aM (x1,x2)) 115)).alloc (.cells (aM (0,0)) 115);have l1:=(bk.new h1 (aM (x1,x2)) 115).alloc (.cells (aM (0,0)) 115);have l2:=bk.new h2 (aM (0,0)) 115;have W3:=(((ey.refl b w v).alloc (.cells #[GW 2,.slice gN eT fE,.slice bV cA bY,GW bM,GW di,GW eh,GW dX,.bool eL] 64)).alloc (.cells (aM (x1,x2)) 115)).alloc (.cells (aM (0,0)) 115);have S3:=((hS.alloc (by omega) (.cells #[GW 2,.slice gN eT fE,.slice bV cA bY,GW bM,GW di,GW eh,GW dX,.bool eL] 64)).alloc (by simp;omega) (.cells (aM (x1,x2)) 115)).alloc (by simp;omega) (.cells (aM (0,0)) 115);simp only[iy]at l1 l2;simp only[aM]at l0 l1 l2 h3 W3 S3;obtain⟨OL,r1,r2⟩:=R;simp only[Nv.val,Nv.cells,cO];have F1:=hF _ h3 S3;simp only[Nv.val,Nv.cells,cO]at F1;have F1:=ab F1;have PK:=ab (And.intro l2 W3);clear h h1 h2 h3 l0 l1 l2 W3 S3 hS hF;go_in;go_wp2_with fail;refine(F1.o).mono ?_;rintro e w4 ⟨rfl,v4,h4,jt⟩;have m2:=PK.o.1.a_ jt;obtain⟨c0,c1,f0,f1⟩:=m2.cM;have aA:=ab (And.intro h4 (And.intro (PK.o.2.trans jt) m2));clear m2 h4 jt F1 PK;go_wp2_with fail;exact mZ aA.o.1 aA.o.2.1 aA.o.2.2 (by omega) (by omega) results44 rfl rfl
theorem ant(h:dz w b lo hi v st)(x:Ex)(hS:ft lo hi w0 w)(hF:∀W,dz W b lo hi v st->ft lo hi w0 W->Calls prog 67 #[BT b 0,.slice gN eT fE,cO x] W (ml W b lo hi v R.1 (cO R.2))):
 Calls prog 44 #[BT b 0,Nv.val ⟨4,gN,eT,fE,bV,cA,bY,bM,di,eh,dX,eL⟩,cO x] w (ml w b lo hi v R.1 (cO R.2)):=by
 have az:=h.aq.lt;have dW:=h.dW;obtain⟨x1,x2⟩:=x;have h1:=h.alloc (.cells #[GW 4,.slice gN eT fE,.slice bV cA bY,GW bM,GW di,GW eh,GW dX,.bool eL] 64);have h2:=h1.alloc (.cells (aM (x1,x2)) 115);have h3:=h2.alloc (.cells (aM (0,0)) 115);have l0:=((bk.new h #[GW 4,.slice gN eT fE,.slice bV cA bY,GW bM,GW di,GW eh,GW dX,.bool eL] 64).alloc (.cells (aM (x1,x2)) 115)).alloc (.cells (aM (0,0)) 115);have l1:=(bk.new h1 (aM (x1,x2)) 115).alloc (.cells (aM (0,0)) 115);have l2:=bk.new h2 (aM (0,0)) 115;have W3:=(((ey.refl b w v).alloc (.cells #[GW 4,.slice gN eT fE,.slice bV cA bY,GW bM,GW di,GW eh,GW dX,.bool eL] 64)).alloc (.cells (aM (x1,x2)) 115)).alloc (.cells (aM (0,0)) 115);have S3:=((hS.alloc (by omega) (.cells #[GW 4,.slice gN eT fE,.slice bV cA bY,GW bM,GW di,GW eh,GW dX,.bool eL] 64)).alloc (by simp;omega) (.cells (aM (x1,x2)) 115)).alloc (by simp;omega) (.cells (aM (0,0)) 115);simp only[iy]at l1 l2;simp only[aM]at l0 l1 l2 h3 W3 S3;obtain⟨OL,r1,r2⟩:=R;simp only[Nv.val,Nv.cells,cO];have F1:=hF _ h3 S3;simp only[cO]at F1;have F1:=ab F1;have PK:=ab (And.intro l2 W3);clear h h1 h2 h3 l0 l1 l2 W3 S3 hS hF;go_in;go_wp2_with fail;refine(F1.o).mono ?_;rintro e w4 ⟨rfl,v4,h4,jt⟩;have m2:=PK.o.1.a_ jt;obtain⟨c0,c1,f0,f1⟩:=m2.cM;have aA:=ab (And.intro h4 (And.intro (PK.o.2.trans jt) m2));clear m2 h4 jt F1 PK;go_wp2_with fail;exact mZ aA.o.1 aA.o.2.1 aA.o.2.2 (by omega) (by omega) results44 rfl rfl
theorem anx(h:dz w b lo hi v st)(x:Ex)(hS:ft lo hi w0 w)(hF:∀W,dz W b lo hi v st->ft lo hi w0 W->Calls prog 68 #[BT b 0,Nv.val ⟨5,gN,eT,fE,bV,cA,bY,bM,di,eh,dX,eL⟩,cO x] W (ml W b lo hi v R.1 (cO R.2))):
 Calls prog 44 #[BT b 0,Nv.val ⟨5,gN,eT,fE,bV,cA,bY,bM,di,eh,dX,eL⟩,cO x] w (ml w b lo hi v R.1 (cO R.2)):=by
 have az:=h.aq.lt;have dW:=h.dW;obtain⟨x1,x2⟩:=x;have h1:=h.alloc (.cells #[GW 5,.slice gN eT fE,.slice bV cA bY,GW bM,GW di,GW eh,GW dX,.bool eL] 64);have h2:=h1.alloc (.cells (aM (x1,x2)) 115);have h3:=h2.alloc (.cells (aM (0,0)) 115);have l0:=((bk.new h #[GW 5,.slice gN eT fE,.slice bV cA bY,GW bM,GW di,GW eh,GW dX,.bool eL] 64).alloc (.cells (aM (x1,x2)) 115)).alloc (.cells (aM (0,0)) 115);have l1:=(bk.new h1 (aM (x1,x2)) 115).alloc (.cells (aM (0,0)) 115);have l2:=bk.new h2 (aM (0,0)) 115;have W3:=(((ey.refl b w v).alloc (.cells #[GW 5,.slice gN eT fE,.slice bV cA bY,GW bM,GW di,GW eh,GW dX,.bool eL] 64)).alloc (.cells (aM (x1,x2)) 115)).alloc (.cells (aM (0,0)) 115);have S3:=((hS.alloc (by omega) (.cells #[GW 5,.slice gN eT fE,.slice bV cA bY,GW bM,GW di,GW eh,GW dX,.bool eL] 64)).alloc (by simp;omega) (.cells (aM (x1,x2)) 115)).alloc (by simp;omega) (.cells (aM (0,0)) 115);simp only[iy]at l1 l2;simp only[aM]at l0 l1 l2 h3 W3 S3;obtain⟨OL,r1,r2⟩:=R;simp only[Nv.val,Nv.cells,cO];have F1:=hF _ h3 S3;simp only[Nv.val,Nv.cells,cO]at F1;have F1:=ab F1;have PK:=ab (And.intro l2 W3);clear h h1 h2 h3 l0 l1 l2 W3 S3 hS hF;go_in;go_wp2_with fail;refine(F1.o).mono ?_;rintro e w4 ⟨rfl,v4,h4,jt⟩;have m2:=PK.o.1.a_ jt;obtain⟨c0,c1,f0,f1⟩:=m2.cM;have aA:=ab (And.intro h4 (And.intro (PK.o.2.trans jt) m2));clear m2 h4 jt F1 PK;go_wp2_with fail;exact mZ aA.o.1 aA.o.2.1 aA.o.2.2 (by omega) (by omega) results44 rfl rfl
theorem anu(h:dz w b lo hi v st)(x:Ex)(hS:ft lo hi w0 w){pb:Nat}{V:Nat->Nv}(hx:df st.length x)(dc:cs.length=n)(hn:n<=400)(dB:CT.eI cs)(aW:CT.cK cs<=1000)(hP:∀i,(hi':i<cs.length)->xo b lo hi w0 (V i) cs[i])
 (iY:eT=n)(ee:0<n->gN=some (GB pb 0)/\lo<=pb/\pb<hi)(hK:∀i,i<n->o9 w0 pb i (V i))(dy:st.length+4*(CT.cK cs).toNat<=9000):
 Calls prog 44 #[BT b 0,Nv.val ⟨3,gN,eT,fE,bV,cA,bY,bM,di,eh,dX,eL⟩,cO x] w (ml w b lo hi v (km cs st x).1 (cO (km cs st x).2)):=by
 have az:=h.aq.lt;have dW:=h.dW;obtain⟨x1,x2⟩:=x;have h1:=h.alloc (.cells #[GW 3,.slice gN eT fE,.slice bV cA bY,GW bM,GW di,GW eh,GW dX,.bool eL] 64);have h2:=h1.alloc (.cells (aM (x1,x2)) 115);have h3:=h2.alloc (.cells (aM (0,0)) 115);have l0:=((bk.new h #[GW 3,.slice gN eT fE,.slice bV cA bY,GW bM,GW di,GW eh,GW dX,.bool eL] 64).alloc (.cells (aM (x1,x2)) 115)).alloc (.cells (aM (0,0)) 115);have l1:=(bk.new h1 (aM (x1,x2)) 115).alloc (.cells (aM (0,0)) 115);have l2:=bk.new h2 (aM (0,0)) 115;have W3:=(((ey.refl b w v).alloc (.cells #[GW 3,.slice gN eT fE,.slice bV cA bY,GW bM,GW di,GW eh,GW dX,.bool eL] 64)).alloc (.cells (aM (x1,x2)) 115)).alloc (.cells (aM (0,0)) 115);have S3:=((hS.alloc (by omega) (.cells #[GW 3,.slice gN eT fE,.slice bV cA bY,GW bM,GW di,GW eh,GW dX,.bool eL] 64)).alloc (by simp;omega) (.cells (aM (x1,x2)) 115)).alloc (by simp;omega) (.cells (aM (0,0)) 115);simp only[iy]at l1 l2;simp only[aM]at l0 l1 l2 h3 W3 S3;subst iY;have HK:=ab hK;have HP:=ab hP;have Pi:Hid (∀i,(hi':i<cs.length)->BS (bB cs[i]) (4*(cs[i]).sz.toNat)):=fun i hi'=>oo _ (Iv dB i hi') (by have:=yl dB i hi';omega)
 have rJ:Hid (∀i,(hi':i<cs.length)->0<=CT.cK (cs.take i)/\0<=(cs[i]).sz/\CT.cK (cs.take i)+(cs[i]).sz<=CT.cK cs/\CT.cK (cs.take (i+1))=CT.cK (cs.take i)+(cs[i]).sz):=fun i hi'=>⟨(yl dB i hi').1,(yl dB i hi').2.1,(yl dB i hi').2.2,YO cs i hi'⟩
 have rI:=ab dc;have Px:=ab ee
 have HE0:Hid (km (cs.drop eT) st (x1,x2)=(st,(x1,x2))):=by
  show _=_
  rw[Ff (by omega)];rw[km]
 have hf0:st.length+4*(CT.cK (cs.take eT)).toNat<=9000:=by rw[Bz (by omega)];exact dy
 have dD:=ab (And.intro (And.intro l0 (And.intro l1 l2)) (And.intro W3 (And.intro h3 S3)));clear h h1 h2 h3 l0 l1 l2 W3 S3 hS hK hP ee;simp only[Nv.val,Nv.cells,cO];go_in;go_wp2_with fail
 go_loopg [8] eT (fun kk i wr=>∃(k:Nat) (v2:Value) (aD:List MS) (a1 a2:Int),i=GW ((k:Int)-1)/\k<=eT/\kk=k/\Hid (km (cs.drop k) st (x1,x2)=(aD,(a1,a2)))/\aD.length+4*(CT.cK (cs.take k)).toNat<=9000/\df aD.length (a1,a2)/\
  dz wr b lo hi v2 aD/\ey b w wr v v2/\ft lo hi w0 wr/\bk wr b v2 w.heap.size #[GW 3,.slice gN eT fE,.slice bV cA bY,GW bM,GW di,GW eh,GW dX,.bool eL] 64/\bk wr b v2 (w.heap.size+1) #[GW a1,GW a2] 115/\bk wr b v2 (w.heap.size+1+1) #[GW 0,GW 0] 115)
 case atStart=>
  obtain⟨⟨l0,l1,l2⟩,W3,h3,S3⟩:=dD.o;exact⟨eT,v,st,x1,x2,rfl,Ab _,rfl,HE0,hf0,hx,h3,W3,S3,l0,l1,l2⟩
 case round=>
  obtain⟨k',v2,aD,a1,a2,rfl,hk,eE,HE,bT,tC,oA,ur,kY,P0,P1,P2⟩:=hrel;clear dD
  cases k' with
  |zero=>
   subst eE;obtain⟨c0,c1,_,_⟩:=P1.cM;obtain⟨d0,d1,g0,g1⟩:=P2.cM;have aA:=ab (And.intro oA (And.intro ur P2));have th:¬((0:Int)<=((0:Nat):Int)-1):=(by omega);have ji:Hid (km cs st (x1,x2)=(aD,(a1,a2))):=HE.o;clear oA ur kY P0 P1 P2 HE;go_wp2_with fail;rw[ji.o];exact mZ aA.o.1 aA.o.2.1 aA.o.2.2 (by omega) (by omega) results44 rfl rfl
  |succ k=>
   subst eE;obtain⟨nd,oH,WL⟩:=Px.o (by omega);have ajq:((k+1:Nat):Int)-1=(k:Int):=(by omega);have mE:k<cs.length:=by have:=rI.o;omega
   have hz:=rJ.o k mE;have gJ:=Pi.o k mE;have c1':=gJ.fQ aD (a1,a2) tC;have Qs:=gJ.bN aD (a1,a2);have AZ:=gJ.grow aD (a1,a2)
   have ji:Hid (km (cs.drop k) st (x1,x2)=bB cs[k] aD (a1,a2)):=by
    have:=HE.o;show _=_
    rw[agI mE,this]
   subst nd;have jb:=oA.new ((aa.refl ai wr).drew);have nO:=ur.new ((aa.refl ai wr).drew);have gU:ft lo hi w0 wr.drew:=kY;have M0:bk wr.drew b v2 w.heap.size #[GW 3,.slice (some (GB pb 0)) eT fE,.slice bV cA bY,GW bM,GW di,GW eh,GW dX,.bool eL] 64:=⟨P0.aq,P0.not⟩;have M1:bk wr.drew b v2 (w.heap.size+1) #[GW a1,GW a2] 115:=⟨P1.aq,P1.not⟩;have M2:bk wr.drew b v2 (w.heap.size+1+1) #[GW 0,GW 0] 115:=⟨P2.aq,P2.not⟩;have PS:Hid (Ur w.heap.size pb k eT fE (V k) a1 a2 wr.drew):=⟨qA.of M1 ((HK.o k (by omega)).mh gU oH WL),M0.aq.cell 1⟩;have F1:=HP.o k mE wr.drew v2 aD (a1,a2) jb tC gU (by omega);simp only[Nv.val,Nv.cells,cO]at F1;have mS:=ab F1;have PK:=ab (And.intro (And.intro jb (And.intro nO gU)) (And.intro M0 (And.intro M1 M2)));have xJ:¬((eT:Int)<=(k:Int)):=(by omega);clear oA ur kY P0 P1 P2 jb nO gU M0 M1 M2 F1 HE gJ;go_wp2_with fail;refine gD (S:=Ur w.heap.size pb k eT fE (V k) a1 a2) 8 (by kernel_rfl) rfl rfl rfl (by kernel_rfl) (by kernel_rfl) ?_;have ak:=PS.o;refine aj 0 47 (BT b 0) ak ?_;refine aj 1 48 (BT w.heap.size 1) ak ?_;refine aj 2 49 (.slice (some (GB pb 0)) eT fE) ak ?_;refine aj 3 50 (GW k) ak ?_;refine aj 4 51 (.pointer (some ⟨pb,k*8,none⟩)) ak ?_;refine aj 5 52 (.agg #[GW (V k).k,.slice (V k).pa (V k).pn (V k).pc,.slice (V k).sa (V k).sn (V k).sc,GW (V k).ed,GW (V k).gr,GW (V k).lo,GW (V k).hi,.bool (V k).lz]) ak ?_;refine aj 6 53 (.agg #[GW a1,GW a2]) ak ?_;simp only[Act.put,Aa,Ad,Ac];refine bR 7 fun K hK=>?_
   go_simp;refine(mS.o).mono ?_;rintro e w5 ⟨rfl,v5,h5,k5⟩;dsimp only;obtain⟨⟨hB,hW,d_⟩,M0,M1,M2⟩:=PK.o;have S5:=d_.a_ hB k5;have m0:=M0.a_ k5;have m1:=M1.a_ k5;have m2:=M2.a_ k5;have py:Ur w.heap.size pb k eT fE (V k) a1 a2 w5:=⟨qA.of m1 ((HK.o k (by omega)).mh S5 oH WL),m0.aq.cell 1⟩;refine hK.o _ _ py (fun _=>?_);clear hK K;obtain⟨d0,d1,g0,g1⟩:=m1.cM;generalize hE:bB cs[k] aD (a1,a2)=E at*;obtain⟨uX,y1,y2⟩:=E;simp only at c1' Qs AZ h5;have N0:=(m0.bj (d:=w.heap.size+1) (by omega) 0 (GW y1)).bj (d:=w.heap.size+1) (by omega) 1 (GW y2);have N2:=(m2.bj (d:=w.heap.size+1) (by omega) 0 (GW y1)).bj (d:=w.heap.size+1) (by omega) 1 (GW y2);have N1:=(m1.setCell 0 (GW y1)).setCell 1 (GW y2);have h7:=(h5.set m1.not (by omega) 0 (GW y1)).set m1.not (by omega) 1 (GW y2);have W7:=((hW.trans k5).set (c:=w.heap.size+1) (by omega) 0 (GW y1)).set (c:=w.heap.size+1) (by omega) 1 (GW y2);have S7:=(S5.set (c:=w.heap.size+1) (by omega) 0 (GW y1)).set (c:=w.heap.size+1) (by omega) 1 (GW y2);have kh:=ab (And.intro (And.intro h7 (And.intro W7 S7)) (And.intro N0 (And.intro N1 N2)));clear hB hW d_ M0 M1 M2 m0 m1 m2 h5 k5 h7 W7 S7 N0 N1 N2 py S5 mS hE ak PK PS;refine At (by kernel_rfl) ?_ _;unfold eo;go_wp2_with fail;go_roundg k
   case measure=>omega
   case rel=>
    obtain⟨⟨h7,W7,S7⟩,N0,N1,N2⟩:=kh.o;exact⟨k,v5,uX,y1,y2,rfl,by omega,rfl,ji,by omega,c1',h7,W7,S7,N0,N1,N2⟩
theorem cJ.ang{q:Nv}{T:PT}{C:CT}(h:cJ w0 lo hi q T C):C.ok->C.sz<=1000->xo b lo hi w0 q C:=by
 induction h with
 |mk q tk pb bs ts cs V S sp fo nt hn hb hc hk hs oJ hr pC ih=>
  intro dB aW W v st x hB hx hS dy;obtain⟨qk,gN,eT,fE,bV,cA,bY,bM,di,eh,dX,eL⟩:=q;unfold CT.ok at dB;obtain⟨aq0,JU,aq1,aj8,CQ⟩:=dB;simp only at hn hb hs hr pC;have arh:=CT.wS cs CQ;have QS:∀i,i<cs.length->o9 w0 pb i (V i):=fun i hi'=>hc i (by omega)
  have JI:cs≠ []->ts≠ []:=by intro h1 h2;subst h2;exact h1 (Aw.1 (by simpa using hn.2.1))
  have QW:cs≠ []->gN=some (GB pb 0)/\lo<=pb/\pb<hi:=fun e=>hb (JI e)
  have QP:∀i,(h':i<cs.length)->(cs[i]).sz<=1000->xo b lo hi w0 (V i) cs[i]:=fun i h' hz=>ih i (by omega) h' (Iv CQ i h') hz
  rcases pC with⟨rfl,_,CU⟩|⟨rfl,_⟩|⟨rfl,_⟩|⟨rfl,_⟩|⟨rfl,_,aB⟩|⟨rfl,_⟩
  ·have e:bB (.node 0 sp fo nt bM di eh dX eL cs) st x=(st++[pP sp fo nt x.2],((st.length:Int),(st.length:Int))):=by
    rw[bB];simp
   rw[e];refine anw hB x hS (m:=pP sp fo nt) (fun W' n gU=>⟨rfl,rfl,rfl,rfl,rfl,by simp[pP],fun _=>⟨S,bs,hn.2.2,hs,oJ.mh gU (fun h=>(hs h).2),CU,hr.2.2.2.2.2.1,hr.2.2.2.2.2.2⟩⟩) (by omega)
  ·have e:bB (.node 1 sp fo nt bM di eh dX eL cs) st x=fu (sH bM) st x:=by
    rw[bB];simp
   rw[e];exact anv hB x hS (by omega)
  ·have h1:=JU (Or.inl rfl);have sj:(CT.node 2 sp fo nt bM di eh dX eL cs).sz=min (CT.cK cs+1) 1001:=by rw[CT.sz];simp
   rw[sj]at aW dy;have Ry:=afH h1;obtain⟨p1,p2⟩:=QW (by intro e;subst e;simp at h1)
   have e:bB (.node 2 sp fo nt bM di eh dX eL cs) st x=if di=0 then bB (cs[0]'(by omega)) st x else fu (iS (2*(di-1))) (bB (cs[0]'(by omega)) (fu (iS (2*(di-1)+1)) st x).1 (fu (iS (2*(di-1)+1)) st x).2).1 (bB (cs[0]'(by omega)) (fu (iS (2*(di-1)+1)) st x).1 (fu (iS (2*(di-1)+1)) st x).2).2:=by
    rw[bB,aaE h1];simp
   rw[e];refine ans hB x hS (fun W' jb gU=>?_);exact alA jb x hx gU (Iv CQ 0 (by omega)) (by omega) (QP 0 (by omega) (by omega)) p1 (by rw[hn.1,<-hn.2.1,h1]) p2 ((QS 0 (by omega)).mh gU p2.1 p2.2) hr.2.2.2.1 (by omega)
  ·have sj:(CT.node 3 sp fo nt bM di eh dX eL cs).sz=min (CT.cK cs) 1001:=by rw[CT.sz];simp
   rw[sj]at aW dy;have e:bB (.node 3 sp fo nt bM di eh dX eL cs) st x=km cs st x:=by rw[bB];simp
   rw[e];refine anu (pb:=pb) (n:=cs.length) (V:=V) hB x hS hx rfl (by omega) CQ (by omega) (fun i h'=>QP i h' (by have:=yl CQ i h';omega)) (by rw[hn.1,hn.2.1]) (fun h=>QW (by intro e;subst e;simp at h)) QS (by omega)
  ·have WC:cs≠ []:=by intro h2;subst h2;exact aB (Aw.1 (by have:=hn.2.1;simpa using this.symm))
   have dc:cs.length=(cs.length-1)+1:=by have:=Bt.2 WC;omega
   have sj:(CT.node 4 sp fo nt bM di eh dX eL cs).sz=min (CT.cK cs+((cs.length:Int)-1)) 1001:=by rw[CT.sz];simp
   rw[sj]at aW dy;obtain⟨p1,p2⟩:=QW WC;have e:bB (.node 4 sp fo nt bM di eh dX eL cs) st x=jn cs st x:=by rw[bB];simp
   rw[e];subst p1;have hq:eT=cs.length-1+1:=by rw[hn.1,<-hn.2.1];omega
   subst hq;refine ant hB x hS (fun W' jb gU=>?_);exact ahA (n:=cs.length-1) (V:=V) jb x hx gU dc (by omega) CQ (by omega) (fun i h'=>QP i h' (by have:=yl CQ i h';omega)) p2 (fun i h'=>QS i (by omega)) (by omega)
  ·have h1:=JU (Or.inr rfl);have sj:(CT.node 5 sp fo nt bM di eh dX eL cs).sz=min ((if dX= -1 then eh+1 else dX)*(CT.cK cs+1)) 1001:=by rw[CT.sz];simp
   rw[sj]at aW dy;have Ry:=afH h1;rw[Ry]at aW dy;obtain⟨p1,p2⟩:=QW (by intro e;subst e;simp at h1)
   have e:bB (.node 5 sp fo nt bM di eh dX eL cs) st x=nH (bB (cs[0]'(by omega))) eh dX eL st x:=by
    rw[bB,aaE h1];simp
   rw[e];refine anx hB x hS (fun W' jb gU=>?_);exact an8 jb x hx gU (Iv CQ 0 (by omega)) (by simp only;omega) (fun hz=>QP 0 (by omega) hz) p1 (by simp only;rw[hn.1,<-hn.2.1,h1]) p2 (QS 0 (by omega)) (aj8 rfl) (by simp only;omega)
def cQ(l:List Int):List Value:=l.map fun v=>GW v
def nW(l:List Nat):List Value:=l.map fun v:Nat=>GW (v:Int)
theorem mO{e:Nat}{xs:List Value}(h:w.ownsRow base e 1 v n xs)(hn:0<n):∃g c,v=.slice (some (GB g 0)) n c/\base<=g/\g<w.heap.size/\n<=c/\(∀i,i<n->w.cell? (GB g i)=xs[i]?)/\∀i,w.frozen? (GB g i)=false:=by
 obtain⟨hx,h1⟩:=h;rcases h1 with⟨_,h0⟩|⟨g,cap,aO,rfl,a1,a2,a3,a4,a5,a6⟩
 ·omega
 ·refine⟨g,cap,rfl,a1,(Am.1 a2).1,a3,fun i hi=>?_,fun i=>by simp[World.frozen?,a2]⟩;rw[<-a6,Av (by omega)];simp only[World.cell?,a2];simp
def nC(b:Nat)(nv ov lv:Value):Nat->Prop:=fun i=>i=b\/nv.ownBlock=some i\/ov.ownBlock=some i\/lv.ownBlock=some i
structure fS(w:World)(b base:Nat)(sv nv ov lv:Value)(V:VS):Prop where
 aq:au w b #[sv,nv,ov,lv] 147
 num:w.ownsRow base 3 1 nv V.num.length (cQ V.num)
 aP:w.ownsRow base 3 1 ov V.aP.length (nW V.aP)
 bH:w.ownsRow base 3 1 lv V.bH.length (nW V.bH)
 bb:base<=b
 an:∀i,nv.ownBlock=some i->i≠b/\ov.ownBlock≠some i/\lv.ownBlock≠some i
 ao:∀i,ov.ownBlock=some i->i≠b/\lv.ownBlock≠some i
 al:∀i,lv.ownBlock=some i->i≠b
theorem fS.ay(h:fS w b base sv nv ov lv V){i:Nat}(hi:nC b nv ov lv i):base<=i/\i<w.heap.size:=by
 rcases hi with rfl|hi|hi|hi
 ·exact⟨h.bb,h.aq.lt⟩
 ·exact dw h.num hi
 ·exact dw h.aP hi
 ·exact dw h.bH hi
theorem fS.kept(h:fS w b base sv nv ov lv V)(k:aa K w w')(hK:∀i,K i->¬nC b nv ov lv i):fS w' b base sv nv ov lv V:=
 ⟨h.aq.kept k (fun hx=>hK b hx (Or.inl rfl)),bU h.num k (fun i hi hx=>hK i hx (Or.inr (Or.inl hi))),bU h.aP k (fun i hi hx=>hK i hx (Or.inr (Or.inr (Or.inl hi)))),bU h.bH k (fun i hi hx=>hK i hx (Or.inr (Or.inr (Or.inr hi)))),h.bb,h.an,h.ao,h.al⟩
theorem fS.new(h:fS w b base sv nv ov lv V)(k:aa ai w w'):fS w' b base sv nv ov lv V:=h.kept k (fun i hx=>hx.elim)
structure kT(b:Nat)(w w':World)(nv ov lv jw dp:Value):Prop where
 kept:aa (nC b nv ov lv) w w'
 aq:∀i,nC b nv jw dp i->nC b nv ov lv i\/w.heap.size<=i
theorem kT.refl(b:Nat)(w:World)(nv ov lv:Value):kT b w w nv ov lv ov lv:=⟨aa.refl _ _,fun i h=>Or.inl h⟩
theorem kT.trans{wL lv2:Value}(h:kT b w w1 nv ov lv Km wH)(h':kT b w1 w2 nv Km wH wL lv2):kT b w w2 nv ov lv wL lv2 where
 kept:=h.kept.b_ h'.kept (fun i hi hx=>by
  rcases h.aq i hx with h1|h1
  ·exact h1
  ·omega)
 aq i hi:=by
  have hs:=h.kept.size;rcases h'.aq i hi with h1|h1
  ·exact h.aq i h1
  ·right;omega
theorem kT.new(h:kT b w w1 nv ov lv Km wH)(k:aa ai w1 w2):kT b w w2 nv ov lv Km wH:=⟨h.kept.b_ k (fun i _ hx=>hx.elim),h.aq⟩
structure jk(w:World)(g:Nat)(vs:List Sv)(M:List MS):Prop where
 len:vs.length=M.length
 cell:∀i,(h:i<vs.length)->∀j,j<6->w.cell? ⟨g,i*6+j,none⟩=(vs[i]).cells[j]?
 lt:g<w.heap.size
 Xz:∀i,(h:i<vs.length)->(h':i<M.length)->(vs[i]).k=(M[i]).kind/\(vs[i]).nx=(M[i]).next/\(vs[i]).ot=(M[i]).bj
theorem jk.kept(h:jk w g vs M)(k:aa K w w')(hg:¬K g):jk w' g vs M:=
 ⟨h.len,fun i hi j hj=>(k.cell (p:=⟨g,i*6+j,none⟩) h.lt hg).trans (h.cell i hi j hj),Ar h.lt k.size,h.Xz⟩
theorem jk.Kv(h:jk w g vs M){m:MS}(hm:M[s]? =some m):s<M.length/\∃q:Sv,(q.k=m.kind/\q.nx=m.next/\q.ot=m.bj)/\∀W,jk W g vs M->(W.cell? ⟨g,s*6,none⟩=some (GW q.k)/\W.cell? ⟨g,s*6+1,none⟩=some (.slice q.sa q.sn q.sc)/\W.cell? ⟨g,s*6+2,none⟩=some (GW q.ed)/\W.cell? ⟨g,s*6+3,none⟩=some (GW q.sl)/\W.cell? ⟨g,s*6+4,none⟩=some (GW q.nx)/\W.cell? ⟨g,s*6+5,none⟩=some (GW q.ot)):=by
 obtain⟨hs,e⟩:=Ai.1 hm;have hv:s<vs.length:=by rw[h.len];exact hs
 refine⟨hs,vs[s],by rw[<-e];exact h.Xz s hv hs,fun W hW=>?_⟩;exact⟨hW.cell s hv 0 (by omega),hW.cell s hv 1 (by omega),hW.cell s hv 2 (by omega),hW.cell s hv 3 (by omega),hW.cell s hv 4 (by omega),hW.cell s hv 5 (by omega)⟩
theorem lB.grow{V':VS}{s:Int}(h:lB M V s V'):V'.num.length=V.num.length/\V.aP.length<=V'.aP.length/\V.bH.length<=V'.bH.length:=by
 induction h with
 |aN V s v h hv=>exact⟨rfl,Ab _,Ab _⟩
 |stop V s m hn h hk=>exact⟨by simp[VS.put],by simp[VS.put],by simp[VS.put]⟩
 |take V s m hn h hk=>exact⟨by simp[VS.put,VS.iF],by simp[VS.put,VS.iF],by simp[VS.put,VS.iF]⟩
 |one V V' s m hn h hk hv ih=>exact⟨by simp only[VS.put,Bp];exact ih.1,by simp only[VS.put,Aj];omega,by simp only[VS.put];omega⟩
 |cM V V' V2 s m hn h hk hv hw ih uK=>exact⟨by simp only[VS.put,Bp];omega,by simp only[VS.put,Aj];omega,by simp only[VS.put];omega⟩
theorem Tryz.Ig:(prog.info? 3).map (fun i=>(i.zero,i.size,i.bytes))=some (some (GW 0),1,8):=by kernel_rfl
theorem fS.ale{dp:Value}(h:fS w b base sv nv ov lv V)(t:Nat)(k0:aa ai w W)(bC:w7.ownsRow base 3 1 dp (V.bH.length+1) (nW V.bH++[GW (t:Int)]))(hg:W.grownBy w7 lv.ownBlock)(cI:dp.ownBlock=lv.ownBlock\/dp.ownBlock=some W.heap.size):
 au w7 b #[sv,nv,ov,lv] 147/\fS (w7.setCell (GB b 3) dp) b base sv nv ov dp (V.iF t)/\kT b w (w7.setCell (GB b 3) dp) nv ov lv ov dp:=by
 have WX:=k0.size;have k7:aa (fun i=>lv.ownBlock=some i) w w7:=(k0.mono (fun i hx=>hx.elim)).eP hg (fun j hj=>Or.inl hj);have uD:lv.ownBlock≠some b:=fun e=>h.al b e rfl
 have b7:=h.aq.kept k7 uD
 have lZ:∀i,dp.ownBlock=some i->lv.ownBlock=some i\/w.heap.size<=i:=by
  intro i hi;rcases cI with hl|hl
  ·exact Or.inl (hl▸hi)
  ·rw[hl]at hi;cases hi;right;omega
 have k8:aa (nC b nv ov lv) w (w7.setCell (GB b 3) dp):=aa.setCell (S:=nC b nv ov lv) (k7.mono (S':=nC b nv ov lv) (fun i hi=>Or.inr (Or.inr (Or.inr hi)))) (p:=(GB b 3)) (Or.inl (Or.inl rfl)) _;have kb:aa (fun i=>i=b) w7 (w7.setCell (GB b 3) dp):=(aa.refl (fun i=>i=b) w7).setCell (p:=(GB b 3)) (Or.inl rfl) dp
 have uF:∀i,dp.ownBlock=some i->i≠b:=fun i hi e=>by
  subst e;rcases lZ i hi with h1|h1
  ·exact uD h1
  ·have:=h.aq.lt;omega
 refine⟨b7,⟨?_,?_,?_,?_,h.bb,fun i hi=>?_,fun i hi=>?_,uF⟩,⟨k8,fun i hi=>?_⟩⟩
 ·have:=b7.setCell 3 dp;simpa using this
 ·exact bU (bU h.num k7 (fun i hi hx=>(h.an i hi).2.2 hx)) kb (fun i hi e=>(h.an i hi).1 e)
 ·exact bU (bU h.aP k7 (fun i hi hx=>(h.ao i hi).2 hx)) kb (fun i hi e=>(h.ao i hi).1 e)
 ·have e1:(V.iF t).bH.length=V.bH.length+1:=by simp[VS.iF]
  have e2:nW (V.iF t).bH=nW V.bH++[GW (t:Int)]:=by simp[VS.iF,nW]
  rw[e1,e2];exact bU bC kb (fun i hi e=>uF i hi e)
 ·refine⟨(h.an i hi).1,(h.an i hi).2.1,fun e=>?_⟩;rcases lZ i e with h1|h1
  ·exact(h.an i hi).2.2 h1
  ·have:=dw h.num hi;omega
 ·refine⟨(h.ao i hi).1,fun e=>?_⟩;rcases lZ i e with h1|h1
  ·exact(h.ao i hi).2 h1
  ·have:=dw h.aP hi;omega
 ·rcases hi with rfl|hi|hi|hi
  ·exact Or.inl (Or.inl rfl)
  ·exact Or.inl (Or.inr (Or.inl hi))
  ·exact Or.inl (Or.inr (Or.inr (Or.inl hi)))
  ·rcases lZ i hi with h1|h1
   ·exact Or.inl (Or.inr (Or.inr (Or.inr h1)))
   ·exact Or.inr h1
theorem fS.sB(h:fS w b base sv (.slice (some (GB g 0)) n c) ov lv V)(s:Nat)(u:Int):fS (w.setCell (GB g s) (GW u)) b base sv (.slice (some (GB g 0)) n c) ov lv ⟨V.num.set s u,V.aP,V.bH⟩:=by
 have hg:=h.an g rfl;have k:aa (fun i=>i=g) w (w.setCell (GB g s) (GW u)):=(aa.refl (fun i=>i=g) w).setCell (p:=(GB g s)) (Or.inl rfl) _;refine⟨h.aq.kept k (fun e=>hg.1 e.symm),?_,bU h.aP k (fun i hi e=>hg.2.1 (e▸hi)),bU h.bH k (fun i hi e=>hg.2.2 (e▸hi)),h.bb,h.an,h.ao,h.al⟩
 have hn:n=V.num.length:=by
  rcases h.num.2 with⟨h1,_⟩|⟨g',cap,aO,hv,_⟩
  ·cases h1
  ·cases hv;rfl
 subst hn;have:=zK h.num s (GW u);have e:(cQ V.num).set s (GW u)=cQ (V.num.set s u):=by simp[cQ,Fj]
 rw[e]at this;show(w.setCell (GB g s) (GW u)).ownsRow base 3 1 _ (V.num.set s u).length (cQ (V.num.set s u))
 rw[Bp];exact this
theorem kT.sB(h:kT b w w1 (.slice (some (GB g 0)) n c) ov lv Km wH)(u:Value):kT b w (w1.setCell (GB g s) u) (.slice (some (GB g 0)) n c) ov lv Km wH:=
 ⟨h.kept.setCell (p:=(GB g s)) (Or.inl (Or.inr (Or.inl rfl))) u,h.aq⟩
theorem fS.amv{jw:Value}{num:List Int}{aP bH:List Nat}(h:fS w b base sv nv ov lv ⟨num,aP,bH⟩)(t:Nat)(k0:aa ai w W)(bC:w7.ownsRow base 3 1 jw (aP.length+1) (nW aP++[GW (t:Int)]))(hg:W.grownBy w7 ov.ownBlock)(cI:jw.ownBlock=ov.ownBlock\/jw.ownBlock=some W.heap.size):
 au w7 b #[sv,nv,ov,lv] 147/\fS (w7.setCell (GB b 2) jw) b base sv nv jw lv ⟨num,aP++[t],bH⟩/\kT b w (w7.setCell (GB b 2) jw) nv ov lv jw lv:=by
 have WX:=k0.size;have k7:aa (fun i=>ov.ownBlock=some i) w w7:=(k0.mono (fun i hx=>hx.elim)).eP hg (fun j hj=>Or.inl hj);have uD:ov.ownBlock≠some b:=fun e=>(h.ao b e).1 rfl
 have b7:=h.aq.kept k7 uD
 have lZ:∀i,jw.ownBlock=some i->ov.ownBlock=some i\/w.heap.size<=i:=by
  intro i hi;rcases cI with hl|hl
  ·exact Or.inl (hl▸hi)
  ·rw[hl]at hi;cases hi;right;omega
 have k8:aa (nC b nv ov lv) w (w7.setCell (GB b 2) jw):=aa.setCell (S:=nC b nv ov lv) (k7.mono (S':=nC b nv ov lv) (fun i hi=>Or.inr (Or.inr (Or.inl hi)))) (p:=(GB b 2)) (Or.inl (Or.inl rfl)) _;have kb:aa (fun i=>i=b) w7 (w7.setCell (GB b 2) jw):=(aa.refl (fun i=>i=b) w7).setCell (p:=(GB b 2)) (Or.inl rfl) jw
 have uF:∀i,jw.ownBlock=some i->i≠b:=fun i hi e=>by
  subst e;rcases lZ i hi with h1|h1
  ·exact uD h1
  ·have:=h.aq.lt;omega
 refine⟨b7,⟨?_,?_,?_,?_,h.bb,fun i hi=>?_,fun i hi=>?_,h.al⟩,⟨k8,fun i hi=>?_⟩⟩
 ·have:=b7.setCell 2 jw;simpa using this
 ·exact bU (bU h.num k7 (fun i hi hx=>(h.an i hi).2.1 hx)) kb (fun i hi e=>(h.an i hi).1 e)
 ·have e2:nW (aP++[t])=nW aP++[GW (t:Int)]:=by simp[nW]
  show World.ownsRow _ base 3 1 jw (aP++[t]).length (nW (aP++[t]))
  rw[Aj,e2];exact bU bC kb (fun i hi e=>uF i hi e)
 ·exact bU (bU h.bH k7 (fun i hi hx=>(h.ao i hx).2 hi)) kb (fun i hi e=>h.al i hi e)
 ·refine⟨(h.an i hi).1,fun e=>?_,(h.an i hi).2.2⟩;rcases lZ i e with h1|h1
  ·exact(h.an i hi).2.1 h1
  ·have:=dw h.num hi;omega
 ·refine⟨uF i hi,fun e=>?_⟩;rcases lZ i hi with h1|h1
  ·exact(h.ao i h1).2 e
  ·have:=dw h.bH e;omega
 ·rcases hi with rfl|hi|hi|hi
  ·exact Or.inl (Or.inl rfl)
  ·exact Or.inl (Or.inr (Or.inl hi))
  ·rcases lZ i hi with h1|h1
   ·exact Or.inl (Or.inr (Or.inr (Or.inl h1)))
   ·exact Or.inr h1
  ·exact Or.inl (Or.inr (Or.inr (Or.inr hi)))
