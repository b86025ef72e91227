/- The builder's pi -/
import Derived.Test.YtpdnofhackjfdaaGreatDoorP15
set_option linter.all false
set_option maxRecDepth 100000
set_option maxHeartbeats 4000000
namespace Go.Proofs.YtpdnofhackjfdaaGreatDoor
open Go.Proofs.Tryz
open Go.RowKit Go.Maps
variable {eD:Bool} {bI dc dU dZ:Int} {cs:List CT} {M st:List MS} {R:List MS×Ex} {vs:List Sv} {b base c g hi lo n fg eH bT cd s:Nat} {K:Nat->Prop} {gA bS:Option Addr} {V:VS} {lv vP nv ov JL sv v:Value} {W w w' w0 w1 w2 w7:World}
theorem fV.lX{bs:Nat}{S:bF}(h:fV w0 bs S)(hs:fa lo hi w0 w)(hb:S≠ []->lo<=bs/\bs<hi):fV w bs S:=fun i hi'=>by
 have az:S≠ []:=by intro e;subst e;simp at hi'
 obtain⟨b1,b2⟩:=hb az;exact⟨(hs.cell b1 b2).trans (h i hi').1,(hs.cell b1 b2).trans (h i hi').2⟩
theorem afW{k:Nat}(h:k<cs.length)(st:List MS)(nx:Ex):jv (cs.drop k) st nx=bu cs[k] (jv (cs.drop (k+1)) st nx).1 (jv (cs.drop (k+1)) st nx).2:=by
 rw[Bj h];rw[jv]
theorem ZS(h:cs.length=1):mg cs=bu (cs[0]'(by omega)):=by
 match cs,h with
 | [c],_=>rw[mg];rfl
theorem aeX(h:cs.length=1):CT.cG cs=(cs[0]'(by omega)).sz:=by
 match cs,h with
 | [c],_=>simp[CT.cG]
def Tc(B0 pb i:Nat)(pn pc:Nat)(N:Nv)(x1 x2:Int)(w':World):Prop:=qe (B0+1) pb i N x1 x2 w'/\w'.cell? ⟨B0,1,none⟩=some (.slice (some ⟨pb,0,none⟩) pn pc)
theorem am1(h:dr w b lo hi v st)(x:Ex)(hS:fa lo hi w0 w){m:Int->MS}(hm:∀W n,fa lo hi w0 W->gu W lo hi ⟨1,bS,cd,bT,0,0,n,0⟩ (m n))(dw:st.length<10000):
 Calls prog 44 #[.pointer (some ⟨b,0,none⟩),Nv.val ⟨0,gA,eH,fg,bS,cd,bT,bI,dc,dZ,dU,eD⟩,cJ x] w (l9 w b lo hi v (st++[m x.2]) (cJ (st.length,st.length))):=by
 have aw:=h.aj.lt;have dQ:=h.dQ;obtain⟨x1,x2⟩:=x;have h1:=h.alloc (.cells #[.int .i64 0,.slice gA eH fg,.slice bS cd bT,.int .i64 bI,.int .i64 dc,.int .i64 dZ,.int .i64 dU,.bool eD] 64);have h2:=h1.alloc (.cells (aI (x1,x2)) 115);have h3:=h2.alloc (.cells (aI (0,0)) 115);have l0:=((bc.new h #[.int .i64 0,.slice gA eH fg,.slice bS cd bT,.int .i64 bI,.int .i64 dc,.int .i64 dZ,.int .i64 dU,.bool eD] 64).alloc (.cells (aI (x1,x2)) 115)).alloc (.cells (aI (0,0)) 115);have l1:=(bc.new h1 (aI (x1,x2)) 115).alloc (.cells (aI (0,0)) 115);have l2:=bc.new h2 (aI (0,0)) 115;have W3:=(((ee.refl b w v).alloc (.cells #[.int .i64 0,.slice gA eH fg,.slice bS cd bT,.int .i64 bI,.int .i64 dc,.int .i64 dZ,.int .i64 dU,.bool eD] 64)).alloc (.cells (aI (x1,x2)) 115)).alloc (.cells (aI (0,0)) 115);have S3:=((hS.alloc (by omega) (.cells #[.int .i64 0,.slice gA eH fg,.slice bS cd bT,.int .i64 bI,.int .i64 dc,.int .i64 dZ,.int .i64 dU,.bool eD] 64)).alloc (by simp;omega) (.cells (aI (x1,x2)) 115)).alloc (by simp;omega) (.cells (aI (0,0)) 115);simp only[ij]at l1 l2;simp only[aI]at l0 l1 l2 h3 W3 S3;simp only[Nv.val,Nv.cells,cJ];have F1:=IA h3 (hm _ x2 S3) dw;simp only[Sv.val,Sv.cells]at F1;have F1:=ab F1;have PK:=ab (And.intro l2 W3);clear h h1 h2 h3 l0 l1 l2 W3 S3 hS hm;go_in;go_wp2_with fail;refine(F1.o).mono ?_;rintro e w4 ⟨rfl,v4,h4,jm⟩;have m2:=PK.o.1.aX jm;obtain⟨c0,c1,f0,f1⟩:=m2.cA;have ax:=ab (And.intro h4 (And.intro (PK.o.2.trans jm) m2));clear m2 h4 jm F1 PK;go_wp2_with fail;exact mR ax.o.1 ax.o.2.1 ax.o.2.2 (by omega) (by omega) results44 rfl rfl
theorem am0(h:dr w b lo hi v st)(x:Ex)(hS:fa lo hi w0 w)(dw:st.length+2<=10000):
 Calls prog 44 #[.pointer (some ⟨b,0,none⟩),Nv.val ⟨1,gA,eH,fg,bS,cd,bT,bI,dc,dZ,dU,eD⟩,cJ x] w (l9 w b lo hi v (fe (se bI) st x).1 (cJ (fe (se bI) st x).2)):=by
 have aw:=h.aj.lt;have dQ:=h.dQ;obtain⟨x1,x2⟩:=x;have h1:=h.alloc (.cells #[.int .i64 1,.slice gA eH fg,.slice bS cd bT,.int .i64 bI,.int .i64 dc,.int .i64 dZ,.int .i64 dU,.bool eD] 64);have h2:=h1.alloc (.cells (aI (x1,x2)) 115);have h3:=h2.alloc (.cells (aI (0,0)) 115);have l0:=((bc.new h #[.int .i64 1,.slice gA eH fg,.slice bS cd bT,.int .i64 bI,.int .i64 dc,.int .i64 dZ,.int .i64 dU,.bool eD] 64).alloc (.cells (aI (x1,x2)) 115)).alloc (.cells (aI (0,0)) 115);have l1:=(bc.new h1 (aI (x1,x2)) 115).alloc (.cells (aI (0,0)) 115);have l2:=bc.new h2 (aI (0,0)) 115;have W3:=(((ee.refl b w v).alloc (.cells #[.int .i64 1,.slice gA eH fg,.slice bS cd bT,.int .i64 bI,.int .i64 dc,.int .i64 dZ,.int .i64 dU,.bool eD] 64)).alloc (.cells (aI (x1,x2)) 115)).alloc (.cells (aI (0,0)) 115);have S3:=((hS.alloc (by omega) (.cells #[.int .i64 1,.slice gA eH fg,.slice bS cd bT,.int .i64 bI,.int .i64 dc,.int .i64 dZ,.int .i64 dU,.bool eD] 64)).alloc (by simp;omega) (.cells (aI (x1,x2)) 115)).alloc (by simp;omega) (.cells (aI (0,0)) 115);simp only[ij]at l1 l2;simp only[aI]at l0 l1 l2 h3 W3 S3;simp only[Nv.val,Nv.cells,cJ];have F1:=Wd h3 ⟨2,none,0,0,bI,0,0,0⟩ (se bI) (fun W n=>gu.qV W lo hi _ n) (x1,x2) (by omega);simp only[Sv.val,Sv.cells,cJ]at F1;have F1:=ab F1;have PK:=ab (And.intro l2 W3);clear h h1 h2 h3 l0 l1 l2 W3 S3 hS;go_in;go_wp2_with fail;refine(F1.o).mono ?_;rintro e w4 ⟨rfl,v4,h4,jm⟩;have m2:=PK.o.1.aX jm;obtain⟨c0,c1,f0,f1⟩:=m2.cA;have ax:=ab (And.intro h4 (And.intro (PK.o.2.trans jm) m2));clear m2 h4 jm F1 PK;go_wp2_with fail;exact mR ax.o.1 ax.o.2.1 ax.o.2.2 (by omega) (by omega) results44 rfl rfl
theorem amX(h:dr w b lo hi v st)(x:Ex)(hS:fa lo hi w0 w)(hF:∀W,dr W b lo hi v st->fa lo hi w0 W->Calls prog 66 #[.pointer (some ⟨b,0,none⟩),Nv.val ⟨2,gA,eH,fg,bS,cd,bT,bI,dc,dZ,dU,eD⟩,cJ x] W (l9 W b lo hi v R.1 (cJ R.2))):
 Calls prog 44 #[.pointer (some ⟨b,0,none⟩),Nv.val ⟨2,gA,eH,fg,bS,cd,bT,bI,dc,dZ,dU,eD⟩,cJ x] w (l9 w b lo hi v R.1 (cJ R.2)):=by
 have aw:=h.aj.lt;have dQ:=h.dQ;obtain⟨x1,x2⟩:=x;have h1:=h.alloc (.cells #[.int .i64 2,.slice gA eH fg,.slice bS cd bT,.int .i64 bI,.int .i64 dc,.int .i64 dZ,.int .i64 dU,.bool eD] 64);have h2:=h1.alloc (.cells (aI (x1,x2)) 115);have h3:=h2.alloc (.cells (aI (0,0)) 115);have l0:=((bc.new h #[.int .i64 2,.slice gA eH fg,.slice bS cd bT,.int .i64 bI,.int .i64 dc,.int .i64 dZ,.int .i64 dU,.bool eD] 64).alloc (.cells (aI (x1,x2)) 115)).alloc (.cells (aI (0,0)) 115);have l1:=(bc.new h1 (aI (x1,x2)) 115).alloc (.cells (aI (0,0)) 115);have l2:=bc.new h2 (aI (0,0)) 115;have W3:=(((ee.refl b w v).alloc (.cells #[.int .i64 2,.slice gA eH fg,.slice bS cd bT,.int .i64 bI,.int .i64 dc,.int .i64 dZ,.int .i64 dU,.bool eD] 64)).alloc (.cells (aI (x1,x2)) 115)).alloc (.cells (aI (0,0)) 115);have S3:=((hS.alloc (by omega) (.cells #[.int .i64 2,.slice gA eH fg,.slice bS cd bT,.int .i64 bI,.int .i64 dc,.int .i64 dZ,.int .i64 dU,.bool eD] 64)).alloc (by simp;omega) (.cells (aI (x1,x2)) 115)).alloc (by simp;omega) (.cells (aI (0,0)) 115);simp only[ij]at l1 l2;simp only[aI]at l0 l1 l2 h3 W3 S3;obtain⟨NG,r1,r2⟩:=R;simp only[Nv.val,Nv.cells,cJ];have F1:=hF _ h3 S3;simp only[Nv.val,Nv.cells,cJ]at F1;have F1:=ab F1;have PK:=ab (And.intro l2 W3);clear h h1 h2 h3 l0 l1 l2 W3 S3 hS hF;go_in;go_wp2_with fail;refine(F1.o).mono ?_;rintro e w4 ⟨rfl,v4,h4,jm⟩;have m2:=PK.o.1.aX jm;obtain⟨c0,c1,f0,f1⟩:=m2.cA;have ax:=ab (And.intro h4 (And.intro (PK.o.2.trans jm) m2));clear m2 h4 jm F1 PK;go_wp2_with fail;exact mR ax.o.1 ax.o.2.1 ax.o.2.2 (by omega) (by omega) results44 rfl rfl
theorem amY(h:dr w b lo hi v st)(x:Ex)(hS:fa lo hi w0 w)(hF:∀W,dr W b lo hi v st->fa lo hi w0 W->Calls prog 67 #[.pointer (some ⟨b,0,none⟩),.slice gA eH fg,cJ x] W (l9 W b lo hi v R.1 (cJ R.2))):
 Calls prog 44 #[.pointer (some ⟨b,0,none⟩),Nv.val ⟨4,gA,eH,fg,bS,cd,bT,bI,dc,dZ,dU,eD⟩,cJ x] w (l9 w b lo hi v R.1 (cJ R.2)):=by
 have aw:=h.aj.lt;have dQ:=h.dQ;obtain⟨x1,x2⟩:=x;have h1:=h.alloc (.cells #[.int .i64 4,.slice gA eH fg,.slice bS cd bT,.int .i64 bI,.int .i64 dc,.int .i64 dZ,.int .i64 dU,.bool eD] 64);have h2:=h1.alloc (.cells (aI (x1,x2)) 115);have h3:=h2.alloc (.cells (aI (0,0)) 115);have l0:=((bc.new h #[.int .i64 4,.slice gA eH fg,.slice bS cd bT,.int .i64 bI,.int .i64 dc,.int .i64 dZ,.int .i64 dU,.bool eD] 64).alloc (.cells (aI (x1,x2)) 115)).alloc (.cells (aI (0,0)) 115);have l1:=(bc.new h1 (aI (x1,x2)) 115).alloc (.cells (aI (0,0)) 115);have l2:=bc.new h2 (aI (0,0)) 115;have W3:=(((ee.refl b w v).alloc (.cells #[.int .i64 4,.slice gA eH fg,.slice bS cd bT,.int .i64 bI,.int .i64 dc,.int .i64 dZ,.int .i64 dU,.bool eD] 64)).alloc (.cells (aI (x1,x2)) 115)).alloc (.cells (aI (0,0)) 115);have S3:=((hS.alloc (by omega) (.cells #[.int .i64 4,.slice gA eH fg,.slice bS cd bT,.int .i64 bI,.int .i64 dc,.int .i64 dZ,.int .i64 dU,.bool eD] 64)).alloc (by simp;omega) (.cells (aI (x1,x2)) 115)).alloc (by simp;omega) (.cells (aI (0,0)) 115);simp only[ij]at l1 l2;simp only[aI]at l0 l1 l2 h3 W3 S3;obtain⟨NG,r1,r2⟩:=R;simp only[Nv.val,Nv.cells,cJ];have F1:=hF _ h3 S3;simp only[cJ]at F1;have F1:=ab F1;have PK:=ab (And.intro l2 W3);clear h h1 h2 h3 l0 l1 l2 W3 S3 hS hF;go_in;go_wp2_with fail;refine(F1.o).mono ?_;rintro e w4 ⟨rfl,v4,h4,jm⟩;have m2:=PK.o.1.aX jm;obtain⟨c0,c1,f0,f1⟩:=m2.cA;have ax:=ab (And.intro h4 (And.intro (PK.o.2.trans jm) m2));clear m2 h4 jm F1 PK;go_wp2_with fail;exact mR ax.o.1 ax.o.2.1 ax.o.2.2 (by omega) (by omega) results44 rfl rfl
theorem am2(h:dr w b lo hi v st)(x:Ex)(hS:fa lo hi w0 w)(hF:∀W,dr W b lo hi v st->fa lo hi w0 W->Calls prog 68 #[.pointer (some ⟨b,0,none⟩),Nv.val ⟨5,gA,eH,fg,bS,cd,bT,bI,dc,dZ,dU,eD⟩,cJ x] W (l9 W b lo hi v R.1 (cJ R.2))):
 Calls prog 44 #[.pointer (some ⟨b,0,none⟩),Nv.val ⟨5,gA,eH,fg,bS,cd,bT,bI,dc,dZ,dU,eD⟩,cJ x] w (l9 w b lo hi v R.1 (cJ R.2)):=by
 have aw:=h.aj.lt;have dQ:=h.dQ;obtain⟨x1,x2⟩:=x;have h1:=h.alloc (.cells #[.int .i64 5,.slice gA eH fg,.slice bS cd bT,.int .i64 bI,.int .i64 dc,.int .i64 dZ,.int .i64 dU,.bool eD] 64);have h2:=h1.alloc (.cells (aI (x1,x2)) 115);have h3:=h2.alloc (.cells (aI (0,0)) 115);have l0:=((bc.new h #[.int .i64 5,.slice gA eH fg,.slice bS cd bT,.int .i64 bI,.int .i64 dc,.int .i64 dZ,.int .i64 dU,.bool eD] 64).alloc (.cells (aI (x1,x2)) 115)).alloc (.cells (aI (0,0)) 115);have l1:=(bc.new h1 (aI (x1,x2)) 115).alloc (.cells (aI (0,0)) 115);have l2:=bc.new h2 (aI (0,0)) 115;have W3:=(((ee.refl b w v).alloc (.cells #[.int .i64 5,.slice gA eH fg,.slice bS cd bT,.int .i64 bI,.int .i64 dc,.int .i64 dZ,.int .i64 dU,.bool eD] 64)).alloc (.cells (aI (x1,x2)) 115)).alloc (.cells (aI (0,0)) 115);have S3:=((hS.alloc (by omega) (.cells #[.int .i64 5,.slice gA eH fg,.slice bS cd bT,.int .i64 bI,.int .i64 dc,.int .i64 dZ,.int .i64 dU,.bool eD] 64)).alloc (by simp;omega) (.cells (aI (x1,x2)) 115)).alloc (by simp;omega) (.cells (aI (0,0)) 115);simp only[ij]at l1 l2;simp only[aI]at l0 l1 l2 h3 W3 S3;obtain⟨NG,r1,r2⟩:=R;simp only[Nv.val,Nv.cells,cJ];have F1:=hF _ h3 S3;simp only[Nv.val,Nv.cells,cJ]at F1;have F1:=ab F1;have PK:=ab (And.intro l2 W3);clear h h1 h2 h3 l0 l1 l2 W3 S3 hS hF;go_in;go_wp2_with fail;refine(F1.o).mono ?_;rintro e w4 ⟨rfl,v4,h4,jm⟩;have m2:=PK.o.1.aX jm;obtain⟨c0,c1,f0,f1⟩:=m2.cA;have ax:=ab (And.intro h4 (And.intro (PK.o.2.trans jm) m2));clear m2 h4 jm F1 PK;go_wp2_with fail;exact mR ax.o.1 ax.o.2.1 ax.o.2.2 (by omega) (by omega) results44 rfl rfl
theorem amZ(h:dr w b lo hi v st)(x:Ex)(hS:fa lo hi w0 w){pb:Nat}{V:Nat->Nv}(hx:da st.length x)(cT:cs.length=n)(hn:n<=400)(dD:CT.ey cs)(aP:CT.cG cs<=1000)(hP:∀i,(hi':i<cs.length)->wJ b lo hi w0 (V i) cs[i])
 (iJ:eH=n)(dX:0<n->gA=some ⟨pb,0,none⟩/\lo<=pb/\pb<hi)(hK:∀i,i<n->oT w0 pb i (V i))(dw:st.length+4*(CT.cG cs).toNat<=9000):
 Calls prog 44 #[.pointer (some ⟨b,0,none⟩),Nv.val ⟨3,gA,eH,fg,bS,cd,bT,bI,dc,dZ,dU,eD⟩,cJ x] w (l9 w b lo hi v (jv cs st x).1 (cJ (jv cs st x).2)):=by
 have aw:=h.aj.lt;have dQ:=h.dQ;obtain⟨x1,x2⟩:=x;have h1:=h.alloc (.cells #[.int .i64 3,.slice gA eH fg,.slice bS cd bT,.int .i64 bI,.int .i64 dc,.int .i64 dZ,.int .i64 dU,.bool eD] 64);have h2:=h1.alloc (.cells (aI (x1,x2)) 115);have h3:=h2.alloc (.cells (aI (0,0)) 115);have l0:=((bc.new h #[.int .i64 3,.slice gA eH fg,.slice bS cd bT,.int .i64 bI,.int .i64 dc,.int .i64 dZ,.int .i64 dU,.bool eD] 64).alloc (.cells (aI (x1,x2)) 115)).alloc (.cells (aI (0,0)) 115);have l1:=(bc.new h1 (aI (x1,x2)) 115).alloc (.cells (aI (0,0)) 115);have l2:=bc.new h2 (aI (0,0)) 115;have W3:=(((ee.refl b w v).alloc (.cells #[.int .i64 3,.slice gA eH fg,.slice bS cd bT,.int .i64 bI,.int .i64 dc,.int .i64 dZ,.int .i64 dU,.bool eD] 64)).alloc (.cells (aI (x1,x2)) 115)).alloc (.cells (aI (0,0)) 115);have S3:=((hS.alloc (by omega) (.cells #[.int .i64 3,.slice gA eH fg,.slice bS cd bT,.int .i64 bI,.int .i64 dc,.int .i64 dZ,.int .i64 dU,.bool eD] 64)).alloc (by simp;omega) (.cells (aI (x1,x2)) 115)).alloc (by simp;omega) (.cells (aI (0,0)) 115);simp only[ij]at l1 l2;simp only[aI]at l0 l1 l2 h3 W3 S3;subst iJ;have HK:=ab hK;have HP:=ab hP;have Oc:Hid (∀i,(hi':i<cs.length)->BS (bu cs[i]) (4*(cs[i]).sz.toNat)):=fun i hi'=>od _ (Hf dD i hi') (by have:=xG dD i hi';omega)
 have qZ:Hid (∀i,(hi':i<cs.length)->0<=CT.cG (cs.take i)/\0<=(cs[i]).sz/\CT.cG (cs.take i)+(cs[i]).sz<=CT.cG cs/\CT.cG (cs.take (i+1))=CT.cG (cs.take i)+(cs[i]).sz):=fun i hi'=>⟨(xG dD i hi').1,(xG dD i hi').2.1,(xG dD i hi').2.2,XC cs i hi'⟩
 have qY:=ab cT;have HPB:=ab dX
 have HE0:Hid (jv (cs.drop eH) st (x1,x2)=(st,(x1,x2))):=by
  show _=_
  rw[Fe (by omega)];rw[jv]
 have hf0:st.length+4*(CT.cG (cs.take eH)).toNat<=9000:=by rw[By (by omega)];exact dw
 have du:=ab (And.intro (And.intro l0 (And.intro l1 l2)) (And.intro W3 (And.intro h3 S3)));clear h h1 h2 h3 l0 l1 l2 W3 S3 hS hK hP dX;simp only[Nv.val,Nv.cells,cJ];go_in;go_wp2_with fail
 go_loopg [8] eH (fun kk i wr=>∃(k:Nat) (v2:Value) (aC:List MS) (a1 a2:Int),i=.int .i64 ((k:Int)-1)/\k<=eH/\kk=k/\Hid (jv (cs.drop k) st (x1,x2)=(aC,(a1,a2)))/\aC.length+4*(CT.cG (cs.take k)).toNat<=9000/\da aC.length (a1,a2)/\
  dr wr b lo hi v2 aC/\ee b w wr v v2/\fa lo hi w0 wr/\bc wr b v2 w.heap.size #[.int .i64 3,.slice gA eH fg,.slice bS cd bT,.int .i64 bI,.int .i64 dc,.int .i64 dZ,.int .i64 dU,.bool eD] 64/\bc wr b v2 (w.heap.size+1) #[.int .i64 a1,.int .i64 a2] 115/\bc wr b v2 (w.heap.size+1+1) #[.int .i64 0,.int .i64 0] 115)
 case atStart=>
  obtain⟨⟨l0,l1,l2⟩,W3,h3,S3⟩:=du.o;exact⟨eH,v,st,x1,x2,rfl,Ab _,rfl,HE0,hf0,hx,h3,W3,S3,l0,l1,l2⟩
 case round=>
  obtain⟨k',v2,aC,a1,a2,rfl,hk,eZ,HE,bP,ta,ow,tV,kR,P0,P1,P2⟩:=hrel;clear du
  cases k' with
  |zero=>
   subst eZ;obtain⟨c0,c1,_,_⟩:=P1.cA;obtain⟨d0,d1,g0,g1⟩:=P2.cA;have ax:=ab (And.intro ow (And.intro tV P2));have sP:¬((0:Int)<=((0:Nat):Int)-1):=(by omega);have jd:Hid (jv cs st (x1,x2)=(aC,(a1,a2))):=HE.o;clear ow tV kR P0 P1 P2 HE;go_wp2_with fail;rw[jd.o];exact mR ax.o.1 ax.o.2.1 ax.o.2.2 (by omega) (by omega) results44 rfl rfl
  |succ k=>
   subst eZ;obtain⟨mX,jX,Vx⟩:=HPB.o (by omega);have aiO:((k+1:Nat):Int)-1=(k:Int):=(by omega);have oA:k<cs.length:=by have:=qY.o;omega
   have hz:=qZ.o k oA;have gD:=Oc.o k oA;have c1':=gD.fI aC (a1,a2) ta;have O_:=gD.bJ aC (a1,a2);have zO:=gD.grow aC (a1,a2)
   have jd:Hid (jv (cs.drop k) st (x1,x2)=bu cs[k] aC (a1,a2)):=by
    have:=HE.o;show _=_
    rw[afW oA,this]
   subst mX;have iT:=ow.new ((aa.refl af wr).drew);have nE:=tV.new ((aa.refl af wr).drew);have gH:fa lo hi w0 wr.drew:=kR;have M0:bc wr.drew b v2 w.heap.size #[.int .i64 3,.slice (some ⟨pb,0,none⟩) eH fg,.slice bS cd bT,.int .i64 bI,.int .i64 dc,.int .i64 dZ,.int .i64 dU,.bool eD] 64:=⟨P0.aj,P0.not⟩;have M1:bc wr.drew b v2 (w.heap.size+1) #[.int .i64 a1,.int .i64 a2] 115:=⟨P1.aj,P1.not⟩;have M2:bc wr.drew b v2 (w.heap.size+1+1) #[.int .i64 0,.int .i64 0] 115:=⟨P2.aj,P2.not⟩;have PS:Hid (Tc w.heap.size pb k eH fg (V k) a1 a2 wr.drew):=⟨qe.of M1 ((HK.o k (by omega)).lX gH jX Vx),M0.aj.cell 1⟩;have F1:=HP.o k oA wr.drew v2 aC (a1,a2) iT ta gH (by omega);simp only[Nv.val,Nv.cells,cJ]at F1;have mH:=ab F1;have PK:=ab (And.intro (And.intro iT (And.intro nE gH)) (And.intro M0 (And.intro M1 M2)));have wZ:¬((eH:Int)<=(k:Int)):=(by omega);clear ow tV kR P0 P1 P2 iT nE gH M0 M1 M2 F1 HE gD;go_wp2_with fail;refine gW (S:=Tc w.heap.size pb k eH fg (V k) a1 a2) 8 (by kernel_rfl) rfl rfl rfl (by kernel_rfl) (by kernel_rfl) ?_;have ak:=PS.o;refine ai 0 47 (.pointer (some ⟨b,0,none⟩)) ak ?_;refine ai 1 48 (.pointer (some ⟨w.heap.size,1,none⟩)) ak ?_;refine ai 2 49 (.slice (some ⟨pb,0,none⟩) eH fg) ak ?_;refine ai 3 50 (.int .i64 k) ak ?_;refine ai 4 51 (.pointer (some ⟨pb,k*8,none⟩)) ak ?_;refine ai 5 52 (.agg #[.int .i64 (V k).k,.slice (V k).pa (V k).pn (V k).pc,.slice (V k).sa (V k).sn (V k).sc,.int .i64 (V k).ed,.int .i64 (V k).gr,.int .i64 (V k).lo,.int .i64 (V k).hi,.bool (V k).lz]) ak ?_;refine ai 6 53 (.agg #[.int .i64 a1,.int .i64 a2]) ak ?_;simp only[Act.put,Aa,Ad,Ac];refine bQ 7 fun K hK=>?_
   go_simp;refine(mH.o).mono ?_;rintro e w5 ⟨rfl,v5,h5,k5⟩;dsimp only;obtain⟨⟨hB,hW,dW⟩,M0,M1,M2⟩:=PK.o;have S5:=dW.aX hB k5;have m0:=M0.aX k5;have m1:=M1.aX k5;have m2:=M2.aX k5;have o9:Tc w.heap.size pb k eH fg (V k) a1 a2 w5:=⟨qe.of m1 ((HK.o k (by omega)).lX S5 jX Vx),m0.aj.cell 1⟩;refine hK.o _ _ o9 (fun _=>?_);clear hK K;obtain⟨d0,d1,g0,g1⟩:=m1.cA;generalize hE:bu cs[k] aC (a1,a2)=E at*;obtain⟨uC,y1,y2⟩:=E;simp only at c1' O_ zO h5;have N0:=(m0.a_ (d:=w.heap.size+1) (by omega) 0 (.int .i64 y1)).a_ (d:=w.heap.size+1) (by omega) 1 (.int .i64 y2);have N2:=(m2.a_ (d:=w.heap.size+1) (by omega) 0 (.int .i64 y1)).a_ (d:=w.heap.size+1) (by omega) 1 (.int .i64 y2);have N1:=(m1.setCell 0 (.int .i64 y1)).setCell 1 (.int .i64 y2);have h7:=(h5.set m1.not (by omega) 0 (.int .i64 y1)).set m1.not (by omega) 1 (.int .i64 y2);have W7:=((hW.trans k5).set (c:=w.heap.size+1) (by omega) 0 (.int .i64 y1)).set (c:=w.heap.size+1) (by omega) 1 (.int .i64 y2);have S7:=(S5.set (c:=w.heap.size+1) (by omega) 0 (.int .i64 y1)).set (c:=w.heap.size+1) (by omega) 1 (.int .i64 y2);have kh:=ab (And.intro (And.intro h7 (And.intro W7 S7)) (And.intro N0 (And.intro N1 N2)));clear hB hW dW M0 M1 M2 m0 m1 m2 h5 k5 h7 W7 S7 N0 N1 N2 o9 S5 mH hE ak PK PS;refine At (by kernel_rfl) ?_ _;unfold eN;go_wp2_with fail;go_roundg k
   case measure=>omega
   case rel=>
    obtain⟨⟨h7,W7,S7⟩,N0,N1,N2⟩:=kh.o;exact⟨k,v5,uC,y1,y2,rfl,by omega,rfl,jd,by omega,c1',h7,W7,S7,N0,N1,N2⟩
theorem cI.amM{q:Nv}{T:PT}{C:CT}(h:cI w0 lo hi q T C):C.ok->C.sz<=1000->wJ b lo hi w0 q C:=by
 induction h with
 |mk q tk pb bs ts cs V S sp fo nt hn hb hc hk hs oC hr ph ih=>
  intro dD aP W v st x hB hx hS dw;obtain⟨qk,gA,eH,fg,bS,cd,bT,bI,dc,dZ,dU,eD⟩:=q;unfold CT.ok at dD;obtain⟨aqv,Jh,aqw,ajw,AX⟩:=dD;simp only at hn hb hs hr ph;have aqL:=CT.wg cs AX;have Px:∀i,i<cs.length->oT w0 pb i (V i):=fun i hi'=>hc i (by omega)
  have I5:cs≠ []->ts≠ []:=by intro h1 h2;subst h2;exact h1 (Ax.1 (by simpa using hn.2.1))
  have PC:cs≠ []->gA=some ⟨pb,0,none⟩/\lo<=pb/\pb<hi:=fun e=>hb (I5 e)
  have Pu:∀i,(h':i<cs.length)->(cs[i]).sz<=1000->wJ b lo hi w0 (V i) cs[i]:=fun i h' hz=>ih i (by omega) h' (Hf AX i h') hz
  rcases ph with⟨rfl,_,BD⟩|⟨rfl,_⟩|⟨rfl,_⟩|⟨rfl,_⟩|⟨rfl,_,az⟩|⟨rfl,_⟩
  ·have e:bu (.node 0 sp fo nt bI dc dZ dU eD cs) st x=(st++[nT sp fo nt x.2],((st.length:Int),(st.length:Int))):=by
    rw[bu];simp
   rw[e];refine am1 hB x hS (m:=nT sp fo nt) (fun W' n gH=>⟨rfl,rfl,rfl,rfl,rfl,by simp[nT],fun _=>⟨S,bs,hn.2.2,hs,oC.lX gH (fun h=>(hs h).2),BD,hr.2.2.2.2.2.1,hr.2.2.2.2.2.2⟩⟩) (by omega)
  ·have e:bu (.node 1 sp fo nt bI dc dZ dU eD cs) st x=fe (se bI) st x:=by
    rw[bu];simp
   rw[e];exact am0 hB x hS (by omega)
  ·have h1:=Jh (Or.inl rfl);have rN:(CT.node 2 sp fo nt bI dc dZ dU eD cs).sz=min (CT.cG cs+1) 1001:=by rw[CT.sz];simp
   rw[rN]at aP dw;have Qs:=aeX h1;obtain⟨p1,p2⟩:=PC (by intro e;subst e;simp at h1)
   have e:bu (.node 2 sp fo nt bI dc dZ dU eD cs) st x=if dc=0 then bu (cs[0]'(by omega)) st x else fe (iB (2*(dc-1))) (bu (cs[0]'(by omega)) (fe (iB (2*(dc-1)+1)) st x).1 (fe (iB (2*(dc-1)+1)) st x).2).1 (bu (cs[0]'(by omega)) (fe (iB (2*(dc-1)+1)) st x).1 (fe (iB (2*(dc-1)+1)) st x).2).2:=by
    rw[bu,ZS h1];simp
   rw[e];refine amX hB x hS (fun W' iT gH=>?_);exact ak0 iT x hx gH (Hf AX 0 (by omega)) (by omega) (Pu 0 (by omega) (by omega)) p1 (by rw[hn.1,<-hn.2.1,h1]) p2 ((Px 0 (by omega)).lX gH p2.1 p2.2) hr.2.2.2.1 (by omega)
  ·have rN:(CT.node 3 sp fo nt bI dc dZ dU eD cs).sz=min (CT.cG cs) 1001:=by rw[CT.sz];simp
   rw[rN]at aP dw;have e:bu (.node 3 sp fo nt bI dc dZ dU eD cs) st x=jv cs st x:=by rw[bu];simp
   rw[e];refine amZ (pb:=pb) (n:=cs.length) (V:=V) hB x hS hx rfl (by omega) AX (by omega) (fun i h'=>Pu i h' (by have:=xG AX i h';omega)) (by rw[hn.1,hn.2.1]) (fun h=>PC (by intro e;subst e;simp at h)) Px (by omega)
  ·have hne':cs≠ []:=by intro h2;subst h2;exact az (Ax.1 (by have:=hn.2.1;simpa using this.symm))
   have cT:cs.length=(cs.length-1)+1:=by have:=Br.2 hne';omega
   have rN:(CT.node 4 sp fo nt bI dc dZ dU eD cs).sz=min (CT.cG cs+((cs.length:Int)-1)) 1001:=by rw[CT.sz];simp
   rw[rN]at aP dw;obtain⟨p1,p2⟩:=PC hne';have e:bu (.node 4 sp fo nt bI dc dZ dU eD cs) st x=iO cs st x:=by rw[bu];simp
   rw[e];subst p1;have hq:eH=cs.length-1+1:=by rw[hn.1,<-hn.2.1];omega
   subst hq;refine amY hB x hS (fun W' iT gH=>?_);exact agN (n:=cs.length-1) (V:=V) iT x hx gH cT (by omega) AX (by omega) (fun i h'=>Pu i h' (by have:=xG AX i h';omega)) p2 (fun i h'=>Px i (by omega)) (by omega)
  ·have h1:=Jh (Or.inr rfl);have rN:(CT.node 5 sp fo nt bI dc dZ dU eD cs).sz=min ((if dU= -1 then dZ+1 else dU)*(CT.cG cs+1)) 1001:=by rw[CT.sz];simp
   rw[rN]at aP dw;have Qs:=aeX h1;rw[Qs]at aP dw;obtain⟨p1,p2⟩:=PC (by intro e;subst e;simp at h1)
   have e:bu (.node 5 sp fo nt bI dc dZ dU eD cs) st x=nA (bu (cs[0]'(by omega))) dZ dU eD st x:=by
    rw[bu,ZS h1];simp
   rw[e];refine am2 hB x hS (fun W' iT gH=>?_);exact anE iT x hx gH (Hf AX 0 (by omega)) (by simp only;omega) (fun hz=>Pu 0 (by omega) hz) p1 (by simp only;rw[hn.1,<-hn.2.1,h1]) p2 (Px 0 (by omega)) (ajw rfl) (by simp only;omega)
def cY(l:List Int):List Value:=l.map fun v=>.int .i64 v
def nQ(l:List Nat):List Value:=l.map fun v:Nat=>.int .i64 (v:Int)
theorem mG{e:Nat}{xs:List Value}(h:w.ownsRow base e 1 v n xs)(hn:0<n):∃g c,v=.slice (some ⟨g,0,none⟩) n c/\base<=g/\g<w.heap.size/\n<=c/\(∀i,i<n->w.cell? ⟨g,i,none⟩=xs[i]?)/\∀i,w.frozen? ⟨g,i,none⟩=false:=by
 obtain⟨hx,h1⟩:=h;rcases h1 with⟨_,h0⟩|⟨g,cap,aM,rfl,a1,a2,a3,a4,a5,a6⟩
 ·omega
 ·refine⟨g,cap,rfl,a1,(Am.1 a2).1,a3,fun i hi=>?_,fun i=>by simp[World.frozen?,a2]⟩;rw[<-a6,Aw (by omega)];simp only[World.cell?,a2];simp
def nj(b:Nat)(nv ov lv:Value):Nat->Prop:=fun i=>i=b\/nv.ownBlock=some i\/ov.ownBlock=some i\/lv.ownBlock=some i
structure fJ(w:World)(b base:Nat)(sv nv ov lv:Value)(V:VS):Prop where
 aj:aq w b #[sv,nv,ov,lv] 147
 num:w.ownsRow base 3 1 nv V.num.length (cY V.num)
 aL:w.ownsRow base 3 1 ov V.aL.length (nQ V.aL)
 bD:w.ownsRow base 3 1 lv V.bD.length (nQ V.bD)
 bb:base<=b
 an:∀i,nv.ownBlock=some i->i≠b/\ov.ownBlock≠some i/\lv.ownBlock≠some i
 ao:∀i,ov.ownBlock=some i->i≠b/\lv.ownBlock≠some i
 al:∀i,lv.ownBlock=some i->i≠b
theorem fJ.au(h:fJ w b base sv nv ov lv V){i:Nat}(hi:nj b nv ov lv i):base<=i/\i<w.heap.size:=by
 rcases hi with rfl|hi|hi|hi
 ·exact⟨h.bb,h.aj.lt⟩
 ·exact dE h.num hi
 ·exact dE h.aL hi
 ·exact dE h.bD hi
theorem fJ.kept(h:fJ w b base sv nv ov lv V)(k:aa K w w')(hK:∀i,K i->¬nj b nv ov lv i):fJ w' b base sv nv ov lv V:=
 ⟨h.aj.kept k (fun hx=>hK b hx (Or.inl rfl)),bY h.num k (fun i hi hx=>hK i hx (Or.inr (Or.inl hi))),bY h.aL k (fun i hi hx=>hK i hx (Or.inr (Or.inr (Or.inl hi)))),bY h.bD k (fun i hi hx=>hK i hx (Or.inr (Or.inr (Or.inr hi)))),h.bb,h.an,h.ao,h.al⟩
theorem fJ.new(h:fJ w b base sv nv ov lv V)(k:aa af w w'):fJ w' b base sv nv ov lv V:=h.kept k (fun i hx=>hx.elim)
structure kN(b:Nat)(w w':World)(nv ov lv jq de:Value):Prop where
 kept:aa (nj b nv ov lv) w w'
 aj:∀i,nj b nv jq de i->nj b nv ov lv i\/w.heap.size<=i
theorem kN.refl(b:Nat)(w:World)(nv ov lv:Value):kN b w w nv ov lv ov lv:=⟨aa.refl _ _,fun i h=>Or.inl h⟩
theorem kN.trans{ov2 lv2:Value}(h:kN b w w1 nv ov lv JL vP)(h':kN b w1 w2 nv JL vP ov2 lv2):kN b w w2 nv ov lv ov2 lv2 where
 kept:=h.kept.bZ h'.kept (fun i hi hx=>by
  rcases h.aj i hx with h1|h1
  ·exact h1
  ·omega)
 aj i hi:=by
  have hs:=h.kept.size;rcases h'.aj i hi with h1|h1
  ·exact h.aj i h1
  ·right;omega
theorem kN.new(h:kN b w w1 nv ov lv JL vP)(k:aa af w1 w2):kN b w w2 nv ov lv JL vP:=⟨h.kept.bZ k (fun i _ hx=>hx.elim),h.aj⟩
structure je(w:World)(g:Nat)(vs:List Sv)(M:List MS):Prop where
 len:vs.length=M.length
 cell:∀i,(h:i<vs.length)->∀j,j<6->w.cell? ⟨g,i*6+j,none⟩=(vs[i]).cells[j]?
 lt:g<w.heap.size
 Wf:∀i,(h:i<vs.length)->(h':i<M.length)->(vs[i]).k=(M[i]).kind/\(vs[i]).nx=(M[i]).next/\(vs[i]).ot=(M[i]).a_
theorem je.kept(h:je w g vs M)(k:aa K w w')(hg:¬K g):je w' g vs M:=
 ⟨h.len,fun i hi j hj=>(k.cell (p:=⟨g,i*6+j,none⟩) h.lt hg).trans (h.cell i hi j hj),As h.lt k.size,h.Wf⟩
theorem je.JW(h:je w g vs M){m:MS}(hm:M[s]? =some m):s<M.length/\∃q:Sv,(q.k=m.kind/\q.nx=m.next/\q.ot=m.a_)/\∀W,je W g vs M->(W.cell? ⟨g,s*6,none⟩=some (.int .i64 q.k)/\W.cell? ⟨g,s*6+1,none⟩=some (.slice q.sa q.sn q.sc)/\W.cell? ⟨g,s*6+2,none⟩=some (.int .i64 q.ed)/\W.cell? ⟨g,s*6+3,none⟩=some (.int .i64 q.sl)/\W.cell? ⟨g,s*6+4,none⟩=some (.int .i64 q.nx)/\W.cell? ⟨g,s*6+5,none⟩=some (.int .i64 q.ot)):=by
 obtain⟨hs,e⟩:=Ag.1 hm;have hv:s<vs.length:=by rw[h.len];exact hs
 refine⟨hs,vs[s],by rw[<-e];exact h.Wf s hv hs,fun W hW=>?_⟩;exact⟨hW.cell s hv 0 (by omega),hW.cell s hv 1 (by omega),hW.cell s hv 2 (by omega),hW.cell s hv 3 (by omega),hW.cell s hv 4 (by omega),hW.cell s hv 5 (by omega)⟩
theorem lk.grow{V':VS}{s:Int}(h:lk M V s V'):V'.num.length=V.num.length/\V.aL.length<=V'.aL.length/\V.bD.length<=V'.bD.length:=by
 induction h with
 |aJ V s v h hv=>exact⟨rfl,Ab _,Ab _⟩
 |stop V s m hn h hk=>exact⟨by simp[VS.put],by simp[VS.put],by simp[VS.put]⟩
 |take V s m hn h hk=>exact⟨by simp[VS.put,VS.iq],by simp[VS.put,VS.iq],by simp[VS.put,VS.iq]⟩
 |one V V' s m hn h hk hv ih=>exact⟨by simp only[VS.put,Bm];exact ih.1,by simp only[VS.put,Aj];omega,by simp only[VS.put];omega⟩
 |cA V V' V2 s m hn h hk hv hw ih uj=>exact⟨by simp only[VS.put,Bm];omega,by simp only[VS.put,Aj];omega,by simp only[VS.put];omega⟩
theorem Tryz.GU:(prog.info? 3).map (fun i=>(i.zero,i.size,i.bytes))=some (some (.int .i64 0),1,8):=by kernel_rfl
theorem fJ.akz{de:Value}(h:fJ w b base sv nv ov lv V)(t:Nat)(k0:aa af w W)(bt:w7.ownsRow base 3 1 de (V.bD.length+1) (nQ V.bD++[.int .i64 (t:Int)]))(hg:W.grownBy w7 lv.ownBlock)(cB:de.ownBlock=lv.ownBlock\/de.ownBlock=some W.heap.size):
 aq w7 b #[sv,nv,ov,lv] 147/\fJ (w7.setCell ⟨b,3,none⟩ de) b base sv nv ov de (V.iq t)/\kN b w (w7.setCell ⟨b,3,none⟩ de) nv ov lv ov de:=by
 have VG:=k0.size;have k7:aa (fun i=>lv.ownBlock=some i) w w7:=(k0.mono (fun i hx=>hx.elim)).eQ hg (fun j hj=>Or.inl hj);have uc:lv.ownBlock≠some b:=fun e=>h.al b e rfl
 have b7:=h.aj.kept k7 uc
 have lP:∀i,de.ownBlock=some i->lv.ownBlock=some i\/w.heap.size<=i:=by
  intro i hi;rcases cB with hl|hl
  ·exact Or.inl (hl▸hi)
  ·rw[hl]at hi;cases hi;right;omega
 have k8:aa (nj b nv ov lv) w (w7.setCell ⟨b,3,none⟩ de):=aa.setCell (S:=nj b nv ov lv) (k7.mono (S':=nj b nv ov lv) (fun i hi=>Or.inr (Or.inr (Or.inr hi)))) (p:=⟨b,3,none⟩) (Or.inl (Or.inl rfl)) _;have kb:aa (fun i=>i=b) w7 (w7.setCell ⟨b,3,none⟩ de):=(aa.refl (fun i=>i=b) w7).setCell (p:=⟨b,3,none⟩) (Or.inl rfl) de
 have ue:∀i,de.ownBlock=some i->i≠b:=fun i hi e=>by
  subst e;rcases lP i hi with h1|h1
  ·exact uc h1
  ·have:=h.aj.lt;omega
 refine⟨b7,⟨?_,?_,?_,?_,h.bb,fun i hi=>?_,fun i hi=>?_,ue⟩,⟨k8,fun i hi=>?_⟩⟩
 ·have:=b7.setCell 3 de;simpa using this
 ·exact bY (bY h.num k7 (fun i hi hx=>(h.an i hi).2.2 hx)) kb (fun i hi e=>(h.an i hi).1 e)
 ·exact bY (bY h.aL k7 (fun i hi hx=>(h.ao i hi).2 hx)) kb (fun i hi e=>(h.ao i hi).1 e)
 ·have e1:(V.iq t).bD.length=V.bD.length+1:=by simp[VS.iq]
  have e2:nQ (V.iq t).bD=nQ V.bD++[.int .i64 (t:Int)]:=by simp[VS.iq,nQ]
  rw[e1,e2];exact bY bt kb (fun i hi e=>ue i hi e)
 ·refine⟨(h.an i hi).1,(h.an i hi).2.1,fun e=>?_⟩;rcases lP i e with h1|h1
  ·exact(h.an i hi).2.2 h1
  ·have:=dE h.num hi;omega
 ·refine⟨(h.ao i hi).1,fun e=>?_⟩;rcases lP i e with h1|h1
  ·exact(h.ao i hi).2 h1
  ·have:=dE h.aL hi;omega
 ·rcases hi with rfl|hi|hi|hi
  ·exact Or.inl (Or.inl rfl)
  ·exact Or.inl (Or.inr (Or.inl hi))
  ·exact Or.inl (Or.inr (Or.inr (Or.inl hi)))
  ·rcases lP i hi with h1|h1
   ·exact Or.inl (Or.inr (Or.inr (Or.inr h1)))
   ·exact Or.inr h1
theorem fJ.rV(h:fJ w b base sv (.slice (some ⟨g,0,none⟩) n c) ov lv V)(s:Nat)(u:Int):fJ (w.setCell ⟨g,s,none⟩ (.int .i64 u)) b base sv (.slice (some ⟨g,0,none⟩) n c) ov lv ⟨V.num.set s u,V.aL,V.bD⟩:=by
 have hg:=h.an g rfl;have k:aa (fun i=>i=g) w (w.setCell ⟨g,s,none⟩ (.int .i64 u)):=(aa.refl (fun i=>i=g) w).setCell (p:=⟨g,s,none⟩) (Or.inl rfl) _;refine⟨h.aj.kept k (fun e=>hg.1 e.symm),?_,bY h.aL k (fun i hi e=>hg.2.1 (e▸hi)),bY h.bD k (fun i hi e=>hg.2.2 (e▸hi)),h.bb,h.an,h.ao,h.al⟩
 have hn:n=V.num.length:=by
  rcases h.num.2 with⟨h1,_⟩|⟨g',cap,aM,hv,_⟩
  ·cases h1
  ·cases hv;rfl
 subst hn;have:=yU h.num s (.int .i64 u);have e:(cY V.num).set s (.int .i64 u)=cY (V.num.set s u):=by simp[cY,Fk]
 rw[e]at this;show(w.setCell ⟨g,s,none⟩ (.int .i64 u)).ownsRow base 3 1 _ (V.num.set s u).length (cY (V.num.set s u))
 rw[Bm];exact this
theorem kN.rV(h:kN b w w1 (.slice (some ⟨g,0,none⟩) n c) ov lv JL vP)(u:Value):kN b w (w1.setCell ⟨g,s,none⟩ u) (.slice (some ⟨g,0,none⟩) n c) ov lv JL vP:=
 ⟨h.kept.setCell (p:=⟨g,s,none⟩) (Or.inl (Or.inr (Or.inl rfl))) u,h.aj⟩
theorem fJ.al2{jq:Value}{num:List Int}{aL bD:List Nat}(h:fJ w b base sv nv ov lv ⟨num,aL,bD⟩)(t:Nat)(k0:aa af w W)(bt:w7.ownsRow base 3 1 jq (aL.length+1) (nQ aL++[.int .i64 (t:Int)]))(hg:W.grownBy w7 ov.ownBlock)(cB:jq.ownBlock=ov.ownBlock\/jq.ownBlock=some W.heap.size):
 aq w7 b #[sv,nv,ov,lv] 147/\fJ (w7.setCell ⟨b,2,none⟩ jq) b base sv nv jq lv ⟨num,aL++[t],bD⟩/\kN b w (w7.setCell ⟨b,2,none⟩ jq) nv ov lv jq lv:=by
 have VG:=k0.size;have k7:aa (fun i=>ov.ownBlock=some i) w w7:=(k0.mono (fun i hx=>hx.elim)).eQ hg (fun j hj=>Or.inl hj);have uc:ov.ownBlock≠some b:=fun e=>(h.ao b e).1 rfl
 have b7:=h.aj.kept k7 uc
 have lP:∀i,jq.ownBlock=some i->ov.ownBlock=some i\/w.heap.size<=i:=by
  intro i hi;rcases cB with hl|hl
  ·exact Or.inl (hl▸hi)
  ·rw[hl]at hi;cases hi;right;omega
 have k8:aa (nj b nv ov lv) w (w7.setCell ⟨b,2,none⟩ jq):=aa.setCell (S:=nj b nv ov lv) (k7.mono (S':=nj b nv ov lv) (fun i hi=>Or.inr (Or.inr (Or.inl hi)))) (p:=⟨b,2,none⟩) (Or.inl (Or.inl rfl)) _;have kb:aa (fun i=>i=b) w7 (w7.setCell ⟨b,2,none⟩ jq):=(aa.refl (fun i=>i=b) w7).setCell (p:=⟨b,2,none⟩) (Or.inl rfl) jq
 have ue:∀i,jq.ownBlock=some i->i≠b:=fun i hi e=>by
  subst e;rcases lP i hi with h1|h1
  ·exact uc h1
  ·have:=h.aj.lt;omega
 refine⟨b7,⟨?_,?_,?_,?_,h.bb,fun i hi=>?_,fun i hi=>?_,h.al⟩,⟨k8,fun i hi=>?_⟩⟩
 ·have:=b7.setCell 2 jq;simpa using this
 ·exact bY (bY h.num k7 (fun i hi hx=>(h.an i hi).2.1 hx)) kb (fun i hi e=>(h.an i hi).1 e)
 ·have e2:nQ (aL++[t])=nQ aL++[.int .i64 (t:Int)]:=by simp[nQ]
  show World.ownsRow _ base 3 1 jq (aL++[t]).length (nQ (aL++[t]))
  rw[Aj,e2];exact bY bt kb (fun i hi e=>ue i hi e)
 ·exact bY (bY h.bD k7 (fun i hi hx=>(h.ao i hx).2 hi)) kb (fun i hi e=>h.al i hi e)
 ·refine⟨(h.an i hi).1,fun e=>?_,(h.an i hi).2.2⟩;rcases lP i e with h1|h1
  ·exact(h.an i hi).2.1 h1
  ·have:=dE h.num hi;omega
 ·refine⟨ue i hi,fun e=>?_⟩;rcases lP i hi with h1|h1
  ·exact(h.ao i h1).2 e
  ·have:=dE h.bD e;omega
 ·rcases hi with rfl|hi|hi|hi
  ·exact Or.inl (Or.inl rfl)
  ·exact Or.inl (Or.inr (Or.inl hi))
  ·rcases lP i hi with h1|h1
   ·exact Or.inl (Or.inr (Or.inr (Or.inl h1)))
   ·exact Or.inr h1
  ·exact Or.inl (Or.inr (Or.inr (Or.inr hi)))
