/- The builder's piece does what the mirror says, whatever the -/
import Derived.Test.YtpdnofhackjfdaaGreatDoorP15
set_option linter.all false
set_option maxRecDepth 100000
set_option maxHeartbeats 4000000
namespace Go.Proofs.YtpdnofhackjfdaaGreatDoor
open Go.Proofs.Tryz
open Go.RowKit Go.Maps
variable {eh:Bool} {bH da dO dU:Int} {cs:List CT} {M st:List MS} {R:List MS×Ex} {vs:List Sv} {b base c g hi lo n fe eE bQ b_ s:Nat} {K:Nat->Prop} {gC bP:Option Addr} {V:VS} {lv vR nv ov Ju sv v:Value} {W w w' w0 w1 w2 w7:World}
theorem fV.lU{bs:Nat}{S:bD}(h:fV w0 bs S)(hs:eY lo hi w0 w)(hb:S≠ []->lo<=bs/\bs<hi):fV w bs S:=fun i hi'=>by
 have az:S≠ []:=by intro e;subst e;simp at hi'
 obtain⟨b1,b2⟩:=hb az;exact⟨(hs.cell b1 b2).trans (h i hi').1,(hs.cell b1 b2).trans (h i hi').2⟩
theorem afY{k:Nat}(h:k<cs.length)(st:List MS)(nx:Ex):j7 (cs.drop k) st nx=bm cs[k] (j7 (cs.drop (k+1)) st nx).1 (j7 (cs.drop (k+1)) st nx).2:=by
 rw[Bu h];rw[j7]
theorem ZU(h:cs.length=1):l8 cs=bm (cs[0]'(by omega)):=by
 match cs,h with
 | [c],_=>rw[l8];rfl
theorem ae0(h:cs.length=1):CT.cB cs=(cs[0]'(by omega)).sz:=by
 match cs,h with
 | [c],_=>simp[CT.cB]
def SQ(B0 pb i:Nat)(pn pc:Nat)(N:Nv)(x1 x2:Int)(w':World):Prop:=p_ (B0+1) pb i N x1 x2 w'/\w'.cell? ⟨B0,1,none⟩=some (.slice (some ⟨pb,0,none⟩) pn pc)
theorem amz(h:dm w b lo hi v st)(x:Ex)(hS:eY lo hi w0 w){m:Int->MS}(hm:∀W n,eY lo hi w0 W->gw W lo hi ⟨1,bP,b_,bQ,0,0,n,0⟩ (m n))(dh:st.length<10000):
 Calls prog 44 #[.pointer (some ⟨b,0,none⟩),Nv.val ⟨0,gC,eE,fe,bP,b_,bQ,bH,da,dU,dO,eh⟩,cG x] w (lY w b lo hi v (st++[m x.2]) (cG (st.length,st.length))):=by
 have aw:=h.ak.lt;have dN:=h.dN;obtain⟨x1,x2⟩:=x;have h1:=h.alloc (.cells #[.int .i64 0,.slice gC eE fe,.slice bP b_ bQ,.int .i64 bH,.int .i64 da,.int .i64 dU,.int .i64 dO,.bool eh] 64);have h2:=h1.alloc (.cells (aI (x1,x2)) 115);have h3:=h2.alloc (.cells (aI (0,0)) 115);have l0:=((bc.new h #[.int .i64 0,.slice gC eE fe,.slice bP b_ bQ,.int .i64 bH,.int .i64 da,.int .i64 dU,.int .i64 dO,.bool eh] 64).alloc (.cells (aI (x1,x2)) 115)).alloc (.cells (aI (0,0)) 115);have l1:=(bc.new h1 (aI (x1,x2)) 115).alloc (.cells (aI (0,0)) 115);have l2:=bc.new h2 (aI (0,0)) 115;have W3:=(((dW.refl b w v).alloc (.cells #[.int .i64 0,.slice gC eE fe,.slice bP b_ bQ,.int .i64 bH,.int .i64 da,.int .i64 dU,.int .i64 dO,.bool eh] 64)).alloc (.cells (aI (x1,x2)) 115)).alloc (.cells (aI (0,0)) 115);have S3:=((hS.alloc (by omega) (.cells #[.int .i64 0,.slice gC eE fe,.slice bP b_ bQ,.int .i64 bH,.int .i64 da,.int .i64 dU,.int .i64 dO,.bool eh] 64)).alloc (by simp;omega) (.cells (aI (x1,x2)) 115)).alloc (by simp;omega) (.cells (aI (0,0)) 115);simp only[ib]at l1 l2;simp only[aI]at l0 l1 l2 h3 W3 S3;simp only[Nv.val,Nv.cells,cG];have F1:=Ik h3 (hm _ x2 S3) dh;simp only[Sv.val,Sv.cells]at F1;have F1:=ab F1;have PK:=ab (And.intro l2 W3);clear h h1 h2 h3 l0 l1 l2 W3 S3 hS hm;go_in;go_wp2_with fail;refine(F1.out).mono ?_;rintro e w4 ⟨rfl,v4,h4,jk⟩;have m2:=PK.out.1.aY jk;obtain⟨c0,c1,f0,f1⟩:=m2.cE;have ax:=ab (And.intro h4 (And.intro (PK.out.2.trans jk) m2));clear m2 h4 jk F1 PK;go_wp2_with fail;exact mI ax.out.1 ax.out.2.1 ax.out.2.2 (by omega) (by omega) results44 rfl rfl
theorem amy(h:dm w b lo hi v st)(x:Ex)(hS:eY lo hi w0 w)(dh:st.length+2<=10000):
 Calls prog 44 #[.pointer (some ⟨b,0,none⟩),Nv.val ⟨1,gC,eE,fe,bP,b_,bQ,bH,da,dU,dO,eh⟩,cG x] w (lY w b lo hi v (eZ (si bH) st x).1 (cG (eZ (si bH) st x).2)):=by
 have aw:=h.ak.lt;have dN:=h.dN;obtain⟨x1,x2⟩:=x;have h1:=h.alloc (.cells #[.int .i64 1,.slice gC eE fe,.slice bP b_ bQ,.int .i64 bH,.int .i64 da,.int .i64 dU,.int .i64 dO,.bool eh] 64);have h2:=h1.alloc (.cells (aI (x1,x2)) 115);have h3:=h2.alloc (.cells (aI (0,0)) 115);have l0:=((bc.new h #[.int .i64 1,.slice gC eE fe,.slice bP b_ bQ,.int .i64 bH,.int .i64 da,.int .i64 dU,.int .i64 dO,.bool eh] 64).alloc (.cells (aI (x1,x2)) 115)).alloc (.cells (aI (0,0)) 115);have l1:=(bc.new h1 (aI (x1,x2)) 115).alloc (.cells (aI (0,0)) 115);have l2:=bc.new h2 (aI (0,0)) 115;have W3:=(((dW.refl b w v).alloc (.cells #[.int .i64 1,.slice gC eE fe,.slice bP b_ bQ,.int .i64 bH,.int .i64 da,.int .i64 dU,.int .i64 dO,.bool eh] 64)).alloc (.cells (aI (x1,x2)) 115)).alloc (.cells (aI (0,0)) 115);have S3:=((hS.alloc (by omega) (.cells #[.int .i64 1,.slice gC eE fe,.slice bP b_ bQ,.int .i64 bH,.int .i64 da,.int .i64 dU,.int .i64 dO,.bool eh] 64)).alloc (by simp;omega) (.cells (aI (x1,x2)) 115)).alloc (by simp;omega) (.cells (aI (0,0)) 115);simp only[ib]at l1 l2;simp only[aI]at l0 l1 l2 h3 W3 S3;simp only[Nv.val,Nv.cells,cG];have F1:=VW h3 ⟨2,none,0,0,bH,0,0,0⟩ (si bH) (fun W n=>gw.qT W lo hi _ n) (x1,x2) (by omega);simp only[Sv.val,Sv.cells,cG]at F1;have F1:=ab F1;have PK:=ab (And.intro l2 W3);clear h h1 h2 h3 l0 l1 l2 W3 S3 hS;go_in;go_wp2_with fail;refine(F1.out).mono ?_;rintro e w4 ⟨rfl,v4,h4,jk⟩;have m2:=PK.out.1.aY jk;obtain⟨c0,c1,f0,f1⟩:=m2.cE;have ax:=ab (And.intro h4 (And.intro (PK.out.2.trans jk) m2));clear m2 h4 jk F1 PK;go_wp2_with fail;exact mI ax.out.1 ax.out.2.1 ax.out.2.2 (by omega) (by omega) results44 rfl rfl
theorem amv(h:dm w b lo hi v st)(x:Ex)(hS:eY lo hi w0 w)(hF:∀W,dm W b lo hi v st->eY lo hi w0 W->Calls prog 66 #[.pointer (some ⟨b,0,none⟩),Nv.val ⟨2,gC,eE,fe,bP,b_,bQ,bH,da,dU,dO,eh⟩,cG x] W (lY W b lo hi v R.1 (cG R.2))):
 Calls prog 44 #[.pointer (some ⟨b,0,none⟩),Nv.val ⟨2,gC,eE,fe,bP,b_,bQ,bH,da,dU,dO,eh⟩,cG x] w (lY w b lo hi v R.1 (cG R.2)):=by
 have aw:=h.ak.lt;have dN:=h.dN;obtain⟨x1,x2⟩:=x;have h1:=h.alloc (.cells #[.int .i64 2,.slice gC eE fe,.slice bP b_ bQ,.int .i64 bH,.int .i64 da,.int .i64 dU,.int .i64 dO,.bool eh] 64);have h2:=h1.alloc (.cells (aI (x1,x2)) 115);have h3:=h2.alloc (.cells (aI (0,0)) 115);have l0:=((bc.new h #[.int .i64 2,.slice gC eE fe,.slice bP b_ bQ,.int .i64 bH,.int .i64 da,.int .i64 dU,.int .i64 dO,.bool eh] 64).alloc (.cells (aI (x1,x2)) 115)).alloc (.cells (aI (0,0)) 115);have l1:=(bc.new h1 (aI (x1,x2)) 115).alloc (.cells (aI (0,0)) 115);have l2:=bc.new h2 (aI (0,0)) 115;have W3:=(((dW.refl b w v).alloc (.cells #[.int .i64 2,.slice gC eE fe,.slice bP b_ bQ,.int .i64 bH,.int .i64 da,.int .i64 dU,.int .i64 dO,.bool eh] 64)).alloc (.cells (aI (x1,x2)) 115)).alloc (.cells (aI (0,0)) 115);have S3:=((hS.alloc (by omega) (.cells #[.int .i64 2,.slice gC eE fe,.slice bP b_ bQ,.int .i64 bH,.int .i64 da,.int .i64 dU,.int .i64 dO,.bool eh] 64)).alloc (by simp;omega) (.cells (aI (x1,x2)) 115)).alloc (by simp;omega) (.cells (aI (0,0)) 115);simp only[ib]at l1 l2;simp only[aI]at l0 l1 l2 h3 W3 S3;obtain⟨Nu,r1,r2⟩:=R;simp only[Nv.val,Nv.cells,cG];have F1:=hF _ h3 S3;simp only[Nv.val,Nv.cells,cG]at F1;have F1:=ab F1;have PK:=ab (And.intro l2 W3);clear h h1 h2 h3 l0 l1 l2 W3 S3 hS hF;go_in;go_wp2_with fail;refine(F1.out).mono ?_;rintro e w4 ⟨rfl,v4,h4,jk⟩;have m2:=PK.out.1.aY jk;obtain⟨c0,c1,f0,f1⟩:=m2.cE;have ax:=ab (And.intro h4 (And.intro (PK.out.2.trans jk) m2));clear m2 h4 jk F1 PK;go_wp2_with fail;exact mI ax.out.1 ax.out.2.1 ax.out.2.2 (by omega) (by omega) results44 rfl rfl
theorem amw(h:dm w b lo hi v st)(x:Ex)(hS:eY lo hi w0 w)(hF:∀W,dm W b lo hi v st->eY lo hi w0 W->Calls prog 67 #[.pointer (some ⟨b,0,none⟩),.slice gC eE fe,cG x] W (lY W b lo hi v R.1 (cG R.2))):
 Calls prog 44 #[.pointer (some ⟨b,0,none⟩),Nv.val ⟨4,gC,eE,fe,bP,b_,bQ,bH,da,dU,dO,eh⟩,cG x] w (lY w b lo hi v R.1 (cG R.2)):=by
 have aw:=h.ak.lt;have dN:=h.dN;obtain⟨x1,x2⟩:=x;have h1:=h.alloc (.cells #[.int .i64 4,.slice gC eE fe,.slice bP b_ bQ,.int .i64 bH,.int .i64 da,.int .i64 dU,.int .i64 dO,.bool eh] 64);have h2:=h1.alloc (.cells (aI (x1,x2)) 115);have h3:=h2.alloc (.cells (aI (0,0)) 115);have l0:=((bc.new h #[.int .i64 4,.slice gC eE fe,.slice bP b_ bQ,.int .i64 bH,.int .i64 da,.int .i64 dU,.int .i64 dO,.bool eh] 64).alloc (.cells (aI (x1,x2)) 115)).alloc (.cells (aI (0,0)) 115);have l1:=(bc.new h1 (aI (x1,x2)) 115).alloc (.cells (aI (0,0)) 115);have l2:=bc.new h2 (aI (0,0)) 115;have W3:=(((dW.refl b w v).alloc (.cells #[.int .i64 4,.slice gC eE fe,.slice bP b_ bQ,.int .i64 bH,.int .i64 da,.int .i64 dU,.int .i64 dO,.bool eh] 64)).alloc (.cells (aI (x1,x2)) 115)).alloc (.cells (aI (0,0)) 115);have S3:=((hS.alloc (by omega) (.cells #[.int .i64 4,.slice gC eE fe,.slice bP b_ bQ,.int .i64 bH,.int .i64 da,.int .i64 dU,.int .i64 dO,.bool eh] 64)).alloc (by simp;omega) (.cells (aI (x1,x2)) 115)).alloc (by simp;omega) (.cells (aI (0,0)) 115);simp only[ib]at l1 l2;simp only[aI]at l0 l1 l2 h3 W3 S3;obtain⟨Nu,r1,r2⟩:=R;simp only[Nv.val,Nv.cells,cG];have F1:=hF _ h3 S3;simp only[cG]at F1;have F1:=ab F1;have PK:=ab (And.intro l2 W3);clear h h1 h2 h3 l0 l1 l2 W3 S3 hS hF;go_in;go_wp2_with fail;refine(F1.out).mono ?_;rintro e w4 ⟨rfl,v4,h4,jk⟩;have m2:=PK.out.1.aY jk;obtain⟨c0,c1,f0,f1⟩:=m2.cE;have ax:=ab (And.intro h4 (And.intro (PK.out.2.trans jk) m2));clear m2 h4 jk F1 PK;go_wp2_with fail;exact mI ax.out.1 ax.out.2.1 ax.out.2.2 (by omega) (by omega) results44 rfl rfl
theorem amA(h:dm w b lo hi v st)(x:Ex)(hS:eY lo hi w0 w)(hF:∀W,dm W b lo hi v st->eY lo hi w0 W->Calls prog 68 #[.pointer (some ⟨b,0,none⟩),Nv.val ⟨5,gC,eE,fe,bP,b_,bQ,bH,da,dU,dO,eh⟩,cG x] W (lY W b lo hi v R.1 (cG R.2))):
 Calls prog 44 #[.pointer (some ⟨b,0,none⟩),Nv.val ⟨5,gC,eE,fe,bP,b_,bQ,bH,da,dU,dO,eh⟩,cG x] w (lY w b lo hi v R.1 (cG R.2)):=by
 have aw:=h.ak.lt;have dN:=h.dN;obtain⟨x1,x2⟩:=x;have h1:=h.alloc (.cells #[.int .i64 5,.slice gC eE fe,.slice bP b_ bQ,.int .i64 bH,.int .i64 da,.int .i64 dU,.int .i64 dO,.bool eh] 64);have h2:=h1.alloc (.cells (aI (x1,x2)) 115);have h3:=h2.alloc (.cells (aI (0,0)) 115);have l0:=((bc.new h #[.int .i64 5,.slice gC eE fe,.slice bP b_ bQ,.int .i64 bH,.int .i64 da,.int .i64 dU,.int .i64 dO,.bool eh] 64).alloc (.cells (aI (x1,x2)) 115)).alloc (.cells (aI (0,0)) 115);have l1:=(bc.new h1 (aI (x1,x2)) 115).alloc (.cells (aI (0,0)) 115);have l2:=bc.new h2 (aI (0,0)) 115;have W3:=(((dW.refl b w v).alloc (.cells #[.int .i64 5,.slice gC eE fe,.slice bP b_ bQ,.int .i64 bH,.int .i64 da,.int .i64 dU,.int .i64 dO,.bool eh] 64)).alloc (.cells (aI (x1,x2)) 115)).alloc (.cells (aI (0,0)) 115);have S3:=((hS.alloc (by omega) (.cells #[.int .i64 5,.slice gC eE fe,.slice bP b_ bQ,.int .i64 bH,.int .i64 da,.int .i64 dU,.int .i64 dO,.bool eh] 64)).alloc (by simp;omega) (.cells (aI (x1,x2)) 115)).alloc (by simp;omega) (.cells (aI (0,0)) 115);simp only[ib]at l1 l2;simp only[aI]at l0 l1 l2 h3 W3 S3;obtain⟨Nu,r1,r2⟩:=R;simp only[Nv.val,Nv.cells,cG];have F1:=hF _ h3 S3;simp only[Nv.val,Nv.cells,cG]at F1;have F1:=ab F1;have PK:=ab (And.intro l2 W3);clear h h1 h2 h3 l0 l1 l2 W3 S3 hS hF;go_in;go_wp2_with fail;refine(F1.out).mono ?_;rintro e w4 ⟨rfl,v4,h4,jk⟩;have m2:=PK.out.1.aY jk;obtain⟨c0,c1,f0,f1⟩:=m2.cE;have ax:=ab (And.intro h4 (And.intro (PK.out.2.trans jk) m2));clear m2 h4 jk F1 PK;go_wp2_with fail;exact mI ax.out.1 ax.out.2.1 ax.out.2.2 (by omega) (by omega) results44 rfl rfl
theorem amx(h:dm w b lo hi v st)(x:Ex)(hS:eY lo hi w0 w){pb:Nat}{V:Nat->Nv}(hx:cZ st.length x)(cT:cs.length=n)(hn:n<=400)(df:CT.d_ cs)(aS:CT.cB cs<=1000)(hP:∀i,(hi':i<cs.length)->wH b lo hi w0 (V i) cs[i])
 (iM:eE=n)(dS:0<n->gC=some ⟨pb,0,none⟩/\lo<=pb/\pb<hi)(hK:∀i,i<n->oM w0 pb i (V i))(dh:st.length+4*(CT.cB cs).toNat<=9000):
 Calls prog 44 #[.pointer (some ⟨b,0,none⟩),Nv.val ⟨3,gC,eE,fe,bP,b_,bQ,bH,da,dU,dO,eh⟩,cG x] w (lY w b lo hi v (j7 cs st x).1 (cG (j7 cs st x).2)):=by
 have aw:=h.ak.lt;have dN:=h.dN;obtain⟨x1,x2⟩:=x;have h1:=h.alloc (.cells #[.int .i64 3,.slice gC eE fe,.slice bP b_ bQ,.int .i64 bH,.int .i64 da,.int .i64 dU,.int .i64 dO,.bool eh] 64);have h2:=h1.alloc (.cells (aI (x1,x2)) 115);have h3:=h2.alloc (.cells (aI (0,0)) 115);have l0:=((bc.new h #[.int .i64 3,.slice gC eE fe,.slice bP b_ bQ,.int .i64 bH,.int .i64 da,.int .i64 dU,.int .i64 dO,.bool eh] 64).alloc (.cells (aI (x1,x2)) 115)).alloc (.cells (aI (0,0)) 115);have l1:=(bc.new h1 (aI (x1,x2)) 115).alloc (.cells (aI (0,0)) 115);have l2:=bc.new h2 (aI (0,0)) 115;have W3:=(((dW.refl b w v).alloc (.cells #[.int .i64 3,.slice gC eE fe,.slice bP b_ bQ,.int .i64 bH,.int .i64 da,.int .i64 dU,.int .i64 dO,.bool eh] 64)).alloc (.cells (aI (x1,x2)) 115)).alloc (.cells (aI (0,0)) 115);have S3:=((hS.alloc (by omega) (.cells #[.int .i64 3,.slice gC eE fe,.slice bP b_ bQ,.int .i64 bH,.int .i64 da,.int .i64 dU,.int .i64 dO,.bool eh] 64)).alloc (by simp;omega) (.cells (aI (x1,x2)) 115)).alloc (by simp;omega) (.cells (aI (0,0)) 115);simp only[ib]at l1 l2;simp only[aI]at l0 l1 l2 h3 W3 S3;subst iM;have HK:=ab hK;have HP:=ab hP;have NZ:Hid (∀i,(hi':i<cs.length)->BS (bm cs[i]) (4*(cs[i]).sz.toNat)):=fun i hi'=>nV _ (GN df i hi') (by have:=xF df i hi';omega)
 have qX:Hid (∀i,(hi':i<cs.length)->0<=CT.cB (cs.take i)/\0<=(cs[i]).sz/\CT.cB (cs.take i)+(cs[i]).sz<=CT.cB cs/\CT.cB (cs.take (i+1))=CT.cB (cs.take i)+(cs[i]).sz):=fun i hi'=>⟨(xF df i hi').1,(xF df i hi').2.1,(xF df i hi').2.2,Xr cs i hi'⟩
 have qV:=ab cT;have HPB:=ab dS
 have HE0:Hid (j7 (cs.drop eE) st (x1,x2)=(st,(x1,x2))):=by
  show _=_
  rw[Fa (by omega)];rw[j7]
 have hf0:st.length+4*(CT.cB (cs.take eE)).toNat<=9000:=by rw[By (by omega)];exact dh
 have dr:=ab (And.intro (And.intro l0 (And.intro l1 l2)) (And.intro W3 (And.intro h3 S3)));clear h h1 h2 h3 l0 l1 l2 W3 S3 hS hK hP dS;simp only[Nv.val,Nv.cells,cG];go_in;go_wp2_with fail
 go_loopg [8] eE (fun kk i wr=>∃(k:Nat) (v2:Value) (aA:List MS) (a1 a2:Int),i=.int .i64 ((k:Int)-1)/\k<=eE/\kk=k/\Hid (j7 (cs.drop k) st (x1,x2)=(aA,(a1,a2)))/\aA.length+4*(CT.cB (cs.take k)).toNat<=9000/\cZ aA.length (a1,a2)/\
  dm wr b lo hi v2 aA/\dW b w wr v v2/\eY lo hi w0 wr/\bc wr b v2 w.heap.size #[.int .i64 3,.slice gC eE fe,.slice bP b_ bQ,.int .i64 bH,.int .i64 da,.int .i64 dU,.int .i64 dO,.bool eh] 64/\bc wr b v2 (w.heap.size+1) #[.int .i64 a1,.int .i64 a2] 115/\bc wr b v2 (w.heap.size+1+1) #[.int .i64 0,.int .i64 0] 115)
 case atStart=>
  obtain⟨⟨l0,l1,l2⟩,W3,h3,S3⟩:=dr.out;exact⟨eE,v,st,x1,x2,rfl,Ab _,rfl,HE0,hf0,hx,h3,W3,S3,l0,l1,l2⟩
 case round=>
  obtain⟨k',v2,aA,a1,a2,rfl,hk,eT,HE,bM,s_,oc,tS,kM,P0,P1,P2⟩:=hrel;clear dr
  cases k' with
  |zero=>
   subst eT;obtain⟨c0,c1,_,_⟩:=P1.cE;obtain⟨d0,d1,g0,g1⟩:=P2.cE;have ax:=ab (And.intro oc (And.intro tS P2));have rC:¬((0:Int)<=((0:Nat):Int)-1):=(by omega);have ja:Hid (j7 cs st (x1,x2)=(aA,(a1,a2))):=HE.out;clear oc tS kM P0 P1 P2 HE;go_wp2_with fail;rw[ja.out];exact mI ax.out.1 ax.out.2.1 ax.out.2.2 (by omega) (by omega) results44 rfl rfl
  |succ k=>
   subst eT;obtain⟨mM,oo,Vi⟩:=HPB.out (by omega);have aiB:((k+1:Nat):Int)-1=(k:Int):=(by omega);have oh:k<cs.length:=by have:=qV.out;omega
   have hz:=qX.out k oh;have gz:=NZ.out k oh;have c1':=gz.fG aA (a1,a2) s_;have OS:=gz.bT aA (a1,a2);have zL:=gz.grow aA (a1,a2)
   have ja:Hid (j7 (cs.drop k) st (x1,x2)=bm cs[k] aA (a1,a2)):=by
    have:=HE.out;show _=_
    rw[afY oh,this]
   subst mM;have iR:=oc.new ((aa.refl af wr).drew);have ny:=tS.new ((aa.refl af wr).drew);have gK:eY lo hi w0 wr.drew:=kM;have M0:bc wr.drew b v2 w.heap.size #[.int .i64 3,.slice (some ⟨pb,0,none⟩) eE fe,.slice bP b_ bQ,.int .i64 bH,.int .i64 da,.int .i64 dU,.int .i64 dO,.bool eh] 64:=⟨P0.ak,P0.not⟩;have M1:bc wr.drew b v2 (w.heap.size+1) #[.int .i64 a1,.int .i64 a2] 115:=⟨P1.ak,P1.not⟩;have M2:bc wr.drew b v2 (w.heap.size+1+1) #[.int .i64 0,.int .i64 0] 115:=⟨P2.ak,P2.not⟩;have PS:Hid (SQ w.heap.size pb k eE fe (V k) a1 a2 wr.drew):=⟨p_.of M1 ((HK.out k (by omega)).lU gK oo Vi),M0.ak.cell 1⟩;have F1:=HP.out k oh wr.drew v2 aA (a1,a2) iR s_ gK (by omega);simp only[Nv.val,Nv.cells,cG]at F1;have mC:=ab F1;have PK:=ab (And.intro (And.intro iR (And.intro ny gK)) (And.intro M0 (And.intro M1 M2)));have wY:¬((eE:Int)<=(k:Int)):=(by omega);clear oc tS kM P0 P1 P2 iR ny gK M0 M1 M2 F1 HE gz;go_wp2_with fail;refine gW (S:=SQ w.heap.size pb k eE fe (V k) a1 a2) 8 (by kernel_rfl) rfl rfl rfl (by kernel_rfl) (by kernel_rfl) ?_;have aj:=PS.out;refine ai 0 47 (.pointer (some ⟨b,0,none⟩)) aj ?_;refine ai 1 48 (.pointer (some ⟨w.heap.size,1,none⟩)) aj ?_;refine ai 2 49 (.slice (some ⟨pb,0,none⟩) eE fe) aj ?_;refine ai 3 50 (.int .i64 k) aj ?_;refine ai 4 51 (.pointer (some ⟨pb,k*8,none⟩)) aj ?_;refine ai 5 52 (.agg #[.int .i64 (V k).k,.slice (V k).pa (V k).pn (V k).pc,.slice (V k).sa (V k).sn (V k).sc,.int .i64 (V k).ed,.int .i64 (V k).gr,.int .i64 (V k).lo,.int .i64 (V k).hi,.bool (V k).lz]) aj ?_;refine ai 6 53 (.agg #[.int .i64 a1,.int .i64 a2]) aj ?_;simp only[Act.put,Aa,Ad,Ac];refine bN 7 fun K hK=>?_
   go_simp;refine(mC.out).mono ?_;rintro e w5 ⟨rfl,v5,h5,k5⟩;dsimp only;obtain⟨⟨hB,hW,dQ⟩,M0,M1,M2⟩:=PK.out;have S5:=dQ.aY hB k5;have m0:=M0.aY k5;have m1:=M1.aY k5;have m2:=M2.aY k5;have oV:SQ w.heap.size pb k eE fe (V k) a1 a2 w5:=⟨p_.of m1 ((HK.out k (by omega)).lU S5 oo Vi),m0.ak.cell 1⟩;refine hK.out _ _ oV (fun _=>?_);clear hK K;obtain⟨d0,d1,g0,g1⟩:=m1.cE;generalize hE:bm cs[k] aA (a1,a2)=E at*;obtain⟨uC,y1,y2⟩:=E;simp only at c1' OS zL h5;have N0:=(m0.a_ (d:=w.heap.size+1) (by omega) 0 (.int .i64 y1)).a_ (d:=w.heap.size+1) (by omega) 1 (.int .i64 y2);have N2:=(m2.a_ (d:=w.heap.size+1) (by omega) 0 (.int .i64 y1)).a_ (d:=w.heap.size+1) (by omega) 1 (.int .i64 y2);have N1:=(m1.setCell 0 (.int .i64 y1)).setCell 1 (.int .i64 y2);have h7:=(h5.set m1.not (by omega) 0 (.int .i64 y1)).set m1.not (by omega) 1 (.int .i64 y2);have W7:=((hW.trans k5).set (c:=w.heap.size+1) (by omega) 0 (.int .i64 y1)).set (c:=w.heap.size+1) (by omega) 1 (.int .i64 y2);have S7:=(S5.set (c:=w.heap.size+1) (by omega) 0 (.int .i64 y1)).set (c:=w.heap.size+1) (by omega) 1 (.int .i64 y2);have jY:=ab (And.intro (And.intro h7 (And.intro W7 S7)) (And.intro N0 (And.intro N1 N2)));clear hB hW dQ M0 M1 M2 m0 m1 m2 h5 k5 h7 W7 S7 N0 N1 N2 oV S5 mC hE aj PK PS;refine At (by kernel_rfl) ?_ _;unfold eJ;go_wp2_with fail;go_roundg k
   case measure=>omega
   case rel=>
    obtain⟨⟨h7,W7,S7⟩,N0,N1,N2⟩:=jY.out;exact⟨k,v5,uC,y1,y2,rfl,by omega,rfl,ja,by omega,c1',h7,W7,S7,N0,N1,N2⟩
theorem cy.aml{q:Nv}{T:PT}{C:CT}(h:cy w0 lo hi q T C):C.ok->C.sz<=1000->wH b lo hi w0 q C:=by
 induction h with
 |mk q tk pb bs ts cs V S sp fo nt hn hb hc hk hs ou hr oZ ih=>
  intro df aS W v st x hB hx hS dh;obtain⟨qk,gC,eE,fe,bP,b_,bQ,bH,da,dU,dO,eh⟩:=q;unfold CT.ok at df;obtain⟨apZ,I3,ap0,ajf,AN⟩:=df;simp only at hn hb hs hr oZ;have aqi:=CT.v_ cs AN;have Pn:∀i,i<cs.length->oM w0 pb i (V i):=fun i hi'=>hc i (by omega)
  have IQ:cs≠ []->ts≠ []:=by intro h1 h2;subst h2;exact h1 (Aw.1 (by simpa using hn.2.1))
  have Ps:cs≠ []->gC=some ⟨pb,0,none⟩/\lo<=pb/\pb<hi:=fun e=>hb (IQ e)
  have Pk:∀i,(h':i<cs.length)->(cs[i]).sz<=1000->wH b lo hi w0 (V i) cs[i]:=fun i h' hz=>ih i (by omega) h' (GN AN i h') hz
  rcases oZ with⟨rfl,_,AS⟩|⟨rfl,_⟩|⟨rfl,_⟩|⟨rfl,_⟩|⟨rfl,_,az⟩|⟨rfl,_⟩
  ·have e:bm (.node 0 sp fo nt bH da dU dO eh cs) st x=(st++[pk sp fo nt x.2],((st.length:Int),(st.length:Int))):=by
    rw[bm];simp
   rw[e];refine amz hB x hS (m:=pk sp fo nt) (fun W' n gK=>⟨rfl,rfl,rfl,rfl,rfl,by simp[pk],fun _=>⟨S,bs,hn.2.2,hs,ou.lU gK (fun h=>(hs h).2),AS,hr.2.2.2.2.2.1,hr.2.2.2.2.2.2⟩⟩) (by omega)
  ·have e:bm (.node 1 sp fo nt bH da dU dO eh cs) st x=eZ (si bH) st x:=by
    rw[bm];simp
   rw[e];exact amy hB x hS (by omega)
  ·have h1:=I3 (Or.inl rfl);have rL:(CT.node 2 sp fo nt bH da dU dO eh cs).sz=min (CT.cB cs+1) 1001:=by rw[CT.sz];simp
   rw[rL]at aS dh;have Qg:=ae0 h1;obtain⟨p1,p2⟩:=Ps (by intro e;subst e;simp at h1)
   have e:bm (.node 2 sp fo nt bH da dU dO eh cs) st x=if da=0 then bm (cs[0]'(by omega)) st x else eZ (iG (2*(da-1))) (bm (cs[0]'(by omega)) (eZ (iG (2*(da-1)+1)) st x).1 (eZ (iG (2*(da-1)+1)) st x).2).1 (bm (cs[0]'(by omega)) (eZ (iG (2*(da-1)+1)) st x).1 (eZ (iG (2*(da-1)+1)) st x).2).2:=by
    rw[bm,ZU h1];simp
   rw[e];refine amv hB x hS (fun W' iR gK=>?_);exact akG iR x hx gK (GN AN 0 (by omega)) (by omega) (Pk 0 (by omega) (by omega)) p1 (by rw[hn.1,<-hn.2.1,h1]) p2 ((Pn 0 (by omega)).lU gK p2.1 p2.2) hr.2.2.2.1 (by omega)
  ·have rL:(CT.node 3 sp fo nt bH da dU dO eh cs).sz=min (CT.cB cs) 1001:=by rw[CT.sz];simp
   rw[rL]at aS dh;have e:bm (.node 3 sp fo nt bH da dU dO eh cs) st x=j7 cs st x:=by rw[bm];simp
   rw[e];refine amx (pb:=pb) (n:=cs.length) (V:=V) hB x hS hx rfl (by omega) AN (by omega) (fun i h'=>Pk i h' (by have:=xF AN i h';omega)) (by rw[hn.1,hn.2.1]) (fun h=>Ps (by intro e;subst e;simp at h)) Pn (by omega)
  ·have Va:cs≠ []:=by intro h2;subst h2;exact az (Aw.1 (by have:=hn.2.1;simpa using this.symm))
   have cT:cs.length=(cs.length-1)+1:=by have:=Bp.2 Va;omega
   have rL:(CT.node 4 sp fo nt bH da dU dO eh cs).sz=min (CT.cB cs+((cs.length:Int)-1)) 1001:=by rw[CT.sz];simp
   rw[rL]at aS dh;obtain⟨p1,p2⟩:=Ps Va;have e:bm (.node 4 sp fo nt bH da dU dO eh cs) st x=jf cs st x:=by rw[bm];simp
   rw[e];subst p1;have hq:eE=cs.length-1+1:=by rw[hn.1,<-hn.2.1];omega
   subst hq;refine amw hB x hS (fun W' iR gK=>?_);exact agM (n:=cs.length-1) (V:=V) iR x hx gK cT (by omega) AN (by omega) (fun i h'=>Pk i h' (by have:=xF AN i h';omega)) p2 (fun i h'=>Pn i (by omega)) (by omega)
  ·have h1:=I3 (Or.inr rfl);have rL:(CT.node 5 sp fo nt bH da dU dO eh cs).sz=min ((if dO= -1 then dU+1 else dO)*(CT.cB cs+1)) 1001:=by rw[CT.sz];simp
   rw[rL]at aS dh;have Qg:=ae0 h1;rw[Qg]at aS dh;obtain⟨p1,p2⟩:=Ps (by intro e;subst e;simp at h1)
   have e:bm (.node 5 sp fo nt bH da dU dO eh cs) st x=nd (bm (cs[0]'(by omega))) dU dO eh st x:=by
    rw[bm,ZU h1];simp
   rw[e];refine amA hB x hS (fun W' iR gK=>?_);exact am9 iR x hx gK (GN AN 0 (by omega)) (by simp only;omega) (fun hz=>Pk 0 (by omega) hz) p1 (by simp only;rw[hn.1,<-hn.2.1,h1]) p2 (Pn 0 (by omega)) (ajf rfl) (by simp only;omega)
def cH(l:List Int):List Value:=l.map fun v=>.int .i64 v
def nJ(l:List Nat):List Value:=l.map fun v:Nat=>.int .i64 (v:Int)
theorem my{e:Nat}{xs:List Value}(h:w.ownsRow base e 1 v n xs)(hn:0<n):∃g c,v=.slice (some ⟨g,0,none⟩) n c/\base<=g/\g<w.heap.size/\n<=c/\(∀i,i<n->w.cell? ⟨g,i,none⟩=xs[i]?)/\∀i,w.frozen? ⟨g,i,none⟩=false:=by
 obtain⟨hx,h1⟩:=h;rcases h1 with⟨_,h0⟩|⟨g,cap,aL,rfl,a1,a2,a3,a4,a5,a6⟩
 ·omega
 ·refine⟨g,cap,rfl,a1,(Ak.1 a2).1,a3,fun i hi=>?_,fun i=>by simp[World.frozen?,a2]⟩;rw[<-a6,Av (by omega)];simp only[World.cell?,a2];simp
def mX(b:Nat)(nv ov lv:Value):Nat->Prop:=fun i=>i=b\/nv.ownBlock=some i\/ov.ownBlock=some i\/lv.ownBlock=some i
structure fI(w:World)(b base:Nat)(sv nv ov lv:Value)(V:VS):Prop where
 ak:aq w b #[sv,nv,ov,lv] 147
 num:w.ownsRow base 3 1 nv V.num.length (cH V.num)
 aK:w.ownsRow base 3 1 ov V.aK.length (nJ V.aK)
 bC:w.ownsRow base 3 1 lv V.bC.length (nJ V.bC)
 bb:base<=b
 an:∀i,nv.ownBlock=some i->i≠b/\ov.ownBlock≠some i/\lv.ownBlock≠some i
 ao:∀i,ov.ownBlock=some i->i≠b/\lv.ownBlock≠some i
 al:∀i,lv.ownBlock=some i->i≠b
theorem fI.au(h:fI w b base sv nv ov lv V){i:Nat}(hi:mX b nv ov lv i):base<=i/\i<w.heap.size:=by
 rcases hi with rfl|hi|hi|hi
 ·exact⟨h.bb,h.ak.lt⟩
 ·exact dw h.num hi
 ·exact dw h.aK hi
 ·exact dw h.bC hi
theorem fI.kept(h:fI w b base sv nv ov lv V)(k:aa K w w')(hK:∀i,K i->¬mX b nv ov lv i):fI w' b base sv nv ov lv V:=
 ⟨h.ak.kept k (fun hx=>hK b hx (Or.inl rfl)),bR h.num k (fun i hi hx=>hK i hx (Or.inr (Or.inl hi))),bR h.aK k (fun i hi hx=>hK i hx (Or.inr (Or.inr (Or.inl hi)))),bR h.bC k (fun i hi hx=>hK i hx (Or.inr (Or.inr (Or.inr hi)))),h.bb,h.an,h.ao,h.al⟩
theorem fI.new(h:fI w b base sv nv ov lv V)(k:aa af w w'):fI w' b base sv nv ov lv V:=h.kept k (fun i hx=>hx.elim)
structure kI(b:Nat)(w w':World)(nv ov lv jn dc:Value):Prop where
 kept:aa (mX b nv ov lv) w w'
 ak:∀i,mX b nv jn dc i->mX b nv ov lv i\/w.heap.size<=i
theorem kI.refl(b:Nat)(w:World)(nv ov lv:Value):kI b w w nv ov lv ov lv:=⟨aa.refl _ _,fun i h=>Or.inl h⟩
theorem kI.trans{ov2 lv2:Value}(h:kI b w w1 nv ov lv Ju vR)(h':kI b w1 w2 nv Ju vR ov2 lv2):kI b w w2 nv ov lv ov2 lv2 where
 kept:=h.kept.bV h'.kept (fun i hi hx=>by
  rcases h.ak i hx with h1|h1
  ·exact h1
  ·omega)
 ak i hi:=by
  have hs:=h.kept.size;rcases h'.ak i hi with h1|h1
  ·exact h.ak i h1
  ·right;omega
theorem kI.new(h:kI b w w1 nv ov lv Ju vR)(k:aa af w1 w2):kI b w w2 nv ov lv Ju vR:=⟨h.kept.bV k (fun i _ hx=>hx.elim),h.ak⟩
structure jc(w:World)(g:Nat)(vs:List Sv)(M:List MS):Prop where
 len:vs.length=M.length
 cell:∀i,(h:i<vs.length)->∀j,j<6->w.cell? ⟨g,i*6+j,none⟩=(vs[i]).cells[j]?
 lt:g<w.heap.size
 VY:∀i,(h:i<vs.length)->(h':i<M.length)->(vs[i]).k=(M[i]).kind/\(vs[i]).nx=(M[i]).next/\(vs[i]).ot=(M[i]).a_
theorem jc.kept(h:jc w g vs M)(k:aa K w w')(hg:¬K g):jc w' g vs M:=
 ⟨h.len,fun i hi j hj=>(k.cell (p:=⟨g,i*6+j,none⟩) h.lt hg).trans (h.cell i hi j hj),Ar h.lt k.size,h.VY⟩
theorem jc.JE(h:jc w g vs M){m:MS}(hm:M[s]? =some m):s<M.length/\∃q:Sv,(q.k=m.kind/\q.nx=m.next/\q.ot=m.a_)/\∀W,jc W g vs M->(W.cell? ⟨g,s*6,none⟩=some (.int .i64 q.k)/\W.cell? ⟨g,s*6+1,none⟩=some (.slice q.sa q.sn q.sc)/\W.cell? ⟨g,s*6+2,none⟩=some (.int .i64 q.ed)/\W.cell? ⟨g,s*6+3,none⟩=some (.int .i64 q.sl)/\W.cell? ⟨g,s*6+4,none⟩=some (.int .i64 q.nx)/\W.cell? ⟨g,s*6+5,none⟩=some (.int .i64 q.ot)):=by
 obtain⟨hs,e⟩:=Ah.1 hm;have hv:s<vs.length:=by rw[h.len];exact hs
 refine⟨hs,vs[s],by rw[<-e];exact h.VY s hv hs,fun W hW=>?_⟩;exact⟨hW.cell s hv 0 (by omega),hW.cell s hv 1 (by omega),hW.cell s hv 2 (by omega),hW.cell s hv 3 (by omega),hW.cell s hv 4 (by omega),hW.cell s hv 5 (by omega)⟩
theorem lh.grow{V':VS}{s:Int}(h:lh M V s V'):V'.num.length=V.num.length/\V.aK.length<=V'.aK.length/\V.bC.length<=V'.bC.length:=by
 induction h with
 |aJ V s v h hv=>exact⟨rfl,Ab _,Ab _⟩
 |stop V s m hn h hk=>exact⟨by simp[VS.put],by simp[VS.put],by simp[VS.put]⟩
 |take V s m hn h hk=>exact⟨by simp[VS.put,VS.iu],by simp[VS.put,VS.iu],by simp[VS.put,VS.iu]⟩
 |one V V' s m hn h hk hv ih=>exact⟨by simp only[VS.put,Bk];exact ih.1,by simp only[VS.put,Aj];omega,by simp only[VS.put];omega⟩
 |cE V V' V2 s m hn h hk hv hw ih uh=>exact⟨by simp only[VS.put,Bk];omega,by simp only[VS.put,Aj];omega,by simp only[VS.put];omega⟩
theorem Tryz.Gw:(prog.info? 3).map (fun i=>(i.zero,i.size,i.bytes))=some (some (.int .i64 0),1,8):=by kernel_rfl
theorem fI.akn{dc:Value}(h:fI w b base sv nv ov lv V)(t:Nat)(k0:aa af w W)(bk:w7.ownsRow base 3 1 dc (V.bC.length+1) (nJ V.bC++[.int .i64 (t:Int)]))(hg:W.grownBy w7 lv.ownBlock)(cx:dc.ownBlock=lv.ownBlock\/dc.ownBlock=some W.heap.size):
 aq w7 b #[sv,nv,ov,lv] 147/\fI (w7.setCell ⟨b,3,none⟩ dc) b base sv nv ov dc (V.iu t)/\kI b w (w7.setCell ⟨b,3,none⟩ dc) nv ov lv ov dc:=by
 have Vs:=k0.size;have k7:aa (fun i=>lv.ownBlock=some i) w w7:=(k0.mono (fun i hx=>hx.elim)).eN hg (fun j hj=>Or.inl hj);have ua:lv.ownBlock≠some b:=fun e=>h.al b e rfl
 have b7:=h.ak.kept k7 ua
 have lM:∀i,dc.ownBlock=some i->lv.ownBlock=some i\/w.heap.size<=i:=by
  intro i hi;rcases cx with hl|hl
  ·exact Or.inl (hl▸hi)
  ·rw[hl]at hi;cases hi;right;omega
 have k8:aa (mX b nv ov lv) w (w7.setCell ⟨b,3,none⟩ dc):=aa.setCell (S:=mX b nv ov lv) (k7.mono (S':=mX b nv ov lv) (fun i hi=>Or.inr (Or.inr (Or.inr hi)))) (p:=⟨b,3,none⟩) (Or.inl (Or.inl rfl)) _;have kb:aa (fun i=>i=b) w7 (w7.setCell ⟨b,3,none⟩ dc):=(aa.refl (fun i=>i=b) w7).setCell (p:=⟨b,3,none⟩) (Or.inl rfl) dc
 have uc:∀i,dc.ownBlock=some i->i≠b:=fun i hi e=>by
  subst e;rcases lM i hi with h1|h1
  ·exact ua h1
  ·have:=h.ak.lt;omega
 refine⟨b7,⟨?_,?_,?_,?_,h.bb,fun i hi=>?_,fun i hi=>?_,uc⟩,⟨k8,fun i hi=>?_⟩⟩
 ·have:=b7.setCell 3 dc;simpa using this
 ·exact bR (bR h.num k7 (fun i hi hx=>(h.an i hi).2.2 hx)) kb (fun i hi e=>(h.an i hi).1 e)
 ·exact bR (bR h.aK k7 (fun i hi hx=>(h.ao i hi).2 hx)) kb (fun i hi e=>(h.ao i hi).1 e)
 ·have e1:(V.iu t).bC.length=V.bC.length+1:=by simp[VS.iu]
  have e2:nJ (V.iu t).bC=nJ V.bC++[.int .i64 (t:Int)]:=by simp[VS.iu,nJ]
  rw[e1,e2];exact bR bk kb (fun i hi e=>uc i hi e)
 ·refine⟨(h.an i hi).1,(h.an i hi).2.1,fun e=>?_⟩;rcases lM i e with h1|h1
  ·exact(h.an i hi).2.2 h1
  ·have:=dw h.num hi;omega
 ·refine⟨(h.ao i hi).1,fun e=>?_⟩;rcases lM i e with h1|h1
  ·exact(h.ao i hi).2 h1
  ·have:=dw h.aK hi;omega
 ·rcases hi with rfl|hi|hi|hi
  ·exact Or.inl (Or.inl rfl)
  ·exact Or.inl (Or.inr (Or.inl hi))
  ·exact Or.inl (Or.inr (Or.inr (Or.inl hi)))
  ·rcases lM i hi with h1|h1
   ·exact Or.inl (Or.inr (Or.inr (Or.inr h1)))
   ·exact Or.inr h1
theorem fI.rW(h:fI w b base sv (.slice (some ⟨g,0,none⟩) n c) ov lv V)(s:Nat)(u:Int):fI (w.setCell ⟨g,s,none⟩ (.int .i64 u)) b base sv (.slice (some ⟨g,0,none⟩) n c) ov lv ⟨V.num.set s u,V.aK,V.bC⟩:=by
 have hg:=h.an g rfl;have k:aa (fun i=>i=g) w (w.setCell ⟨g,s,none⟩ (.int .i64 u)):=(aa.refl (fun i=>i=g) w).setCell (p:=⟨g,s,none⟩) (Or.inl rfl) _;refine⟨h.ak.kept k (fun e=>hg.1 e.symm),?_,bR h.aK k (fun i hi e=>hg.2.1 (e▸hi)),bR h.bC k (fun i hi e=>hg.2.2 (e▸hi)),h.bb,h.an,h.ao,h.al⟩
 have hn:n=V.num.length:=by
  rcases h.num.2 with⟨h1,_⟩|⟨g',cap,aL,hv,_⟩
  ·cases h1
  ·cases hv;rfl
 subst hn;have:=yU h.num s (.int .i64 u);have e:(cH V.num).set s (.int .i64 u)=cH (V.num.set s u):=by simp[cH,Fe]
 rw[e]at this;show(w.setCell ⟨g,s,none⟩ (.int .i64 u)).ownsRow base 3 1 _ (V.num.set s u).length (cH (V.num.set s u))
 rw[Bk];exact this
theorem kI.rW(h:kI b w w1 (.slice (some ⟨g,0,none⟩) n c) ov lv Ju vR)(u:Value):kI b w (w1.setCell ⟨g,s,none⟩ u) (.slice (some ⟨g,0,none⟩) n c) ov lv Ju vR:=
 ⟨h.kept.setCell (p:=⟨g,s,none⟩) (Or.inl (Or.inr (Or.inl rfl))) u,h.ak⟩
theorem fI.alD{jn:Value}{num:List Int}{aK bC:List Nat}(h:fI w b base sv nv ov lv ⟨num,aK,bC⟩)(t:Nat)(k0:aa af w W)(bk:w7.ownsRow base 3 1 jn (aK.length+1) (nJ aK++[.int .i64 (t:Int)]))(hg:W.grownBy w7 ov.ownBlock)(cx:jn.ownBlock=ov.ownBlock\/jn.ownBlock=some W.heap.size):
 aq w7 b #[sv,nv,ov,lv] 147/\fI (w7.setCell ⟨b,2,none⟩ jn) b base sv nv jn lv ⟨num,aK++[t],bC⟩/\kI b w (w7.setCell ⟨b,2,none⟩ jn) nv ov lv jn lv:=by
 have Vs:=k0.size;have k7:aa (fun i=>ov.ownBlock=some i) w w7:=(k0.mono (fun i hx=>hx.elim)).eN hg (fun j hj=>Or.inl hj);have ua:ov.ownBlock≠some b:=fun e=>(h.ao b e).1 rfl
 have b7:=h.ak.kept k7 ua
 have lM:∀i,jn.ownBlock=some i->ov.ownBlock=some i\/w.heap.size<=i:=by
  intro i hi;rcases cx with hl|hl
  ·exact Or.inl (hl▸hi)
  ·rw[hl]at hi;cases hi;right;omega
 have k8:aa (mX b nv ov lv) w (w7.setCell ⟨b,2,none⟩ jn):=aa.setCell (S:=mX b nv ov lv) (k7.mono (S':=mX b nv ov lv) (fun i hi=>Or.inr (Or.inr (Or.inl hi)))) (p:=⟨b,2,none⟩) (Or.inl (Or.inl rfl)) _;have kb:aa (fun i=>i=b) w7 (w7.setCell ⟨b,2,none⟩ jn):=(aa.refl (fun i=>i=b) w7).setCell (p:=⟨b,2,none⟩) (Or.inl rfl) jn
 have uc:∀i,jn.ownBlock=some i->i≠b:=fun i hi e=>by
  subst e;rcases lM i hi with h1|h1
  ·exact ua h1
  ·have:=h.ak.lt;omega
 refine⟨b7,⟨?_,?_,?_,?_,h.bb,fun i hi=>?_,fun i hi=>?_,h.al⟩,⟨k8,fun i hi=>?_⟩⟩
 ·have:=b7.setCell 2 jn;simpa using this
 ·exact bR (bR h.num k7 (fun i hi hx=>(h.an i hi).2.1 hx)) kb (fun i hi e=>(h.an i hi).1 e)
 ·have e2:nJ (aK++[t])=nJ aK++[.int .i64 (t:Int)]:=by simp[nJ]
  show World.ownsRow _ base 3 1 jn (aK++[t]).length (nJ (aK++[t]))
  rw[Aj,e2];exact bR bk kb (fun i hi e=>uc i hi e)
 ·exact bR (bR h.bC k7 (fun i hi hx=>(h.ao i hx).2 hi)) kb (fun i hi e=>h.al i hi e)
 ·refine⟨(h.an i hi).1,fun e=>?_,(h.an i hi).2.2⟩;rcases lM i e with h1|h1
  ·exact(h.an i hi).2.1 h1
  ·have:=dw h.num hi;omega
 ·refine⟨uc i hi,fun e=>?_⟩;rcases lM i hi with h1|h1
  ·exact(h.ao i h1).2 e
  ·have:=dw h.bC e;omega
 ·rcases hi with rfl|hi|hi|hi
  ·exact Or.inl (Or.inl rfl)
  ·exact Or.inl (Or.inr (Or.inl hi))
  ·rcases lM i hi with h1|h1
   ·exact Or.inl (Or.inr (Or.inr (Or.inl h1)))
   ·exact Or.inr h1
  ·exact Or.inl (Or.inr (Or.inr (Or.inr hi)))
end Go.Proofs.YtpdnofhackjfdaaGreatDoor
