/- The builder's small calls -/
import Derived.Test.YtmbpfhlnifdhgaaGreatDoorP09
set_option linter.unusedVariables false
set_option linter.unusedSimpArgs false
set_option maxRecDepth 100000
set_option maxHeartbeats 16000000
namespace Go.Proofs.YtmbpfhlnifdhgaaGreatDoor
open Go.Proofs.Tryz
open Go.RowKit Go.Maps
variable {a:Act} {K:Act->World->Prop} {ad:Addr} {eS:Array Bool} {ops:Array Oper} {cs rows:Array Value} {c:CI} {E:EG} {Q:Exit->Act->World->Prop} {f:Func} {G:GH} {S Z:List CI} {gs:List Int} {st:List MS} {eK to0 ts:List Nat} {L b cg ct mm gb hi i id lo tb:Nat} {o oL oi:Oper} {ag at_:Option Addr} {P:Program} {n:RT} {md:Region.Mode} {t:TypeId} {v v' v1 vc vm vn vt:Value} {W w w1 w4:World}
theorem tB(w:World)(o:Obj):(w.alloc o).heap.size=w.heap.size+1:=by simp
theorem ai{p:Prop}(h:p):Hid p:=h
def cY(x:Ex):Value:=.agg #[.int .i64 x.1,.int .i64 x.2]
def mO(w:World)(b lo hi:Nat)(v:Value)(iL:List MS)(r:Value):Ending->World->Prop:=fun e w'=>e=.returned r/\∃v',dH w' b lo hi v' iL/\eM b w w' v v'
theorem gw.oB(w:World)(lo hi:Nat)(a b:Int):gw w lo hi ⟨4,none,0,0,0,0,a,b⟩ (kR a b):=⟨rfl,rfl,rfl,rfl,rfl,by simp[kR],fun e=>by simp[kR]at e⟩
def aP(x:Ex):Array Value:=#[.int .i64 x.1,.int .i64 x.2]
structure bJ(w:World)(b:Nat)(v:Value)(c:Nat)(cs:Array Value)(t:TypeId):Prop where
 ae:ay w c cs t
 not:¬Own b v c
theorem bJ.bt{w':World}{c:Nat}(h:bJ w b v c cs t)(k:eM b w w' v v'):bJ w' b v' c cs t:=⟨k.cells h.ae h.not,k.eD h.ae.lt h.not⟩
theorem dH.Lx(h:dH w b lo hi v st){c:Nat}(hc:w.heap.size<=c):¬Own b v c:=fun hx=>by have:=h.aN hx;omega
theorem bJ.new(h:dH w b lo hi v st)(cs:Array Value)(t:TypeId):bJ (w.alloc (.cells cs t)) b v w.heap.size cs t:=⟨ay.new w cs t,h.Lx (Aa _)⟩
theorem bJ.alloc{c:Nat}(h:bJ w b v c cs t)(o:Obj):bJ (w.alloc o) b v c cs t:=⟨h.ae.alloc o,h.not⟩
theorem bJ.setCell{c:Nat}(h:bJ w b v c cs t)(i:Nat)(u:Value):bJ (w.setCell ⟨c,i,none⟩ u) b v c (cs.setIfInBounds i u) t:=⟨h.ae.setCell i u,h.not⟩
theorem bJ.ch{c:Nat}(h:bJ w b v c cs t){d:Nat}(hd:c≠d)(i:Nat)(u:Value):bJ (w.setCell ⟨d,i,none⟩ u) b v c cs t:=⟨h.ae.dD hd u,h.not⟩
theorem dH.set(h:dH w b lo hi v st){c:Nat}(hc:¬Own b v c)(CV:b<=c)(j:Nat)(u:Value):dH (w.setCell ⟨c,j,none⟩ u) b lo hi v st:=
 h.kept ((I.refl (fun i=>i=c) w).setCell (p:=⟨c,j,none⟩) (Or.inl rfl) u) (fun i aS=>by subst aS;exact⟨hc,Or.inr (by have:=h.fO;omega)⟩)
theorem dH.alloc(h:dH w b lo hi v st)(o:Obj):dH (w.alloc o) b lo hi v st:=h.new ((I.refl _ _).alloc o)
theorem eM.set(h:eM b w w1 v v1){c:Nat}(hc:w.heap.size<=c)(j:Nat)(u:Value):eM b w (w1.setCell ⟨c,j,none⟩ u) v v1:=⟨h.kept.setCell (p:=⟨c,j,none⟩) (Or.inr hc) u,h.ae⟩
theorem aa7{Q:Ending->World->Prop}{c:Nat}{x:Ex}(mZ:f.results=#[ResultVar.cell i 98])(zE:a.tmps.getD i undef=.pointer (some ⟨c,0,none⟩))(hd:a.defers=[])
 (hb:ay W c (aP x) 98)(hQ:Q (.returned (cY x)) W):bodyPost prog f Q Exit.ret a W:=by
 have r0:W.cell? ⟨c,0,none⟩=some (.int .i64 x.1):=hb.cell 0;have r1:W.cell? ⟨c,1,none⟩=some (.int .i64 x.2):=hb.cell 1;have oJ:a.tmps[i]?.getD undef=.pointer (some ⟨c,0,none⟩):=by simpa using zE
 exact Ct (v:=cY x) (by simp[results,mZ,go_sem,oJ,r0,r1,cY]) hd hQ
theorem Us(h:dH w b lo hi v st)(x y:Int)(dg:st.length<10000):
 Calls prog 109 #[.pointer (some ⟨b,0,none⟩),.int .i64 x,.int .i64 y] w (mO w b lo hi v (ei st x y).1 (.int .i64 (ei st x y).2)):=by
 unfold mO ei;by_cases hx:x= -1
 ·have hb:(x== -1)=true:=by simp[hx]
  simp only[if_pos hx];clear hx;go_in;go_wp2_with fail;go_ret;exact⟨rfl,v,h.new (I.refl _ _),eM.refl _ _ _⟩
 ·have hb:(x== -1)=false:=by simp[hx]
  simp only[if_neg hx];by_cases hy:y= -1
  ·have iW:(y== -1)=true:=(by simp[hy]);simp only[if_pos hy];clear hy hx;go_in;go_wp2_with fail;go_ret;exact⟨rfl,v,h.new (I.refl _ _),eM.refl _ _ _⟩
  ·have iW:(y== -1)=false:=(by simp[hy]);simp only[if_neg hy];have SG:=Ik h (gw.oB w lo hi x y) dg;simp only[Sv.val,Sv.cells]at SG;have HA:=ai SG;clear SG;clear hy hx h;go_in;go_wp2_with fail;refine(HA.out).mono ?_;rintro e w1 ⟨rfl,v1,h1,k1⟩;go_wp2_with fail;go_ret;exact⟨rfl,v1,h1,k1⟩
theorem nL{c:Nat}{v4:Value}{NZ:List MS}{r1 r2 z1 z2:Int}(a1:dH w4 b lo hi v4 NZ)(a2:eM b w w4 v v4)(a3:bJ w4 b v4 c #[.int .i64 z1,.int .i64 z2] 98)(hc:w.heap.size<=c)(CV:b<=c)
 (mZ:f.results=#[ResultVar.cell i 98])(zE:a.tmps.getD i undef=.pointer (some ⟨c,0,none⟩))(hd:a.defers=[]):
 bodyPost prog f (mO w b lo hi v NZ (cY (r1,r2))) Exit.ret a ((w4.setCell ⟨c,0,none⟩ (.int .i64 r1)).setCell ⟨c,1,none⟩ (.int .i64 r2)):=by
 refine aa7 mZ zE hd (x:=(r1,r2)) ?_ ?_
 ·exact((a3.setCell 0 (.int .i64 r1)).setCell 1 (.int .i64 r2)).ae
 ·exact⟨rfl,v4,(a1.set a3.not CV 0 _).set a3.not CV 1 _,(a2.set hc 0 _).set hc 1 _⟩
theorem bJ.cX{c:Nat}{p q:Int}(h:bJ w b v c #[.int .i64 p,.int .i64 q] t):w.cell? ⟨c,0,none⟩=some (.int .i64 p)/\w.cell? ⟨c,1,none⟩=some (.int .i64 q)/\w.frozen? ⟨c,0,none⟩=false/\w.frozen? ⟨c,1,none⟩=false:=⟨h.ae.cell 0,h.ae.cell 1,h.ae.frozen 0,h.ae.frozen 1⟩
theorem Uu(h:dH w b lo hi v st)(x y:Ex)(dg:st.length+2<=10000):
 Calls prog 82 #[.pointer (some ⟨b,0,none⟩),cY x,cY y] w (mO w b lo hi v (gx st x y).1 (cY (gx st x y).2)):=by
 have ar:=h.ae.lt;have g1:=u9 st x.2 y.2;obtain⟨x1,x2⟩:=x;obtain⟨y1,y2⟩:=y;simp only at g1;have l1:=((bJ.new h (aP (x1,x2)) 98).alloc (.cells (aP (y1,y2)) 98)).alloc (.cells (aP (0,0)) 98);have h1:=h.alloc (.cells (aP (x1,x2)) 98);have l2:=(bJ.new h1 (aP (y1,y2)) 98).alloc (.cells (aP (0,0)) 98);have h2:=h1.alloc (.cells (aP (y1,y2)) 98);have l3:=bJ.new h2 (aP (0,0)) 98;have h3:=h2.alloc (.cells (aP (0,0)) 98);have W3:=(((eM.refl b w v).alloc (.cells (aP (x1,x2)) 98)).alloc (.cells (aP (y1,y2)) 98)).alloc (.cells (aP (0,0)) 98);have F1:=ai (Us h3 x2 y2 (by omega));simp only[aP,tB]at l1 l2 l3 h3 W3 F1;clear h h1 h2;simp only[cY];unfold gx;simp only;by_cases c:x1=x2/\y1=y2
 ·have d1:(x1==x2)=true:=by simp[c.1]
  have d2:(y1==y2)=true:=by simp[c.2]
  simp only[if_pos c];clear c;go_in;go_wp2_with fail;refine(F1.out).mono ?_;rintro e w4 ⟨rfl,v4,h4,k4⟩;obtain⟨m1,m2,m3⟩:=And.intro (l1.bt k4) (And.intro (l2.bt k4) (l3.bt k4));have k5:=W3.trans k4;obtain⟨a0,a1,_,_⟩:=m1.cX;obtain⟨b0,b1,_,_⟩:=m2.cX;obtain⟨c0,c1,f0,f1⟩:=m3.cX;have aO:=ai (And.intro h4 (And.intro k5 m3));clear l1 l2 l3 h3 F1 m1 m2 m3 h4 k4 k5 W3;go_wp2_with fail;exact nL aO.out.1 aO.out.2.1 aO.out.2.2 (by omega) (by omega) results82 rfl rfl
 ·simp only[if_neg c];have g2:=u9 (ei st x2 y2).1 x1 y1;by_cases e1:x1=x2
  ·have e2:y1≠y2:=(fun e=>c ⟨e1,e⟩);have d1:(x1==x2)=true:=(by simp[e1]);have d2:(y1==y2)=false:=(by simp[e2]);clear c e1 e2;go_in;go_wp2_with fail;refine(F1.out).mono ?_;rintro e w4 ⟨rfl,v4,h4,k4⟩;obtain⟨m1,m2,m3⟩:=And.intro (l1.bt k4) (And.intro (l2.bt k4) (l3.bt k4));have k5:=W3.trans k4;obtain⟨a0,a1,_,_⟩:=m1.cX;obtain⟨b0,b1,_,_⟩:=m2.cX;have F2:=ai (Us h4 x1 y1 (by omega));have aO:=ai (And.intro k5 m3);clear l1 l2 l3 h3 F1 m1 m2 m3 h4 k4 k5 W3;go_wp2_with fail;refine(F2.out).mono ?_;rintro e w6 ⟨rfl,v6,h6,k6⟩;have m6:=aO.out.2.bt k6;obtain⟨c0,c1,f0,f1⟩:=m6.cX;have Ff:=ai (And.intro h6 (And.intro (aO.out.1.trans k6) m6));clear h6 k6 m6 aO F2;go_wp2_with fail;exact nL Ff.out.1 Ff.out.2.1 Ff.out.2.2 (by omega) (by omega) results82 rfl rfl
  ·have d1:(x1==x2)=false:=(by simp[e1]);clear c e1;go_in;go_wp2_with fail;refine(F1.out).mono ?_;rintro e w4 ⟨rfl,v4,h4,k4⟩;obtain⟨m1,m2,m3⟩:=And.intro (l1.bt k4) (And.intro (l2.bt k4) (l3.bt k4));have k5:=W3.trans k4;obtain⟨a0,a1,_,_⟩:=m1.cX;obtain⟨b0,b1,_,_⟩:=m2.cX;have F2:=ai (Us h4 x1 y1 (by omega));have aO:=ai (And.intro k5 m3);clear l1 l2 l3 h3 F1 m1 m2 m3 h4 k4 k5 W3;go_wp2_with fail;refine(F2.out).mono ?_;rintro e w6 ⟨rfl,v6,h6,k6⟩;have m6:=aO.out.2.bt k6;obtain⟨c0,c1,f0,f1⟩:=m6.cX;have Ff:=ai (And.intro h6 (And.intro (aO.out.1.trans k6) m6));clear h6 k6 m6 aO F2;go_wp2_with fail;exact nL Ff.out.1 Ff.out.2.1 Ff.out.2.2 (by omega) (by omega) results82 rfl rfl
theorem aaW(h:dH w b lo hi v st)(lz:Bool)(x y:Ex)(dg:st.length+2<=10000):
 Calls prog 110 #[.pointer (some ⟨b,0,none⟩),.bool lz,cY x,cY y] w (mO w b lo hi v (dE lz st x y).1 (cY (dE lz st x y).2)):=by
 have ar:=h.ae.lt;obtain⟨x1,x2⟩:=x;obtain⟨y1,y2⟩:=y;have l1:=((bJ.new h (aP (x1,x2)) 98).alloc (.cells (aP (y1,y2)) 98)).alloc (.cells (aP (0,0)) 98);have h1:=h.alloc (.cells (aP (x1,x2)) 98);have l2:=(bJ.new h1 (aP (y1,y2)) 98).alloc (.cells (aP (0,0)) 98);have h2:=h1.alloc (.cells (aP (y1,y2)) 98);have l3:=bJ.new h2 (aP (0,0)) 98;have h3:=h2.alloc (.cells (aP (0,0)) 98);have W3:=(((eM.refl b w v).alloc (.cells (aP (x1,x2)) 98)).alloc (.cells (aP (y1,y2)) 98)).alloc (.cells (aP (0,0)) 98);have F1:=Uu h3 (x1,x2) (y1,y2) (by omega);have F2:=Uu h3 (y1,y2) (x1,x2) (by omega);simp only[aP,cY,tB]at l1 l2 l3 h3 W3 F1 F2;have F1:=ai F1;have F2:=ai F2;clear h h1 h2;simp only[cY];unfold dE
 cases lz
 ·simp only[Ag,if_false];go_in;go_wp2_with fail;refine(F1.out).mono ?_;rintro e w4 ⟨rfl,v4,h4,k4⟩;obtain⟨c0,c1,f0,f1⟩:=(l3.bt k4).cX;have aO:=ai (And.intro h4 (And.intro (W3.trans k4) (l3.bt k4)));clear l1 l2 l3 h3 F1 F2 h4 k4 W3;go_wp2_with fail;exact nL aO.out.1 aO.out.2.1 aO.out.2.2 (by omega) (by omega) results110 rfl rfl
 ·simp only[if_true];go_in;go_wp2_with fail;refine(F2.out).mono ?_;rintro e w4 ⟨rfl,v4,h4,k4⟩;obtain⟨c0,c1,f0,f1⟩:=(l3.bt k4).cX;have aO:=ai (And.intro h4 (And.intro (W3.trans k4) (l3.bt k4)));clear l1 l2 l3 h3 F1 F2 h4 k4 W3;go_wp2_with fail;exact nL aO.out.1 aO.out.2.1 aO.out.2.2 (by omega) (by omega) results110 rfl rfl
structure Inn(w w3:World)(to0:List Nat)(i:Nat)(g cap:Nat):Prop where
 kept:I aq w w3
 row:fL w3 (some ⟨g,0,none⟩) g (jW (i::to0))
 new:w.heap.size<=g
 cap:(i::to0).length<=cap
theorem Wq{w3:World}{v2:Value}(k1:I aq w w1)(a8:w3.ownsRow w.heap.size 3 1 v2 (to0.length+1) ((jW to0).map (Value.int .i64)++[.int .i64 (i:Int)]))(hg:w1.grownBy w3 v1.ownBlock)(hv:∀k,v1.ownBlock=some k->w.heap.size<=k):∃g cap,v2=.slice (some ⟨g,0,none⟩) (to0.length+1) cap/\Inn w w3 to0 i g cap:=by
 have k3:I aq w w3:=k1.dn hg (fun j hj=>Or.inr (hv j hj));rcases a8.2 with⟨_,h0⟩|⟨g,cap,aU,rfl,a1,a2,a3,a4,a5,a6⟩
 ·omega
 ·refine⟨g,cap,rfl,k3,⟨fun _=>⟨rfl,(Ah.1 a2).1⟩,fun j hj=>?_,fun _=>⟨aU,a2⟩⟩,a1,by simpa using a3⟩;have hB:ay w3 g aU 3:=a2;have e:(jW (i::to0)).map (Value.int .i64)=(jW to0).map (Value.int .i64)++[.int .i64 (i:Int)]:=by rw[vT,Cv];rfl
  rw[<-e]at a6;have ko:j<to0.length+1:=by have:=uN (i::to0);rw[this]at hj;simpa using hj
  have hx:((jW (i::to0)).map (Value.int .i64))[j]? =some (.int .i64 (jW (i::to0))[j]):=by simp[hj]
  rw[<-a6,Al (by omega)]at hx;rw[hB.cell j];simpa using hx
theorem QQ(t:Int):∀u∈ [Value.int .i64 t],u.oneCell'=true:=by intro u hu;simp at hu;subst hu;rfl
theorem T1{q:Addr}(h:w.cell? q=some v):q.block<w.heap.size:=xT h
theorem aou(T:ju w G E c S Z i gs ts to0 eK b ag gb cg (some ad) tb ct n)(ht:c.bR=false)(hl:¬0<c.bB)(hm:c.aY<0):
 Calls prog 67 #[.pointer (some ⟨E.xb,0,none⟩),.pointer (some ⟨b,0,none⟩),.int .i64 i,.slice ag gs.length cg,.slice (some ad) ts.length ct] w (dV (wS i (c::S) ts) w G E (c::S) i gs ts):=by
 obtain⟨i0,b_,cE,cI,cH⟩:=A7 Tryz.zL;obtain⟨nb,lb,lc,vm,z,hT⟩:=T.at T.h.aV (ef.refl w G) ⟨I.refl _ _,fun _ _ q=>q⟩;have c0:=hT.c0;have c1:=hT.c1;have c2:=hT.c2;have c4:=hT.c4;have c5:=hT.c5;have c6:=hT.c6;have l0:=hT.l0;have n8:=hT.n8;have uq:to0=ts:=by rw[T.fP,ht];rfl
 subst uq;rw[ht]at c4;have zy:eK=i::to0:=by rw[T.cP,if_pos (by omega)]
 subst zy;have wU:¬c.aY=0:=by omega
 have qe:=acQ (T.h.rt.kept ((I.refl aq w).alloc (.cells #[] 3)) (fun _ q=>q)) rfl;have L9:=T.h.dl;have V8:=T.h.vS;have HT:=ai T;have uQ:=ai hT;have zF:=uN to0;have Hi:(w.alloc (.cells #[] 3)).ownsRow w.heap.size 3 1 (.slice (some ⟨w.heap.size,0,none⟩) 0 0) 0 []:=⟨rfl,Or.inr ⟨w.heap.size,0,#[],rfl,Aa _,ay.new w _ _,Aa _,Aw _,rfl,rfl⟩⟩;clear T hT;go_in;go_wp2_with (at_builtin;refine Ad _ rfl _ _ 65 rfl w.heap.size 3 i0 _ 1 8 underlying65 b_ cE cI cH rfl (by decide) _ _ _ rfl Hi ad to0.length ct ((jW to0).map (Value.int .i64)) rfl (by simp[zF]) qe (Wr _) ?c3 ?c4 ?c5 ?_)
 case c3=>unfold maxLen;omega
 case c4=>omega
 try(case c5=>first|omega|(rw[cR];omega))
 intro v1 w1 wX Gt VI Vw;have xK:Hid (I aq w w1):=((I.refl aq w).alloc _).dn Gt (fun j hj=>by simp[Value.ownBlock]at hj;exact Or.inr (by omega));obtain⟨zb,Lf,rfl⟩:=dY wX;have o1:(w1.alloc (.cells #[.int .i64 (i:Int)] 3)).ownsRow w.heap.size 3 1 (.slice zb to0.length Lf) to0.length ((jW to0).map (Value.int .i64)):=by simpa using wX.alloc (.cells #[.int .i64 (i:Int)] 3)
 have O1:=ai o1;clear o1;have gj:∀k,(Value.slice zb to0.length Lf).ownBlock=some k->w.heap.size<=k:=fun k hk=>(cA wX hk).1
 have o9:=ai gj;have ew:w.heap.size<=w1.heap.size:=xK.out.size;clear wX Gt VI Vw gj;go_wp2_with (at_builtin;refine Ad _ rfl _ _ 65 rfl w.heap.size 3 i0 _ 1 8 underlying65 b_ cE cI cH rfl (by decide) _ _ _ rfl O1.out ⟨w1.heap.size,0,none⟩ 1 1 [.int .i64 (i:Int)] rfl rfl (Cc w1 (.int .i64 (i:Int)) 3) (QQ _) ?d3 ?d4 ?d5 ?_);try(case d3=>unfold maxLen;omega)
 try(case d4=>omega)
 try(case d5=>first|omega|(rw[cR];omega))
 intro v2 w3 qL DA Ms Mk;obtain⟨g,cap,rfl,hI⟩:=Wq (xK.out.alloc _) qL DA o9.out;have HI:=ai hI;have kc:∀{q:Addr} {u:Value},w.cell? q=some u->w3.cell? q=some u:=fun{q u} h=>(hI.kept.cell (p:=q) (T1 h) (fun x=>x)).trans h
 have C0:=kc c0;have C5:=kc c5;have C6:=kc c6;have L0:=kc l0;have N8:=kc n8;have BK:Hid ((i::to0)≠ []->¬G.mu g):=fun _ q=>by have:=HT.out.h.aV.lt g q;have:=HI.out.new;omega
 clear qL DA Ms Mk kc hI c0 c1 c2 c4 c5 c6 l0 n8 O1 xK o9
 cases iZ:n.lz
 ·rw[iZ]at N8;have HC:=ai (HT.out.Py HI.out.kept uQ.out.next (by omega) (by omega) iZ HI.out.row BK.out HI.out.cap (fun h=>by cases h));clear iZ;go_wp2_with fail;refine(HC.out).mono ?_;rintro e w4 (⟨q,ao,cap,rfl,hF⟩|⟨rfl,Yh,d5,HC2⟩)
  ·go_wp2_with fail
   go_ret3
   exact hF
  ·go_wp2_with fail
   refine HC2.mono ?_;rintro e w5 hF;rcases hF.tA with rfl|⟨q,ao,cap,rfl⟩
   ·go_wp2_with fail
    go_ret3
    exact hF
   ·go_wp2_with fail
    go_ret3
    exact hF
 ·rw[iZ]at N8;have HC:=ai (HT.out.lazy HI.out.kept uQ.out.more (by omega) (by omega) iZ HI.out.row BK.out HI.out.cap (fun h=>by cases h));clear iZ;go_wp2_with fail;refine(HC.out).mono ?_;rintro e w4 (⟨q,ao,cap,rfl,hF⟩|⟨rfl,Re,WJ,z2,d6,d0,HC2⟩)
  ·go_wp2_with fail
   go_ret3
   exact hF
  ·go_wp2_with fail
   refine HC2.mono ?_;rintro e w5 hF;rcases hF.tA with rfl|⟨q,ao,cap,rfl⟩
   ·go_wp2_with fail
    go_ret3
    exact hF
   ·go_wp2_with fail
    go_ret3
    exact hF
theorem aot(T:ju w G E c S Z i gs ts to0 eK b ag gb cg none tb 0 n)(ht:c.bR=false)(hl:¬0<c.bB)(hm:c.aY<0):
 Calls prog 67 #[.pointer (some ⟨E.xb,0,none⟩),.pointer (some ⟨b,0,none⟩),.int .i64 i,.slice ag gs.length cg,.slice none ts.length 0] w (dV (wS i (c::S) ts) w G E (c::S) i gs ts):=by
 obtain⟨i0,b_,cE,cI,cH⟩:=A7 Tryz.zL;obtain⟨nb,lb,lc,vm,z,hT⟩:=T.at T.h.aV (ef.refl w G) ⟨I.refl _ _,fun _ _ q=>q⟩;have c0:=hT.c0;have c1:=hT.c1;have c2:=hT.c2;have c4:=hT.c4;have c5:=hT.c5;have c6:=hT.c6;have l0:=hT.l0;have n8:=hT.n8;have uq:to0=ts:=by rw[T.fP,ht];rfl
 subst uq;rw[ht]at c4;have zy:eK=i::to0:=by rw[T.cP,if_pos (by omega)]
 subst zy;have wU:¬c.aY=0:=by omega
 have ajP:to0=[]:=by
  cases to0 with
  |nil=>rfl
  |cons t l=>obtain⟨q,_⟩:=T.h.rt.ig (by rw[vT];simp);cases q
 subst ajP;have L9:=T.h.dl;have V8:=T.h.vS;have HT:=ai T;have uQ:=ai hT;have Hi:(w.alloc (.cells #[] 3)).ownsRow w.heap.size 3 1 (.slice (some ⟨w.heap.size,0,none⟩) 0 0) 0 []:=⟨rfl,Or.inr ⟨w.heap.size,0,#[],rfl,Aa _,ay.new w _ _,Aa _,Aw _,rfl,rfl⟩⟩;clear T hT;have xK:Hid (I aq w (w.alloc (.cells #[] 3))):=(I.refl aq w).alloc _;have o1:((w.alloc (.cells #[] 3)).alloc (.cells #[.int .i64 (i:Int)] 3)).ownsRow w.heap.size 3 1 (.slice (some ⟨w.heap.size,0,none⟩) 0 0) 0 []:=Hi.alloc (.cells #[.int .i64 (i:Int)] 3);have O1:=ai o1;have o9:Hid (∀k,(Value.slice (some ⟨w.heap.size,0,none⟩) 0 0).ownBlock=some k->w.heap.size<=k):=fun k hk=>by simp[Value.ownBlock]at hk;omega
 have NW:Hid (∀j u,[Value.int .i64 (i:Int)][j]? =some u->((w.alloc (.cells #[] 3)).alloc (.cells #[.int .i64 (i:Int)] 3)).cell? ((⟨w.heap.size+1,0,none⟩:Addr).add j)=some u):=fun j u hj=>by
  have:=Cc (w.alloc (.cells #[] 3)) (.int .i64 (i:Int)) 3 j u hj;rw[cR]at this;exact this
 clear o1;go_in;go_wp2_with (at_builtin;refine Ad _ rfl _ _ 65 rfl w.heap.size 3 i0 _ 1 8 underlying65 b_ cE cI cH rfl (by decide) _ _ _ rfl O1.out ⟨w.heap.size+1,0,none⟩ 1 1 [.int .i64 (i:Int)] rfl rfl NW.out (QQ _) ?d3 ?d4 ?d5 ?_);try(case d3=>unfold maxLen;omega)
 try(case d4=>omega)
 try(case d5=>first|omega|(rw[cR];omega))
 intro v2 w3 qL DA Ms Mk;obtain⟨g,cap,rfl,hI⟩:=Wq (to0:=[]) (xK.out.alloc _) qL DA o9.out;have HI:=ai hI;have kc:∀{q:Addr} {u:Value},w.cell? q=some u->w3.cell? q=some u:=fun{q u} h=>(hI.kept.cell (p:=q) (T1 h) (fun x=>x)).trans h
 have C0:=kc c0;have C5:=kc c5;have C6:=kc c6;have L0:=kc l0;have N8:=kc n8;have BK:Hid ([i]≠ []->¬G.mu g):=fun _ q=>by have:=HT.out.h.aV.lt g q;have:=HI.out.new;omega
 clear qL DA Ms Mk kc hI c0 c1 c2 c4 c5 c6 l0 n8 O1 xK o9
 cases iZ:n.lz
 ·rw[iZ]at N8;have HC:=ai (HT.out.Py HI.out.kept uQ.out.next (by omega) (by omega) iZ HI.out.row BK.out HI.out.cap (fun h=>by cases h));clear iZ;go_wp2_with fail;refine(HC.out).mono ?_;rintro e w4 (⟨q,ao,cap,rfl,hF⟩|⟨rfl,Yh,d5,HC2⟩)
  ·go_wp2_with fail
   go_ret3
   exact hF
  ·go_wp2_with fail
   refine HC2.mono ?_;rintro e w5 hF;rcases hF.tA with rfl|⟨q,ao,cap,rfl⟩
   ·go_wp2_with fail
    go_ret3
    exact hF
   ·go_wp2_with fail
    go_ret3
    exact hF
 ·rw[iZ]at N8;have HC:=ai (HT.out.lazy HI.out.kept uQ.out.more (by omega) (by omega) iZ HI.out.row BK.out HI.out.cap (fun h=>by cases h));clear iZ;go_wp2_with fail;refine(HC.out).mono ?_;rintro e w4 (⟨q,ao,cap,rfl,hF⟩|⟨rfl,Re,WJ,z2,d6,d0,HC2⟩)
  ·go_wp2_with fail
   go_ret3
   exact hF
  ·go_wp2_with fail
   refine HC2.mono ?_;rintro e w5 hF;rcases hF.tA with rfl|⟨q,ao,cap,rfl⟩
   ·go_wp2_with fail
    go_ret3
    exact hF
   ·go_wp2_with fail
    go_ret3
    exact hF
theorem aox{t:Nat}(T:ju w G E c S Z i gs (t::to0) to0 eK b ag gb cg (some ad) tb ct n)(ht:c.bR=true)(aF:t≠i)(hl:¬0<c.bB)(hm:c.aY<0):
 Calls prog 67 #[.pointer (some ⟨E.xb,0,none⟩),.pointer (some ⟨b,0,none⟩),.int .i64 i,.slice ag gs.length cg,.slice (some ad) (t::to0).length ct] w (dV (wS i (c::S) (t::to0)) w G E (c::S) i gs (t::to0)):=by
 obtain⟨i0,b_,cE,cI,cH⟩:=A7 Tryz.zL;obtain⟨nb,lb,lc,vm,z,hT⟩:=T.at T.h.aV (ef.refl w G) ⟨I.refl _ _,fun _ _ q=>q⟩;have c0:=hT.c0;have c1:=hT.c1;have c2:=hT.c2;have c4:=hT.c4;have c5:=hT.c5;have c6:=hT.c6;have l0:=hT.l0;have n8:=hT.n8;rw[ht]at c4;have zy:eK=i::to0:=by rw[T.cP,if_pos (by omega)]
 subst zy;have wU:¬c.aY=0:=by omega
 have ace:fL w (some ad) tb (jW to0):=by have:=T.h.rt;rw[vT]at this;exact this.pfx
 have qe:=acQ (ace.kept ((I.refl aq w).alloc (.cells #[] 3)) (fun _ q=>q)) rfl;obtain⟨sR,_⟩:=T.h.rt.ig (by rw[vT];simp);simp only[Cf]at sR;subst sR
 have Gy:w.cell? ⟨tb,to0.length,none⟩=some (.int .i64 (t:Int)):=by
  have:=T.h.rt.cell to0.length (by rw[vT];simp[uN]);rw[this];simp[vT,uN]
 have jO:((t:Int)==(i:Int))=false:=by simp;omega
 have aM:to0.length+1<=ct:=T.h.pQ;clear ace;have L9:=T.h.dl;have V8:to0.length+1<=E.D:=T.h.vS;have HT:=ai T;have uQ:=ai hT;have zF:=uN to0;have Hi:(w.alloc (.cells #[] 3)).ownsRow w.heap.size 3 1 (.slice (some ⟨w.heap.size,0,none⟩) 0 0) 0 []:=⟨rfl,Or.inr ⟨w.heap.size,0,#[],rfl,Aa _,ay.new w _ _,Aa _,Aw _,rfl,rfl⟩⟩;clear T hT;go_in;go_wp2_with (at_builtin;refine Ad _ rfl _ _ 65 rfl w.heap.size 3 i0 _ 1 8 underlying65 b_ cE cI cH rfl (by decide) _ _ _ rfl Hi ⟨tb,0,none⟩ to0.length ct ((jW to0).map (Value.int .i64)) rfl (by simp[zF]) qe (Wr _) ?c3 ?c4 ?c5 ?_)
 case c3=>unfold maxLen;omega
 case c4=>omega
 try(case c5=>first|omega|(rw[cR];omega))
 intro v1 w1 wX Gt VI Vw;have xK:Hid (I aq w w1):=((I.refl aq w).alloc _).dn Gt (fun j hj=>by simp[Value.ownBlock]at hj;exact Or.inr (by omega));obtain⟨zb,Lf,rfl⟩:=dY wX;have o1:(w1.alloc (.cells #[.int .i64 (i:Int)] 3)).ownsRow w.heap.size 3 1 (.slice zb to0.length Lf) to0.length ((jW to0).map (Value.int .i64)):=by simpa using wX.alloc (.cells #[.int .i64 (i:Int)] 3)
 have O1:=ai o1;clear o1;have gj:∀k,(Value.slice zb to0.length Lf).ownBlock=some k->w.heap.size<=k:=fun k hk=>(cA wX hk).1
 have o9:=ai gj;have ew:w.heap.size<=w1.heap.size:=xK.out.size;clear wX Gt VI Vw gj;go_wp2_with (at_builtin;refine Ad _ rfl _ _ 65 rfl w.heap.size 3 i0 _ 1 8 underlying65 b_ cE cI cH rfl (by decide) _ _ _ rfl O1.out ⟨w1.heap.size,0,none⟩ 1 1 [.int .i64 (i:Int)] rfl rfl (Cc w1 (.int .i64 (i:Int)) 3) (QQ _) ?d3 ?d4 ?d5 ?_);try(case d3=>unfold maxLen;omega)
 try(case d4=>omega)
 try(case d5=>first|omega|(rw[cR];omega))
 intro v2 w3 qL DA Ms Mk;obtain⟨g,cap,rfl,hI⟩:=Wq (xK.out.alloc _) qL DA o9.out;have HI:=ai hI;have kc:∀{q:Addr} {u:Value},w.cell? q=some u->w3.cell? q=some u:=fun{q u} h=>(hI.kept.cell (p:=q) (T1 h) (fun x=>x)).trans h
 have C0:=kc c0;have C5:=kc c5;have C6:=kc c6;have L0:=kc l0;have N8:=kc n8;have BK:Hid ((i::to0)≠ []->¬G.mu g):=fun _ q=>by have:=HT.out.h.aV.lt g q;have:=HI.out.new;omega
 clear qL DA Ms Mk kc hI c0 c1 c2 c4 c5 c6 l0 n8 O1 xK o9
 cases iZ:n.lz
 ·rw[iZ]at N8;have HC:=ai (HT.out.Py HI.out.kept uQ.out.next (by omega) (by omega) iZ HI.out.row BK.out HI.out.cap (fun h=>by cases h));clear iZ;go_wp2_with fail;refine(HC.out).mono ?_;rintro e w4 (⟨q,ao,cap,rfl,hF⟩|⟨rfl,Yh,d5,HC2⟩)
  ·go_wp2_with fail
   go_ret3
   exact hF
  ·go_wp2_with fail
   refine HC2.mono ?_;rintro e w5 hF;rcases hF.tA with rfl|⟨q,ao,cap,rfl⟩
   ·go_wp2_with fail
    go_ret3
    exact hF
   ·go_wp2_with fail
    go_ret3
    exact hF
 ·rw[iZ]at N8;have HC:=ai (HT.out.lazy HI.out.kept uQ.out.more (by omega) (by omega) iZ HI.out.row BK.out HI.out.cap (fun h=>by cases h));clear iZ;go_wp2_with fail;refine(HC.out).mono ?_;rintro e w4 (⟨q,ao,cap,rfl,hF⟩|⟨rfl,Re,WJ,z2,d6,d0,HC2⟩)
  ·go_wp2_with fail
   go_ret3
   exact hF
  ·go_wp2_with fail
   refine HC2.mono ?_;rintro e w5 hF;rcases hF.tA with rfl|⟨q,ao,cap,rfl⟩
   ·go_wp2_with fail
    go_ret3
    exact hF
   ·go_wp2_with fail
    go_ret3
    exact hF
theorem aof{Z:List CI}(h:ee w G E (c::S) i gs (i::to0) (.pointer (some ⟨b,0,none⟩)) ag gb cg (some ad) tb ct)(hn:c.n=some n)(ho:n.op=ec)(ht:c.bR=true):
 Calls prog 67 #[.pointer (some ⟨E.xb,0,none⟩),.pointer (some ⟨b,0,none⟩),.int .i64 i,.slice ag gs.length cg,.slice (some ad) (i::to0).length ct] w (dV (wS i (c::S) (i::to0)) w G E (c::S) i gs (i::to0)):=by
 obtain⟨vm,vt,dQ,nb,ao,bk,cap,P,_,_,abN,hF⟩:=h.aV.open h.head hn;have c4:w.cell? ⟨b,4,none⟩=some (.bool true):=by have:w.cell? ⟨b,4,none⟩=some (.bool c.bR):=abN.ae.cell 4;rw[ht]at this;exact this
 obtain⟨sR,_⟩:=h.rt.ig (by rw[vT];simp);simp only[Cf]at sR;subst sR
 have Gy:w.cell? ⟨tb,to0.length,none⟩=some (.int .i64 (i:Int)):=by
  have:=h.rt.cell to0.length (by rw[vT];simp[uN]);rw[this];simp[vT,uN]
 have V8:to0.length+1<=E.D:=h.vS;have L9:=h.dl;have HA:=ai h;have HR:=ai (cV.aoS (x:=E.x) (S:=S) (gs:=gs) hn ho ht (show(i::to0).head?=some i from rfl));clear h abN hF;go_in;go_wp2_with fail;go_ret3;exact⟨G,none,HR.out,HA.out.aV,j0.refl w G _ _,⟨I.refl _ _,fun _ _ q=>q⟩,rfl⟩
theorem Yk:∀(S:List CI) {ts us:List Nat},oh i ts us->wS i S ts=wS i S us
 | [],ts,us,h=>rfl
 |c::S,ts,us,h=>by
  have h1:=Yk S h;have h2:=Yk S h.tail
  have h3:(ts.head?==some i)=(us.head?==some i):=by
   have:=h.head;rw[Av];simpa using this
  unfold wS;rw[h1,h2,h3]
theorem y7.of(h1:oo i ts)(h2:ts.length=tc S):y7 i S (tN ts i) (wS i S ts+1):=fun us a1 a2 a3=>by
 rw[Yk S (Tx (by omega) a1 h1 a3)];exact Nat.lt_succ_self _
theorem y7.not(h1:oo i ts)(h2:ts.length=tc S):¬y7 i S (tN ts i) (wS i S ts):=fun h=>Nat.lt_irrefl _ (h ts h1 h2 rfl)
theorem aad(ts:List Nat)(i:Nat):tN ts i<=ts.length:=by unfold tN;exact(List.takeWhile_prefix _).length_le
theorem Rn{w7:World}{n:Nat}(h:du w G E)(hb:G.T b=some (c::S))(aM:tH w G E b c S vn vm vt (.slice (some ⟨tb,0,none⟩) (E.x.l.length+1) (E.x.l.length+1)))(dt:KH w G E b (c::S) tb rows)(hv:rows[i]? =some v)(hi:i<=E.x.l.length)
 (kW:I aq w W)(a8:w7.ownsRow 0 3 1 v' ((G.N b i).length+1) (((G.N b i).map fun m:Nat=>.int .i64 (m:Int))++[.int .i64 (n:Int)]))(hg:W.grownBy w7 v.ownBlock)(hl:v'.ownBlock=v.ownBlock\/v'.ownBlock=some W.heap.size)(hn:n<=E.D)(hf:AZ E.x (c::S) i n)(Jb:n∉G.N b i):
 ∃G',du (w7.setCell ⟨tb,i,none⟩ v') G' E/\ef w G G'/\KS G w (w7.setCell ⟨tb,i,none⟩ v')/\(∀k j,G'.N k j=if k=b/\j=i then G.N b i++[n]else G.N k j)/\∀k,G'.T k=G.T k:=by
 obtain⟨v0,wZ,dS⟩:=dt.row i hi;rw[hv]at wZ
 cases wZ
 have hbt:b≠tb:=fun e=>by
  have:=h.po b (by rw[hb];simp);rw[e,dt.aN]at this
  cases this
 have GN:∀k,v.ownBlock=some k->G.O k=some (b,i):=dS.2.1
 have hvT:∀k,v.ownBlock=some k->k≠tb:=fun k hk e=>by
  have:=GN k hk;rw[e,dt.aN]at this;simp at this;omega
 have aqU:∀k,v.ownBlock=some k->k<w.heap.size:=fun k hk=>h.lt k (Or.inr (by rw[GN k hk];simp))
 have V3:=kW.size
 have acs:v'.ownBlock≠some tb:=fun e=>by
  rcases hl with q|q
  ·exact hvT tb (q▸e) rfl
  ·rw[q]at e;simp at e;have:=dt.ae.lt;omega
 have k7:I (fun k=>v.ownBlock=some k) w w7:=(kW.mono (fun _ q=>q.elim)).bY (((I.refl (fun k=>v.ownBlock=some k) W)).dn hg (fun j hj=>Or.inl hj)) (fun _ _ q=>q);have k8:I (fun k=>k=tb\/v.ownBlock=some k) w (w7.setCell ⟨tb,i,none⟩ v'):=I.setCell (S:=fun k=>k=tb\/v.ownBlock=some k) (k7.mono (fun _ q=>Or.inr q)) (p:=⟨tb,i,none⟩) (Or.inl (Or.inl rfl)) _
 have hX:∀j,(j=tb\/v.ownBlock=some j)->j=b\/∃i,G.O j=some (b,i):=fun j hj=>by
  rcases hj with rfl|hj
  ·exact Or.inr ⟨_,dt.aN⟩
  ·exact Or.inr ⟨_,GN j hj⟩
 have yc:∀j,(j=tb\/v.ownBlock=some j)->G.mu j:=fun j hj=>by
  rcases hX j hj with rfl|⟨q,e⟩
  ·exact Or.inl (by rw[hb];simp)
  ·exact Or.inr (by rw[e];simp)
 have hbX:¬(b=tb\/v.ownBlock=some b):=fun q=>by
  rcases q with q|q
  ·exact hbt q
  ·have:=h.po b (by rw[hb];simp);rw[GN b q]at this
   cases this
 obtain⟨G',F_⟩:∃G':GH,G'=⟨G.T,fun k=>if v'.ownBlock=some k then some (b,i)else G.O k,fun k j=>if k=b/\j=i then G.N b i++[n]else G.N k j⟩:=⟨_,rfl⟩
 have eT:∀k,G'.T k=G.T k:=fun k=>by rw[F_]
 have eO:∀k,G'.O k=if v'.ownBlock=some k then some (b,i)else G.O k:=fun k=>by rw[F_]
 have eN:∀k j,G'.N k j=if k=b/\j=i then G.N b i++[n]else G.N k j:=fun k j=>by rw[F_]
 have he:ef w G G':=fun k hk=>⟨eT k,by
  rw[eO];by_cases q:v'.ownBlock=some k
  ·rw[if_pos q];rcases hl with r|r
   ·exact(GN k (r▸q)).symm
   ·rw[r]at q;simp at q;omega
  ·rw[if_neg q]⟩
 have VE:∀k,v'.ownBlock=some k->k<w7.heap.size:=fun k hk=>(cA a8 hk).2
 refine⟨G',?_,he,⟨k8.mono yc,fun j hj aF=>?_⟩,eN,eT⟩
 ·refine h.Sm (X:=fun k=>k=tb\/v.ownBlock=some k) (vn:=vn) (vm:=vm) (vt:=vt) (dQ:=.slice (some ⟨tb,0,none⟩) (E.x.l.length+1) (E.x.l.length+1)) hb he eT (fun k hk=>by funext j;rw[eN,if_neg (fun q=>hk q.1)]) (fun k hk hq=>?_) k8 hX ⟨aM.ae.kept k8 hbX,aM.node.kept k8 (fun j hj q=>h.um j hj (yc j q)),aM.more.ext he h.lt,aM.next.ext he h.lt k8 yc,Or.inr ⟨tb,rows.setIfInBounds i v',rfl,?_⟩⟩
  ·rw[eO]at hq;have MD:(w7.setCell ⟨tb,i,none⟩ v').heap.size=w7.heap.size:=(by simp[World.setCell]);rw[MD];by_cases q:v'.ownBlock=some k
   ·exact VE k q
   ·rw[if_neg q]at hq;have:=h.lt k (Or.inr hq);omega
  ·refine⟨by rw[eO,if_neg acs];exact dt.aN,(dt.ae.kept k7 (fun q=>hvT tb q rfl)).setCell i v',by simp[dt.size],fun j hj=>?_⟩;by_cases Qk:j=i
   ·subst Qk;refine⟨v',by rw[Dw];simp[dt.size];omega,?_⟩;unfold wc;have e1:G'.N b j=G.N b j++[n]:=(by rw[eN,if_pos ⟨rfl,rfl⟩]);rw[e1];have kV:I (fun k=>k=tb) w7 (w7.setCell ⟨tb,j,none⟩ v'):=(I.refl (fun k=>k=tb) w7).setCell (p:=⟨tb,j,none⟩) (Or.inl rfl) _;refine⟨?_,fun k hk=>by rw[eO,if_pos hk],?_,fun m hm=>?_⟩
    ·rw[Ao,Cv];exact dh a8 kV (fun k hk e=>acs (e▸hk))
    ·rw[List.nodup_append];exact⟨dS.2.2.1,by simp,fun a ha c hc=>by simp at hc;subst hc;exact fun e=>Jb (e▸ha)⟩
    ·rcases A2.1 hm with hm|hm
     ·exact dS.2.2.2 m hm
     ·simp at hm
      subst hm;exact⟨hn,hf⟩
   ·obtain⟨u,hu,hur⟩:=dt.row j hj;refine⟨u,by rw[Dw,if_neg (fun e=>Qk e.symm)];exact hu,?_⟩;unfold wc at hur⊢;have e1:G'.N b j=G.N b j:=(by rw[eN,if_neg (fun q=>Qk q.2)]);rw[e1];obtain⟨r1,r2,r3,r4⟩:=hur
    have aF:∀k,u.ownBlock=some k->¬(k=tb\/v.ownBlock=some k):=fun k hk q=>by
     have:=r2 k hk;rcases q with q|q
     ·rw[q,dt.aN]at this;simp at this;omega
     ·rw[GN k q]at this;simp at this;exact Qk this.symm
    refine⟨dh r1 k8 aF,fun k hk=>?_,r3,r4⟩;rw[eO];by_cases q:v'.ownBlock=some k
    ·exfalso
     rcases hl with r|r
     ·exact aF k hk (Or.inr (r▸q))
     ·rw[r]at q;simp at q;have:=h.lt k (Or.inr (by rw[r2 k hk];simp));omega
    ·rw[if_neg q];exact r2 k hk
 ·have hjX:¬(j=tb\/v.ownBlock=some j):=fun q=>by
   have hd:=h.po j hj;rcases q with q|q
   ·rw[q,dt.aN]at hd;cases hd
   ·rw[GN j q]at hd;cases hd
  rw[k8.cell (p:=⟨j,6,none⟩) (h.lt j (Or.inl hj)) hjX];exact aF
def pI(m:Nat):Array Value:=madeCells #[.slice none 0 0] m
theorem alq{m:Nat}(hi:i<m):(pI m)[i]? =some (.slice none 0 0):=by
 unfold pI madeCells;simp[hi,Nat.mod_one]
theorem alr(m:Nat):(pI m).size=m:=by unfold pI madeCells;simp
theorem adp(h:du w G E)(hb:G.T b=some (c::S))(aM:tH w G E b c S vn vm vt (.slice none 0 0))(cJ:∀i,G.N b i=[]):
 ∃G',du ((w.alloc (.cells (pI (E.x.l.length+1)) 65)).setCell ⟨b,7,none⟩ (.slice (some ⟨w.heap.size,0,none⟩) (E.x.l.length+1) (E.x.l.length+1))) G' E/\ef w G G'/\KS G w ((w.alloc (.cells (pI (E.x.l.length+1)) 65)).setCell ⟨b,7,none⟩ (.slice (some ⟨w.heap.size,0,none⟩) (E.x.l.length+1) (E.x.l.length+1)))/\(∀k,G'.N k=G.N k)/\(∀k,G'.T k=G.T k)/\
  tH ((w.alloc (.cells (pI (E.x.l.length+1)) 65)).setCell ⟨b,7,none⟩ (.slice (some ⟨w.heap.size,0,none⟩) (E.x.l.length+1) (E.x.l.length+1))) G' E b c S vn vm vt (.slice (some ⟨w.heap.size,0,none⟩) (E.x.l.length+1) (E.x.l.length+1))/\
  KH ((w.alloc (.cells (pI (E.x.l.length+1)) 65)).setCell ⟨b,7,none⟩ (.slice (some ⟨w.heap.size,0,none⟩) (E.x.l.length+1) (E.x.l.length+1))) G' E b (c::S) w.heap.size (pI (E.x.l.length+1)):=by
 have ji:=aM.ae.lt;have k1:I aq w (w.alloc (.cells (pI (E.x.l.length+1)) 65)):=(I.refl aq w).alloc _;have k2:I (fun j=>j=b) w ((w.alloc (.cells (pI (E.x.l.length+1)) 65)).setCell ⟨b,7,none⟩ (.slice (some ⟨w.heap.size,0,none⟩) (E.x.l.length+1) (E.x.l.length+1))):=I.setCell (S:=fun j=>j=b) (k1.mono (fun _ q=>q.elim)) (p:=⟨b,7,none⟩) (Or.inl rfl) _;have hBt:ay ((w.alloc (.cells (pI (E.x.l.length+1)) 65)).setCell ⟨b,7,none⟩ (.slice (some ⟨w.heap.size,0,none⟩) (E.x.l.length+1) (E.x.l.length+1))) w.heap.size (pI (E.x.l.length+1)) 65:=(ay.new w _ _).dD (by show w.heap.size≠b;omega) _;have hBb:ay ((w.alloc (.cells (pI (E.x.l.length+1)) 65)).setCell ⟨b,7,none⟩ (.slice (some ⟨w.heap.size,0,none⟩) (E.x.l.length+1) (E.x.l.length+1))) b (uY vn c vm vt (.slice (some ⟨w.heap.size,0,none⟩) (E.x.l.length+1) (E.x.l.length+1))) 118:=(aM.ae.kept k1 (fun q=>q)).setCell 7 _;generalize hW:((w.alloc (.cells (pI (E.x.l.length+1)) 65)).setCell ⟨b,7,none⟩ (.slice (some ⟨w.heap.size,0,none⟩) (E.x.l.length+1) (E.x.l.length+1)))=W at*;obtain⟨G',F_⟩:∃G':GH,G'=⟨G.T,fun k=>if k=w.heap.size then some (b,E.x.l.length+1)else G.O k,G.N⟩:=⟨_,rfl⟩
 have eT:∀k,G'.T k=G.T k:=fun k=>by rw[F_]
 have eO:∀k,G'.O k=if k=w.heap.size then some (b,E.x.l.length+1)else G.O k:=fun k=>by rw[F_]
 have eN:∀k,G'.N k=G.N k:=fun k=>by rw[F_]
 have he:ef w G G':=fun k hk=>⟨eT k,by rw[eO,if_neg (by omega)]⟩
 have yc:∀j,j=b->G.mu j:=fun j hj=>by subst hj;exact Or.inl (by rw[hb];simp)
 have hNo:KH W G' E b (c::S) w.heap.size (pI (E.x.l.length+1)):=⟨by rw[eO,if_pos rfl],hBt,alr _,fun i hi=>⟨_,alq (by omega),by
  unfold wc;rw[eN,cJ];exact⟨At _ _ _ _,fun k hk=>by simp[Value.ownBlock]at hk,List.nodup_nil,fun m hm=>by cases hm⟩⟩⟩
 have hCt:tH W G' E b c S vn vm vt (.slice (some ⟨w.heap.size,0,none⟩) (E.x.l.length+1) (E.x.l.length+1)):=⟨hBb,aM.node.kept k2 (fun j hj q=>h.um j hj (yc j q)),aM.more.ext he h.lt,aM.next.ext he h.lt k2 yc,Or.inr ⟨_,_,rfl,hNo⟩⟩;refine⟨G',h.Sm (X:=fun j=>j=b) hb he eT (fun k _=>eN k) (fun k hk hq=>?_) k2 (fun j hj=>Or.inl hj) hCt,he,⟨k2.mono yc,?_⟩,eN,eT,hCt,hNo⟩
 ·rw[eO]at hq;by_cases q:k=w.heap.size
  ·subst q;exact hBt.lt
  ·rw[if_neg q]at hq;have:=h.lt k (Or.inr hq);omega
 ·intro j hj aF;by_cases e:j=b
  ·subst e;have a:W.cell? ⟨j,6,none⟩=some vt:=hBb.cell 6;have a':w.cell? ⟨j,6,none⟩=some vt:=aM.ae.cell 6;rw[a,<-a'];exact aF
  ·rw[k2.cell (p:=⟨j,6,none⟩) (h.lt j (Or.inl hj)) e];exact aF
theorem Ui:∀(D:Nat) (l:List Nat),l.Nodup->(∀m∈l,m<D)->l.length<=D
 |0,l,_,h=>by
  cases l with
  |nil=>exact Aa _
  |cons a l=>exact absurd (h a (Aq)) (by omega)
 |D+1,l,hn,h=>by
  by_cases hm:D∈l
  ·have h1:=Ui D (l.erase D) (hn.erase D) (fun m hx=>by
    have h2:=h m (List.mem_of_mem_erase hx)
    have h3:m≠D:=fun e=>by
     subst e;exact absurd hx (hn.not_mem_erase)
    omega)
   have h2:=List.length_erase_of_mem hm;omega
  ·have h1:=Ui D l hn (fun m hx=>by
    have h2:=h m hx;have h3:m≠D:=(fun e=>hm (e▸hx));omega)
   omega
theorem wc.cB(h:wc w G E b S i v):(G.N b i).length<=E.D+1:=Ui (E.D+1) _ h.2.2.1 (fun m hm=>by have:=(h.2.2.2 m hm).1;omega)
theorem Rm{w8:World}{G4 G8:GH}(h:ee w G E (c::S) i gs ts vc ag gb cg at_ tb ct)(hb:G.T b=some (c::S))(q1:cV E.x (c::S) i gs ts none)(q3:j0 w G G4 i (wS i (c::S) ts))(q4:KS G w w4)(i8:du w8 G8 E)(x8:ef w4 G4 G8)(s8:KS G4 w4 w8)(n8:∀k j,G8.N k j=if k=b/\j=i then G4.N b i++[tN ts i]else G4.N k j):
 dV (wS i (c::S) ts+1) w G E (c::S) i gs ts (.returned (.tuple #[.int .i64 0,.slice none 0 0,.bool false])) w8:=by
 have hs:=q4.kept.size;refine⟨G8,none,q1,i8,⟨q3.jt.trans x8 hs,fun b' S' fg j m hj hm=>?_⟩,⟨q4.kept.bY s8.kept (fun k hk hq=>(q3.jt.mu hk).1 hq),q4.stay.trans h.aV.lt q3.jt s8.stay⟩,rfl⟩;rw[n8]at hm
 have vH:m∈G4.N b' j->m∈G.N b' j\/(j=i/\y7 i S' m (wS i (c::S) ts+1)):=fun hm=>by
  rcases q3.vH b' S' fg j m hj hm with q|⟨q,r⟩
  ·exact Or.inl q
  ·exact Or.inr ⟨q,fun us a1 a2 a3=>Nat.lt_succ_of_lt (r us a1 a2 a3)⟩
 by_cases ua:b'=b/\j=i
 ·rw[if_pos ua]at hm;obtain⟨rfl,rfl⟩:=ua;rcases A2.1 hm with hm|hm
  ·exact vH hm
  ·simp at hm
   subst hm;rw[hb]at fg
   cases fg;exact Or.inr ⟨rfl,y7.of h.sB h.qu⟩
 ·rw[if_neg ua]at hm;exact vH hm
def Ii(ops:Array Oper):Bool:=(List.range ops.size).all fun i=>((ops[i]?).map (·.after.all fun e=>decide (e.on<i))).getD true
def J4(ops:Array Oper)(L:Nat):Bool:=(List.range L).all fun i=>(List.range (L+1)).any fun j=>decide (i<j)&&((ops[j]?).map (·.after.any fun e=>Region.binds .any e&&e.on==i)).getD false
def iu(P:Program)(o:Oper)(Q:Exit->Act->World->Prop):Exit->Act->World->Prop
 |.normal,a,w=>o.wp P a w (fun a' w'=>Q .normal a' w') Q
 |e,a,w=>Q e a w
theorem ZP(h:Ii ops=true)(ho:ops[i]? =some o):∀e∈o.after,e.on<i:=by
 unfold Ii at h;rw[List.all_eq_true]at h;have hi:i<ops.size:=(Ah.1 ho).1;have h1:=h i (List.mem_range.2 hi);rw[ho]at h1;simp only[Es,D2]at h1;intro e he;have:=Array.all_eq_true_iff_forall_mem.1 h1 e he;simpa using this
theorem api(h:J4 ops L=true)(hi:i<L):∃j o,i<j/\j<=L/\ops[j]? =some o/\∃e∈o.after,Region.binds .any e=true/\e.on=i:=by
 unfold J4 at h;rw[List.all_eq_true]at h;have h1:=h i (List.mem_range.2 hi);rw[Cx]at h1;obtain⟨j,hj,h2⟩:=h1;have DC:=List.mem_range.1 hj;simp only[Bi,B7]at h2
 cases ho:ops[j]? with
 |none=>rw[ho]at h2;simp at h2
 |some o=>
  rw[ho]at h2;simp only[Es,D2]at h2;obtain⟨k,hk,h3⟩:=Array.any_eq_true.1 h2.2;simp at h3;exact⟨j,o,h2.1,by omega,ho,o.after[k],Array.getElem_mem hk,h3.1,h3.2⟩
theorem aoY(r:Result Next)(h:o.upon P a K (iu P oL Q) r):o.upon P a K Q r:=by
 cases r with
 |ok n w'=>
  cases n<;>simp only[Oper.upon]at h⊢ <;>first
   |exact h
   |exact Calls.mono h (fun e tF he=>by cases e<;>exact he)
 |halt x w'=>cases x<;>simp only[Oper.upon]at h⊢ <;>exact h
theorem apx(h:wpOp P ops (iu P oL Q) i K a w):wpOp P ops Q i K a w:=by
 unfold wpOp at*;split
 ·rename_i ho;simp only[ho]at h;exact h
 ·rename_i o ho
  simp only[ho]at h;split
  ·rename_i hw
   simp only[hw,if_true]at h;rcases h with h|h
   ·exact Or.inl (aoY _ h)
   ·exact Or.inr h
  ·rename_i hw;simp only[hw]at h;exact h
theorem afB(hL:ops[L]? =some oL)(bm:ops.size=L+1)(hg:oL.guard=none)(wK:Ii ops=true)(GX:J4 ops L=true):
 ∀(mm:Nat) (eS:Array Bool) (a:Act) (w:World),eS.size=L+1->eS.getD L true=false->(∀i o,ops[i]? =some o->eS.getD i false=true->∀e∈o.after,Region.binds .any e=true->eS.getD e.on false=true)->
  wpAny P .any ops (iu P oL Q) mm (eS.setIfInBounds L true) a w->wpAny P .any ops Q (mm+1) eS a w:=by
 have acA:∀a:Act,Region.wanted oL (yielded ops a.tmps)=true:=fun a=>by simp[Region.wanted,hg]
 have af_:∀eS:Array Bool,(∀i o,ops[i]? =some o->eS.getD i false=true->∀e∈o.after,Region.binds .any e=true->eS.getD e.on false=true)->L∈Region.ready .any ops eS->∀i,i<L->eS.getD i false=true:=by
  intro eS gU hr;obtain⟨_,o,ho,qI⟩:=mem_ready.1 hr;rw[hL]at ho;cases ho
  have:∀d i,i<L->L-i<=d->eS.getD i false=true:=by
   intro d;induction d with
   |zero=>intro i h1 h2;omega
   |succ d ih=>
    intro i h1 h2;obtain⟨j,o,mx,hjL,VP,e,he,hb,hon⟩:=api GX h1;by_cases hj:j=L
    ·subst hj;rw[hL]at VP;cases VP;rw[<-hon];exact qI e he hb
    ·have:=gU j o VP (ih j (by omega) (by omega)) e he hb;rw[hon]at this;exact this
  intro i hi;exact this (L-i) i hi (Aa _)
 have afa:∀eS:Array Bool,eS.size=L+1->eS.getD L true=false->(Region.ready .any ops eS=[]->False):=by
  intro eS yl IL hr
  have ajz:∀i,i<L->eS.getD i false=true:=by
   intro i;induction i using Nat.strongRecOn with
   |ind i ih=>
    intro hi;apply Bz;intro aF;have ar:i<eS.size:=by omega
    have hf:eS.getD i true=false:=by
     simp only[Array.getD,ar,dite_true]at aF⊢;simpa using aF
    have DB:i<ops.size:=by omega
    have:i∈Region.ready .any ops eS:=mem_ready.2 ⟨hf,ops[i],Array.getElem?_eq_getElem DB,fun e he _=>by
     have:=ZP wK (Array.getElem?_eq_getElem DB) e he;exact ih e.on this (by omega)⟩
    rw[hr]at this
    cases this
  have:L∈Region.ready .any ops eS:=mem_ready.2 ⟨IL,oL,hL,fun e he _=>ajz _ (ZP wK hL e he)⟩;rw[hr]at this
  cases this
 have ahU:∀eS:Array Bool,eS.size=L+1->(∀i,i<L->eS.getD i false=true)->Region.ready .any ops (eS.setIfInBounds L true)=[]:=by
  intro eS yl qI;apply List.eq_nil_iff_forall_not_mem.2;intro j hj;obtain⟨h0,o,ho,_⟩:=mem_ready.1 hj;have I4:j<L+1:=by rw[<-bm];exact(Ah.1 ho).1
  by_cases e:j=L
  ·subst e;simp[Array.getD,yl]at h0
  ·have:=getD_set_true (i:=L) (qI j (by omega));have ar:j<(eS.setIfInBounds L true).size:=by simp;omega
   simp only[Array.getD,ar,dite_true]at h0 this;rw[h0]at this
   cases this
 intro mm;induction mm with
 |zero=>
  intro eS a w yl IL gU h;refine⟨fun hr=>(afa eS yl IL hr).elim,fun i hi=>?_⟩;by_cases e:i=L
  ·subst e;unfold wpOp;simp only[hL,acA,if_true];exact Or.inl (Oper.wp_mono (fun a' w' hq=>⟨h.1,hq⟩) h.2)
  ·have:=ready_mono hi e;rw[h.1]at this
   cases this
 |succ mm ih=>
  intro eS a w yl IL gU h;refine⟨fun hr=>(afa eS yl IL hr).elim,fun i hi=>?_⟩;by_cases e:i=L
  ·subst e;have hd:=ahU eS yl (af_ eS gU hi);unfold wpOp;simp only[hL,acA,if_true];exact Or.inl (Oper.wp_mono (fun a' w' hq=>⟨fun _=>hq,fun k hk=>by rw[hd]at hk;cases hk⟩) (h.1 hd))
  ·have h1:=apx (h.2 i (ready_mono hi e));refine wpOp_mono (fun a' w' h2=>ih (eS.setIfInBounds i true) a' w' (by simp[yl]) (by rw[getD_set_ne true e];exact IL) (fun k o hk hl e' he' hb=>?_) (by rw[Array.setIfInBounds_comm _ _ e];exact h2)) h1;by_cases I7:k=i
   ·subst I7;obtain⟨_,o',vx,qI⟩:=mem_ready.1 hi;rw[hk]at vx;cases vx;exact getD_set_true (qI e' he' hb)
   ·rw[getD_set_ne false (fun e=>I7 e.symm)]at hl;exact getD_set_true (gU k o hk hl e' he' hb)
theorem kH{S:World->Prop}(L:Nat)(hm:P.follows .mixedOrders=true)(hL:ops[L]? =some oL)(bm:ops.size=L+1)(hg:oL.guard=none)(wK:Ii ops=true)(GX:J4 ops L=true)
 (h:wpAnyH P .any ops (iu P oL Q) S L ((Array.replicate (L+1) false).setIfInBounds L true) a w.drew):(Code.region id ops true).wp P Q a w:=by
 refine Ea hm ?_;rw[bm];refine afB hL bm hg wK GX L _ a _ (by simp) (by simp[Array.getD]) (fun i o ho hl=>?_) (Dy _ _ _ _ h);simp[Array.getD]at hl
theorem jV{S:World->Prop}(i:Nat)(d:Tmp)(v:Value)(hi:ops[i]? =some oi)(hd:oi.dst=some d)
 (hs:Region.noSelect ops=true)(hf:Region.free md ops eS i=true)(hr:(Region.ready md ops eS).contains i=true)
 (hQ:∀c a w,Q (.panic c) (a.put oi.dst v) w->Q (.panic c) a w)(hy:YieldsIf P ops S oi v a)(hS:S w)
 (h:wpAnyH P md ops Q S mm (eS.setIfInBounds i true) (a.put (some d) v) w):wpAnyH P md ops Q S (mm+1) eS a w:=
 De hi hs hf hr hQ hy hS (by rw[hd];exact h)
theorem aB{S:World->Prop}(i:Nat)(d:Tmp)(v:Value)(hS:S w)
 (h:wpAnyH P md ops Q S mm (eS.setIfInBounds i true) (a.put (some d) v) w)
 (hi:ops[i]? =some oi:=by rfl)(hd:oi.dst=some d:=by rfl)(hs:Region.noSelect ops=true:=by kernel_rfl)(hf:Region.free md ops eS i=true:=by kernel_rfl)(hr:(Region.ready md ops eS).contains i=true:=by kernel_rfl)
 (hQ:∀c a w,Q (.panic c) (a.put oi.dst v) w->Q (.panic c) a w:=by exact fun _ _ _ h=>h)(hy:YieldsIf P ops S oi v a:=by exact Or.inl ⟨by rfl,fun W dJ=>by first|(go_simp;done)|(cases dJ;repeat cases ‹_/\_›;go_simp)⟩):wpAnyH P md ops Q S (mm+1) eS a w:=
 jV i d v hi hd hs hf hr hQ hy hS h
def FR(ro:Option Nat):Fence:={Fence.wide with round:=ro}
def JD(ops:Array Oper):Bool:=ops.all fun o=>match o.op with|.defer _=>false|_=>true
theorem alp(h:JD ops=true)(ho:ops[i]? =some o):∀c,o.op≠.defer c:=by
 intro c hc;unfold JD at h;rw[Array.all_eq_true]at h;obtain⟨ar,e⟩:=Ah.1 ho;have:=h i ar;rw[e,hc]at this
 cases this
theorem aoZ(ro:Option Nat)(n:Nat)(r:Result Next)(h:o.upon P a K Q r):o.uponIn (FR ro) n P a K Q r:=by
 cases r with
 |ok x w'=>
  cases x with
  |value v=>exact h
  |skip=>exact h
  |defer d=>exact h
  |enter f args=>exact⟨fun hx=>(by cases hx),(Ez.2 h:CallsIn Fence.wide (n-1) P f args w' _)⟩
  |row row args=>exact⟨fun hx=>(by cases hx),fun c cs _=>(by obtain⟨v,w2,hR,hS⟩:=h c cs;exact⟨v,w2,hR,stepsIn_wide.2 hS⟩)⟩
  |_=>exact h.elim
 |halt x w'=>
  cases x<;>first|exact h|exact h.elim
theorem apy(ro:Option Nat)(n:Nat)(hQ:¬LetsOut Q)(hd:JD ops=true){K':Act->World->Prop}(hK:∀a w,K a w->K' a w)(h:wpOp P ops Q i K a w):wpOpIn (FR ro) n P ops Q i K' a w:=by
 refine wpOpIn_mono hK ?_;unfold wpOp at h;unfold wpOpIn
 cases ho:ops[i]? with
 |none=>rw[ho]at h;exact h
 |some o=>
  rw[ho]at h;simp only at h⊢;split
  ·rename_i hw
   rw[if_pos hw]at h;unfold Oper.wpIn;refine⟨fun _ _=>trivial,?_⟩;rw[Oper.semAt_plain _ _ _ (alp hd ho)];exact aoZ ro n _ (h.resolve_right fun hx=>hQ hx.2)
  ·rename_i hw
   rw[if_neg hw]at h;exact⟨fun _ _=>trivial,h⟩
theorem afC(ro:Option Nat)(n:Nat)(hQ:¬LetsOut Q)(hd:JD ops=true):∀(mm:Nat) (eS:Array Bool) (a:Act) (w:World),wpAny P md ops Q mm eS a w->wpAnyIn (FR ro) n P md ops Q mm eS a w
 |0,eS,a,w,h=>h
 |mm+1,eS,a,w,h=>⟨h.1,fun i hi=>apy ro n hQ hd (fun a w=>afC ro n hQ hd mm _ a w) (h.2 i hi)⟩
theorem apv{S:World->Prop}{ro:Option Nat}{n:Nat}(L:Nat)(hm:P.follows .mixedOrders=true)(hQ:¬LetsOut Q)(hd:JD ops=true)(hL:ops[L]? =some oL)(bm:ops.size=L+1)(hg:oL.guard=none)(wK:Ii ops=true)(GX:J4 ops L=true)
 (h:wpAnyH P .any ops (iu P oL Q) S L ((Array.replicate (L+1) false).setIfInBounds L true) a w.drew):(Code.region id ops true).wpIn (FR ro) n P Q a w:=by
 refine wpIn_region_any hm (afC ro n hQ hd _ _ _ _ ?_);rw[bm];refine afB hL bm hg wK GX L _ a _ (by simp) (by simp[Array.getD]) (fun i o ho hl=>?_) (Dy _ _ _ _ h);simp[Array.getD]at hl
theorem apu{S:World->Prop}{n l:Nat}(L:Nat)(hm:P.follows .mixedOrders=true)(hQ:¬LetsOut Q)(hd:JD ops=true)(hL:ops[L]? =some oL)(bm:ops.size=L+1)(hg:oL.guard=none)(wK:Ii ops=true)(GX:J4 ops L=true)
 (h:wpAnyH P .any ops (iu P oL Q) S L ((Array.replicate (L+1) false).setIfInBounds L true) a w.drew):(Code.region id ops true).wpIn (Fence.wide.inRound l) n P Q a w:=
 apv (ro:=some l) L hm hQ hd hL bm hg wK GX h
def QT(Q:Exit->Act->World->Prop):Exit->Act->World->Prop
 |.normal,a,w=>Q .normal a w
 |_,_,_=>False
theorem pR{c:Code}(h:c.wp P (QT Q) a w):c.wp P Q a w:=wp_mono h fun e a w h=>by cases e<;>first|exact h|exact h.elim
theorem apt{F:Fence}{n:Nat}{c:Code}(h:c.wpIn F n P (QT Q) a w):c.wpIn F n P Q a w:=wpIn_mono h fun e a w h=>by cases e<;>first|exact h|exact h.elim
theorem oP(h:Q .normal a w):QT Q .normal a w:=h
theorem aks(Q:Exit->Act->World->Prop):¬LetsOut (QT Q):=fun⟨_,_,h⟩=>h
theorem Tryz.acN:(prog.info? 65).map (fun i=>(i.zero,i.size,i.bytes))=some (some (.slice none 0 0),1,24):=by kernel_rfl
def A_(b tb i L:Nat)(v:Value)(W:World):Prop:=W.cell? ⟨b,7,none⟩=some (.slice (some ⟨tb,0,none⟩) L L)/\W.cell? ⟨tb,i,none⟩=some v
theorem QP(t:Int):∀u∈ [Value.int .i64 t],u.oneCell'=true:=by intro u hu;simp at hu;subst hu;rfl
theorem aik(h:ee w G E [] i gs ts vc ag gb cg at_ tb ct):
 Calls prog 20 #[.pointer (some ⟨E.xb,0,none⟩),vc,.int .i64 i,.slice ag gs.length cg,.slice at_ ts.length ct] w (dV (wS i [] ts+1) w G E [] i gs ts):=by
 obtain rfl:vc=.pointer none:=by
  rcases h.st with⟨q,_⟩|⟨b,_,q⟩
  ·exact q
  ·obtain⟨c,S',_,_,_,_,e,_⟩:=h.aV.ct b _ q
   cases e
 have HA:=ai h;clear h;go_in;go_wp2_with fail;go_ret3;exact⟨G,some (i,gs),⟨1,rfl⟩,HA.out.aV,j0.refl w G _ _,⟨I.refl _ _,fun _ _ q=>q⟩,ag,gb,cg,rfl,HA.out.rg,rfl,HA.out.gc,HA.out.gm,HA.out.il⟩
theorem aij(h:ee w G E (c::S) i gs ts (.pointer (some ⟨b,0,none⟩)) ag gb cg at_ tb ct)(aM:tH w G E b c S vn vm vt (.slice none 0 0))(cJ:∀i,G.N b i=[])
 (hT:Calls prog 38 #[.pointer (some ⟨E.xb,0,none⟩),.pointer (some ⟨b,0,none⟩),.int .i64 i,.slice ag gs.length cg,.slice at_ ts.length ct] w (dV (wS i (c::S) ts) w G E (c::S) i gs ts)):
 Calls prog 20 #[.pointer (some ⟨E.xb,0,none⟩),.pointer (some ⟨b,0,none⟩),.int .i64 i,.slice ag gs.length cg,.slice at_ ts.length ct] w (dV (wS i (c::S) ts+1) w G E (c::S) i gs ts):=by
 obtain⟨i0,b_,cE,cI,cH⟩:=A7 Tryz.zL;have c7:w.cell? ⟨b,7,none⟩=some (.slice none 0 0):=aM.ae.cell 7;have ji:=aM.ae.lt;have lx:=h.il;have L9:=h.dl;have GF:=Bf (aad ts i) h.vS;have F:=ai (aac h.rt i (by have:=h.vS;omega) (cap:=ct));obtain⟨n,HN⟩:∃n,Hid (tN ts i=n):=⟨_,(rfl:_=_)⟩
 have eF:FG ts i=n:=HN.out;rw[eF]at F;rw[HN.out]at GF;have Mp:n<=E.D:=GF;have HB:Hid (G.T b=some (c::S)):=h.head;have Ta:Hid (n∉G.N b i):=by show _∉_;rw[cJ];simp
 have HA:=ai h;have HT:=ai hT;clear h hT aM cJ eF GF;go_in;go_wp2_with fail;refine(F.out).mono ?_;rintro e w ⟨rfl,rfl⟩;clear F;go_wp2_with fail;go_loopg [14] 0 (fun kk k wr=>kk=0/\k=.int .i64 0/\wr=w)
 case atStart=>exact⟨rfl,rfl,rfl⟩
 case round=>
  obtain⟨rfl,rfl,rfl⟩:=hrel;go_wp2_with fail;refine(HT.out).mono ?_;rintro e w4 ⟨G4,r,q1,q2,q3,q4,q5⟩
  cases r with
  |some p=>
   obtain⟨eP,mV,lP,rfl,r2,r3,r4,r5,r6⟩:=q5;go_wp2_with fail;go_ret3;exact⟨G4,some p,q1,q2,q3.call (Or.inr ⟨rfl,Ew _⟩),q4,eP,mV,lP,by rw[r3];rfl,r2,r3,r4,r5,r6⟩
  |none=>
   obtain rfl:=q5;have yd:G4.T b=some (c::S):=by rw[(q3.jt b ji).1];exact HB.out
   obtain⟨c',S',vn4,vm4,vt4,Yi,e4,_,_,oE⟩:=q2.ct b _ yd
   cases e4;have d7:w4.cell? ⟨b,7,none⟩=some Yi:=oE.ae.cell 7
   have f7:=oE.ae.frozen 7;have HF:Hid (AZ E.x (c::S) i n):=HN.out▸AZ.of q1 HA.out.sB HA.out.qu
   have Ku:Hid (n∉G4.N b i):=fun hm=>by
    rcases q3.vH b _ HB.out i n (Aa _) hm with q|⟨_,q⟩
    ·exact Ta.out q
    ·exact y7.not HA.out.sB HA.out.qu (HN.out▸q)
   rcases oE.no with⟨vA,Mt⟩|⟨dO,anj,vA,rT⟩
   ·subst vA;have Ye:w4.cell? ⟨E.xb,0,none⟩=some (.slice E.ao E.x.l.length E.cap):=q2.tx.ae.cell 0;have jk:=q2.tx.cB;have qn:∀W,(binOp .eql 116 (.slice none 0 0) (.slice none 0 0)).run prog W=.ok (.bool true) W:=(fun W=>Dc W _ _ none 0 0 0 0 underlying116);have rS:=fun W=>Eo (P:=prog) 116 65 (.slice none 0 0) 24 underlying116 Tryz.acN rfl .i64 .i64 (E.x.l.length+1) (by omega) (by omega) W
    obtain⟨G5,i5,x5,s5,n5,t5,rI,l7⟩:=adp q2 yd oE Mt;have eY:G5.T b=some (c::S):=(t5 b).trans yd;have Fl:Hid (n∉G5.N b i):=by show _∉_;rw[n5];exact Ku.out
    have Lo:((E.x.l.length+1:Nat):Int)=(E.x.l.length:Int)+1:=(by omega);rw[Lo]at rS;clear Lo;have F9:=oE.ae.alloc (.cells (madeCells #[.slice none 0 0] (E.x.l.length+1)) 65);have a7:(w4.alloc (.cells (madeCells #[.slice none 0 0] (E.x.l.length+1)) 65)).cell? ⟨b,7,none⟩=some (.slice none 0 0):=F9.cell 7;have Tv:=F9.frozen 7;clear F9;have vV:=ai (And.intro x5 (And.intro s5 (And.intro n5 t5)));have Q3:=ai q3;have Q4:=ai q4;have Q1:=ai q1;have S9:=ai q2.lt;have Wg:w4.heap.size=w4.heap.size:=rfl;clear x5 s5 n5 t5 q3 q4 q1 oE Mt Wg;have I5:=ai i5;have Fc:=ai rI;have Fv:=ai l7;clear i5 rI l7;unfold pI at I5 Fc Fv vV;go_wp2_with fail;have i5:=I5.out;have rI:=Fc.out;have l7:=Fv.out;have Kc:=vV.out;clear I5 Fc Fv vV rS Ye d7 f7 q2 a7 Tv;generalize((w4.alloc (.cells (madeCells #[.slice none 0 0] (E.x.l.length+1)) 65)).setCell ⟨b,7,none⟩ (.slice (some ⟨w4.heap.size,0,none⟩) (E.x.l.length+1) (E.x.l.length+1)))=w5 at*;have vV:=ai Kc;clear Kc;obtain⟨dO,Fq⟩:∃dO,Hid (w4.heap.size=dO):=⟨_,(rfl:_=_)⟩
    rw[Fq.out]at rI l7;rw[Fq.out];obtain⟨v5,lC,jP⟩:=l7.row i lx;obtain⟨fE,fW,rfl⟩:=dY jP.1;have Vm:=jP.cB;have ta:w5.cell? ⟨b,7,none⟩=some (.slice (some ⟨dO,0,none⟩) (E.x.l.length+1) (E.x.l.length+1)):=rI.ae.cell 7;have wY:w5.cell? ⟨dO,i,none⟩=some (.slice fE (G5.N b i).length fW):=by rw[l7.ae.cell i];exact lC
    have oC:∀k,(Value.slice fE (G5.N b i).length fW).ownBlock=some k->k≠b/\k≠dO:=fun k hk=>⟨(fun e=>by
     have h1:=i5.po b (by rw[eY];simp);rw[<-e,jP.2.1 k hk]at h1
     cases h1),(fun e=>by
     have h1:=jP.2.1 k hk;rw[e,l7.aN]at h1;simp at h1;omega)⟩
    have PS:Hid (∀W,I (fun k=>(Value.slice fE (G5.N b i).length fW).ownBlock=some k) w5 W->A_ b dO i (E.x.l.length+1) (.slice fE (G5.N b i).length fW) W):=fun W k=>⟨(k.cell (p:=⟨b,7,none⟩) rI.ae.lt (fun q=>(oC b q).1 rfl)).trans ta,(k.cell (p:=⟨dO,i,none⟩) l7.ae.lt (fun q=>(oC _ q).2 rfl)).trans wY⟩
    have FZ:Hid (∀W,I (fun k=>(Value.slice fE (G5.N b i).length fW).ownBlock=some k) w5 W->W.frozen? ⟨dO,i,none⟩=false):=fun W k=>(k.frozen (p:=⟨dO,i,none⟩) l7.ae.lt (fun q=>(oC _ q).2 rfl)).trans (l7.ae.frozen i)
    have OW:Hid (∀W,I aq w5 W->W.ownsRow 0 3 1 (.slice fE (G5.N b i).length fW) (G5.N b i).length ((G5.N b i).map fun m:Nat=>.int .i64 (m:Int))):=fun W k=>dh jP.1 k (fun _ _ q=>q)
    have vZ:=ai (fun(W w7:World) (v':Value) (a1:I aq w5 W) a2 a3 a4=>Rn (W:=W) (w7:=w7) (v':=v') (n:=n) i5 eY rI l7 lC lx a1 a2 a3 a4 Mp HF.out Fl.out);clear jP ta wY oC lC;have az:=PS.out w5.drew (I.refl _ w5).drew;refine pR (kH (S:=A_ b dO i (E.x.l.length+1) (.slice fE (G5.N b i).length fW)) 16 (by kernel_rfl) rfl rfl rfl (by kernel_rfl) (by kernel_rfl) ?_);refine aB 0 83 (.pointer (some ⟨b,0,none⟩)) az ?_;refine aB 1 84 (.pointer (some ⟨b,0,none⟩)) az ?_;refine aB 2 85 (.pointer (some ⟨b,7,none⟩)) az ?_;refine aB 3 86 (.slice (some ⟨dO,0,none⟩) (E.x.l.length+1) (E.x.l.length+1)) az ?_;refine aB 4 87 (.int .i64 (i:Int)) az ?_;refine aB 5 88 (.pointer (some ⟨b,0,none⟩)) az ?_;refine aB 6 89 (.pointer (some ⟨b,0,none⟩)) az ?_;refine aB 7 90 (.pointer (some ⟨b,7,none⟩)) az ?_;refine aB 8 91 (.slice (some ⟨dO,0,none⟩) (E.x.l.length+1) (E.x.l.length+1)) az ?_;refine aB 9 92 (.int .i64 (i:Int)) az ?_;refine jV 10 93 (.pointer (some ⟨dO,i,none⟩)) rfl rfl (by kernel_rfl) (by kernel_rfl) (by kernel_rfl) (fun _ _ _ h=>h) (Or.inl ⟨by rfl,fun W dJ=>by obtain⟨b0,b1⟩:=dJ;go_simp<;>(intro hx;exact absurd hx (by omega))⟩) az ?_;refine aB 11 94 (.slice fE (G5.N b i).length fW) az ?_;refine aB 12 95 (.int .i64 (n:Int)) az ?_;simp only[Act.put,Ac,Ak,Aj];refine Ax (rs:=[13]) (by kernel_rfl) (by simp) (An rfl (fun K hK=>?_) As);go_simp;have kA:I aq w5 (w5.alloc (.cells #[.int .i64 (n:Int)] 3)).drew:=((I.refl aq w5).alloc _).drew;have NW:∀j u,[Value.int .i64 (n:Int)][j]? =some u->(w5.alloc (.cells #[.int .i64 (n:Int)] 3)).drew.cell? (Addr.add ⟨w5.heap.size,0,none⟩ j)=some u:=(fun j u hj=>Cc w5 (.int .i64 (n:Int)) 3 j u hj);have OA:=OW.out _ kA
    refine hK.out _ _ (PS.out _ (kA.mono (fun _ q=>q.elim))) (fun _=>?_);clear hK K;have KA:=ai kA;generalize Wf:(w5.alloc (.cells #[.int .i64 (n:Int)] 3)).drew=wA at*;refine Ax (rs:=[14]) (by kernel_rfl) (by simp) (An rfl (fun K hK=>?_) As);refine E6 rfl (.tmp 94) (.tmp 96) 65 rfl 0 3 i0 _ 1 8 underlying65 b_ cE cI cH rfl (by decide) _ _ _ rfl OA ⟨w5.heap.size,0,none⟩ 1 1 [.int .i64 (n:Int)] rfl rfl NW (QP _) (by unfold maxLen;omega) (by omega) (Aw _) ?_;intro v' w7 ho hg hl;have k7:I (fun k=>(Value.slice fE (G5.N b i).length fW).ownBlock=some k) w5 w7:=(KA.out.mono (fun _ q=>q.elim)).dn hg (fun j hj=>Or.inl hj);obtain⟨nF,T5,rfl⟩:=dY ho;have fN:=PS.out _ k7;have SF:=FZ.out _ k7;have aO:=ai (vZ.out wA w7 _ KA.out ho hg hl);have R7:=fN.2;refine hK.out _ _ fN (fun _=>?_);clear hK K k7 ho hg hl OA NW KA PS FZ OW vZ az;refine jV 15 98 (.pointer (some ⟨dO,i,none⟩)) rfl rfl (by kernel_rfl) (by kernel_rfl) (by kernel_rfl) (fun _ _ _ h=>h) (Or.inl ⟨by rfl,fun W dJ=>by obtain⟨b0,b1⟩:=dJ;go_simp<;>(intro hx;exact absurd hx (by omega))⟩) fN ?_;simp only[Act.put,Ac];refine Ba (by kernel_rfl) ?_ _;unfold iu;simp only[A4,Am,Ap];go_simp;refine oP ?_;go_wp2_with fail;go_ret3;obtain⟨G8,i8,x8,s8,n8,t8⟩:=aO.out;obtain⟨x5,s5,n5,t5⟩:=vV.out;exact Rm HA.out HB.out Q1.out Q3.out Q4.out i8 (x5.trans x8 s5.kept.size) (KS.trans S9.out x5 s5 s8) (fun k j=>by rw[n8,HN.out];simp only[n5])
   ·subst vA;have Fl:=Ku;have eY:=yd;have Q3:=ai q3;have Q4:=ai q4;have Q1:=ai q1;clear q3 q4 q1;have qs:∀(W:World) (n c:Nat),(binOp .eql 116 (.slice (some ⟨dO,0,none⟩) n c) (.slice none 0 0)).run prog W=.ok (.bool false) W:=(fun W n c=>Dc W _ _ (some ⟨dO,0,none⟩) n c 0 0 underlying116);go_wp2_with fail
    clear qs;obtain⟨v5,lC,jP⟩:=rT.row i lx;obtain⟨fE,fW,rfl⟩:=dY jP.1;have Vm:=jP.cB;have ta:w4.cell? ⟨b,7,none⟩=some (.slice (some ⟨dO,0,none⟩) (E.x.l.length+1) (E.x.l.length+1)):=oE.ae.cell 7;have wY:w4.cell? ⟨dO,i,none⟩=some (.slice fE (G4.N b i).length fW):=by rw[rT.ae.cell i];exact lC
    have oC:∀k,(Value.slice fE (G4.N b i).length fW).ownBlock=some k->k≠b/\k≠dO:=fun k hk=>⟨(fun e=>by
     have h1:=q2.po b (by rw[eY];simp);rw[<-e,jP.2.1 k hk]at h1
     cases h1),(fun e=>by
     have h1:=jP.2.1 k hk;rw[e,rT.aN]at h1;simp at h1;omega)⟩
    have PS:Hid (∀W,I (fun k=>(Value.slice fE (G4.N b i).length fW).ownBlock=some k) w4 W->A_ b dO i (E.x.l.length+1) (.slice fE (G4.N b i).length fW) W):=fun W k=>⟨(k.cell (p:=⟨b,7,none⟩) oE.ae.lt (fun q=>(oC b q).1 rfl)).trans ta,(k.cell (p:=⟨dO,i,none⟩) rT.ae.lt (fun q=>(oC _ q).2 rfl)).trans wY⟩
    have FZ:Hid (∀W,I (fun k=>(Value.slice fE (G4.N b i).length fW).ownBlock=some k) w4 W->W.frozen? ⟨dO,i,none⟩=false):=fun W k=>(k.frozen (p:=⟨dO,i,none⟩) rT.ae.lt (fun q=>(oC _ q).2 rfl)).trans (rT.ae.frozen i)
    have OW:Hid (∀W,I aq w4 W->W.ownsRow 0 3 1 (.slice fE (G4.N b i).length fW) (G4.N b i).length ((G4.N b i).map fun m:Nat=>.int .i64 (m:Int))):=fun W k=>dh jP.1 k (fun _ _ q=>q)
    have vZ:=ai (fun(W w7:World) (v':Value) (a1:I aq w4 W) a2 a3 a4=>Rn (W:=W) (w7:=w7) (v':=v') (n:=n) q2 eY oE rT lC lx a1 a2 a3 a4 Mp HF.out Fl.out);clear jP ta wY oC lC;have az:=PS.out w4.drew (I.refl _ w4).drew;refine pR (kH (S:=A_ b dO i (E.x.l.length+1) (.slice fE (G4.N b i).length fW)) 16 (by kernel_rfl) rfl rfl rfl (by kernel_rfl) (by kernel_rfl) ?_);refine aB 0 83 (.pointer (some ⟨b,0,none⟩)) az ?_;refine aB 1 84 (.pointer (some ⟨b,0,none⟩)) az ?_;refine aB 2 85 (.pointer (some ⟨b,7,none⟩)) az ?_;refine aB 3 86 (.slice (some ⟨dO,0,none⟩) (E.x.l.length+1) (E.x.l.length+1)) az ?_;refine aB 4 87 (.int .i64 (i:Int)) az ?_;refine aB 5 88 (.pointer (some ⟨b,0,none⟩)) az ?_;refine aB 6 89 (.pointer (some ⟨b,0,none⟩)) az ?_;refine aB 7 90 (.pointer (some ⟨b,7,none⟩)) az ?_;refine aB 8 91 (.slice (some ⟨dO,0,none⟩) (E.x.l.length+1) (E.x.l.length+1)) az ?_;refine aB 9 92 (.int .i64 (i:Int)) az ?_;refine jV 10 93 (.pointer (some ⟨dO,i,none⟩)) rfl rfl (by kernel_rfl) (by kernel_rfl) (by kernel_rfl) (fun _ _ _ h=>h) (Or.inl ⟨by rfl,fun W dJ=>by obtain⟨b0,b1⟩:=dJ;go_simp<;>(intro hx;exact absurd hx (by omega))⟩) az ?_;refine aB 11 94 (.slice fE (G4.N b i).length fW) az ?_;refine aB 12 95 (.int .i64 (n:Int)) az ?_;simp only[Act.put,Ac,Ak,Aj];refine Ax (rs:=[13]) (by kernel_rfl) (by simp) (An rfl (fun K hK=>?_) As);go_simp;have kA:I aq w4 (w4.alloc (.cells #[.int .i64 (n:Int)] 3)).drew:=((I.refl aq w4).alloc _).drew;have NW:∀j u,[Value.int .i64 (n:Int)][j]? =some u->(w4.alloc (.cells #[.int .i64 (n:Int)] 3)).drew.cell? (Addr.add ⟨w4.heap.size,0,none⟩ j)=some u:=(fun j u hj=>Cc w4 (.int .i64 (n:Int)) 3 j u hj);have OA:=OW.out _ kA
    refine hK.out _ _ (PS.out _ (kA.mono (fun _ q=>q.elim))) (fun _=>?_);clear hK K;have KA:=ai kA;generalize Wf:(w4.alloc (.cells #[.int .i64 (n:Int)] 3)).drew=wA at*;refine Ax (rs:=[14]) (by kernel_rfl) (by simp) (An rfl (fun K hK=>?_) As);refine E6 rfl (.tmp 94) (.tmp 96) 65 rfl 0 3 i0 _ 1 8 underlying65 b_ cE cI cH rfl (by decide) _ _ _ rfl OA ⟨w4.heap.size,0,none⟩ 1 1 [.int .i64 (n:Int)] rfl rfl NW (QP _) (by unfold maxLen;omega) (by omega) (Aw _) ?_;intro v' w7 ho hg hl;have k7:I (fun k=>(Value.slice fE (G4.N b i).length fW).ownBlock=some k) w4 w7:=(KA.out.mono (fun _ q=>q.elim)).dn hg (fun j hj=>Or.inl hj);obtain⟨nF,T5,rfl⟩:=dY ho;have fN:=PS.out _ k7;have SF:=FZ.out _ k7;have aO:=ai (vZ.out wA w7 _ KA.out ho hg hl);have R7:=fN.2;refine hK.out _ _ fN (fun _=>?_);clear hK K k7 ho hg hl OA NW KA PS FZ OW vZ az;refine jV 15 98 (.pointer (some ⟨dO,i,none⟩)) rfl rfl (by kernel_rfl) (by kernel_rfl) (by kernel_rfl) (fun _ _ _ h=>h) (Or.inl ⟨by rfl,fun W dJ=>by obtain⟨b0,b1⟩:=dJ;go_simp<;>(intro hx;exact absurd hx (by omega))⟩) fN ?_;simp only[Act.put,Ac];refine Ba (by kernel_rfl) ?_ _;unfold iu;simp only[A4,Am,Ap];go_simp;refine oP ?_;go_wp2_with fail;go_ret3;obtain⟨G8,i8,x8,s8,n8,t8⟩:=aO.out;exact Rm HA.out HB.out Q1.out Q3.out Q4.out i8 x8 s8 (fun k j=>by rw[n8,HN.out])
theorem aii{N5:Nat}(h:ee w G E (c::S) i gs ts (.pointer (some ⟨b,0,none⟩)) ag gb cg at_ tb ct)(aM:tH w G E b c S vn vm vt (.slice (some ⟨N5,0,none⟩) (E.x.l.length+1) (E.x.l.length+1)))(dt:KH w G E b (c::S) N5 rows)
 (hT:Calls prog 38 #[.pointer (some ⟨E.xb,0,none⟩),.pointer (some ⟨b,0,none⟩),.int .i64 i,.slice ag gs.length cg,.slice at_ ts.length ct] w (dV (wS i (c::S) ts) w G E (c::S) i gs ts)):
 Calls prog 20 #[.pointer (some ⟨E.xb,0,none⟩),.pointer (some ⟨b,0,none⟩),.int .i64 i,.slice ag gs.length cg,.slice at_ ts.length ct] w (dV (wS i (c::S) ts+1) w G E (c::S) i gs ts):=by
 obtain⟨i0,b_,cE,cI,cH⟩:=A7 Tryz.zL;have c7:w.cell? ⟨b,7,none⟩=some (.slice (some ⟨N5,0,none⟩) (E.x.l.length+1) (E.x.l.length+1)):=aM.ae.cell 7;have ji:=aM.ae.lt;have lx:=h.il;have L9:=h.dl;have ap5:=h.aV.tx.cB;have GF:=Bf (aad ts i) h.vS;have F:=ai (aac h.rt i (by have:=h.vS;omega) (cap:=ct));obtain⟨n,HN⟩:∃n,Hid (tN ts i=n):=⟨_,(rfl:_=_)⟩
 have eF:FG ts i=n:=HN.out;rw[eF]at F;rw[HN.out]at GF;have Mp:n<=E.D:=GF;have HB:Hid (G.T b=some (c::S)):=h.head;obtain⟨v0,wZ,dS⟩:=dt.row i lx;obtain⟨Z0,cpR,rfl⟩:=dY dS.1;have ri:w.cell? ⟨N5,i,none⟩=some (.slice Z0 (G.N b i).length cpR):=by rw[dt.ae.cell i];exact wZ
 have qA:=ai dS;have abR:=dS.cB
 have YW:Hid (∀k,(hk:k<(G.N b i).length)->∃g,Z0=some ⟨g,0,none⟩/\w.cell? ⟨g,k,none⟩=some (.int .i64 (((G.N b i)[k]:Nat):Int))):=fun k hk=>by
  rcases dS.1.2 with⟨_,h0⟩|⟨g,cap,aU,hv,a1,a2,a3,a4,a5,a6⟩
  ·omega
  ·simp only[Value.slice.injEq,true_and]at hv;obtain⟨rfl,rfl⟩:=hv;refine⟨g,rfl,?_⟩;have hB:ay w g aU 3:=a2;have hx:((G.N b i).map fun m:Nat=>Value.int .i64 (m:Int))[k]? =some (.int .i64 (((G.N b i)[k]:Nat):Int)):=by simp[hk]
   rw[<-a6,Al (by omega)]at hx;rw[hB.cell k];simpa using hx
 obtain⟨ns,OB⟩:∃ns,Hid (G.N b i=ns):=⟨_,(rfl:_=_)⟩
 have HA:=ai h;have HT:=ai hT;have ri':=ri;have hfR:=abR;have SL:=YW;rw[OB.out]at ri' hfR;simp only[OB.out]at SL;clear h hT aM dt eF GF dS wZ ri abR YW;have ap9:(i:Int)<(E.x.l.length:Int)+1:=by omega
 go_in
 go_wp2_with fail
 refine(F.out).mono ?_;rintro e w ⟨rfl,rfl⟩;clear F;go_wp2_with fail;go_loopg [14] ns.length (fun kk kv wr=>∃k:Nat,kv=.int .i64 k/\k<=ns.length/\kk=ns.length-k/\Hid (∀j,(hj:j<ns.length)->j<k->ns[j]≠n)/\wr=w)
 case atStart=>exact⟨0,rfl,Aw _,rfl,fun j _ h=>absurd h (by omega),rfl⟩
 case round=>
  obtain⟨k,rfl,hk,rfl,xG,rfl⟩:=hrel;by_cases ar:k<ns.length
  ·obtain⟨g,rfl,d1⟩:=SL.out k ar;have Vy:(k:Int)<(ns.length:Int):=(by omega);by_cases he:ns[k]=n
   ·have Vi:(((ns[k]:Nat):Int)==(n:Int))=true:=(by simp[he]);have HR:Hid (cV E.x (c::S) i gs ts none):=(qA.out.2.2.2 n (by rw[OB.out,<-he];exact Ay ar)).2 gs ts HA.out.sB HA.out.qu HN.out;generalize((ns[k]:Nat):Int)=tv at*;go_wp2_with fail;go_ret3;exact⟨G,none,HR.out,HA.out.aV,j0.refl _ G _ _,⟨I.refl _ _,fun _ _ q=>q⟩,rfl⟩
   ·have Vi:(((ns[k]:Nat):Int)==(n:Int))=false:=by simp;omega
    have H7:Hid (∀j,(hj:j<ns.length)->j<k+1->ns[j]≠n):=fun j hj h1=>by
     by_cases Mg:j=k
     ·subst Mg;exact he
     ·exact xG.out j hj (by omega)
    generalize((ns[k]:Nat):Int)=tv at*
    go_wp2_with fail
    go_roundg (ns.length-(k+1))
    case measure=>omega
    case rel=>exact⟨k+1,by go_num,by omega,rfl,H7.out,rfl⟩
  ·have lU:k=ns.length:=(by omega);subst lU
   have Ta:Hid (n∉G.N b i):=fun hm=>by
    rw[OB.out]at hm;obtain⟨j,hj,e⟩:=Do hm;exact xG.out j hj hj e
   clear SL xG qA;go_wp2_with fail;refine(HT.out).mono ?_;rintro e w4 ⟨G4,r,q1,q2,q3,q4,q5⟩
   cases r with
   |some p=>
    obtain⟨eP,mV,lP,rfl,r2,r3,r4,r5,r6⟩:=q5;go_wp2_with fail;go_ret3;exact⟨G4,some p,q1,q2,q3.call (Or.inr ⟨rfl,Ew _⟩),q4,eP,mV,lP,by rw[r3];rfl,r2,r3,r4,r5,r6⟩
   |none=>
    obtain rfl:=q5;have yd:G4.T b=some (c::S):=by rw[(q3.jt b ji).1];exact HB.out
    obtain⟨c',S',vn4,vm4,vt4,Yi,e4,_,_,oE⟩:=q2.ct b _ yd
    cases e4;have d7:w4.cell? ⟨b,7,none⟩=some Yi:=oE.ae.cell 7
    have f7:=oE.ae.frozen 7;have HF:Hid (AZ E.x (c::S) i n):=HN.out▸AZ.of q1 HA.out.sB HA.out.qu
    have Ku:Hid (n∉G4.N b i):=fun hm=>by
     rcases q3.vH b _ HB.out i n (Aa _) hm with q|⟨_,q⟩
     ·exact Ta.out q
     ·exact y7.not HA.out.sB HA.out.qu (HN.out▸q)
    rcases oE.no with⟨vA,Mt⟩|⟨dO,anj,vA,rT⟩
    ·subst vA;have Ye:w4.cell? ⟨E.xb,0,none⟩=some (.slice E.ao E.x.l.length E.cap):=q2.tx.ae.cell 0;have jk:=q2.tx.cB;have qn:∀W,(binOp .eql 116 (.slice none 0 0) (.slice none 0 0)).run prog W=.ok (.bool true) W:=(fun W=>Dc W _ _ none 0 0 0 0 underlying116);have rS:=fun W=>Eo (P:=prog) 116 65 (.slice none 0 0) 24 underlying116 Tryz.acN rfl .i64 .i64 (E.x.l.length+1) (by omega) (by omega) W
     obtain⟨G5,i5,x5,s5,n5,t5,rI,l7⟩:=adp q2 yd oE Mt;have eY:G5.T b=some (c::S):=(t5 b).trans yd;have Fl:Hid (n∉G5.N b i):=by show _∉_;rw[n5];exact Ku.out
     have Lo:((E.x.l.length+1:Nat):Int)=(E.x.l.length:Int)+1:=(by omega);rw[Lo]at rS;clear Lo;have F9:=oE.ae.alloc (.cells (madeCells #[.slice none 0 0] (E.x.l.length+1)) 65);have a7:(w4.alloc (.cells (madeCells #[.slice none 0 0] (E.x.l.length+1)) 65)).cell? ⟨b,7,none⟩=some (.slice none 0 0):=F9.cell 7;have Tv:=F9.frozen 7;clear F9;have vV:=ai (And.intro x5 (And.intro s5 (And.intro n5 t5)));have Q3:=ai q3;have Q4:=ai q4;have Q1:=ai q1;have S9:=ai q2.lt;have Wg:w4.heap.size=w4.heap.size:=rfl;clear x5 s5 n5 t5 q3 q4 q1 oE Mt Wg;have I5:=ai i5;have Fc:=ai rI;have Fv:=ai l7;clear i5 rI l7;unfold pI at I5 Fc Fv vV;go_wp2_with fail;have i5:=I5.out;have rI:=Fc.out;have l7:=Fv.out;have Kc:=vV.out;clear I5 Fc Fv vV rS Ye d7 f7 q2 a7 Tv;generalize((w4.alloc (.cells (madeCells #[.slice none 0 0] (E.x.l.length+1)) 65)).setCell ⟨b,7,none⟩ (.slice (some ⟨w4.heap.size,0,none⟩) (E.x.l.length+1) (E.x.l.length+1)))=w5 at*;have vV:=ai Kc;clear Kc;obtain⟨dO,Fq⟩:∃dO,Hid (w4.heap.size=dO):=⟨_,(rfl:_=_)⟩
     rw[Fq.out]at rI l7;rw[Fq.out];obtain⟨v5,lC,jP⟩:=l7.row i lx;obtain⟨fE,fW,rfl⟩:=dY jP.1;have Vm:=jP.cB;have ta:w5.cell? ⟨b,7,none⟩=some (.slice (some ⟨dO,0,none⟩) (E.x.l.length+1) (E.x.l.length+1)):=rI.ae.cell 7;have wY:w5.cell? ⟨dO,i,none⟩=some (.slice fE (G5.N b i).length fW):=by rw[l7.ae.cell i];exact lC
     have oC:∀k,(Value.slice fE (G5.N b i).length fW).ownBlock=some k->k≠b/\k≠dO:=fun k hk=>⟨(fun e=>by
      have h1:=i5.po b (by rw[eY];simp);rw[<-e,jP.2.1 k hk]at h1
      cases h1),(fun e=>by
      have h1:=jP.2.1 k hk;rw[e,l7.aN]at h1;simp at h1;omega)⟩
     have PS:Hid (∀W,I (fun k=>(Value.slice fE (G5.N b i).length fW).ownBlock=some k) w5 W->A_ b dO i (E.x.l.length+1) (.slice fE (G5.N b i).length fW) W):=fun W k=>⟨(k.cell (p:=⟨b,7,none⟩) rI.ae.lt (fun q=>(oC b q).1 rfl)).trans ta,(k.cell (p:=⟨dO,i,none⟩) l7.ae.lt (fun q=>(oC _ q).2 rfl)).trans wY⟩
     have FZ:Hid (∀W,I (fun k=>(Value.slice fE (G5.N b i).length fW).ownBlock=some k) w5 W->W.frozen? ⟨dO,i,none⟩=false):=fun W k=>(k.frozen (p:=⟨dO,i,none⟩) l7.ae.lt (fun q=>(oC _ q).2 rfl)).trans (l7.ae.frozen i)
     have OW:Hid (∀W,I aq w5 W->W.ownsRow 0 3 1 (.slice fE (G5.N b i).length fW) (G5.N b i).length ((G5.N b i).map fun m:Nat=>.int .i64 (m:Int))):=fun W k=>dh jP.1 k (fun _ _ q=>q)
     have vZ:=ai (fun(W w7:World) (v':Value) (a1:I aq w5 W) a2 a3 a4=>Rn (W:=W) (w7:=w7) (v':=v') (n:=n) i5 eY rI l7 lC lx a1 a2 a3 a4 Mp HF.out Fl.out);clear jP ta wY oC lC;have az:=PS.out w5.drew (I.refl _ w5).drew;refine pR (kH (S:=A_ b dO i (E.x.l.length+1) (.slice fE (G5.N b i).length fW)) 16 (by kernel_rfl) rfl rfl rfl (by kernel_rfl) (by kernel_rfl) ?_);refine aB 0 83 (.pointer (some ⟨b,0,none⟩)) az ?_;refine aB 1 84 (.pointer (some ⟨b,0,none⟩)) az ?_;refine aB 2 85 (.pointer (some ⟨b,7,none⟩)) az ?_;refine aB 3 86 (.slice (some ⟨dO,0,none⟩) (E.x.l.length+1) (E.x.l.length+1)) az ?_;refine aB 4 87 (.int .i64 (i:Int)) az ?_;refine aB 5 88 (.pointer (some ⟨b,0,none⟩)) az ?_;refine aB 6 89 (.pointer (some ⟨b,0,none⟩)) az ?_;refine aB 7 90 (.pointer (some ⟨b,7,none⟩)) az ?_;refine aB 8 91 (.slice (some ⟨dO,0,none⟩) (E.x.l.length+1) (E.x.l.length+1)) az ?_;refine aB 9 92 (.int .i64 (i:Int)) az ?_;refine jV 10 93 (.pointer (some ⟨dO,i,none⟩)) rfl rfl (by kernel_rfl) (by kernel_rfl) (by kernel_rfl) (fun _ _ _ h=>h) (Or.inl ⟨by rfl,fun W dJ=>by obtain⟨b0,b1⟩:=dJ;go_simp<;>(intro hx;exact absurd hx (by omega))⟩) az ?_;refine aB 11 94 (.slice fE (G5.N b i).length fW) az ?_;refine aB 12 95 (.int .i64 (n:Int)) az ?_;simp only[Act.put,Ac,Ak,Aj];refine Ax (rs:=[13]) (by kernel_rfl) (by simp) (An rfl (fun K hK=>?_) As);go_simp;have kA:I aq w5 (w5.alloc (.cells #[.int .i64 (n:Int)] 3)).drew:=((I.refl aq w5).alloc _).drew;have NW:∀j u,[Value.int .i64 (n:Int)][j]? =some u->(w5.alloc (.cells #[.int .i64 (n:Int)] 3)).drew.cell? (Addr.add ⟨w5.heap.size,0,none⟩ j)=some u:=(fun j u hj=>Cc w5 (.int .i64 (n:Int)) 3 j u hj);have OA:=OW.out _ kA
     refine hK.out _ _ (PS.out _ (kA.mono (fun _ q=>q.elim))) (fun _=>?_);clear hK K;have KA:=ai kA;generalize Wf:(w5.alloc (.cells #[.int .i64 (n:Int)] 3)).drew=wA at*;refine Ax (rs:=[14]) (by kernel_rfl) (by simp) (An rfl (fun K hK=>?_) As);refine E6 rfl (.tmp 94) (.tmp 96) 65 rfl 0 3 i0 _ 1 8 underlying65 b_ cE cI cH rfl (by decide) _ _ _ rfl OA ⟨w5.heap.size,0,none⟩ 1 1 [.int .i64 (n:Int)] rfl rfl NW (QP _) (by unfold maxLen;omega) (by omega) (Aw _) ?_;intro v' w7 ho hg hl;have k7:I (fun k=>(Value.slice fE (G5.N b i).length fW).ownBlock=some k) w5 w7:=(KA.out.mono (fun _ q=>q.elim)).dn hg (fun j hj=>Or.inl hj);obtain⟨nF,T5,rfl⟩:=dY ho;have fN:=PS.out _ k7;have SF:=FZ.out _ k7;have aO:=ai (vZ.out wA w7 _ KA.out ho hg hl);have R7:=fN.2;refine hK.out _ _ fN (fun _=>?_);clear hK K k7 ho hg hl OA NW KA PS FZ OW vZ az;refine jV 15 98 (.pointer (some ⟨dO,i,none⟩)) rfl rfl (by kernel_rfl) (by kernel_rfl) (by kernel_rfl) (fun _ _ _ h=>h) (Or.inl ⟨by rfl,fun W dJ=>by obtain⟨b0,b1⟩:=dJ;go_simp<;>(intro hx;exact absurd hx (by omega))⟩) fN ?_;simp only[Act.put,Ac];refine Ba (by kernel_rfl) ?_ _;unfold iu;simp only[A4,Am,Ap];go_simp;refine oP ?_;go_wp2_with fail;go_ret3;obtain⟨G8,i8,x8,s8,n8,t8⟩:=aO.out;obtain⟨x5,s5,n5,t5⟩:=vV.out;exact Rm HA.out HB.out Q1.out Q3.out Q4.out i8 (x5.trans x8 s5.kept.size) (KS.trans S9.out x5 s5 s8) (fun k j=>by rw[n8,HN.out];simp only[n5])
    ·subst vA;have Fl:=Ku;have eY:=yd;have Q3:=ai q3;have Q4:=ai q4;have Q1:=ai q1;clear q3 q4 q1;have qs:∀(W:World) (n c:Nat),(binOp .eql 116 (.slice (some ⟨dO,0,none⟩) n c) (.slice none 0 0)).run prog W=.ok (.bool false) W:=(fun W n c=>Dc W _ _ (some ⟨dO,0,none⟩) n c 0 0 underlying116);go_wp2_with fail
     clear qs;obtain⟨v5,lC,jP⟩:=rT.row i lx;obtain⟨fE,fW,rfl⟩:=dY jP.1;have Vm:=jP.cB;have ta:w4.cell? ⟨b,7,none⟩=some (.slice (some ⟨dO,0,none⟩) (E.x.l.length+1) (E.x.l.length+1)):=oE.ae.cell 7;have wY:w4.cell? ⟨dO,i,none⟩=some (.slice fE (G4.N b i).length fW):=by rw[rT.ae.cell i];exact lC
     have oC:∀k,(Value.slice fE (G4.N b i).length fW).ownBlock=some k->k≠b/\k≠dO:=fun k hk=>⟨(fun e=>by
      have h1:=q2.po b (by rw[eY];simp);rw[<-e,jP.2.1 k hk]at h1
      cases h1),(fun e=>by
      have h1:=jP.2.1 k hk;rw[e,rT.aN]at h1;simp at h1;omega)⟩
     have PS:Hid (∀W,I (fun k=>(Value.slice fE (G4.N b i).length fW).ownBlock=some k) w4 W->A_ b dO i (E.x.l.length+1) (.slice fE (G4.N b i).length fW) W):=fun W k=>⟨(k.cell (p:=⟨b,7,none⟩) oE.ae.lt (fun q=>(oC b q).1 rfl)).trans ta,(k.cell (p:=⟨dO,i,none⟩) rT.ae.lt (fun q=>(oC _ q).2 rfl)).trans wY⟩
     have FZ:Hid (∀W,I (fun k=>(Value.slice fE (G4.N b i).length fW).ownBlock=some k) w4 W->W.frozen? ⟨dO,i,none⟩=false):=fun W k=>(k.frozen (p:=⟨dO,i,none⟩) rT.ae.lt (fun q=>(oC _ q).2 rfl)).trans (rT.ae.frozen i)
     have OW:Hid (∀W,I aq w4 W->W.ownsRow 0 3 1 (.slice fE (G4.N b i).length fW) (G4.N b i).length ((G4.N b i).map fun m:Nat=>.int .i64 (m:Int))):=fun W k=>dh jP.1 k (fun _ _ q=>q)
     have vZ:=ai (fun(W w7:World) (v':Value) (a1:I aq w4 W) a2 a3 a4=>Rn (W:=W) (w7:=w7) (v':=v') (n:=n) q2 eY oE rT lC lx a1 a2 a3 a4 Mp HF.out Fl.out);clear jP ta wY oC lC;have az:=PS.out w4.drew (I.refl _ w4).drew;refine pR (kH (S:=A_ b dO i (E.x.l.length+1) (.slice fE (G4.N b i).length fW)) 16 (by kernel_rfl) rfl rfl rfl (by kernel_rfl) (by kernel_rfl) ?_);refine aB 0 83 (.pointer (some ⟨b,0,none⟩)) az ?_;refine aB 1 84 (.pointer (some ⟨b,0,none⟩)) az ?_;refine aB 2 85 (.pointer (some ⟨b,7,none⟩)) az ?_;refine aB 3 86 (.slice (some ⟨dO,0,none⟩) (E.x.l.length+1) (E.x.l.length+1)) az ?_;refine aB 4 87 (.int .i64 (i:Int)) az ?_;refine aB 5 88 (.pointer (some ⟨b,0,none⟩)) az ?_;refine aB 6 89 (.pointer (some ⟨b,0,none⟩)) az ?_;refine aB 7 90 (.pointer (some ⟨b,7,none⟩)) az ?_;refine aB 8 91 (.slice (some ⟨dO,0,none⟩) (E.x.l.length+1) (E.x.l.length+1)) az ?_;refine aB 9 92 (.int .i64 (i:Int)) az ?_;refine jV 10 93 (.pointer (some ⟨dO,i,none⟩)) rfl rfl (by kernel_rfl) (by kernel_rfl) (by kernel_rfl) (fun _ _ _ h=>h) (Or.inl ⟨by rfl,fun W dJ=>by obtain⟨b0,b1⟩:=dJ;go_simp<;>(intro hx;exact absurd hx (by omega))⟩) az ?_;refine aB 11 94 (.slice fE (G4.N b i).length fW) az ?_;refine aB 12 95 (.int .i64 (n:Int)) az ?_;simp only[Act.put,Ac,Ak,Aj];refine Ax (rs:=[13]) (by kernel_rfl) (by simp) (An rfl (fun K hK=>?_) As);go_simp;have kA:I aq w4 (w4.alloc (.cells #[.int .i64 (n:Int)] 3)).drew:=((I.refl aq w4).alloc _).drew;have NW:∀j u,[Value.int .i64 (n:Int)][j]? =some u->(w4.alloc (.cells #[.int .i64 (n:Int)] 3)).drew.cell? (Addr.add ⟨w4.heap.size,0,none⟩ j)=some u:=(fun j u hj=>Cc w4 (.int .i64 (n:Int)) 3 j u hj);have OA:=OW.out _ kA
     refine hK.out _ _ (PS.out _ (kA.mono (fun _ q=>q.elim))) (fun _=>?_);clear hK K;have KA:=ai kA;generalize Wf:(w4.alloc (.cells #[.int .i64 (n:Int)] 3)).drew=wA at*;refine Ax (rs:=[14]) (by kernel_rfl) (by simp) (An rfl (fun K hK=>?_) As);refine E6 rfl (.tmp 94) (.tmp 96) 65 rfl 0 3 i0 _ 1 8 underlying65 b_ cE cI cH rfl (by decide) _ _ _ rfl OA ⟨w4.heap.size,0,none⟩ 1 1 [.int .i64 (n:Int)] rfl rfl NW (QP _) (by unfold maxLen;omega) (by omega) (Aw _) ?_;intro v' w7 ho hg hl;have k7:I (fun k=>(Value.slice fE (G4.N b i).length fW).ownBlock=some k) w4 w7:=(KA.out.mono (fun _ q=>q.elim)).dn hg (fun j hj=>Or.inl hj);obtain⟨nF,T5,rfl⟩:=dY ho;have fN:=PS.out _ k7;have SF:=FZ.out _ k7;have aO:=ai (vZ.out wA w7 _ KA.out ho hg hl);have R7:=fN.2;refine hK.out _ _ fN (fun _=>?_);clear hK K k7 ho hg hl OA NW KA PS FZ OW vZ az;refine jV 15 98 (.pointer (some ⟨dO,i,none⟩)) rfl rfl (by kernel_rfl) (by kernel_rfl) (by kernel_rfl) (fun _ _ _ h=>h) (Or.inl ⟨by rfl,fun W dJ=>by obtain⟨b0,b1⟩:=dJ;go_simp<;>(intro hx;exact absurd hx (by omega))⟩) fN ?_;simp only[Act.put,Ac];refine Ba (by kernel_rfl) ?_ _;unfold iu;simp only[A4,Am,Ap];go_simp;refine oP ?_;go_wp2_with fail;go_ret3;obtain⟨G8,i8,x8,s8,n8,t8⟩:=aO.out;exact Rm HA.out HB.out Q1.out Q3.out Q4.out i8 x8 s8 (fun k j=>by rw[n8,HN.out])
theorem Rc{c:CI}{S:List CI}(h1:n.aJ.length=1)(f:RT->List CI):∃Z,(n.aJ.take 1).map f=[Z]:=by
 obtain⟨k,hk⟩:=Db.1 h1;exact⟨f k,by rw[hk];rfl⟩
theorem afk(h:ee w G E (c::S) i gs ts (.pointer (some ⟨b,0,none⟩)) ag gb cg at_ tb ct)(hB:BlE E i (wS i (c::S) ts))(hn:c.n=some n)(ho:n.op=ec)(aI:n.aJ.length=1)(aF:w.cell? ⟨b,6,none⟩≠some (.slice none 0 0)):
 Calls prog 67 #[.pointer (some ⟨E.xb,0,none⟩),.pointer (some ⟨b,0,none⟩),.int .i64 i,.slice ag gs.length cg,.slice at_ ts.length ct] w (dV (wS i (c::S) ts) w G E (c::S) i gs ts):=by
 obtain⟨Z,hZ⟩:=Rc (c:=c) (S:=S) aI (fun k=>bo k::dN n c::S);have hl:cF n c S=[Z]:=by rw[yy ho];exact hZ
 have nO:=h.ok c Aq;unfold CI.ok at nO;rw[hn]at nO
 cases ht:c.bR with
 |true=>
  obtain⟨_,Qm,DH⟩:=nO.2.1 ht;have zF:=h.qu
  cases ts with
  |nil=>
   simp only[tc,ht,if_true,A8]at zF;omega
  |cons t to0=>
   obtain⟨sR,_⟩:=h.rt.ig (by rw[vT];simp);subst sR;by_cases V9:t=i
   ·subst V9;exact aof (Z:=Z) h hn ho ht
   ·refine aox (Z:=Z) (eK:=if c.bB<=0/\c.aY<0 then i::to0 else to0) ⟨h,hB,hn,ho,hl,fun q=>?_,aF,by rw[ht];rfl,rfl⟩ ht V9 (by omega) (by omega);have:=q.2;simp at this;exact V9 this
 |false=>
  have T:ju w G E c S Z i gs ts ts (if c.bB<=0/\c.aY<0 then i::ts else ts) b ag gb cg at_ tb ct n:=⟨h,hB,hn,ho,hl,(fun q=>by rw[ht]at q;cases q.1),aF,by rw[ht];rfl,rfl⟩;by_cases h1:0<c.bB
  ·exact aoh T ht h1
  ·by_cases h2:c.aY=0
   ·exact aop T ht h1 h2
   ·by_cases h3:0<c.aY
    ·cases hz:n.lz
     ·exact aoq T ht h1 h3 hz
     ·exact aor T ht h1 h3 hz
    ·cases at_ with
     |none=>
      have LX:=h.tz rfl;subst LX;exact aot T ht h1 (by omega)
     |some ad=>exact aou T ht h1 (by omega)
theorem aoP(mX:BM E)(h:ee w G E (c::S) i gs ts (.pointer (some ⟨b,0,none⟩)) ag gb cg at_ tb ct)(hB:BlE E i (wS i (c::S) ts))(hn:c.n=some n)(ho:n.op=ec)(aI:n.aJ.length=1):
 Calls prog 38 #[.pointer (some ⟨E.xb,0,none⟩),.pointer (some ⟨b,0,none⟩),.int .i64 i,.slice ag gs.length cg,.slice at_ ts.length ct] w (dV (wS i (c::S) ts) w G E (c::S) i gs ts):=by
 have hb:=h.head;obtain⟨Z,hZ⟩:=Rc (c:=c) (S:=S) aI (fun k=>bo k::dN n c::S);have hl:cF n c S=[Z]:=by rw[yy ho];exact hZ
 obtain⟨vm,vt,dQ,nb,ao,bk,cap,P,bC,iX,aM,hF⟩:=h.aV.open hb hn;have jl:G.mu b:=Or.inl (by rw[hb];simp);rcases aM.next with lZ|⟨n',lb,lc,zs,q1,lZ,q3⟩
 ·have c0:w.cell? ⟨b,0,none⟩=some (.pointer (some ⟨nb,0,none⟩)):=aM.ae.cell 0;have c6:w.cell? ⟨b,6,none⟩=some vt:=aM.ae.cell 6;rw[lZ]at c6;have HL:=mX w G b c S n h.aV hb hn;clear aM hF;go_in;go_wp2_with fail;refine HL.mono ?_;rintro e w1 ⟨G1,eC,iM,iO,v,rfl,hv⟩;obtain⟨lE,jo,mE,mN,rj,vU,nf,hR,a0,a5,a6,af,an,jO,qi,ki⟩:=lj.after h.aV hb hn (by rw[hl];simp) eC iM iO hv;rw[nf]at hR⊢;rw[ho]at an;have n0:w1.cell? ⟨lE,0,none⟩=some (.string ⟨#[116,105,109,101,115]⟩):=an;have Wl:vU.length=1:=by rw[hR.laid.len,hl];rfl
  have vf:=h.later hR.aV hR.ext hR.kept (fun j hj=>by subst hj;exact jl)
  have zz:(w1.setCell ⟨b,6,none⟩ (.slice (some ⟨jo,0,none⟩) vU.length mE)).cell? ⟨b,6,none⟩≠some (.slice none 0 0):=by
   obtain⟨aq2,ai2⟩:=hR.ae;rw[show(w1.setCell ⟨b,6,none⟩ (.slice (some ⟨jo,0,none⟩) vU.length mE)).cell? ⟨b,6,none⟩=some (.slice (some ⟨jo,0,none⟩) vU.length mE)from ai2.cell 6];simp
  have HC:=ai (afk vf hB hn ho aI zz);have aO:Hid (∀e w4,dV (wS i (c::S) ts) (w1.setCell ⟨b,6,none⟩ (.slice (some ⟨jo,0,none⟩) vU.length mE)) G1 E (c::S) i gs ts e w4->dV (wS i (c::S) ts) w G E (c::S) i gs ts e w4):=fun e w4 hP=>hP.later h.aV.lt hR.ext hR.kept (fun j hj=>by subst hj;exact jl) hR.stay (Or.inr ⟨rfl,Aa _⟩) rfl (fun _ hr=>hr)
  rw[Wl]at HC aO⊢;clear hR ki an hv nf HL vf zz;go_wp2_with fail;refine(HC.out).mono ?_;rintro e w4 hP;have tZ:=aO.out e w4 hP;rcases tZ.tA with rfl|⟨q,ao,cap,rfl⟩
  ·go_wp2_with fail
   go_ret3
   exact tZ
  ·go_wp2_with fail
   go_ret3
   exact tZ
 ·rw[hn]at q1
  cases q1;have c0:w.cell? ⟨b,0,none⟩=some (.pointer (some ⟨nb,0,none⟩)):=aM.ae.cell 0
  have c6:w.cell? ⟨b,6,none⟩=some vt:=aM.ae.cell 6;have Wl:zs.length=1:=by rw[q3.len,hl];rfl
  rw[lZ,Wl]at c6;have n0:w.cell? ⟨nb,0,none⟩=some (.string ⟨#[116,105,109,101,115]⟩):=by have:=hF.op;rw[ho]at this;exact this
  have HC:=ai (afk h hB hn ho aI (by rw[c6];simp));clear aM hF q3;go_in;go_wp2_with fail;refine(HC.out).mono ?_;rintro e w4 tZ;rcases tZ.tA with rfl|⟨q,ao,cap,rfl⟩
  ·go_wp2_with fail
   go_ret3
   exact tZ
  ·go_wp2_with fail
   go_ret3
   exact tZ
theorem aoD(h:ee w G E (c::S) i gs ts (.pointer (some ⟨b,0,none⟩)) ag gb cg at_ tb ct)(hB:BlE E i (wS i (c::S) ts)):
 Calls prog 38 #[.pointer (some ⟨E.xb,0,none⟩),.pointer (some ⟨b,0,none⟩),.int .i64 i,.slice ag gs.length cg,.slice at_ ts.length ct] w (dV (wS i (c::S) ts) w G E (c::S) i gs ts):=by
 have mX:=akD E
 cases hn:c.n with
 |none=>exact aoI h hB hn
 |some n=>
  rcases RT.z8 (h.JE hn)with q|q|q|q|q|q|q
  ·exact aoM mX h hB hn q
  ·exact aoL mX h hB hn q
  ·exact aoN mX h hB hn q (Nc q)
  ·exact aoE mX h hB hn q.1
  ·obtain⟨Z,hZ⟩:=Rc (c:=c) (S:=S) q.2.1 (fun k=>bo k::mT n.bK::S);exact aoJ mX h hB hn q.1 (by rw[Nb q.1];exact hZ)
  ·obtain⟨Z,hZ⟩:=Rc (c:=c) (S:=S) q.2 (fun k=>bo k::S);exact aoG mX h hB hn q.1 (by rw[Na q.1];exact hZ)
  ·exact aoP mX h hB hn q.1 q.2
theorem abc(h:ee w G E S i gs ts vc ag gb cg at_ tb ct)(hB:BlE E i (wS i S ts)):
 Calls prog 20 #[.pointer (some ⟨E.xb,0,none⟩),vc,.int .i64 i,.slice ag gs.length cg,.slice at_ ts.length ct] w (dV (wS i S ts+1) w G E S i gs ts):=by
 cases S with
 |nil=>exact aik h
 |cons c S=>
  obtain⟨b,rfl⟩:∃b,vc=.pointer (some ⟨b,0,none⟩):=by
   rcases h.st with⟨_,q⟩|⟨b,q,_⟩
   ·cases q
   ·exact⟨b,q⟩
  have hT:=aoD h hB;obtain⟨c',S',vn,vm,vt,dQ,e,_,_,aM⟩:=h.aV.ct b _ h.head
  cases e;rcases aM.no with⟨hv,cJ⟩|⟨N5,rows,hv,dt⟩
  ·rw[hv]at aM;exact aij h aM cJ hT
  ·rw[hv]at aM;exact aii h aM dt hT
theorem aif(E:EG):∀(d i:Nat),E.x.l.length-i=d->∀m,BlE E i m:=by
 intro d;induction d using Nat.strongRecOn with
 |ind d ih=>
  intro i hd m;induction m using Nat.strongRecOn with
  |ind m ihm=>
   intro w G S i' gs ts vc ag gb cg at_ tb ct hA hm;rcases hm with ar|⟨rfl,ar⟩
   ·have lx:=hA.il;exact abc hA (ih (E.x.l.length-i') (by omega) i' rfl _)
   ·exact abc hA (ihm _ ar)
end Go.Proofs.YtmbpfhlnifdhgaaGreatDoor
