/- A region that draws its order, and whose last operation wait -/
import Derived.Test.YtpdnofhackjfdaaGreatDoorP13
set_option linter.all false
set_option maxRecDepth 100000
set_option maxHeartbeats 4000000
namespace Go.Proofs.YtpdnofhackjfdaaGreatDoor
open Go.Proofs.Tryz
open Go.RowKit
variable {a:Act} {K:Act->World->Prop} {dE:Array Bool} {ops:Array Oper} {C:CT} {Q:Exit->Act->World->Prop} {st:List MS} {L b c fuel g hi i lo pb:Nat} {N q:Nv} {o oL oi:Oper} {P:Program} {md:Region.Mode} {t:TypeId} {v:Value} {w w0:World} {S:World->Prop}
def Ij(ops:Array Oper):Bool:=(List.range ops.size).all fun i=>((ops[i]?).map (·.after.all fun e=>decide (e.on<i))).getD true
def JJ(ops:Array Oper)(L:Nat):Bool:=(List.range L).all fun i=>(List.range (L+1)).any fun j=>decide (i<j)&&((ops[j]?).map (·.after.any fun e=>Region.binds .any e&&e.on==i)).getD false
def eJ(P:Program)(o:Oper)(Q:Exit->Act->World->Prop):Exit->Act->World->Prop
 |.normal,a,w=>o.wp P a w (fun a' w'=>Q .normal a' w') Q
 |e,a,w=>Q e a w
theorem ZL(h:Ij ops=true)(ho:ops[i]? =some o):∀e∈o.after,e.on<i:=by
 unfold Ij at h;rw[List.all_eq_true]at h;have hi:i<ops.size:=(Ak.1 ho).1;have h1:=h i (En.2 hi);rw[ho]at h1;simp only[C7,Da]at h1;intro e he;have:=Array.all_eq_true_iff_forall_mem.1 h1 e he;simpa using this
theorem aoJ(h:JJ ops L=true)(hi:i<L):∃j o,i<j/\j<=L/\ops[j]? =some o/\∃e∈o.after,Region.binds .any e=true/\e.on=i:=by
 unfold JJ at h;rw[List.all_eq_true]at h;have h1:=h i (En.2 hi);rw[Cp]at h1;obtain⟨j,hj,h2⟩:=h1;have LZ:=En.1 hj;simp only[Cm,Az]at h2
 cases ho:ops[j]? with
 |none=>rw[ho]at h2;simp at h2
 |some o=>
  rw[ho]at h2;simp only[C7,Da]at h2;obtain⟨k,hk,h3⟩:=Array.any_eq_true.1 h2.2;simp at h3;exact⟨j,o,h2.1,by omega,ho,o.after[k],Array.getElem_mem hk,h3.1,h3.2⟩
theorem aow(r:Result Next)(h:o.upon P a K (eJ P oL Q) r):o.upon P a K Q r:=by
 cases r with
 |ok n w'=>
  cases n<;>simp only[Oper.upon]at h⊢ <;>first
   |exact h
   |exact Calls.mono h (fun e pX he=>by cases e<;>exact he)
 |halt x w'=>cases x<;>simp only[Oper.upon]at h⊢ <;>exact h
theorem aoZ(h:wpOp P ops (eJ P oL Q) i K a w):wpOp P ops Q i K a w:=by
 unfold wpOp at*;split
 ·rename_i ho;simp only[ho]at h;exact h
 ·rename_i o ho
  simp only[ho]at h;split
  ·rename_i hw
   simp only[hw,if_true]at h;rcases h with h|h
   ·exact Or.inl (aow _ h)
   ·exact Or.inr h
  ·rename_i hw;simp only[hw]at h;exact h
theorem afl(hL:ops[L]? =some oL)(aS:ops.size=L+1)(hg:oL.guard=none)(vv:Ij ops=true)(Gq:JJ ops L=true):
 ∀(fuel:Nat) (dE:Array Bool) (a:Act) (w:World),dE.size=L+1->dE.getD L true=false->(∀i o,ops[i]? =some o->dE.getD i false=true->∀e∈o.after,Region.binds .any e=true->dE.getD e.on false=true)->
  wpAny P .any ops (eJ P oL Q) fuel (dE.setIfInBounds L true) a w->wpAny P .any ops Q (fuel+1) dE a w:=by
 have ab_:∀a:Act,Region.wanted oL (yielded ops a.tmps)=true:=fun a=>by simp[Region.wanted,hg]
 have afN:∀dE:Array Bool,(∀i o,ops[i]? =some o->dE.getD i false=true->∀e∈o.after,Region.binds .any e=true->dE.getD e.on false=true)->L∈Region.ready .any ops dE->∀i,i<L->dE.getD i false=true:=by
  intro dE fa hr;obtain⟨_,o,ho,nA⟩:=mem_ready.1 hr;rw[hL]at ho;cases ho
  have:∀d i,i<L->L-i<=d->dE.getD i false=true:=by
   intro d;induction d with
   |zero=>intro i h1 h2;omega
   |succ d ih=>
    intro i h1 h2;obtain⟨j,o,cQ,hjL,Ve,e,he,hb,hon⟩:=aoJ Gq h1;by_cases hj:j=L
    ·subst hj;rw[hL]at Ve;cases Ve;rw[<-hon];exact nA e he hb
    ·have:=fa j o Ve (ih j (by omega) (by omega)) e he hb;rw[hon]at this;exact this
  intro i hi;exact this (L-i) i hi (Ab _)
 have aeI:∀dE:Array Bool,dE.size=L+1->dE.getD L true=false->(Region.ready .any ops dE=[]->False):=by
  intro dE sS IG hr
  have ajb:∀i,i<L->dE.getD i false=true:=by
   intro i;induction i using Nat.strongRecOn with
   |ind i ih=>
    intro hi;apply Dp;intro az;have aw:i<dE.size:=by omega
    have hf:dE.getD i true=false:=by
     simp only[Array.getD,aw,dite_true]at az⊢;simpa using az
    have hio:i<ops.size:=by omega
    have:i∈Region.ready .any ops dE:=mem_ready.2 ⟨hf,ops[i],Array.getElem?_eq_getElem hio,fun e he _=>by
     have:=ZL vv (Array.getElem?_eq_getElem hio) e he;exact ih e.on this (by omega)⟩
    rw[hr]at this
    cases this
  have:L∈Region.ready .any ops dE:=mem_ready.2 ⟨IG,oL,hL,fun e he _=>ajb _ (ZL vv hL e he)⟩;rw[hr]at this
  cases this
 have ahm:∀dE:Array Bool,dE.size=L+1->(∀i,i<L->dE.getD i false=true)->Region.ready .any ops (dE.setIfInBounds L true)=[]:=by
  intro dE sS nA;apply List.eq_nil_iff_forall_not_mem.2;intro j hj;obtain⟨h0,o,ho,_⟩:=mem_ready.1 hj;have hjs:j<L+1:=by rw[<-aS];exact(Ak.1 ho).1
  by_cases e:j=L
  ·subst e;simp[Array.getD,sS]at h0
  ·have:=Cy (i:=L) (nA j (by omega));have aw:j<(dE.setIfInBounds L true).size:=by simp;omega
   simp only[Array.getD,aw,dite_true]at h0 this;rw[h0]at this
   cases this
 intro fuel;induction fuel with
 |zero=>
  intro dE a w sS IG fa h;refine⟨fun hr=>(aeI dE sS IG hr).elim,fun i hi=>?_⟩;by_cases e:i=L
  ·subst e;unfold wpOp;simp only[hL,ab_,if_true];exact Or.inl (Oper.wp_mono (fun a' w' hq=>⟨h.1,hq⟩) h.2)
  ·have:=ready_mono hi e;rw[h.1]at this
   cases this
 |succ fuel ih=>
  intro dE a w sS IG fa h;refine⟨fun hr=>(aeI dE sS IG hr).elim,fun i hi=>?_⟩;by_cases e:i=L
  ·subst e;have hd:=ahm dE sS (afN dE fa hi);unfold wpOp;simp only[hL,ab_,if_true];exact Or.inl (Oper.wp_mono (fun a' w' hq=>⟨fun _=>hq,fun k hk=>by rw[hd]at hk;cases hk⟩) (h.1 hd))
  ·have h1:=aoZ (h.2 i (ready_mono hi e));refine wpOp_mono (fun a' w' h2=>ih (dE.setIfInBounds i true) a' w' (by simp[sS]) (by rw[getD_set_ne true e];exact IG) (fun k o hk hl e' LS hb=>?_) (by rw[Array.setIfInBounds_comm _ _ e];exact h2)) h1;by_cases wY:k=i
   ·subst wY;obtain⟨_,o',AM,nA⟩:=mem_ready.1 hi;rw[hk]at AM;cases AM;exact Cy (nA e' LS hb)
   ·rw[getD_set_ne false (fun e=>wY e.symm)]at hl;exact Cy (fa k o hk hl e' LS hb)
theorem gW{id:Nat}(L:Nat)(hm:P.follows .mixedOrders=true)(hL:ops[L]? =some oL)(aS:ops.size=L+1)(hg:oL.guard=none)(vv:Ij ops=true)(Gq:JJ ops L=true)
 (h:wpAnyH P .any ops (eJ P oL Q) S L ((Array.replicate (L+1) false).setIfInBounds L true) a w.drew):(Code.region id ops true).wp P Q a w:=by
 refine Cf hm ?_;rw[aS];refine afl hL aS hg vv Gq L _ a _ (by simp) (by simp[Array.getD]) (fun i o ho hl=>?_) (Cd _ _ _ _ h);simp[Array.getD]at hl
theorem pj(i:Nat)(d:Tmp)(v:Value)(hi:ops[i]? =some oi)(hd:oi.dst=some d)
 (hs:Region.noSelect ops=true)(hf:Region.free md ops dE i=true)(hr:(Region.ready md ops dE).contains i=true)
 (hQ:∀c a w,Q (.panic c) (a.put oi.dst v) w->Q (.panic c) a w)(hy:YieldsIf P ops S oi v a)(hS:S w)
 (h:wpAnyH P md ops Q S fuel (dE.setIfInBounds i true) (a.put (some d) v) w):wpAnyH P md ops Q S (fuel+1) dE a w:=
 Ds hi hs hf hr hQ hy hS (by rw[hd];exact h)
theorem ai(i:Nat)(d:Tmp)(v:Value)(hS:S w)
 (h:wpAnyH P md ops Q S fuel (dE.setIfInBounds i true) (a.put (some d) v) w)
 (hi:ops[i]? =some oi:=by rfl)(hd:oi.dst=some d:=by rfl)(hs:Region.noSelect ops=true:=by kernel_rfl)(hf:Region.free md ops dE i=true:=by kernel_rfl)(hr:(Region.ready md ops dE).contains i=true:=by kernel_rfl)
 (hQ:∀c a w,Q (.panic c) (a.put oi.dst v) w->Q (.panic c) a w:=by exact fun _ _ _ h=>h)(hy:YieldsIf P ops S oi v a:=by exact Or.inl ⟨by rfl,fun W eP=>by first|(go_simp;done)|(cases eP;repeat cases ‹_/\_›;go_simp)⟩):wpAnyH P md ops Q S (fuel+1) dE a w:=
 pj i d v hi hd hs hf hr hQ hy hS h
theorem bN(i:Nat)
 (h:∀K':Act->World->Prop,Go.Shut (∀a w,S w->(S w->wpAnyH P md ops Q S fuel (dE.setIfInBounds i true) a w)->K' a w)->if Region.wanted o (yielded ops a.tmps)=true then Oper.wp P o a w K' Q else K' (a.put o.dst undef) w)
 (hr:Region.ready md ops dE=[i]:=by kernel_rfl)(ho:ops[i]? =some o:=by rfl):wpAnyH P md ops Q S (fuel+1) dE a w:=Fw hr (by simp) (Dg ho h Fo)
open Go.Maps
theorem bc.gZ(h:bc w b v c q.cells t):
 w.cell? ⟨c,0,none⟩=some (.int .i64 q.k)/\w.cell? ⟨c,1,none⟩=some (.slice q.pa q.pn q.pc)/\w.cell? ⟨c,2,none⟩=some (.slice q.sa q.sn q.sc)/\w.cell? ⟨c,3,none⟩=some (.int .i64 q.ed)/\w.cell? ⟨c,4,none⟩=some (.int .i64 q.gr)/\w.cell? ⟨c,5,none⟩=some (.int .i64 q.lo)/\w.cell? ⟨c,6,none⟩=some (.int .i64 q.hi)/\w.cell? ⟨c,7,none⟩=some (.bool q.lz):=h.ak.gZ
def tF(w':World)(B0 pb:Nat)(q N:Nv):Prop:=
 (w'.cell? ⟨B0,1,none⟩=some (.slice (some ⟨pb,0,none⟩) 1 q.pc)/\w'.cell? ⟨B0,7,none⟩=some (.bool q.lz))/\
 (w'.cell? ⟨pb,0,none⟩=some (.int .i64 N.k)/\w'.cell? ⟨pb,1,none⟩=some (.slice N.pa N.pn N.pc)/\w'.cell? ⟨pb,2,none⟩=some (.slice N.sa N.sn N.sc)/\w'.cell? ⟨pb,3,none⟩=some (.int .i64 N.ed))/\
   w'.cell? ⟨pb,4,none⟩=some (.int .i64 N.gr)/\w'.cell? ⟨pb,5,none⟩=some (.int .i64 N.lo)/\w'.cell? ⟨pb,6,none⟩=some (.int .i64 N.hi)/\w'.cell? ⟨pb,7,none⟩=some (.bool N.lz)
theorem tF.of{B0:Nat}(h:bc w b v B0 q.cells t)(mM:q.pa=some ⟨pb,0,none⟩)(iM:q.pn=1)(hK:oM w pb 0 N):tF w B0 pb q N:=by
 obtain⟨_,e1,_,_,_,_,_,e7⟩:=h.gZ;rw[mM,iM]at e1;exact⟨⟨e1,e7⟩,hK.zero⟩
def zy(w:World)(pb:Nat)(q N:Nv)(x1 x2 a1 a2:Int)(w':World):Prop:=
 tF w' w.heap.size pb q N/\(w'.cell? ⟨w.heap.size+1,0,none⟩=some (.int .i64 x1)/\w'.cell? ⟨w.heap.size+1,1,none⟩=some (.int .i64 x2))/\w'.cell? ⟨w.heap.size+1+1+1,0,none⟩=some (.int .i64 a1)/\w'.cell? ⟨w.heap.size+1+1+1,1,none⟩=some (.int .i64 a2)
theorem zy.of{W:World}{x1 x2 a1 a2:Int}{t':TypeId}(h0:bc W b v w.heap.size q.cells t)(h1:bc W b v (w.heap.size+1) #[.int .i64 x1,.int .i64 x2] t')(h3:bc W b v (w.heap.size+1+1+1) #[.int .i64 a1,.int .i64 a2] t')(mM:q.pa=some ⟨pb,0,none⟩)(iM:q.pn=1)(hK:oM W pb 0 N):zy w pb q N x1 x2 a1 a2 W:=
 ⟨tF.of h0 mM iM hK,⟨h1.cE.1,h1.cE.2.1⟩,h3.cE.1,h3.cE.2.1⟩
theorem alB(h:dm w b lo hi v st)(x:Ex)(hx:cZ st.length x)(hS:eY lo hi w0 w)(df:C.ok)(aS:0<(q.hi-q.lo).toNat->C.sz<=1000)(hP:0<(q.hi-q.lo).toNat->wH b lo hi w0 N C)
 (mM:q.pa=some ⟨pb,0,none⟩)(iM:q.pn=1)(dS:lo<=pb/\pb<hi)(hK:oM w0 pb 0 N)(hr:(0<=q.lo/\q.lo<=20)/\(0<=q.hi/\q.hi<=20)/\q.lo<=q.hi)(dh:st.length+(q.hi-q.lo).toNat*(4*C.sz.toNat+2)<=9000):
 Calls prog 96 #[.pointer (some ⟨b,0,none⟩),Nv.val q,cG x] w (lY w b lo hi v (fJ (bm C) q.lz x (q.hi-q.lo).toNat st x).1 (cG (fJ (bm C) q.lz x (q.hi-q.lo).toNat st x).2)):=by
 have aw:=h.ak.lt;have dN:=h.dN;obtain⟨x1,x2⟩:=x;have oo:pb<w.heap.size:=by omega
 have h1:=h.alloc (.cells q.cells 64);have h2:=h1.alloc (.cells (aI (x1,x2)) 115);have h3:=h2.alloc (.cells (aI (0,0)) 115);have h4:=h3.alloc (.cells (aI (x1,x2)) 115);have l0:=(((bc.new h q.cells 64).alloc (.cells (aI (x1,x2)) 115)).alloc (.cells (aI (0,0)) 115)).alloc (.cells (aI (x1,x2)) 115);have l1:=((bc.new h1 (aI (x1,x2)) 115).alloc (.cells (aI (0,0)) 115)).alloc (.cells (aI (x1,x2)) 115);have l2:=(bc.new h2 (aI (0,0)) 115).alloc (.cells (aI (x1,x2)) 115);have l3:=bc.new h3 (aI (x1,x2)) 115;have W4:=((((dW.refl b w v).alloc (.cells q.cells 64)).alloc (.cells (aI (x1,x2)) 115)).alloc (.cells (aI (0,0)) 115)).alloc (.cells (aI (x1,x2)) 115);have S4:=(((hS.alloc (by omega) (.cells q.cells 64)).alloc (by simp;omega) (.cells (aI (x1,x2)) 115)).alloc (by simp;omega) (.cells (aI (0,0)) 115)).alloc (by simp;omega) (.cells (aI (x1,x2)) 115);simp only[ib]at l1 l2 l3;simp only[aI]at l1 l2 l3;have iC:=fun h0=>nV C df (aS h0)
 have dr:=ab (And.intro (And.intro l0 (And.intro l1 (And.intro l2 l3))) (And.intro W4 (And.intro h4 S4)));have HP:=ab hP;have HB:=ab iC;have hd:(0:Int)<=q.hi-q.lo/\q.hi-q.lo<=20:=by omega
 generalize hm:(q.hi-q.lo).toNat=m at*
 have ub:q.hi-q.lo=(m:Int):=by omega
 have Oc:=ab ub;have wB:=ab mM;have wC:=ab iM;clear h h1 h2 h3 h4 l0 l1 l2 l3 W4 S4 hS hP iC hm ub mM iM;simp only[Nv.val,cG,Nv.cells];go_in;go_wp2_with fail
 go_loopg [14] m (fun kk i wr=>∃(j:Nat) (v1:Value) (aA:List MS) (a1 a2:Int),i=.int .i64 j/\j<=m/\kk=m-j/\Hid (fJ (bm C) q.lz (x1,x2) (m-j) aA (a1,a2)=fJ (bm C) q.lz (x1,x2) m st (x1,x2))/\st.length<=aA.length/\aA.length+(m-j)*(4*C.sz.toNat+2)<=9000/\cZ aA.length (a1,a2)/\
  dm wr b lo hi v1 aA/\dW b w wr v v1/\eY lo hi w0 wr/\bc wr b v1 w.heap.size q.cells 64/\bc wr b v1 (w.heap.size+1) #[.int .i64 x1,.int .i64 x2] 115/\bc wr b v1 (w.heap.size+1+1) #[.int .i64 0,.int .i64 0] 115/\bc wr b v1 (w.heap.size+1+1+1) #[.int .i64 a1,.int .i64 a2] 115)
 case atStart=>
  obtain⟨⟨l0,l1,l2,l3⟩,W4,h4,S4⟩:=dr.out;exact⟨0,v,st,x1,x2,rfl,Am _,rfl,rfl,Ab _,dh,hx,h4,W4,S4,l0,l1,l2,l3⟩
 case round=>
  clear dr;obtain⟨j,v1,aA,a1,a2,rfl,hj,rfl,HE,im,bM,s_,hB,hW,dQ,L0,L1,L2,L3⟩:=hrel;have ub:=Oc.out;by_cases jH:j<m
  ·have rC:(j:Int)<q.hi-q.lo:=(by omega);have jv:=tF.of L0 wB.out wC.out (hK.lU dQ dS.1 dS.2);obtain⟨c0,c1,_,_⟩:=L1.cE;obtain⟨d0,d1,g0,g1⟩:=L3.cE;clear ub;have xb:=cZ.mono hx im;have b1:=(HB.out (by omega)).fG aA (a1,a2) s_;have b2:=(HB.out (by omega)).bT aA (a1,a2);have b3:=(HB.out (by omega)).grow aA (a1,a2);have e3:=tM q.lz (bm C aA (a1,a2)).1 (bm C aA (a1,a2)).2 (x1,x2);have e4:=(yi (st:=(bm C aA (a1,a2)).1) q.lz b1.lR (xb.mono b3.1).lR (Or.inl (by have:=b1.1;omega))).1
   have hmul:(m-j)*(4*C.sz.toNat+2)=(m-(j+1))*(4*C.sz.toNat+2)+(4*C.sz.toNat+2):=by
    obtain⟨d,hd⟩:∃d,m-j=d+1:=⟨m-j-1,by omega⟩
    rw[hd,show m-(j+1)=d by omega,Fc]
   have iR:=hB.new ((aa.refl af wr).drew);have ny:=hW.new ((aa.refl af wr).drew);have gK:eY lo hi w0 wr.drew:=dQ;have M0:bc wr.drew b v1 w.heap.size q.cells 64:=⟨L0.ak,L0.not⟩;have M1:bc wr.drew b v1 (w.heap.size+1) #[.int .i64 x1,.int .i64 x2] 115:=⟨L1.ak,L1.not⟩;have M2:bc wr.drew b v1 (w.heap.size+1+1) #[.int .i64 0,.int .i64 0] 115:=⟨L2.ak,L2.not⟩;have M3:bc wr.drew b v1 (w.heap.size+1+1+1) #[.int .i64 a1,.int .i64 a2] 115:=⟨L3.ak,L3.not⟩;have F1:=HP.out (by omega) wr.drew v1 aA (a1,a2) iR s_ gK (by omega);simp only[Nv.val,Nv.cells,cG]at F1;have F1:=ab F1;have PK:=ab (And.intro (And.intro iR (And.intro ny gK)) (And.intro M0 (And.intro M1 (And.intro M2 M3))));have KK:=ab hK;clear hB hW dQ L0 L1 L2 L3 iR ny gK M0 M1 M2 M3 hK;have abX:tF wr.drew w.heap.size pb q N:=jv;have PS:=ab (And.intro abX (And.intro (And.intro c0 c1) (And.intro d0 d1)));clear jv abX c0 c1 d0 d1;go_wp2_with fail;refine gW (S:=zy w pb q N x1 x2 a1 a2) 12 (by kernel_rfl) rfl rfl rfl (by kernel_rfl) (by kernel_rfl) ?_;have aj:zy w pb q N x1 x2 a1 a2 wr.drew:=PS.out;refine Ds (i:=0) (v:=.pointer (some ⟨b,0,none⟩)) rfl (by kernel_rfl) (by kernel_rfl) (by kernel_rfl) (fun _ _ _ h=>h) (Or.inl ⟨by rfl,fun W eP=>by obtain⟨⟨⟨s0,s1⟩,⟨s2,s3,s4,s5⟩,s6,s7,s8,s9⟩,⟨yY,vX⟩,tm,yZ⟩:=eP;go_simp⟩) aj ?_;simp only[Act.put,Aa];refine Ds (i:=1) (v:=.pointer (some ⟨w.heap.size,7,none⟩)) rfl (by kernel_rfl) (by kernel_rfl) (by kernel_rfl) (fun _ _ _ h=>h) (Or.inl ⟨by rfl,fun W eP=>by obtain⟨⟨⟨s0,s1⟩,⟨s2,s3,s4,s5⟩,s6,s7,s8,s9⟩,⟨yY,vX⟩,tm,yZ⟩:=eP;go_simp⟩) aj ?_;simp only[Act.put];refine Ds (i:=2) (v:=.bool q.lz) rfl (by kernel_rfl) (by kernel_rfl) (by kernel_rfl) (fun _ _ _ h=>h) (Or.inl ⟨by rfl,fun W eP=>by obtain⟨⟨⟨s0,s1⟩,⟨s2,s3,s4,s5⟩,s6,s7,s8,s9⟩,⟨yY,vX⟩,tm,yZ⟩:=eP;go_simp⟩) aj ?_;simp only[Act.put];refine Ds (i:=3) (v:=.pointer (some ⟨b,0,none⟩)) rfl (by kernel_rfl) (by kernel_rfl) (by kernel_rfl) (fun _ _ _ h=>h) (Or.inl ⟨by rfl,fun W eP=>by obtain⟨⟨⟨s0,s1⟩,⟨s2,s3,s4,s5⟩,s6,s7,s8,s9⟩,⟨yY,vX⟩,tm,yZ⟩:=eP;go_simp⟩) aj ?_;simp only[Act.put];refine Ds (i:=4) (v:=.pointer (some ⟨w.heap.size,1,none⟩)) rfl (by kernel_rfl) (by kernel_rfl) (by kernel_rfl) (fun _ _ _ h=>h) (Or.inl ⟨by rfl,fun W eP=>by obtain⟨⟨⟨s0,s1⟩,⟨s2,s3,s4,s5⟩,s6,s7,s8,s9⟩,⟨yY,vX⟩,tm,yZ⟩:=eP;go_simp⟩) aj ?_;simp only[Act.put];refine Ds (i:=5) (v:=.slice (some ⟨pb,0,none⟩) 1 q.pc) rfl (by kernel_rfl) (by kernel_rfl) (by kernel_rfl) (fun _ _ _ h=>h) (Or.inl ⟨by rfl,fun W eP=>by obtain⟨⟨⟨s0,s1⟩,⟨s2,s3,s4,s5⟩,s6,s7,s8,s9⟩,⟨yY,vX⟩,tm,yZ⟩:=eP;go_simp⟩) aj ?_;simp only[Act.put];refine Ds (i:=6) (v:=.pointer (some ⟨pb,0,none⟩)) rfl (by kernel_rfl) (by kernel_rfl) (by kernel_rfl) (fun _ _ _ h=>h) (Or.inl ⟨by rfl,fun W eP=>by obtain⟨⟨⟨s0,s1⟩,⟨s2,s3,s4,s5⟩,s6,s7,s8,s9⟩,⟨yY,vX⟩,tm,yZ⟩:=eP;go_simp⟩) aj ?_;simp only[Act.put];refine Ds (i:=7) (v:=.agg #[.int .i64 N.k,.slice N.pa N.pn N.pc,.slice N.sa N.sn N.sc,.int .i64 N.ed,.int .i64 N.gr,.int .i64 N.lo,.int .i64 N.hi,.bool N.lz]) rfl (by kernel_rfl) (by kernel_rfl) (by kernel_rfl) (fun _ _ _ h=>h) (Or.inl ⟨by rfl,fun W eP=>by obtain⟨⟨⟨s0,s1⟩,⟨s2,s3,s4,s5⟩,s6,s7,s8,s9⟩,⟨yY,vX⟩,tm,yZ⟩:=eP;go_simp⟩) aj ?_;simp only[Act.put];refine Ds (i:=8) (v:=.agg #[.int .i64 a1,.int .i64 a2]) rfl (by kernel_rfl) (by kernel_rfl) (by kernel_rfl) (fun _ _ _ h=>h) (Or.inl ⟨by rfl,fun W eP=>by obtain⟨⟨⟨s0,s1⟩,⟨s2,s3,s4,s5⟩,s6,s7,s8,s9⟩,⟨yY,vX⟩,tm,yZ⟩:=eP;go_simp⟩) aj ?_;simp only[Act.put];refine Ds (i:=10) (v:=.agg #[.int .i64 x1,.int .i64 x2]) rfl (by kernel_rfl) (by kernel_rfl) (by kernel_rfl) (fun _ _ _ h=>h) (Or.inl ⟨by rfl,fun W eP=>by obtain⟨⟨⟨s0,s1⟩,⟨s2,s3,s4,s5⟩,s6,s7,s8,s9⟩,⟨yY,vX⟩,tm,yZ⟩:=eP;go_simp⟩) aj ?_;simp only[Act.put];refine bN 9 fun K hK=>?_
   go_simp;refine(F1.out).mono ?_;rintro e w5 ⟨rfl,v5,h5,k5⟩;dsimp only;obtain⟨⟨hB,hW,dQ⟩,M0,M1,M2,M3⟩:=PK.out;have oV:zy w pb q N x1 x2 a1 a2 w5:=zy.of (M0.aY k5) (M1.aY k5) (M3.aY k5) wB.out wC.out (KK.out.lU (dQ.aY hB k5) dS.1 dS.2);refine hK.out _ _ oV (fun _=>?_);clear hK K;have F2:=aaG h5 q.lz (bm C aA (a1,a2)).2 (x1,x2) (by omega);simp only[cG]at F2;have F2:=ab F2;have mF:=ab (And.intro (And.intro h5 (And.intro (hW.trans k5) (dQ.aY hB k5))) (And.intro (M0.aY k5) (And.intro (M1.aY k5) (And.intro (M2.aY k5) (M3.aY k5)))));clear hB hW dQ M0 M1 M2 M3 h5 k5 aj oV PS F1 PK;refine bN 11 fun K hK=>?_
   go_simp;refine(F2.out).mono ?_;rintro e w6 ⟨rfl,v6,h6,k6⟩;dsimp only;obtain⟨⟨hB,hW,dQ⟩,M0,M1,M2,M3⟩:=mF.out;have rB:zy w pb q N x1 x2 a1 a2 w6:=zy.of (M0.aY k6) (M1.aY k6) (M3.aY k6) wB.out wC.out (KK.out.lU (dQ.aY hB k6) dS.1 dS.2);refine hK.out _ _ rB (fun _=>?_);clear hK K;obtain⟨d0,d1,g0,g1⟩:=(M3.aY k6).cE;generalize hE:dg q.lz (bm C aA (a1,a2)).1 (bm C aA (a1,a2)).2 (x1,x2)=E at*;obtain⟨uC,y1,y2⟩:=E;simp only at e3 e4 h6;have N0:=((M0.aY k6).a_ (d:=w.heap.size+1+1+1) (by omega) 0 (.int .i64 y1)).a_ (d:=w.heap.size+1+1+1) (by omega) 1 (.int .i64 y2);have N1:=((M1.aY k6).a_ (d:=w.heap.size+1+1+1) (by omega) 0 (.int .i64 y1)).a_ (d:=w.heap.size+1+1+1) (by omega) 1 (.int .i64 y2);have N2:=((M2.aY k6).a_ (d:=w.heap.size+1+1+1) (by omega) 0 (.int .i64 y1)).a_ (d:=w.heap.size+1+1+1) (by omega) 1 (.int .i64 y2);have N3:=((M3.aY k6).setCell 0 (.int .i64 y1)).setCell 1 (.int .i64 y2);have h7:=(h6.set (M3.aY k6).not (by omega) 0 (.int .i64 y1)).set (M3.aY k6).not (by omega) 1 (.int .i64 y2);have W7:=((hW.trans k6).set (c:=w.heap.size+1+1+1) (by omega) 0 (.int .i64 y1)).set (c:=w.heap.size+1+1+1) (by omega) 1 (.int .i64 y2);have S7:=((dQ.aY hB k6).set (c:=w.heap.size+1+1+1) (by omega) 0 (.int .i64 y1)).set (c:=w.heap.size+1+1+1) (by omega) 1 (.int .i64 y2)
   have ja:Hid (fJ (bm C) q.lz (x1,x2) (m-(j+1)) uC (y1,y2)=fJ (bm C) q.lz (x1,x2) m st (x1,x2)):=by
    rw[<-HE.out,show m-j=(m-(j+1))+1 by omega];show _=fJ (bm C) q.lz (x1,x2) (m-(j+1)) (dg q.lz (bm C aA (a1,a2)).1 (bm C aA (a1,a2)).2 (x1,x2)).1 (dg q.lz (bm C aA (a1,a2)).1 (bm C aA (a1,a2)).2 (x1,x2)).2
    rw[hE]
   have jY:=ab (And.intro (And.intro h7 (And.intro W7 S7)) (And.intro N0 (And.intro N1 (And.intro N2 N3))));clear hB hW dQ M0 M1 M2 M3 h6 k6 rB F2 mF N0 N1 N2 N3 h7 W7 S7 hE HE;refine At (by kernel_rfl) ?_ _;unfold eJ;go_wp2_with fail;go_roundg (m-(j+1))
   case measure=>omega
   case rel=>
    obtain⟨⟨h7,W7,S7⟩,N0,N1,N2,N3⟩:=jY.out;exact⟨j+1,v6,uC,y1,y2,by go_num,by omega,rfl,ja,by omega,by omega,e4,h7,W7,S7,N0,N1,N2,N3⟩
  ·have ej:j=m:=(by omega);subst ej;have rC:¬((j:Int)<q.hi-q.lo):=by omega
   have ja:Hid ((aA,(a1,a2))=fJ (bm C) q.lz (x1,x2) j st (x1,x2)):=by
    have:=HE.out;rw[Fx]at this;exact this
   obtain⟨c0,c1,_,_⟩:=L3.cE;obtain⟨d0,d1,g0,g1⟩:=L2.cE;have ax:=ab (And.intro hB (And.intro hW L2));clear hB hW dQ L0 L1 L2 L3 ub HE;go_wp2_with fail;rw[<-ja.out];exact mI ax.out.1 ax.out.2.1 ax.out.2.2 (by omega) (by omega) results96 rfl rfl
theorem yU{base e size n cap:Nat}{xs:List Value}(h:w.ownsRow base e size (.slice (some ⟨g,0,none⟩) n cap) n xs)(k:Nat)(u:Value):(w.setCell ⟨g,k,none⟩ u).ownsRow base e size (.slice (some ⟨g,0,none⟩) n cap) n (xs.set k u):=by
 obtain⟨h1,h2⟩:=h;refine⟨by simpa using h1,Or.inr ?_⟩;rcases h2 with⟨h2,_⟩|⟨g',KZ,aL,hv,a1,a2,a3,a4,a5,a6⟩
 ·cases h2
 ·cases hv;refine⟨g,cap,aL.setIfInBounds k u,rfl,a1,?_,a3,a4,by simpa using a5,?_⟩
  ·have hb:=(Ak.1 a2).1;simp only[World.setCell,Ef];simp[a2]
  ·rw[Array.toList_setIfInBounds,List.take_set,a6]
theorem ahO(vs:List Sv)(a:Nat)(ha:a<vs.length)(s:Sv):((((((jt vs).set (a*6) (.int .i64 s.k)).set (a*6+1) (.slice s.sa s.sn s.sc)).set (a*6+2) (.int .i64 s.ed)).set (a*6+3) (.int .i64 s.sl)).set (a*6+4) (.int .i64 s.nx)).set (a*6+5) (.int .i64 s.ot)=jt (vs.set a s):=by
 induction vs generalizing a with
 |nil=>simp at ha
 |cons q qs ih=>
  cases a with
  |zero=>simp[jt,Sv.cells]
  |succ a=>
   have:=ih a (by simpa using ha);have e:∀j,(a+1)*6+j=a*6+j+1+1+1+1+1+1:=(fun j=>by omega);have e0:(a+1)*6=a*6+1+1+1+1+1+1:=by omega
   simp only[jt,Sv.cells,C1,Dk,Ac,e0,this]
def G9(w:World)(g i:Nat)(s:Sv):World:=(((((w.setCell ⟨g,i,none⟩ (.int .i64 s.k)).setCell ⟨g,i+1,none⟩ (.slice s.sa s.sn s.sc)).setCell ⟨g,i+2,none⟩ (.int .i64 s.ed)).setCell ⟨g,i+3,none⟩ (.int .i64 s.sl)).setCell ⟨g,i+4,none⟩ (.int .i64 s.nx)).setCell ⟨g,i+5,none⟩ (.int .i64 s.ot)
theorem WG(w:World)(g i:Nat)(s:Sv):aa (fun k=>k=g) w (G9 w g i s):=
 ((((((aa.refl (fun k=>k=g) w).setCell (p:=⟨g,i,none⟩) (Or.inl rfl) _).setCell (p:=⟨g,i+1,none⟩) (Or.inl rfl) _).setCell (p:=⟨g,i+2,none⟩) (Or.inl rfl) _).setCell (p:=⟨g,i+3,none⟩) (Or.inl rfl) _).setCell (p:=⟨g,i+4,none⟩) (Or.inl rfl) _).setCell (p:=⟨g,i+5,none⟩) (Or.inl rfl) _
theorem dm.array(h:dm w b lo hi v st)(az:st≠ []):∃g c,v=.slice (some ⟨g,0,none⟩) st.length c/\b+1<=g/\g<w.heap.size/\st.length<=c/\
 (∀i,(hi':i<st.length)->∃s:Sv,gw w lo hi s st[i]/\∀j,j<6->w.cell? ⟨g,i*6+j,none⟩=s.cells[j]? /\w.frozen? ⟨g,i*6+j,none⟩=false):=by
 obtain⟨vs,h1,h2,h3⟩:=h.row;obtain⟨hx,gP⟩:=h1;rcases gP with⟨_,h0⟩|⟨g,cap,aL,rfl,a1,a2,a3,a4,a5,a6⟩
 ·exact absurd (Aw.1 h0) az
 ·refine⟨g,cap,rfl,a1,(Ak.1 a2).1,a3,fun i hi'=>⟨vs[i],h3 i (by omega) hi',fun j hj=>⟨?_,by simp[World.frozen?,a2]⟩⟩⟩;have hf:=Pa vs i (by omega) j hj;rw[<-hf,<-a6,Av (by omega)];simp only[World.cell?,a2];simp
theorem dm.put(h:dm w b lo hi (.slice (some ⟨g,0,none⟩) st.length c) st){a:Nat}(ha:a<st.length){s:Sv}{m:MS}(hs:gw w lo hi s m)(hg:b+1<=g):dm (G9 w g (a*6) s) b lo hi (.slice (some ⟨g,0,none⟩) st.length c) (st.set a m):=by
 have dN:=h.dN;have aw:=h.ak.lt;have kk:=WG w g (a*6) s;refine⟨h.ak.kept kk (by omega),?_,dN,by simpa using h.bT⟩;obtain⟨vs,h1,h2,h3⟩:=h.row;refine⟨vs.set a s,?_,by simp[h2],fun i a1 a2=>?_⟩
 ·rw[Bk,<-ahO vs a (by omega) s];exact yU (yU (yU (yU (yU (yU h1 _ _) _ _) _ _) _ _) _ _) _ _
 ·simp only[Bk]at a1 a2;by_cases e:i=a
  ·subst e;simp only[List.getElem_set_self];exact hs.kept kk (fun j j1 j2 e=>by omega) (by omega)
  ·rw[List.getElem_set_ne (fun x=>e x.symm),List.getElem_set_ne (fun x=>e x.symm)];exact(h3 i a1 a2).kept kk (fun j j1 j2 e=>by omega) (by omega)
theorem gw.zero(w:World)(lo hi:Nat):gw w lo hi ⟨0,none,0,0,0,0,0,0⟩ bL:=⟨rfl,rfl,rfl,rfl,rfl,by simp[bL],fun e=>by simp[bL]at e⟩
theorem dW.put{w1:World}{v1:Value}(h:dW b w w1 v v1)(hg:v1.ownBlock=some g)(s:Sv):dW b w (G9 w1 g i s) v v1:=
 ⟨h.kept.bV (WG w1 g i s) (fun k hk e=>by
   subst e;rcases h.ak k hg with h1|h1
   ·exact Or.inr h1
   ·omega),h.ak⟩
theorem bc.put{cs:Array Value}(h:bc w b v c cs t)(hg:v.ownBlock=some g)(i:Nat)(s:Sv):bc (G9 w g i s) b v c cs t:=
 ⟨h.ak.kept (WG w g i s) (fun e=>h.not (Or.inr (e▸hg))),h.not⟩
def Zd(b g c B3 p n:Nat)(s:Sv)(w':World):Prop:=
 w'.cell? ⟨b,0,none⟩=some (.slice (some ⟨g,0,none⟩) n c)/\w'.cell? ⟨B3,1,none⟩=some (.int .i64 p)/\
 w'.cell? ⟨g,p*6,none⟩=some (.int .i64 s.k)/\w'.cell? ⟨g,p*6+1,none⟩=some (.slice s.sa s.sn s.sc)/\w'.cell? ⟨g,p*6+2,none⟩=some (.int .i64 s.ed)/\w'.cell? ⟨g,p*6+3,none⟩=some (.int .i64 s.sl)/\w'.cell? ⟨g,p*6+4,none⟩=some (.int .i64 s.nx)/\w'.cell? ⟨g,p*6+5,none⟩=some (.int .i64 s.ot)
theorem an0(W:World)(p q:Int):(Instr.field 115 (.agg #[.int .i64 p,.int .i64 q]) 0).run prog W=.ok (.int .i64 p) W:=by
 simp[Instr.field,asAgg,go_sem]
theorem akv(h:dm w b lo hi v st)(x:Ex)(hx:cZ st.length x)(hS:eY lo hi w0 w)(df:C.ok)(aS:C.sz<=1000)(hP:wH b lo hi w0 N C)
 (mM:q.pa=some ⟨pb,0,none⟩)(iM:q.pn=1)(dS:lo<=pb/\pb<hi)(hK:oM w0 pb 0 N)(dh:st.length+(4*C.sz.toNat+3)<=9000):
 Calls prog 95 #[.pointer (some ⟨b,0,none⟩),Nv.val q,cG x] w (lY w b lo hi v (nb (bm C) q.lz st x).1 (cG (nb (bm C) q.lz st x).2)):=by
 have aw:=h.ak.lt;have dN:=h.dN;obtain⟨x1,x2⟩:=x;have oo:pb<w.heap.size:=by omega
 have h1:=h.alloc (.cells q.cells 64);have h2:=h1.alloc (.cells (aI (x1,x2)) 115);have h3:=h2.alloc (.cells (aI (0,0)) 115);have l0:=((bc.new h q.cells 64).alloc (.cells (aI (x1,x2)) 115)).alloc (.cells (aI (0,0)) 115);have l1:=(bc.new h1 (aI (x1,x2)) 115).alloc (.cells (aI (0,0)) 115);have l2:=bc.new h2 (aI (0,0)) 115;have W4:=(((dW.refl b w v).alloc (.cells q.cells 64)).alloc (.cells (aI (x1,x2)) 115)).alloc (.cells (aI (0,0)) 115);have S4:=((hS.alloc (by omega) (.cells q.cells 64)).alloc (by simp;omega) (.cells (aI (x1,x2)) 115)).alloc (by simp;omega) (.cells (aI (0,0)) 115);simp only[ib]at l1 l2;have iC:=nV C df aS;have sZ:cZ (st++[bL]).length (-1,(st.length:Int)):=by unfold cZ;simp;omega
 have XE:=iC.fG (st++[bL]) (-1,st.length) sZ;have g2:=iC.grow (st++[bL]) (-1,st.length);have n2:=iC.bT (st++[bL]) (-1,st.length);have o7:(st++[bL]).length=st.length+1:=by simp
 rw[o7]at g2 n2;have F1:=Ik h3 (gw.zero _ lo hi) (by omega);simp only[Sv.val,Sv.cells,aI,Nv.cells]at F1;simp only[aI]at l1 l2;have mC:=ab F1;clear F1;have dr:=ab (And.intro (And.intro l0 (And.intro l1 l2)) (And.intro W4 (And.intro h3 S4)));have HP:=ab hP;have wB:=ab mM;have wC:=ab iM;have KK:=ab hK;unfold nb qj;generalize hR:bm C (st++[bL]) (-1,st.length)=R at*;obtain⟨S1,t1,u1⟩:=R;simp only at XE g2 n2⊢;have e3:=tM q.lz S1 (t1,t1) (x1,x2);have e4:=(yi (st:=S1) q.lz (f:=(t1,t1)) ⟨XE.2,XE.2⟩ (hx.mono (by omega)).lR (Or.inr (by have:=hx.1;omega))).1;generalize hE:dg q.lz S1 (t1,t1) (x1,x2)=E at*;obtain⟨S2,y1,y2⟩:=E;simp only at e3 e4⊢;obtain⟨p,rfl⟩:∃p:Nat,y2=p:=⟨y2.toNat,by have:=e4.1;omega⟩
 have hp:p<S2.length:=by have:=e4.1;omega
 have eg:S2.getD (p:Int).toNat bL=S2[p]:=by rw[Ay,Af,Ae hp];rfl
 rw[eg];clear eg;have HR:=ab hR;have HE:=ab hE;clear h h1 h2 h3 l0 l1 l2 W4 S4 hS hP iC mM iM hK hR hE;simp only[Nv.val,cG,Nv.cells];go_in;go_wp2_with fail;refine(mC.out).mono ?_;rintro e w5 ⟨rfl,v5,h5,k5⟩;obtain⟨⟨l0,l1,l2⟩,W4,h4,S4⟩:=dr.out;have m0:=l0.aY k5;have S5:=S4.aY h4 k5;have jv:=tF.of m0 wB.out wC.out (KK.out.lU S5 dS.1 dS.2);obtain⟨⟨s0,s1⟩,⟨s2,s3,s4,s5⟩,s6,s7,s8,s9⟩:=jv;have F2:=HP.out w5 v5 (st++[bL]) (-1,st.length) h5 sZ S5 (by omega);rw[HR.out]at F2;simp only[Nv.val,Nv.cells,cG]at F2;have JT:=ab F2;clear F2;have PK:=ab (And.intro (And.intro h5 (And.intro (W4.trans k5) S5)) (And.intro m0 (And.intro (l1.aY k5) (l2.aY k5))));clear l0 l1 l2 W4 h4 S4 m0 S5 h5 k5 dr mC;go_wp2_with fail;refine(JT.out).mono ?_;rintro e w6 ⟨rfl,v6,h6,k6⟩;obtain⟨⟨h5,W5,S5⟩,M0,M1,M2⟩:=PK.out;obtain⟨_,_,_,_,_,_,_,z7⟩:=(M0.aY k6).gZ;obtain⟨c0,c1,_,_⟩:=(M1.aY k6).cE;have F3:=aaG h6 q.lz (t1,t1) (x1,x2) (by omega);rw[HE.out]at F3;simp only[cG]at F3;have XS:=ab F3;clear F3;have mF:=ab (And.intro (And.intro h6 (And.intro (W5.trans k6) (S5.aY h5 k6))) (M2.aY k6));clear h5 W5 S5 M0 M1 M2 h6 k6 PK JT s0 s1 s2 s3 s4 s5 s6 s7 s8 s9;have bt:=an0 w6 t1 u1;go_wp2_with fail;refine(XS.out).mono ?_;rintro e w7 ⟨rfl,v7,h7,k7⟩;obtain⟨⟨h6,W6,S6⟩,M2⟩:=mF.out;have m2:=M2.aY k7;have W7:=W6.trans k7;have sz7:=W7.kept.size;obtain⟨g,c7,xk,yx,qw,hg3,Uu⟩:=h7.array (by intro e;rw[e]at hp;simp at hp);obtain⟨s,pd,jE⟩:=Uu p hp;obtain⟨s',ajt,sO⟩:=Uu st.length (by omega);subst xk;have ka:aa af w7 ((w7.alloc (.cells #[.int .i64 y1,.int .i64 (p:Int)] 115)).drew):=((aa.refl af w7).alloc _).drew;have cell:∀j u,w7.cell? ⟨g,j,none⟩=u->((w7.alloc (.cells #[.int .i64 y1,.int .i64 (p:Int)] 115)).drew).cell? ⟨g,j,none⟩=u:=fun j u hu=>(ka.cell (p:=⟨g,j,none⟩) qw (fun hx=>hx)).trans hu
 have aj:Zd b g c7 w7.heap.size p S2.length s ((w7.alloc (.cells #[.int .i64 y1,.int .i64 (p:Int)] 115)).drew):=
  ⟨(h7.ak.kept ka (fun hx=>hx)).cell 0,(aq.new w7 #[.int .i64 y1,.int .i64 (p:Int)] 115).cell 1,cell _ _ (jE 0 (by omega)).1,cell _ _ (jE 1 (by omega)).1,cell _ _ (jE 2 (by omega)).1,cell _ _ (jE 3 (by omega)).1,cell _ _ (jE 4 (by omega)).1,cell _ _ (jE 5 (by omega)).1⟩
 have PS:=ab aj;have hpi:(p:Int)<(S2.length:Int):=by omega
 have Gl:(st.length:Int)<(S2.length:Int):=by omega
 clear aj XS mF;go_wp2_with fail;refine gW (S:=Zd b g c7 w7.heap.size p S2.length s) 14 (by kernel_rfl) rfl rfl rfl (by kernel_rfl) (by kernel_rfl) ?_;have aj:=PS.out;refine ai 0 30 (.pointer (some ⟨b,0,none⟩)) aj ?_;refine ai 1 31 (.pointer (some ⟨b,0,none⟩)) aj ?_;refine ai 2 32 (.pointer (some ⟨b,0,none⟩)) aj ?_;refine ai 3 33 (.slice (some ⟨g,0,none⟩) S2.length c7) aj ?_;refine ai 4 34 (.int .i64 st.length) aj ?_;refine ai 5 35 (.pointer (some ⟨b,0,none⟩)) aj ?_;refine ai 6 36 (.pointer (some ⟨b,0,none⟩)) aj ?_;refine ai 7 37 (.pointer (some ⟨b,0,none⟩)) aj ?_;refine ai 8 38 (.slice (some ⟨g,0,none⟩) S2.length c7) aj ?_;refine ai 9 39 (.pointer (some ⟨w7.heap.size,1,none⟩)) aj ?_;refine ai 10 40 (.int .i64 p) aj ?_;refine ai 11 41 (.pointer (some ⟨g,p*6,none⟩)) aj ?_;refine ai 12 42 (.agg #[.int .i64 s.k,.slice s.sa s.sn s.sc,.int .i64 s.ed,.int .i64 s.sl,.int .i64 s.nx,.int .i64 s.ot]) aj ?_;refine ai 13 43 (.pointer (some ⟨g,st.length*6,none⟩)) aj ?_;simp only[Act.put,Aa,Ad,Ac];refine At (by kernel_rfl) ?_ _;unfold eJ;dsimp only;have q0:w7.cell? ⟨g,st.length*6,none⟩=some (.int .i64 s'.k):=(sO 0 (by omega)).1;have r0:w7.frozen? ⟨g,st.length*6,none⟩=false:=(sO 0 (by omega)).2;have q1:w7.cell? ⟨g,st.length*6+1,none⟩=some (.slice s'.sa s'.sn s'.sc):=(sO 1 (by omega)).1;have r1:w7.frozen? ⟨g,st.length*6+1,none⟩=false:=(sO 1 (by omega)).2;have q2:w7.cell? ⟨g,st.length*6+2,none⟩=some (.int .i64 s'.ed):=(sO 2 (by omega)).1;have r2:w7.frozen? ⟨g,st.length*6+2,none⟩=false:=(sO 2 (by omega)).2;have q3:w7.cell? ⟨g,st.length*6+3,none⟩=some (.int .i64 s'.sl):=(sO 3 (by omega)).1;have r3:w7.frozen? ⟨g,st.length*6+3,none⟩=false:=(sO 3 (by omega)).2;have q4:w7.cell? ⟨g,st.length*6+4,none⟩=some (.int .i64 s'.nx):=(sO 4 (by omega)).1;have r4:w7.frozen? ⟨g,st.length*6+4,none⟩=false:=(sO 4 (by omega)).2;have q5:w7.cell? ⟨g,st.length*6+5,none⟩=some (.int .i64 s'.ot):=(sO 5 (by omega)).1;have r5:w7.frozen? ⟨g,st.length*6+5,none⟩=false:=(sO 5 (by omega)).2;have h9:=h7.put (a:=st.length) (by omega) pd yx;have W9:=W7.put (i:=st.length*6) (g:=g) rfl s;have M4:=m2.put (g:=g) rfl (st.length*6) s;have szp:(G9 w7 g (st.length*6) s).heap.size=w7.heap.size:=by simp[G9,World.setCell]
 have h9b:=(h9.set M4.not (by omega) 0 (.int .i64 y1)).set M4.not (by omega) 1 (.int .i64 (p:Int));have ZK:=(W9.set (c:=w.heap.size+1+1) (by omega) 0 (.int .i64 y1)).set (c:=w.heap.size+1+1) (by omega) 1 (.int .i64 (p:Int));have n2b:=(M4.setCell 0 (.int .i64 y1)).setCell 1 (.int .i64 (p:Int));have h10:=h9b.alloc (.cells #[.int .i64 y1,.int .i64 (p:Int)] 115);have ZG:=ZK.alloc (.cells #[.int .i64 y1,.int .i64 (p:Int)] 115);have n2q:=(n2b.alloc (.cells #[.int .i64 y1,.int .i64 (p:Int)] 115)).ak;have h11:=h10.new ((aa.refl af _).drew);have ZH:=ZG.new ((aa.refl af _).drew);have n2r:=n2q.drew;obtain⟨d0,d1,f0,f1⟩:=M4.cE;have od:w.heap.size+1+1<w7.heap.size:=m2.ak.lt;have kO:g≠w.heap.size+1+1:=fun e=>m2.not (Or.inr (by rw[<-e];rfl))
 have ax:=ab (And.intro h11 (And.intro ZH n2r));simp only[G9]at d0 d1 f0 f1;clear h9 W9 M4 h9b ZK n2b h10 ZG n2q h11 ZH n2r pd ajt jE sO Uu PS aj h7 k7 m2 M2 h6 W6 S6 W7 ka cell;simp only[Al,Ag,Ai];go_simp;clear q0 q1 q2 q3 q4 q5 r0 r1 r2 r3 r4 r5 hpi Gl;go_wp2_with fail;refine aaS (x:=(y1,(p:Int))) results95 rfl rfl ?_ ?_
 ·exact ax.out.2.2
 ·exact⟨rfl,_,ax.out.1,ax.out.2.1⟩
end Go.Proofs.YtpdnofhackjfdaaGreatDoor
