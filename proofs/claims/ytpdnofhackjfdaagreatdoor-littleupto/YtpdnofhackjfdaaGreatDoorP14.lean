/- A region that dr -/
import Derived.Test.YtpdnofhackjfdaaGreatDoorP13
set_option linter.all false
set_option maxRecDepth 100000
set_option maxHeartbeats 4000000
namespace Go.Proofs.YtpdnofhackjfdaaGreatDoor
open Go.Proofs.Tryz
open Go.RowKit
variable {a:Act} {K:Act->World->Prop} {dH:Array Bool} {ops:Array Oper} {C:CT} {Q:Exit->Act->World->Prop} {st:List MS} {L b c fuel g hi i lo pb:Nat} {N q:Nv} {o oL oi:Oper} {P:Program} {md:Region.Mode} {t:TypeId} {v:Value} {w w0:World} {S:World->Prop}
def Iz(ops:Array Oper):Bool:=(List.range ops.size).all fun i=>((ops[i]?).map (·.after.all fun e=>decide (e.on<i))).getD true
def J0(ops:Array Oper)(L:Nat):Bool:=(List.range L).all fun i=>(List.range (L+1)).any fun j=>decide (i<j)&&((ops[j]?).map (·.after.any fun e=>Region.binds .any e&&e.on==i)).getD false
def eN(P:Program)(o:Oper)(Q:Exit->Act->World->Prop):Exit->Act->World->Prop
 |.normal,a,w=>o.wp P a w (fun a' w'=>Q .normal a' w') Q
 |e,a,w=>Q e a w
theorem ZJ(h:Iz ops=true)(ho:ops[i]? =some o):∀e∈o.after,e.on<i:=by
 unfold Iz at h;rw[List.all_eq_true]at h;have hi:i<ops.size:=(Am.1 ho).1;have h1:=h i (Eu.2 hi);rw[ho]at h1;simp only[C9,Dr]at h1;intro e he;have:=Array.all_eq_true_iff_forall_mem.1 h1 e he;simpa using this
theorem apl(h:J0 ops L=true)(hi:i<L):∃j o,i<j/\j<=L/\ops[j]? =some o/\∃e∈o.after,Region.binds .any e=true/\e.on=i:=by
 unfold J0 at h;rw[List.all_eq_true]at h;have h1:=h i (Eu.2 hi);rw[Cq]at h1;obtain⟨j,hj,h2⟩:=h1;have Mi:=Eu.1 hj;simp only[Co,Az]at h2
 cases ho:ops[j]? with
 |none=>rw[ho]at h2;simp at h2
 |some o=>
  rw[ho]at h2;simp only[C9,Dr]at h2;obtain⟨k,hk,h3⟩:=Array.any_eq_true.1 h2.2;simp at h3;exact⟨j,o,h2.1,by omega,ho,o.after[k],Array.getElem_mem hk,h3.1,h3.2⟩
theorem ao_(r:Result Next)(h:o.upon P a K (eN P oL Q) r):o.upon P a K Q r:=by
 cases r with
 |ok n w'=>
  cases n<;>simp only[Oper.upon]at h⊢ <;>first
   |exact h
   |exact Calls.mono h (fun e pB he=>by cases e<;>exact he)
 |halt x w'=>cases x<;>simp only[Oper.upon]at h⊢ <;>exact h
theorem apH(h:wpOp P ops (eN P oL Q) i K a w):wpOp P ops Q i K a w:=by
 unfold wpOp at*;split
 ·rename_i ho;simp only[ho]at h;exact h
 ·rename_i o ho
  simp only[ho]at h;split
  ·rename_i hw
   simp only[hw,if_true]at h;rcases h with h|h
   ·exact Or.inl (ao_ _ h)
   ·exact Or.inr h
  ·rename_i hw;simp only[hw]at h;exact h
theorem afg(hL:ops[L]? =some oL)(aP:ops.size=L+1)(hg:oL.guard=none)(vu:Iz ops=true)(GK:J0 ops L=true):
 ∀(fuel:Nat) (dH:Array Bool) (a:Act) (w:World),dH.size=L+1->dH.getD L true=false->(∀i o,ops[i]? =some o->dH.getD i false=true->∀e∈o.after,Region.binds .any e=true->dH.getD e.on false=true)->
  wpAny P .any ops (eN P oL Q) fuel (dH.setIfInBounds L true) a w->wpAny P .any ops Q (fuel+1) dH a w:=by
 have ab7:∀a:Act,Region.wanted oL (yielded ops a.tmps)=true:=fun a=>by simp[Region.wanted,hg]
 have afK:∀dH:Array Bool,(∀i o,ops[i]? =some o->dH.getD i false=true->∀e∈o.after,Region.binds .any e=true->dH.getD e.on false=true)->L∈Region.ready .any ops dH->∀i,i<L->dH.getD i false=true:=by
  intro dH fy hr;obtain⟨_,o,ho,nF⟩:=mem_ready.1 hr;rw[hL]at ho;cases ho
  have:∀d i,i<L->L-i<=d->dH.getD i false=true:=by
   intro d;induction d with
   |zero=>intro i h1 h2;omega
   |succ d ih=>
    intro i h1 h2;obtain⟨j,o,cy,hjL,Vs,e,he,hb,hon⟩:=apl GK h1;by_cases hj:j=L
    ·subst hj;rw[hL]at Vs;cases Vs;rw[<-hon];exact nF e he hb
    ·have:=fy j o Vs (ih j (by omega) (by omega)) e he hb;rw[hon]at this;exact this
  intro i hi;exact this (L-i) i hi (Ab _)
 have aeI:∀dH:Array Bool,dH.size=L+1->dH.getD L true=false->(Region.ready .any ops dH=[]->False):=by
  intro dH sS IV hr
  have ajs:∀i,i<L->dH.getD i false=true:=by
   intro i;induction i using Nat.strongRecOn with
   |ind i ih=>
    intro hi;apply Dv;intro az;have aw:i<dH.size:=by omega
    have hf:dH.getD i true=false:=by
     simp only[Array.getD,aw,dite_true]at az⊢;simpa using az
    have hio:i<ops.size:=by omega
    have:i∈Region.ready .any ops dH:=mem_ready.2 ⟨hf,ops[i],Array.getElem?_eq_getElem hio,fun e he _=>by
     have:=ZJ vu (Array.getElem?_eq_getElem hio) e he;exact ih e.on this (by omega)⟩
    rw[hr]at this
    cases this
  have:L∈Region.ready .any ops dH:=mem_ready.2 ⟨IV,oL,hL,fun e he _=>ajs _ (ZJ vu hL e he)⟩;rw[hr]at this
  cases this
 have ahn:∀dH:Array Bool,dH.size=L+1->(∀i,i<L->dH.getD i false=true)->Region.ready .any ops (dH.setIfInBounds L true)=[]:=by
  intro dH sS nF;apply List.eq_nil_iff_forall_not_mem.2;intro j hj;obtain⟨h0,o,ho,_⟩:=mem_ready.1 hj;have hjs:j<L+1:=by rw[<-aP];exact(Am.1 ho).1
  by_cases e:j=L
  ·subst e;simp[Array.getD,sS]at h0
  ·have:=getD_set_true (i:=L) (nF j (by omega));have aw:j<(dH.setIfInBounds L true).size:=by simp;omega
   simp only[Array.getD,aw,dite_true]at h0 this;rw[h0]at this
   cases this
 intro fuel;induction fuel with
 |zero=>
  intro dH a w sS IV fy h;refine⟨fun hr=>(aeI dH sS IV hr).elim,fun i hi=>?_⟩;by_cases e:i=L
  ·subst e;unfold wpOp;simp only[hL,ab7,if_true];exact Or.inl (Oper.wp_mono (fun a' w' hq=>⟨h.1,hq⟩) h.2)
  ·have:=ready_mono hi e;rw[h.1]at this
   cases this
 |succ fuel ih=>
  intro dH a w sS IV fy h;refine⟨fun hr=>(aeI dH sS IV hr).elim,fun i hi=>?_⟩;by_cases e:i=L
  ·subst e;have hd:=ahn dH sS (afK dH fy hi);unfold wpOp;simp only[hL,ab7,if_true];exact Or.inl (Oper.wp_mono (fun a' w' hq=>⟨fun _=>hq,fun k hk=>by rw[hd]at hk;cases hk⟩) (h.1 hd))
  ·have h1:=apH (h.2 i (ready_mono hi e));refine wpOp_mono (fun a' w' h2=>ih (dH.setIfInBounds i true) a' w' (by simp[sS]) (by rw[getD_set_ne true e];exact IV) (fun k o hk hl e' Md hb=>?_) (by rw[Array.setIfInBounds_comm _ _ e];exact h2)) h1;by_cases wZ:k=i
   ·subst wZ;obtain⟨_,o',AW,nF⟩:=mem_ready.1 hi;rw[hk]at AW;cases AW;exact getD_set_true (nF e' Md hb)
   ·rw[getD_set_ne false (fun e=>wZ e.symm)]at hl;exact getD_set_true (fy k o hk hl e' Md hb)
theorem gW{id:Nat}(L:Nat)(hm:P.follows .mixedOrders=true)(hL:ops[L]? =some oL)(aP:ops.size=L+1)(hg:oL.guard=none)(vu:Iz ops=true)(GK:J0 ops L=true)
 (h:wpAnyH P .any ops (eN P oL Q) S L ((Array.replicate (L+1) false).setIfInBounds L true) a w.drew):(Code.region id ops true).wp P Q a w:=by
 refine Ch hm ?_;rw[aP];refine afg hL aP hg vu GK L _ a _ (by simp) (by simp[Array.getD]) (fun i o ho hl=>?_) (Cc _ _ _ _ h);simp[Array.getD]at hl
theorem pA(i:Nat)(d:Tmp)(v:Value)(hi:ops[i]? =some oi)(hd:oi.dst=some d)
 (hs:Region.noSelect ops=true)(hf:Region.free md ops dH i=true)(hr:(Region.ready md ops dH).contains i=true)
 (hQ:∀c a w,Q (.panic c) (a.put oi.dst v) w->Q (.panic c) a w)(hy:YieldsIf P ops S oi v a)(hS:S w)
 (h:wpAnyH P md ops Q S fuel (dH.setIfInBounds i true) (a.put (some d) v) w):wpAnyH P md ops Q S (fuel+1) dH a w:=
 Dy hi hs hf hr hQ hy hS (by rw[hd];exact h)
theorem ai(i:Nat)(d:Tmp)(v:Value)(hS:S w)
 (h:wpAnyH P md ops Q S fuel (dH.setIfInBounds i true) (a.put (some d) v) w)
 (hi:ops[i]? =some oi:=by rfl)(hd:oi.dst=some d:=by rfl)(hs:Region.noSelect ops=true:=by kernel_rfl)(hf:Region.free md ops dH i=true:=by kernel_rfl)(hr:(Region.ready md ops dH).contains i=true:=by kernel_rfl)
 (hQ:∀c a w,Q (.panic c) (a.put oi.dst v) w->Q (.panic c) a w:=by exact fun _ _ _ h=>h)(hy:YieldsIf P ops S oi v a:=by exact Or.inl ⟨by rfl,fun W eT=>by first|(go_simp;done)|(cases eT;repeat cases ‹_/\_›;go_simp)⟩):wpAnyH P md ops Q S (fuel+1) dH a w:=
 pA i d v hi hd hs hf hr hQ hy hS h
theorem bQ(i:Nat)
 (h:∀K':Act->World->Prop,Go.Shut (∀a w,S w->(S w->wpAnyH P md ops Q S fuel (dH.setIfInBounds i true) a w)->K' a w)->if Region.wanted o (yielded ops a.tmps)=true then Oper.wp P o a w K' Q else K' (a.put o.dst undef) w)
 (hr:Region.ready md ops dH=[i]:=by kernel_rfl)(ho:ops[i]? =some o:=by rfl):wpAnyH P md ops Q S (fuel+1) dH a w:=Gb hr (by simp) (Dk ho h Fu)
open Go.Maps
theorem bc.gZ(h:bc w b v c q.cells t):
 w.cell? ⟨c,0,none⟩=some (.int .i64 q.k)/\w.cell? ⟨c,1,none⟩=some (.slice q.pa q.pn q.pc)/\w.cell? ⟨c,2,none⟩=some (.slice q.sa q.sn q.sc)/\w.cell? ⟨c,3,none⟩=some (.int .i64 q.ed)/\w.cell? ⟨c,4,none⟩=some (.int .i64 q.gr)/\w.cell? ⟨c,5,none⟩=some (.int .i64 q.lo)/\w.cell? ⟨c,6,none⟩=some (.int .i64 q.hi)/\w.cell? ⟨c,7,none⟩=some (.bool q.lz):=h.aj.gZ
def tK(w':World)(B0 pb:Nat)(q N:Nv):Prop:=
 (w'.cell? ⟨B0,1,none⟩=some (.slice (some ⟨pb,0,none⟩) 1 q.pc)/\w'.cell? ⟨B0,7,none⟩=some (.bool q.lz))/\
 (w'.cell? ⟨pb,0,none⟩=some (.int .i64 N.k)/\w'.cell? ⟨pb,1,none⟩=some (.slice N.pa N.pn N.pc)/\w'.cell? ⟨pb,2,none⟩=some (.slice N.sa N.sn N.sc)/\w'.cell? ⟨pb,3,none⟩=some (.int .i64 N.ed))/\
   w'.cell? ⟨pb,4,none⟩=some (.int .i64 N.gr)/\w'.cell? ⟨pb,5,none⟩=some (.int .i64 N.lo)/\w'.cell? ⟨pb,6,none⟩=some (.int .i64 N.hi)/\w'.cell? ⟨pb,7,none⟩=some (.bool N.lz)
theorem tK.of{B0:Nat}(h:bc w b v B0 q.cells t)(mX:q.pa=some ⟨pb,0,none⟩)(iJ:q.pn=1)(hK:oT w pb 0 N):tK w B0 pb q N:=by
 obtain⟨_,e1,_,_,_,_,_,e7⟩:=h.gZ;rw[mX,iJ]at e1;exact⟨⟨e1,e7⟩,hK.zero⟩
def zC(w:World)(pb:Nat)(q N:Nv)(x1 x2 a1 a2:Int)(w':World):Prop:=
 tK w' w.heap.size pb q N/\(w'.cell? ⟨w.heap.size+1,0,none⟩=some (.int .i64 x1)/\w'.cell? ⟨w.heap.size+1,1,none⟩=some (.int .i64 x2))/\w'.cell? ⟨w.heap.size+1+1+1,0,none⟩=some (.int .i64 a1)/\w'.cell? ⟨w.heap.size+1+1+1,1,none⟩=some (.int .i64 a2)
theorem zC.of{W:World}{x1 x2 a1 a2:Int}{t':TypeId}(h0:bc W b v w.heap.size q.cells t)(h1:bc W b v (w.heap.size+1) #[.int .i64 x1,.int .i64 x2] t')(h3:bc W b v (w.heap.size+1+1+1) #[.int .i64 a1,.int .i64 a2] t')(mX:q.pa=some ⟨pb,0,none⟩)(iJ:q.pn=1)(hK:oT W pb 0 N):zC w pb q N x1 x2 a1 a2 W:=
 ⟨tK.of h0 mX iJ hK,⟨h1.cA.1,h1.cA.2.1⟩,h3.cA.1,h3.cA.2.1⟩
theorem al0(h:dr w b lo hi v st)(x:Ex)(hx:da st.length x)(hS:fa lo hi w0 w)(dD:C.ok)(aP:0<(q.hi-q.lo).toNat->C.sz<=1000)(hP:0<(q.hi-q.lo).toNat->wJ b lo hi w0 N C)
 (mX:q.pa=some ⟨pb,0,none⟩)(iJ:q.pn=1)(dX:lo<=pb/\pb<hi)(hK:oT w0 pb 0 N)(hr:(0<=q.lo/\q.lo<=20)/\(0<=q.hi/\q.hi<=20)/\q.lo<=q.hi)(dw:st.length+(q.hi-q.lo).toNat*(4*C.sz.toNat+2)<=9000):
 Calls prog 96 #[.pointer (some ⟨b,0,none⟩),Nv.val q,cJ x] w (l9 w b lo hi v (fK (bu C) q.lz x (q.hi-q.lo).toNat st x).1 (cJ (fK (bu C) q.lz x (q.hi-q.lo).toNat st x).2)):=by
 have aw:=h.aj.lt;have dQ:=h.dQ;obtain⟨x1,x2⟩:=x;have jX:pb<w.heap.size:=by omega
 have h1:=h.alloc (.cells q.cells 64);have h2:=h1.alloc (.cells (aI (x1,x2)) 115);have h3:=h2.alloc (.cells (aI (0,0)) 115);have h4:=h3.alloc (.cells (aI (x1,x2)) 115);have l0:=(((bc.new h q.cells 64).alloc (.cells (aI (x1,x2)) 115)).alloc (.cells (aI (0,0)) 115)).alloc (.cells (aI (x1,x2)) 115);have l1:=((bc.new h1 (aI (x1,x2)) 115).alloc (.cells (aI (0,0)) 115)).alloc (.cells (aI (x1,x2)) 115);have l2:=(bc.new h2 (aI (0,0)) 115).alloc (.cells (aI (x1,x2)) 115);have l3:=bc.new h3 (aI (x1,x2)) 115;have W4:=((((ee.refl b w v).alloc (.cells q.cells 64)).alloc (.cells (aI (x1,x2)) 115)).alloc (.cells (aI (0,0)) 115)).alloc (.cells (aI (x1,x2)) 115);have S4:=(((hS.alloc (by omega) (.cells q.cells 64)).alloc (by simp;omega) (.cells (aI (x1,x2)) 115)).alloc (by simp;omega) (.cells (aI (0,0)) 115)).alloc (by simp;omega) (.cells (aI (x1,x2)) 115);simp only[ij]at l1 l2 l3;simp only[aI]at l1 l2 l3;have iz:=fun h0=>od C dD (aP h0)
 have du:=ab (And.intro (And.intro l0 (And.intro l1 (And.intro l2 l3))) (And.intro W4 (And.intro h4 S4)));have HP:=ab hP;have HB:=ab iz;have hd:(0:Int)<=q.hi-q.lo/\q.hi-q.lo<=20:=by omega
 generalize hm:(q.hi-q.lo).toNat=m at*
 have ud:q.hi-q.lo=(m:Int):=by omega
 have On:=ab ud;have wC:=ab mX;have wD:=ab iJ;clear h h1 h2 h3 h4 l0 l1 l2 l3 W4 S4 hS hP iz hm ud mX iJ;simp only[Nv.val,cJ,Nv.cells];go_in;go_wp2_with fail
 go_loopg [14] m (fun kk i wr=>∃(j:Nat) (v1:Value) (aC:List MS) (a1 a2:Int),i=.int .i64 j/\j<=m/\kk=m-j/\Hid (fK (bu C) q.lz (x1,x2) (m-j) aC (a1,a2)=fK (bu C) q.lz (x1,x2) m st (x1,x2))/\st.length<=aC.length/\aC.length+(m-j)*(4*C.sz.toNat+2)<=9000/\da aC.length (a1,a2)/\
  dr wr b lo hi v1 aC/\ee b w wr v v1/\fa lo hi w0 wr/\bc wr b v1 w.heap.size q.cells 64/\bc wr b v1 (w.heap.size+1) #[.int .i64 x1,.int .i64 x2] 115/\bc wr b v1 (w.heap.size+1+1) #[.int .i64 0,.int .i64 0] 115/\bc wr b v1 (w.heap.size+1+1+1) #[.int .i64 a1,.int .i64 a2] 115)
 case atStart=>
  obtain⟨⟨l0,l1,l2,l3⟩,W4,h4,S4⟩:=du.o;exact⟨0,v,st,x1,x2,rfl,Ao _,rfl,rfl,Ab _,dw,hx,h4,W4,S4,l0,l1,l2,l3⟩
 case round=>
  clear du;obtain⟨j,v1,aC,a1,a2,rfl,hj,rfl,HE,ia,bP,ta,hB,hW,dW,L0,L1,L2,L3⟩:=hrel;have ud:=On.o;by_cases iX:j<m
  ·have sP:(j:Int)<q.hi-q.lo:=(by omega);have kE:=tK.of L0 wC.o wD.o (hK.lX dW dX.1 dX.2);obtain⟨c0,c1,_,_⟩:=L1.cA;obtain⟨d0,d1,g0,g1⟩:=L3.cA;clear ud;have xb:=da.mono hx ia;have b1:=(HB.o (by omega)).fI aC (a1,a2) ta;have b2:=(HB.o (by omega)).bJ aC (a1,a2);have b3:=(HB.o (by omega)).grow aC (a1,a2);have e3:=tP q.lz (bu C aC (a1,a2)).1 (bu C aC (a1,a2)).2 (x1,x2);have e4:=(yg (st:=(bu C aC (a1,a2)).1) q.lz b1.lU (xb.mono b3.1).lU (Or.inl (by have:=b1.1;omega))).1
   have hmul:(m-j)*(4*C.sz.toNat+2)=(m-(j+1))*(4*C.sz.toNat+2)+(4*C.sz.toNat+2):=by
    obtain⟨d,hd⟩:∃d,m-j=d+1:=⟨m-j-1,by omega⟩
    rw[hd,show m-(j+1)=d by omega,Fi]
   have iT:=hB.new ((aa.refl af wr).drew);have nE:=hW.new ((aa.refl af wr).drew);have gH:fa lo hi w0 wr.drew:=dW;have M0:bc wr.drew b v1 w.heap.size q.cells 64:=⟨L0.aj,L0.not⟩;have M1:bc wr.drew b v1 (w.heap.size+1) #[.int .i64 x1,.int .i64 x2] 115:=⟨L1.aj,L1.not⟩;have M2:bc wr.drew b v1 (w.heap.size+1+1) #[.int .i64 0,.int .i64 0] 115:=⟨L2.aj,L2.not⟩;have M3:bc wr.drew b v1 (w.heap.size+1+1+1) #[.int .i64 a1,.int .i64 a2] 115:=⟨L3.aj,L3.not⟩;have F1:=HP.o (by omega) wr.drew v1 aC (a1,a2) iT ta gH (by omega);simp only[Nv.val,Nv.cells,cJ]at F1;have F1:=ab F1;have PK:=ab (And.intro (And.intro iT (And.intro nE gH)) (And.intro M0 (And.intro M1 (And.intro M2 M3))));have KK:=ab hK;clear hB hW dW L0 L1 L2 L3 iT nE gH M0 M1 M2 M3 hK;have abU:tK wr.drew w.heap.size pb q N:=kE;have PS:=ab (And.intro abU (And.intro (And.intro c0 c1) (And.intro d0 d1)));clear kE abU c0 c1 d0 d1;go_wp2_with fail;refine gW (S:=zC w pb q N x1 x2 a1 a2) 12 (by kernel_rfl) rfl rfl rfl (by kernel_rfl) (by kernel_rfl) ?_;have ak:zC w pb q N x1 x2 a1 a2 wr.drew:=PS.o;refine Dy (i:=0) (v:=.pointer (some ⟨b,0,none⟩)) rfl (by kernel_rfl) (by kernel_rfl) (by kernel_rfl) (fun _ _ _ h=>h) (Or.inl ⟨by rfl,fun W eT=>by obtain⟨⟨⟨s0,s1⟩,⟨s2,s3,s4,s5⟩,s6,s7,s8,s9⟩,⟨yY,vX⟩,tx,yZ⟩:=eT;go_simp⟩) ak ?_;simp only[Act.put,Aa];refine Dy (i:=1) (v:=.pointer (some ⟨w.heap.size,7,none⟩)) rfl (by kernel_rfl) (by kernel_rfl) (by kernel_rfl) (fun _ _ _ h=>h) (Or.inl ⟨by rfl,fun W eT=>by obtain⟨⟨⟨s0,s1⟩,⟨s2,s3,s4,s5⟩,s6,s7,s8,s9⟩,⟨yY,vX⟩,tx,yZ⟩:=eT;go_simp⟩) ak ?_;simp only[Act.put];refine Dy (i:=2) (v:=.bool q.lz) rfl (by kernel_rfl) (by kernel_rfl) (by kernel_rfl) (fun _ _ _ h=>h) (Or.inl ⟨by rfl,fun W eT=>by obtain⟨⟨⟨s0,s1⟩,⟨s2,s3,s4,s5⟩,s6,s7,s8,s9⟩,⟨yY,vX⟩,tx,yZ⟩:=eT;go_simp⟩) ak ?_;simp only[Act.put];refine Dy (i:=3) (v:=.pointer (some ⟨b,0,none⟩)) rfl (by kernel_rfl) (by kernel_rfl) (by kernel_rfl) (fun _ _ _ h=>h) (Or.inl ⟨by rfl,fun W eT=>by obtain⟨⟨⟨s0,s1⟩,⟨s2,s3,s4,s5⟩,s6,s7,s8,s9⟩,⟨yY,vX⟩,tx,yZ⟩:=eT;go_simp⟩) ak ?_;simp only[Act.put];refine Dy (i:=4) (v:=.pointer (some ⟨w.heap.size,1,none⟩)) rfl (by kernel_rfl) (by kernel_rfl) (by kernel_rfl) (fun _ _ _ h=>h) (Or.inl ⟨by rfl,fun W eT=>by obtain⟨⟨⟨s0,s1⟩,⟨s2,s3,s4,s5⟩,s6,s7,s8,s9⟩,⟨yY,vX⟩,tx,yZ⟩:=eT;go_simp⟩) ak ?_;simp only[Act.put];refine Dy (i:=5) (v:=.slice (some ⟨pb,0,none⟩) 1 q.pc) rfl (by kernel_rfl) (by kernel_rfl) (by kernel_rfl) (fun _ _ _ h=>h) (Or.inl ⟨by rfl,fun W eT=>by obtain⟨⟨⟨s0,s1⟩,⟨s2,s3,s4,s5⟩,s6,s7,s8,s9⟩,⟨yY,vX⟩,tx,yZ⟩:=eT;go_simp⟩) ak ?_;simp only[Act.put];refine Dy (i:=6) (v:=.pointer (some ⟨pb,0,none⟩)) rfl (by kernel_rfl) (by kernel_rfl) (by kernel_rfl) (fun _ _ _ h=>h) (Or.inl ⟨by rfl,fun W eT=>by obtain⟨⟨⟨s0,s1⟩,⟨s2,s3,s4,s5⟩,s6,s7,s8,s9⟩,⟨yY,vX⟩,tx,yZ⟩:=eT;go_simp⟩) ak ?_;simp only[Act.put];refine Dy (i:=7) (v:=.agg #[.int .i64 N.k,.slice N.pa N.pn N.pc,.slice N.sa N.sn N.sc,.int .i64 N.ed,.int .i64 N.gr,.int .i64 N.lo,.int .i64 N.hi,.bool N.lz]) rfl (by kernel_rfl) (by kernel_rfl) (by kernel_rfl) (fun _ _ _ h=>h) (Or.inl ⟨by rfl,fun W eT=>by obtain⟨⟨⟨s0,s1⟩,⟨s2,s3,s4,s5⟩,s6,s7,s8,s9⟩,⟨yY,vX⟩,tx,yZ⟩:=eT;go_simp⟩) ak ?_;simp only[Act.put];refine Dy (i:=8) (v:=.agg #[.int .i64 a1,.int .i64 a2]) rfl (by kernel_rfl) (by kernel_rfl) (by kernel_rfl) (fun _ _ _ h=>h) (Or.inl ⟨by rfl,fun W eT=>by obtain⟨⟨⟨s0,s1⟩,⟨s2,s3,s4,s5⟩,s6,s7,s8,s9⟩,⟨yY,vX⟩,tx,yZ⟩:=eT;go_simp⟩) ak ?_;simp only[Act.put];refine Dy (i:=10) (v:=.agg #[.int .i64 x1,.int .i64 x2]) rfl (by kernel_rfl) (by kernel_rfl) (by kernel_rfl) (fun _ _ _ h=>h) (Or.inl ⟨by rfl,fun W eT=>by obtain⟨⟨⟨s0,s1⟩,⟨s2,s3,s4,s5⟩,s6,s7,s8,s9⟩,⟨yY,vX⟩,tx,yZ⟩:=eT;go_simp⟩) ak ?_;simp only[Act.put];refine bQ 9 fun K hK=>?_
   go_simp;refine(F1.o).mono ?_;rintro e w5 ⟨rfl,v5,h5,k5⟩;dsimp only;obtain⟨⟨hB,hW,dW⟩,M0,M1,M2,M3⟩:=PK.o;have o9:zC w pb q N x1 x2 a1 a2 w5:=zC.of (M0.aX k5) (M1.aX k5) (M3.aX k5) wC.o wD.o (KK.o.lX (dW.aX hB k5) dX.1 dX.2);refine hK.o _ _ o9 (fun _=>?_);clear hK K;have F2:=aaB h5 q.lz (bu C aC (a1,a2)).2 (x1,x2) (by omega);simp only[cJ]at F2;have F2:=ab F2;have mN:=ab (And.intro (And.intro h5 (And.intro (hW.trans k5) (dW.aX hB k5))) (And.intro (M0.aX k5) (And.intro (M1.aX k5) (And.intro (M2.aX k5) (M3.aX k5)))));clear hB hW dW M0 M1 M2 M3 h5 k5 ak o9 PS F1 PK;refine bQ 11 fun K hK=>?_
   go_simp;refine(F2.o).mono ?_;rintro e w6 ⟨rfl,v6,h6,k6⟩;dsimp only;obtain⟨⟨hB,hW,dW⟩,M0,M1,M2,M3⟩:=mN.o;have rC:zC w pb q N x1 x2 a1 a2 w6:=zC.of (M0.aX k6) (M1.aX k6) (M3.aX k6) wC.o wD.o (KK.o.lX (dW.aX hB k6) dX.1 dX.2);refine hK.o _ _ rC (fun _=>?_);clear hK K;obtain⟨d0,d1,g0,g1⟩:=(M3.aX k6).cA;generalize hE:dj q.lz (bu C aC (a1,a2)).1 (bu C aC (a1,a2)).2 (x1,x2)=E at*;obtain⟨uC,y1,y2⟩:=E;simp only at e3 e4 h6;have N0:=((M0.aX k6).a_ (d:=w.heap.size+1+1+1) (by omega) 0 (.int .i64 y1)).a_ (d:=w.heap.size+1+1+1) (by omega) 1 (.int .i64 y2);have N1:=((M1.aX k6).a_ (d:=w.heap.size+1+1+1) (by omega) 0 (.int .i64 y1)).a_ (d:=w.heap.size+1+1+1) (by omega) 1 (.int .i64 y2);have N2:=((M2.aX k6).a_ (d:=w.heap.size+1+1+1) (by omega) 0 (.int .i64 y1)).a_ (d:=w.heap.size+1+1+1) (by omega) 1 (.int .i64 y2);have N3:=((M3.aX k6).setCell 0 (.int .i64 y1)).setCell 1 (.int .i64 y2);have h7:=(h6.set (M3.aX k6).not (by omega) 0 (.int .i64 y1)).set (M3.aX k6).not (by omega) 1 (.int .i64 y2);have W7:=((hW.trans k6).set (c:=w.heap.size+1+1+1) (by omega) 0 (.int .i64 y1)).set (c:=w.heap.size+1+1+1) (by omega) 1 (.int .i64 y2);have S7:=((dW.aX hB k6).set (c:=w.heap.size+1+1+1) (by omega) 0 (.int .i64 y1)).set (c:=w.heap.size+1+1+1) (by omega) 1 (.int .i64 y2)
   have jd:Hid (fK (bu C) q.lz (x1,x2) (m-(j+1)) uC (y1,y2)=fK (bu C) q.lz (x1,x2) m st (x1,x2)):=by
    rw[<-HE.o,show m-j=(m-(j+1))+1 by omega];show _=fK (bu C) q.lz (x1,x2) (m-(j+1)) (dj q.lz (bu C aC (a1,a2)).1 (bu C aC (a1,a2)).2 (x1,x2)).1 (dj q.lz (bu C aC (a1,a2)).1 (bu C aC (a1,a2)).2 (x1,x2)).2
    rw[hE]
   have kh:=ab (And.intro (And.intro h7 (And.intro W7 S7)) (And.intro N0 (And.intro N1 (And.intro N2 N3))));clear hB hW dW M0 M1 M2 M3 h6 k6 rC F2 mN N0 N1 N2 N3 h7 W7 S7 hE HE;refine At (by kernel_rfl) ?_ _;unfold eN;go_wp2_with fail;go_roundg (m-(j+1))
   case measure=>omega
   case rel=>
    obtain⟨⟨h7,W7,S7⟩,N0,N1,N2,N3⟩:=kh.o;exact⟨j+1,v6,uC,y1,y2,by go_num,by omega,rfl,jd,by omega,by omega,e4,h7,W7,S7,N0,N1,N2,N3⟩
  ·have ej:j=m:=(by omega);subst ej;have sP:¬((j:Int)<q.hi-q.lo):=by omega
   have jd:Hid ((aC,(a1,a2))=fK (bu C) q.lz (x1,x2) j st (x1,x2)):=by
    have:=HE.o;rw[Gd]at this;exact this
   obtain⟨c0,c1,_,_⟩:=L3.cA;obtain⟨d0,d1,g0,g1⟩:=L2.cA;have ax:=ab (And.intro hB (And.intro hW L2));clear hB hW dW L0 L1 L2 L3 ud HE;go_wp2_with fail;rw[<-jd.o];exact mR ax.o.1 ax.o.2.1 ax.o.2.2 (by omega) (by omega) results96 rfl rfl
theorem yU{base e size n cap:Nat}{xs:List Value}(h:w.ownsRow base e size (.slice (some ⟨g,0,none⟩) n cap) n xs)(k:Nat)(u:Value):(w.setCell ⟨g,k,none⟩ u).ownsRow base e size (.slice (some ⟨g,0,none⟩) n cap) n (xs.set k u):=by
 obtain⟨h1,h2⟩:=h;refine⟨by simpa using h1,Or.inr ?_⟩;rcases h2 with⟨h2,_⟩|⟨g',Lo,aM,hv,a1,a2,a3,a4,a5,a6⟩
 ·cases h2
 ·cases hv;refine⟨g,cap,aM.setIfInBounds k u,rfl,a1,?_,a3,a4,by simpa using a5,?_⟩
  ·have hb:=(Am.1 a2).1;simp only[World.setCell,Ek];simp[a2]
  ·rw[Array.toList_setIfInBounds,List.take_set,a6]
theorem ahY(vs:List Sv)(a:Nat)(ha:a<vs.length)(s:Sv):((((((jw vs).set (a*6) (.int .i64 s.k)).set (a*6+1) (.slice s.sa s.sn s.sc)).set (a*6+2) (.int .i64 s.ed)).set (a*6+3) (.int .i64 s.sl)).set (a*6+4) (.int .i64 s.nx)).set (a*6+5) (.int .i64 s.ot)=jw (vs.set a s):=by
 induction vs generalizing a with
 |nil=>simp at ha
 |cons q qs ih=>
  cases a with
  |zero=>simp[jw,Sv.cells]
  |succ a=>
   have:=ih a (by simpa using ha);have e:∀j,(a+1)*6+j=a*6+j+1+1+1+1+1+1:=(fun j=>by omega);have e0:(a+1)*6=a*6+1+1+1+1+1+1:=by omega
   simp only[jw,Sv.cells,C0,C7,Ac,e0,this]
def Hn(w:World)(g i:Nat)(s:Sv):World:=(((((w.setCell ⟨g,i,none⟩ (.int .i64 s.k)).setCell ⟨g,i+1,none⟩ (.slice s.sa s.sn s.sc)).setCell ⟨g,i+2,none⟩ (.int .i64 s.ed)).setCell ⟨g,i+3,none⟩ (.int .i64 s.sl)).setCell ⟨g,i+4,none⟩ (.int .i64 s.nx)).setCell ⟨g,i+5,none⟩ (.int .i64 s.ot)
theorem WW(w:World)(g i:Nat)(s:Sv):aa (fun k=>k=g) w (Hn w g i s):=
 ((((((aa.refl (fun k=>k=g) w).setCell (p:=⟨g,i,none⟩) (Or.inl rfl) _).setCell (p:=⟨g,i+1,none⟩) (Or.inl rfl) _).setCell (p:=⟨g,i+2,none⟩) (Or.inl rfl) _).setCell (p:=⟨g,i+3,none⟩) (Or.inl rfl) _).setCell (p:=⟨g,i+4,none⟩) (Or.inl rfl) _).setCell (p:=⟨g,i+5,none⟩) (Or.inl rfl) _
theorem dr.array(h:dr w b lo hi v st)(az:st≠ []):∃g c,v=.slice (some ⟨g,0,none⟩) st.length c/\b+1<=g/\g<w.heap.size/\st.length<=c/\
 (∀i,(hi':i<st.length)->∃s:Sv,gu w lo hi s st[i]/\∀j,j<6->w.cell? ⟨g,i*6+j,none⟩=s.cells[j]? /\w.frozen? ⟨g,i*6+j,none⟩=false):=by
 obtain⟨vs,h1,h2,h3⟩:=h.row;obtain⟨hx,gO⟩:=h1;rcases gO with⟨_,h0⟩|⟨g,cap,aM,rfl,a1,a2,a3,a4,a5,a6⟩
 ·exact absurd (Ax.1 h0) az
 ·refine⟨g,cap,rfl,a1,(Am.1 a2).1,a3,fun i hi'=>⟨vs[i],h3 i (by omega) hi',fun j hj=>⟨?_,by simp[World.frozen?,a2]⟩⟩⟩;have hf:=Pj vs i (by omega) j hj;rw[<-hf,<-a6,Aw (by omega)];simp only[World.cell?,a2];simp
theorem dr.put(h:dr w b lo hi (.slice (some ⟨g,0,none⟩) st.length c) st){a:Nat}(ha:a<st.length){s:Sv}{m:MS}(hs:gu w lo hi s m)(hg:b+1<=g):dr (Hn w g (a*6) s) b lo hi (.slice (some ⟨g,0,none⟩) st.length c) (st.set a m):=by
 have dQ:=h.dQ;have aw:=h.aj.lt;have kk:=WW w g (a*6) s;refine⟨h.aj.kept kk (by omega),?_,dQ,by simpa using h.bJ⟩;obtain⟨vs,h1,h2,h3⟩:=h.row;refine⟨vs.set a s,?_,by simp[h2],fun i a1 a2=>?_⟩
 ·rw[Bm,<-ahY vs a (by omega) s];exact yU (yU (yU (yU (yU (yU h1 _ _) _ _) _ _) _ _) _ _) _ _
 ·simp only[Bm]at a1 a2;by_cases e:i=a
  ·subst e;simp only[List.getElem_set_self];exact hs.kept kk (fun j j1 j2 e=>by omega) (by omega)
  ·rw[List.getElem_set_ne (fun x=>e x.symm),List.getElem_set_ne (fun x=>e x.symm)];exact(h3 i a1 a2).kept kk (fun j j1 j2 e=>by omega) (by omega)
theorem gu.zero(w:World)(lo hi:Nat):gu w lo hi ⟨0,none,0,0,0,0,0,0⟩ bN:=⟨rfl,rfl,rfl,rfl,rfl,by simp[bN],fun e=>by simp[bN]at e⟩
theorem ee.put{w1:World}{v1:Value}(h:ee b w w1 v v1)(hg:v1.ownBlock=some g)(s:Sv):ee b w (Hn w1 g i s) v v1:=
 ⟨h.kept.bZ (WW w1 g i s) (fun k hk e=>by
   subst e;rcases h.aj k hg with h1|h1
   ·exact Or.inr h1
   ·omega),h.aj⟩
theorem bc.put{cs:Array Value}(h:bc w b v c cs t)(hg:v.ownBlock=some g)(i:Nat)(s:Sv):bc (Hn w g i s) b v c cs t:=
 ⟨h.aj.kept (WW w g i s) (fun e=>h.not (Or.inr (e▸hg))),h.not⟩
def Zd(b g c B3 p n:Nat)(s:Sv)(w':World):Prop:=
 w'.cell? ⟨b,0,none⟩=some (.slice (some ⟨g,0,none⟩) n c)/\w'.cell? ⟨B3,1,none⟩=some (.int .i64 p)/\
 w'.cell? ⟨g,p*6,none⟩=some (.int .i64 s.k)/\w'.cell? ⟨g,p*6+1,none⟩=some (.slice s.sa s.sn s.sc)/\w'.cell? ⟨g,p*6+2,none⟩=some (.int .i64 s.ed)/\w'.cell? ⟨g,p*6+3,none⟩=some (.int .i64 s.sl)/\w'.cell? ⟨g,p*6+4,none⟩=some (.int .i64 s.nx)/\w'.cell? ⟨g,p*6+5,none⟩=some (.int .i64 s.ot)
theorem aoB(W:World)(p q:Int):(Instr.field 115 (.agg #[.int .i64 p,.int .i64 q]) 0).run prog W=.ok (.int .i64 p) W:=by
 simp[Instr.field,asAgg,go_sem]
theorem akJ(h:dr w b lo hi v st)(x:Ex)(hx:da st.length x)(hS:fa lo hi w0 w)(dD:C.ok)(aP:C.sz<=1000)(hP:wJ b lo hi w0 N C)
 (mX:q.pa=some ⟨pb,0,none⟩)(iJ:q.pn=1)(dX:lo<=pb/\pb<hi)(hK:oT w0 pb 0 N)(dw:st.length+(4*C.sz.toNat+3)<=9000):
 Calls prog 95 #[.pointer (some ⟨b,0,none⟩),Nv.val q,cJ x] w (l9 w b lo hi v (ny (bu C) q.lz st x).1 (cJ (ny (bu C) q.lz st x).2)):=by
 have aw:=h.aj.lt;have dQ:=h.dQ;obtain⟨x1,x2⟩:=x;have jX:pb<w.heap.size:=by omega
 have h1:=h.alloc (.cells q.cells 64);have h2:=h1.alloc (.cells (aI (x1,x2)) 115);have h3:=h2.alloc (.cells (aI (0,0)) 115);have l0:=((bc.new h q.cells 64).alloc (.cells (aI (x1,x2)) 115)).alloc (.cells (aI (0,0)) 115);have l1:=(bc.new h1 (aI (x1,x2)) 115).alloc (.cells (aI (0,0)) 115);have l2:=bc.new h2 (aI (0,0)) 115;have W4:=(((ee.refl b w v).alloc (.cells q.cells 64)).alloc (.cells (aI (x1,x2)) 115)).alloc (.cells (aI (0,0)) 115);have S4:=((hS.alloc (by omega) (.cells q.cells 64)).alloc (by simp;omega) (.cells (aI (x1,x2)) 115)).alloc (by simp;omega) (.cells (aI (0,0)) 115);simp only[ij]at l1 l2;have iz:=od C dD aP;have s_:da (st++[bN]).length (-1,(st.length:Int)):=by unfold da;simp;omega
 have XN:=iz.fI (st++[bN]) (-1,st.length) s_;have g2:=iz.grow (st++[bN]) (-1,st.length);have n2:=iz.bJ (st++[bN]) (-1,st.length);have mV:(st++[bN]).length=st.length+1:=by simp
 rw[mV]at g2 n2;have F1:=IA h3 (gu.zero _ lo hi) (by omega);simp only[Sv.val,Sv.cells,aI,Nv.cells]at F1;simp only[aI]at l1 l2;have mH:=ab F1;clear F1;have du:=ab (And.intro (And.intro l0 (And.intro l1 l2)) (And.intro W4 (And.intro h3 S4)));have HP:=ab hP;have wC:=ab mX;have wD:=ab iJ;have KK:=ab hK;unfold ny qm;generalize hR:bu C (st++[bN]) (-1,st.length)=R at*;obtain⟨S1,t1,u1⟩:=R;simp only at XN g2 n2⊢;have e3:=tP q.lz S1 (t1,t1) (x1,x2);have e4:=(yg (st:=S1) q.lz (f:=(t1,t1)) ⟨XN.2,XN.2⟩ (hx.mono (by omega)).lU (Or.inr (by have:=hx.1;omega))).1;generalize hE:dj q.lz S1 (t1,t1) (x1,x2)=E at*;obtain⟨S2,y1,y2⟩:=E;simp only at e3 e4⊢;obtain⟨p,rfl⟩:∃p:Nat,y2=p:=⟨y2.toNat,by have:=e4.1;omega⟩
 have hp:p<S2.length:=by have:=e4.1;omega
 have eg:S2.getD (p:Int).toNat bN=S2[p]:=by rw[Ay,Af,Ae hp];rfl
 rw[eg];clear eg;have HR:=ab hR;have HE:=ab hE;clear h h1 h2 h3 l0 l1 l2 W4 S4 hS hP iz mX iJ hK hR hE;simp only[Nv.val,cJ,Nv.cells];go_in;go_wp2_with fail;refine(mH.o).mono ?_;rintro e w5 ⟨rfl,v5,h5,k5⟩;obtain⟨⟨l0,l1,l2⟩,W4,h4,S4⟩:=du.o;have m0:=l0.aX k5;have S5:=S4.aX h4 k5;have kE:=tK.of m0 wC.o wD.o (KK.o.lX S5 dX.1 dX.2);obtain⟨⟨s0,s1⟩,⟨s2,s3,s4,s5⟩,s6,s7,s8,s9⟩:=kE;have F2:=HP.o w5 v5 (st++[bN]) (-1,st.length) h5 s_ S5 (by omega);rw[HR.o]at F2;simp only[Nv.val,Nv.cells,cJ]at F2;have J_:=ab F2;clear F2;have PK:=ab (And.intro (And.intro h5 (And.intro (W4.trans k5) S5)) (And.intro m0 (And.intro (l1.aX k5) (l2.aX k5))));clear l0 l1 l2 W4 h4 S4 m0 S5 h5 k5 du mH;go_wp2_with fail;refine(J_.o).mono ?_;rintro e w6 ⟨rfl,v6,h6,k6⟩;obtain⟨⟨h5,W5,S5⟩,M0,M1,M2⟩:=PK.o;obtain⟨_,_,_,_,_,_,_,z7⟩:=(M0.aX k6).gZ;obtain⟨c0,c1,_,_⟩:=(M1.aX k6).cA;have F3:=aaB h6 q.lz (t1,t1) (x1,x2) (by omega);rw[HE.o]at F3;simp only[cJ]at F3;have X0:=ab F3;clear F3;have mN:=ab (And.intro (And.intro h6 (And.intro (W5.trans k6) (S5.aX h5 k6))) (M2.aX k6));clear h5 W5 S5 M0 M1 M2 h6 k6 PK J_ s0 s1 s2 s3 s4 s5 s6 s7 s8 s9;have bC:=aoB w6 t1 u1;go_wp2_with fail;refine(X0.o).mono ?_;rintro e w7 ⟨rfl,v7,h7,k7⟩;obtain⟨⟨h6,W6,S6⟩,M2⟩:=mN.o;have m2:=M2.aX k7;have W7:=W6.trans k7;have sz7:=W7.kept.size;obtain⟨g,c7,BP,Gl,tY,hg3,UH⟩:=h7.array (by intro e;rw[e]at hp;simp at hp);obtain⟨s,qH,jj⟩:=UH p hp;obtain⟨s',ajK,sO⟩:=UH st.length (by omega);subst BP;have ka:aa af w7 ((w7.alloc (.cells #[.int .i64 y1,.int .i64 (p:Int)] 115)).drew):=((aa.refl af w7).alloc _).drew;have cell:∀j u,w7.cell? ⟨g,j,none⟩=u->((w7.alloc (.cells #[.int .i64 y1,.int .i64 (p:Int)] 115)).drew).cell? ⟨g,j,none⟩=u:=fun j u hu=>(ka.cell (p:=⟨g,j,none⟩) tY (fun hx=>hx)).trans hu
 have ak:Zd b g c7 w7.heap.size p S2.length s ((w7.alloc (.cells #[.int .i64 y1,.int .i64 (p:Int)] 115)).drew):=
  ⟨(h7.aj.kept ka (fun hx=>hx)).cell 0,(aq.new w7 #[.int .i64 y1,.int .i64 (p:Int)] 115).cell 1,cell _ _ (jj 0 (by omega)).1,cell _ _ (jj 1 (by omega)).1,cell _ _ (jj 2 (by omega)).1,cell _ _ (jj 3 (by omega)).1,cell _ _ (jj 4 (by omega)).1,cell _ _ (jj 5 (by omega)).1⟩
 have PS:=ab ak;have hpi:(p:Int)<(S2.length:Int):=by omega
 have GI:(st.length:Int)<(S2.length:Int):=by omega
 clear ak X0 mN;go_wp2_with fail;refine gW (S:=Zd b g c7 w7.heap.size p S2.length s) 14 (by kernel_rfl) rfl rfl rfl (by kernel_rfl) (by kernel_rfl) ?_;have ak:=PS.o;refine ai 0 30 (.pointer (some ⟨b,0,none⟩)) ak ?_;refine ai 1 31 (.pointer (some ⟨b,0,none⟩)) ak ?_;refine ai 2 32 (.pointer (some ⟨b,0,none⟩)) ak ?_;refine ai 3 33 (.slice (some ⟨g,0,none⟩) S2.length c7) ak ?_;refine ai 4 34 (.int .i64 st.length) ak ?_;refine ai 5 35 (.pointer (some ⟨b,0,none⟩)) ak ?_;refine ai 6 36 (.pointer (some ⟨b,0,none⟩)) ak ?_;refine ai 7 37 (.pointer (some ⟨b,0,none⟩)) ak ?_;refine ai 8 38 (.slice (some ⟨g,0,none⟩) S2.length c7) ak ?_;refine ai 9 39 (.pointer (some ⟨w7.heap.size,1,none⟩)) ak ?_;refine ai 10 40 (.int .i64 p) ak ?_;refine ai 11 41 (.pointer (some ⟨g,p*6,none⟩)) ak ?_;refine ai 12 42 (.agg #[.int .i64 s.k,.slice s.sa s.sn s.sc,.int .i64 s.ed,.int .i64 s.sl,.int .i64 s.nx,.int .i64 s.ot]) ak ?_;refine ai 13 43 (.pointer (some ⟨g,st.length*6,none⟩)) ak ?_;simp only[Act.put,Aa,Ad,Ac];refine At (by kernel_rfl) ?_ _;unfold eN;dsimp only;have q0:w7.cell? ⟨g,st.length*6,none⟩=some (.int .i64 s'.k):=(sO 0 (by omega)).1;have r0:w7.frozen? ⟨g,st.length*6,none⟩=false:=(sO 0 (by omega)).2;have q1:w7.cell? ⟨g,st.length*6+1,none⟩=some (.slice s'.sa s'.sn s'.sc):=(sO 1 (by omega)).1;have r1:w7.frozen? ⟨g,st.length*6+1,none⟩=false:=(sO 1 (by omega)).2;have q2:w7.cell? ⟨g,st.length*6+2,none⟩=some (.int .i64 s'.ed):=(sO 2 (by omega)).1;have r2:w7.frozen? ⟨g,st.length*6+2,none⟩=false:=(sO 2 (by omega)).2;have q3:w7.cell? ⟨g,st.length*6+3,none⟩=some (.int .i64 s'.sl):=(sO 3 (by omega)).1;have r3:w7.frozen? ⟨g,st.length*6+3,none⟩=false:=(sO 3 (by omega)).2;have q4:w7.cell? ⟨g,st.length*6+4,none⟩=some (.int .i64 s'.nx):=(sO 4 (by omega)).1;have r4:w7.frozen? ⟨g,st.length*6+4,none⟩=false:=(sO 4 (by omega)).2;have q5:w7.cell? ⟨g,st.length*6+5,none⟩=some (.int .i64 s'.ot):=(sO 5 (by omega)).1;have r5:w7.frozen? ⟨g,st.length*6+5,none⟩=false:=(sO 5 (by omega)).2;have h9:=h7.put (a:=st.length) (by omega) qH Gl;have W9:=W7.put (i:=st.length*6) (g:=g) rfl s;have Ng:=m2.put (g:=g) rfl (st.length*6) s;have szp:(Hn w7 g (st.length*6) s).heap.size=w7.heap.size:=by simp[Hn,World.setCell]
 have h9b:=(h9.set Ng.not (by omega) 0 (.int .i64 y1)).set Ng.not (by omega) 1 (.int .i64 (p:Int));have ZI:=(W9.set (c:=w.heap.size+1+1) (by omega) 0 (.int .i64 y1)).set (c:=w.heap.size+1+1) (by omega) 1 (.int .i64 (p:Int));have n2b:=(Ng.setCell 0 (.int .i64 y1)).setCell 1 (.int .i64 (p:Int));have h10:=h9b.alloc (.cells #[.int .i64 y1,.int .i64 (p:Int)] 115);have ZE:=ZI.alloc (.cells #[.int .i64 y1,.int .i64 (p:Int)] 115);have n2q:=(n2b.alloc (.cells #[.int .i64 y1,.int .i64 (p:Int)] 115)).aj;have h11:=h10.new ((aa.refl af _).drew);have ZF:=ZE.new ((aa.refl af _).drew);have n2r:=n2q.drew;obtain⟨d0,d1,f0,f1⟩:=Ng.cA;have mS:w.heap.size+1+1<w7.heap.size:=m2.aj.lt;have kT:g≠w.heap.size+1+1:=fun e=>m2.not (Or.inr (by rw[<-e];rfl))
 have ax:=ab (And.intro h11 (And.intro ZF n2r));simp only[Hn]at d0 d1 f0 f1;clear h9 W9 Ng h9b ZI n2b h10 ZE n2q h11 ZF n2r qH ajK jj sO UH PS ak h7 k7 m2 M2 h6 W6 S6 W7 ka cell;simp only[Ak,Ah,Ai];go_simp;clear q0 q1 q2 q3 q4 q5 r0 r1 r2 r3 r4 r5 hpi GI;go_wp2_with fail;refine aaM (x:=(y1,(p:Int))) results95 rfl rfl ?_ ?_
 ·exact ax.o.2.2
 ·exact⟨rfl,_,ax.o.1,ax.o.2.1⟩
