/- A region that dr -/
import Derived.Test.YtpdnofhackjfdaaGreatDoorP13
set_option linter.all false
set_option maxRecDepth 100000
set_option maxHeartbeats 4000000
namespace Go.Proofs.YtpdnofhackjfdaaGreatDoor
open Go.Proofs.Tryz
open Go.RowKit
variable {a:Act} {K:Act->World->Prop} {dN:Array Bool} {ops:Array Oper} {C:CT} {Q:Exit->Act->World->Prop} {st:List MS} {L b c fuel g hi i lo pb:Nat} {N q:Nv} {o oL oi:Oper} {P:Program} {md:Region.Mode} {t:TypeId} {v:Value} {w w0:World} {S:World->Prop}
def Jb(ops:Array Oper):Bool:=(List.range ops.size).all fun i=>((ops[i]?).map (·.after.all fun e=>decide (e.on<i))).getD true
def KE(ops:Array Oper)(L:Nat):Bool:=(List.range L).all fun i=>(List.range (L+1)).any fun j=>decide (i<j)&&((ops[j]?).map (·.after.any fun e=>Region.binds .any e&&e.on==i)).getD false
def eo(P:Program)(o:Oper)(Q:Exit->Act->World->Prop):Exit->Act->World->Prop
 |.normal,a,w=>o.wp P a w (fun a' w'=>Q .normal a' w') Q
 |e,a,w=>Q e a w
theorem aay(h:Jb ops=true)(ho:ops[i]? =some o):∀e∈o.after,e.on<i:=by
 unfold Jb at h;rw[List.all_eq_true]at h;have hi:i<ops.size:=(Am.1 ho).1;have h1:=h i (Eu.2 hi);rw[ho]at h1;simp only[Da,De]at h1;intro e he;have:=Array.all_eq_true_iff_forall_mem.1 h1 e he;simpa using this
theorem apU(h:KE ops L=true)(hi:i<L):∃j o,i<j/\j<=L/\ops[j]? =some o/\∃e∈o.after,Region.binds .any e=true/\e.on=i:=by
 unfold KE at h;rw[List.all_eq_true]at h;have h1:=h i (Eu.2 hi);rw[Cu]at h1;obtain⟨j,hj,h2⟩:=h1;have Nb:=Eu.1 hj;simp only[Cq,A5]at h2
 cases ho:ops[j]? with
 |none=>rw[ho]at h2;simp at h2
 |some o=>
  rw[ho]at h2;simp only[Da,De]at h2;obtain⟨k,hk,h3⟩:=Array.any_eq_true.1 h2.2;simp at h3;exact⟨j,o,h2.1,by omega,ho,o.after[k],Array.getElem_mem hk,h3.1,h3.2⟩
theorem apH(r:Result Next)(h:o.upon P a K (eo P oL Q) r):o.upon P a K Q r:=by
 cases r with
 |ok n w'=>
  cases n<;>simp only[Oper.upon]at h⊢ <;>first
   |exact h
   |exact Calls.mono h (fun e qx he=>by cases e<;>exact he)
 |halt x w'=>cases x<;>simp only[Oper.upon]at h⊢ <;>exact h
theorem aqd(h:wpOp P ops (eo P oL Q) i K a w):wpOp P ops Q i K a w:=by
 unfold wpOp at*;split
 ·rename_i ho;simp only[ho]at h;exact h
 ·rename_i o ho
  simp only[ho]at h;split
  ·rename_i hw
   simp only[hw,if_true]at h;rcases h with h|h
   ·exact Or.inl (apH _ h)
   ·exact Or.inr h
  ·rename_i hw;simp only[hw]at h;exact h
theorem af5(hL:ops[L]? =some oL)(aW:ops.size=L+1)(hg:oL.guard=none)(vU:Jb ops=true)(Ia:KE ops L=true):
 ∀(fuel:Nat) (dN:Array Bool) (a:Act) (w:World),dN.size=L+1->dN.getD L true=false->(∀i o,ops[i]? =some o->dN.getD i false=true->∀e∈o.after,Region.binds .any e=true->dN.getD e.on false=true)->
  wpAny P .any ops (eo P oL Q) fuel (dN.setIfInBounds L true) a w->wpAny P .any ops Q (fuel+1) dN a w:=by
 have acR:∀a:Act,Region.wanted oL (yielded ops a.tmps)=true:=fun a=>by simp[Region.wanted,hg]
 have agx:∀dN:Array Bool,(∀i o,ops[i]? =some o->dN.getD i false=true->∀e∈o.after,Region.binds .any e=true->dN.getD e.on false=true)->L∈Region.ready .any ops dN->∀i,i<L->dN.getD i false=true:=by
  intro dN fC hr;obtain⟨_,o,ho,nP⟩:=mem_ready.1 hr;rw[hL]at ho;cases ho
  have:∀d i,i<L->L-i<=d->dN.getD i false=true:=by
   intro d;induction d with
   |zero=>intro i h1 h2;omega
   |succ d ih=>
    intro i h1 h2;obtain⟨j,o,cY,hjL,WH,e,he,hb,hon⟩:=apU Ia h1;by_cases hj:j=L
    ·subst hj;rw[hL]at WH;cases WH;rw[<-hon];exact nP e he hb
    ·have:=fC j o WH (ih j (by omega) (by omega)) e he hb;rw[hon]at this;exact this
  intro i hi;exact this (L-i) i hi (Ab _)
 have afr:∀dN:Array Bool,dN.size=L+1->dN.getD L true=false->(Region.ready .any ops dN=[]->False):=by
  intro dN tn Jy hr
  have aj4:∀i,i<L->dN.getD i false=true:=by
   intro i;induction i using Nat.strongRecOn with
   |ind i ih=>
    intro hi;apply C8;intro aB;have az:i<dN.size:=by omega
    have hf:dN.getD i true=false:=by
     simp only[Array.getD,az,dite_true]at aB⊢;simpa using aB
    have hio:i<ops.size:=by omega
    have:i∈Region.ready .any ops dN:=mem_ready.2 ⟨hf,ops[i],Array.getElem?_eq_getElem hio,fun e he _=>by
     have:=aay vU (Array.getElem?_eq_getElem hio) e he;exact ih e.on this (by omega)⟩
    rw[hr]at this
    cases this
  have:L∈Region.ready .any ops dN:=mem_ready.2 ⟨Jy,oL,hL,fun e he _=>aj4 _ (aay vU hL e he)⟩;rw[hr]at this
  cases this
 have aic:∀dN:Array Bool,dN.size=L+1->(∀i,i<L->dN.getD i false=true)->Region.ready .any ops (dN.setIfInBounds L true)=[]:=by
  intro dN tn nP;apply List.eq_nil_iff_forall_not_mem.2;intro j hj;obtain⟨h0,o,ho,_⟩:=mem_ready.1 hj;have hjs:j<L+1:=by rw[<-aW];exact(Am.1 ho).1
  by_cases e:j=L
  ·subst e;simp[Array.getD,tn]at h0
  ·have:=getD_set_true (i:=L) (nP j (by omega));have az:j<(dN.setIfInBounds L true).size:=by simp;omega
   simp only[Array.getD,az,dite_true]at h0 this;rw[h0]at this
   cases this
 intro fuel;induction fuel with
 |zero=>
  intro dN a w tn Jy fC h;refine⟨fun hr=>(afr dN tn Jy hr).elim,fun i hi=>?_⟩;by_cases e:i=L
  ·subst e;unfold wpOp;simp only[hL,acR,if_true];exact Or.inl (Oper.wp_mono (fun a' w' hq=>⟨h.1,hq⟩) h.2)
  ·have:=ready_mono hi e;rw[h.1]at this
   cases this
 |succ fuel ih=>
  intro dN a w tn Jy fC h;refine⟨fun hr=>(afr dN tn Jy hr).elim,fun i hi=>?_⟩;by_cases e:i=L
  ·subst e;have hd:=aic dN tn (agx dN fC hi);unfold wpOp;simp only[hL,acR,if_true];exact Or.inl (Oper.wp_mono (fun a' w' hq=>⟨fun _=>hq,fun k hk=>by rw[hd]at hk;cases hk⟩) (h.1 hd))
  ·have h1:=aqd (h.2 i (ready_mono hi e));refine wpOp_mono (fun a' w' h2=>ih (dN.setIfInBounds i true) a' w' (by simp[tn]) (by rw[getD_set_ne true e];exact Jy) (fun k o hk hl e' M4 hb=>?_) (by rw[Array.setIfInBounds_comm _ _ e];exact h2)) h1;by_cases xJ:k=i
   ·subst xJ;obtain⟨_,o',CP,nP⟩:=mem_ready.1 hi;rw[hk]at CP;cases CP;exact getD_set_true (nP e' M4 hb)
   ·rw[getD_set_ne false (fun e=>xJ e.symm)]at hl;exact getD_set_true (fC k o hk hl e' M4 hb)
theorem gD{id:Nat}(L:Nat)(hm:P.follows .mixedOrders=true)(hL:ops[L]? =some oL)(aW:ops.size=L+1)(hg:oL.guard=none)(vU:Jb ops=true)(Ia:KE ops L=true)
 (h:wpAnyH P .any ops (eo P oL Q) S L ((Array.replicate (L+1) false).setIfInBounds L true) a w.drew):(Code.region id ops true).wp P Q a w:=by
 refine Cl hm ?_;rw[aW];refine af5 hL aW hg vU Ia L _ a _ (by simp) (by simp[Array.getD]) (fun i o ho hl=>?_) (Ci _ _ _ _ h);simp[Array.getD]at hl
theorem mP(i:Nat)(d:Tmp)(v:Value)(hi:ops[i]? =some oi)(hd:oi.dst=some d)
 (hs:Region.noSelect ops=true)(hf:Region.free md ops dN i=true)(hr:(Region.ready md ops dN).contains i=true)
 (hQ:∀c a w,Q (.panic c) (a.put oi.dst v) w->Q (.panic c) a w)(hy:YieldsIf P ops S oi v a)(hS:S w)
 (h:wpAnyH P md ops Q S fuel (dN.setIfInBounds i true) (a.put (some d) v) w):wpAnyH P md ops Q S (fuel+1) dN a w:=
 Dx hi hs hf hr hQ hy hS (by rw[hd];exact h)
theorem aj(i:Nat)(d:Tmp)(v:Value)(hS:S w)
 (h:wpAnyH P md ops Q S fuel (dN.setIfInBounds i true) (a.put (some d) v) w)
 (hi:ops[i]? =some oi:=by rfl)(hd:oi.dst=some d:=by rfl)(hs:Region.noSelect ops=true:=by kernel_rfl)(hf:Region.free md ops dN i=true:=by kernel_rfl)(hr:(Region.ready md ops dN).contains i=true:=by kernel_rfl)
 (hQ:∀c a w,Q (.panic c) (a.put oi.dst v) w->Q (.panic c) a w:=by exact fun _ _ _ h=>h)(hy:YieldsIf P ops S oi v a:=by exact Or.inl ⟨by rfl,fun W ff=>by first|(go_simp;done)|(cases ff;repeat cases ‹_/\_›;go_simp)⟩):wpAnyH P md ops Q S (fuel+1) dN a w:=
 mP i d v hi hd hs hf hr hQ hy hS h
theorem bR(i:Nat)
 (h:∀K':Act->World->Prop,Go.Shut (∀a w,S w->(S w->wpAnyH P md ops Q S fuel (dN.setIfInBounds i true) a w)->K' a w)->if Region.wanted o (yielded ops a.tmps)=true then Oper.wp P o a w K' Q else K' (a.put o.dst undef) w)
 (hr:Region.ready md ops dN=[i]:=by kernel_rfl)(ho:ops[i]? =some o:=by rfl):wpAnyH P md ops Q S (fuel+1) dN a w:=Ge hr (by simp) (Dl ho h Fu)
open Go.Maps
theorem bk.iq(h:bk w b v c q.cells t):
 w.cell? (GB c 0)=some (GW q.k)/\w.cell? (GB c 1)=some (.slice q.pa q.pn q.pc)/\w.cell? (GB c 2)=some (.slice q.sa q.sn q.sc)/\w.cell? (GB c 3)=some (GW q.ed)/\w.cell? (GB c 4)=some (GW q.gr)/\w.cell? (GB c 5)=some (GW q.lo)/\w.cell? (GB c 6)=some (GW q.hi)/\w.cell? (GB c 7)=some (.bool q.lz):=h.aq.iq
def tZ(w':World)(B0 pb:Nat)(q N:Nv):Prop:=
 (w'.cell? (GB B0 1)=some (.slice (some (GB pb 0)) 1 q.pc)/\w'.cell? (GB B0 7)=some (.bool q.lz))/\
 (w'.cell? (GB pb 0)=some (GW N.k)/\w'.cell? (GB pb 1)=some (.slice N.pa N.pn N.pc)/\w'.cell? (GB pb 2)=some (.slice N.sa N.sn N.sc)/\w'.cell? (GB pb 3)=some (GW N.ed))/\
   w'.cell? (GB pb 4)=some (GW N.gr)/\w'.cell? (GB pb 5)=some (GW N.lo)/\w'.cell? (GB pb 6)=some (GW N.hi)/\w'.cell? (GB pb 7)=some (.bool N.lz)
theorem tZ.of{B0:Nat}(h:bk w b v B0 q.cells t)(nd:q.pa=some (GB pb 0))(iY:q.pn=1)(hK:o9 w pb 0 N):tZ w B0 pb q N:=by
 obtain⟨_,e1,_,_,_,_,_,e7⟩:=h.iq;rw[nd,iY]at e1;exact⟨⟨e1,e7⟩,hK.zero⟩
def AL(w:World)(pb:Nat)(q N:Nv)(x1 x2 a1 a2:Int)(w':World):Prop:=
 tZ w' w.heap.size pb q N/\(w'.cell? ⟨w.heap.size+1,0,none⟩=some (GW x1)/\w'.cell? ⟨w.heap.size+1,1,none⟩=some (GW x2))/\w'.cell? ⟨w.heap.size+1+1+1,0,none⟩=some (GW a1)/\w'.cell? ⟨w.heap.size+1+1+1,1,none⟩=some (GW a2)
theorem AL.of{W:World}{x1 x2 a1 a2:Int}{t':TypeId}(h0:bk W b v w.heap.size q.cells t)(h1:bk W b v (w.heap.size+1) #[GW x1,GW x2] t')(h3:bk W b v (w.heap.size+1+1+1) #[GW a1,GW a2] t')(nd:q.pa=some (GB pb 0))(iY:q.pn=1)(hK:o9 W pb 0 N):AL w pb q N x1 x2 a1 a2 W:=
 ⟨tZ.of h0 nd iY hK,⟨h1.cM.1,h1.cM.2.1⟩,h3.cM.1,h3.cM.2.1⟩
theorem amt(h:dz w b lo hi v st)(x:Ex)(hx:df st.length x)(hS:ft lo hi w0 w)(dB:C.ok)(aW:0<(q.hi-q.lo).toNat->C.sz<=1000)(hP:0<(q.hi-q.lo).toNat->xo b lo hi w0 N C)
 (nd:q.pa=some (GB pb 0))(iY:q.pn=1)(ee:lo<=pb/\pb<hi)(hK:o9 w0 pb 0 N)(hr:(0<=q.lo/\q.lo<=20)/\(0<=q.hi/\q.hi<=20)/\q.lo<=q.hi)(dy:st.length+(q.hi-q.lo).toNat*(4*C.sz.toNat+2)<=9000):
 Calls prog 96 #[BT b 0,Nv.val q,cO x] w (ml w b lo hi v (fT (bB C) q.lz x (q.hi-q.lo).toNat st x).1 (cO (fT (bB C) q.lz x (q.hi-q.lo).toNat st x).2)):=by
 have az:=h.aq.lt;have dW:=h.dW;obtain⟨x1,x2⟩:=x;have oH:pb<w.heap.size:=by omega
 have h1:=h.alloc (.cells q.cells 64);have h2:=h1.alloc (.cells (aM (x1,x2)) 115);have h3:=h2.alloc (.cells (aM (0,0)) 115);have h4:=h3.alloc (.cells (aM (x1,x2)) 115);have l0:=(((bk.new h q.cells 64).alloc (.cells (aM (x1,x2)) 115)).alloc (.cells (aM (0,0)) 115)).alloc (.cells (aM (x1,x2)) 115);have l1:=((bk.new h1 (aM (x1,x2)) 115).alloc (.cells (aM (0,0)) 115)).alloc (.cells (aM (x1,x2)) 115);have l2:=(bk.new h2 (aM (0,0)) 115).alloc (.cells (aM (x1,x2)) 115);have l3:=bk.new h3 (aM (x1,x2)) 115;have W4:=((((ey.refl b w v).alloc (.cells q.cells 64)).alloc (.cells (aM (x1,x2)) 115)).alloc (.cells (aM (0,0)) 115)).alloc (.cells (aM (x1,x2)) 115);have S4:=(((hS.alloc (by omega) (.cells q.cells 64)).alloc (by simp;omega) (.cells (aM (x1,x2)) 115)).alloc (by simp;omega) (.cells (aM (0,0)) 115)).alloc (by simp;omega) (.cells (aM (x1,x2)) 115);simp only[iy]at l1 l2 l3;simp only[aM]at l1 l2 l3;have iO:=fun h0=>oo C dB (aW h0)
 have dD:=ab (And.intro (And.intro l0 (And.intro l1 (And.intro l2 l3))) (And.intro W4 (And.intro h4 S4)));have HP:=ab hP;have HB:=ab iO;have hd:(0:Int)<=q.hi-q.lo/\q.hi-q.lo<=20:=by omega
 generalize hm:(q.hi-q.lo).toNat=m at*
 have uE:q.hi-q.lo=(m:Int):=by omega
 have Ps:=ab uE;have xi:=ab nd;have xj:=ab iY;clear h h1 h2 h3 h4 l0 l1 l2 l3 W4 S4 hS hP iO hm uE nd iY;simp only[Nv.val,cO,Nv.cells];go_in;go_wp2_with fail
 go_loopg [14] m (fun kk i wr=>∃(j:Nat) (v1:Value) (aD:List MS) (a1 a2:Int),i=GW j/\j<=m/\kk=m-j/\Hid (fT (bB C) q.lz (x1,x2) (m-j) aD (a1,a2)=fT (bB C) q.lz (x1,x2) m st (x1,x2))/\st.length<=aD.length/\aD.length+(m-j)*(4*C.sz.toNat+2)<=9000/\df aD.length (a1,a2)/\
  dz wr b lo hi v1 aD/\ey b w wr v v1/\ft lo hi w0 wr/\bk wr b v1 w.heap.size q.cells 64/\bk wr b v1 (w.heap.size+1) #[GW x1,GW x2] 115/\bk wr b v1 (w.heap.size+1+1) #[GW 0,GW 0] 115/\bk wr b v1 (w.heap.size+1+1+1) #[GW a1,GW a2] 115)
 case atStart=>
  obtain⟨⟨l0,l1,l2,l3⟩,W4,h4,S4⟩:=dD.o;exact⟨0,v,st,x1,x2,rfl,Al _,rfl,rfl,Ab _,dy,hx,h4,W4,S4,l0,l1,l2,l3⟩
 case round=>
  clear dD;obtain⟨j,v1,aD,a1,a2,rfl,hj,rfl,HE,gW,bT,tC,hB,hW,d_,L0,L1,L2,L3⟩:=hrel;have uE:=Ps.o;by_cases jP:j<m
  ·have th:(j:Int)<q.hi-q.lo:=(by omega);have kH:=tZ.of L0 xi.o xj.o (hK.mh d_ ee.1 ee.2);obtain⟨c0,c1,_,_⟩:=L1.cM;obtain⟨d0,d1,g0,g1⟩:=L3.cM;clear uE;have xb:=df.mono hx gW;have b1:=(HB.o (by omega)).fQ aD (a1,a2) tC;have b2:=(HB.o (by omega)).bN aD (a1,a2);have b3:=(HB.o (by omega)).grow aD (a1,a2);have e3:=uf q.lz (bB C aD (a1,a2)).1 (bB C aD (a1,a2)).2 (x1,x2);have e4:=(yQ (st:=(bB C aD (a1,a2)).1) q.lz b1.l_ (xb.mono b3.1).l_ (Or.inl (by have:=b1.1;omega))).1
   have hmul:(m-j)*(4*C.sz.toNat+2)=(m-(j+1))*(4*C.sz.toNat+2)+(4*C.sz.toNat+2):=by
    obtain⟨d,hd⟩:∃d,m-j=d+1:=⟨m-j-1,by omega⟩
    rw[hd,show m-(j+1)=d by omega,Fh]
   have jb:=hB.new ((aa.refl ai wr).drew);have nO:=hW.new ((aa.refl ai wr).drew);have gU:ft lo hi w0 wr.drew:=d_;have M0:bk wr.drew b v1 w.heap.size q.cells 64:=⟨L0.aq,L0.not⟩;have M1:bk wr.drew b v1 (w.heap.size+1) #[GW x1,GW x2] 115:=⟨L1.aq,L1.not⟩;have M2:bk wr.drew b v1 (w.heap.size+1+1) #[GW 0,GW 0] 115:=⟨L2.aq,L2.not⟩;have M3:bk wr.drew b v1 (w.heap.size+1+1+1) #[GW a1,GW a2] 115:=⟨L3.aq,L3.not⟩;have F1:=HP.o (by omega) wr.drew v1 aD (a1,a2) jb tC gU (by omega);simp only[Nv.val,Nv.cells,cO]at F1;have F1:=ab F1;have PK:=ab (And.intro (And.intro jb (And.intro nO gU)) (And.intro M0 (And.intro M1 (And.intro M2 M3))));have KK:=ab hK;clear hB hW d_ L0 L1 L2 L3 jb nO gU M0 M1 M2 M3 hK;have acE:tZ wr.drew w.heap.size pb q N:=kH;have PS:=ab (And.intro acE (And.intro (And.intro c0 c1) (And.intro d0 d1)));clear kH acE c0 c1 d0 d1;go_wp2_with fail;refine gD (S:=AL w pb q N x1 x2 a1 a2) 12 (by kernel_rfl) rfl rfl rfl (by kernel_rfl) (by kernel_rfl) ?_;have ak:AL w pb q N x1 x2 a1 a2 wr.drew:=PS.o;refine Dx (i:=0) (v:=BT b 0) rfl (by kernel_rfl) (by kernel_rfl) (by kernel_rfl) (fun _ _ _ h=>h) (Or.inl ⟨by rfl,fun W ff=>by obtain⟨⟨⟨s0,s1⟩,⟨s2,s3,s4,s5⟩,s6,s7,s8,s9⟩,⟨zP,wP⟩,tL,zQ⟩:=ff;go_simp⟩) ak ?_;simp only[Act.put,Aa];refine Dx (i:=1) (v:=BT w.heap.size 7) rfl (by kernel_rfl) (by kernel_rfl) (by kernel_rfl) (fun _ _ _ h=>h) (Or.inl ⟨by rfl,fun W ff=>by obtain⟨⟨⟨s0,s1⟩,⟨s2,s3,s4,s5⟩,s6,s7,s8,s9⟩,⟨zP,wP⟩,tL,zQ⟩:=ff;go_simp⟩) ak ?_;simp only[Act.put];refine Dx (i:=2) (v:=.bool q.lz) rfl (by kernel_rfl) (by kernel_rfl) (by kernel_rfl) (fun _ _ _ h=>h) (Or.inl ⟨by rfl,fun W ff=>by obtain⟨⟨⟨s0,s1⟩,⟨s2,s3,s4,s5⟩,s6,s7,s8,s9⟩,⟨zP,wP⟩,tL,zQ⟩:=ff;go_simp⟩) ak ?_;simp only[Act.put];refine Dx (i:=3) (v:=BT b 0) rfl (by kernel_rfl) (by kernel_rfl) (by kernel_rfl) (fun _ _ _ h=>h) (Or.inl ⟨by rfl,fun W ff=>by obtain⟨⟨⟨s0,s1⟩,⟨s2,s3,s4,s5⟩,s6,s7,s8,s9⟩,⟨zP,wP⟩,tL,zQ⟩:=ff;go_simp⟩) ak ?_;simp only[Act.put];refine Dx (i:=4) (v:=BT w.heap.size 1) rfl (by kernel_rfl) (by kernel_rfl) (by kernel_rfl) (fun _ _ _ h=>h) (Or.inl ⟨by rfl,fun W ff=>by obtain⟨⟨⟨s0,s1⟩,⟨s2,s3,s4,s5⟩,s6,s7,s8,s9⟩,⟨zP,wP⟩,tL,zQ⟩:=ff;go_simp⟩) ak ?_;simp only[Act.put];refine Dx (i:=5) (v:=.slice (some (GB pb 0)) 1 q.pc) rfl (by kernel_rfl) (by kernel_rfl) (by kernel_rfl) (fun _ _ _ h=>h) (Or.inl ⟨by rfl,fun W ff=>by obtain⟨⟨⟨s0,s1⟩,⟨s2,s3,s4,s5⟩,s6,s7,s8,s9⟩,⟨zP,wP⟩,tL,zQ⟩:=ff;go_simp⟩) ak ?_;simp only[Act.put];refine Dx (i:=6) (v:=BT pb 0) rfl (by kernel_rfl) (by kernel_rfl) (by kernel_rfl) (fun _ _ _ h=>h) (Or.inl ⟨by rfl,fun W ff=>by obtain⟨⟨⟨s0,s1⟩,⟨s2,s3,s4,s5⟩,s6,s7,s8,s9⟩,⟨zP,wP⟩,tL,zQ⟩:=ff;go_simp⟩) ak ?_;simp only[Act.put];refine Dx (i:=7) (v:=.agg #[GW N.k,.slice N.pa N.pn N.pc,.slice N.sa N.sn N.sc,GW N.ed,GW N.gr,GW N.lo,GW N.hi,.bool N.lz]) rfl (by kernel_rfl) (by kernel_rfl) (by kernel_rfl) (fun _ _ _ h=>h) (Or.inl ⟨by rfl,fun W ff=>by obtain⟨⟨⟨s0,s1⟩,⟨s2,s3,s4,s5⟩,s6,s7,s8,s9⟩,⟨zP,wP⟩,tL,zQ⟩:=ff;go_simp⟩) ak ?_;simp only[Act.put];refine Dx (i:=8) (v:=.agg #[GW a1,GW a2]) rfl (by kernel_rfl) (by kernel_rfl) (by kernel_rfl) (fun _ _ _ h=>h) (Or.inl ⟨by rfl,fun W ff=>by obtain⟨⟨⟨s0,s1⟩,⟨s2,s3,s4,s5⟩,s6,s7,s8,s9⟩,⟨zP,wP⟩,tL,zQ⟩:=ff;go_simp⟩) ak ?_;simp only[Act.put];refine Dx (i:=10) (v:=.agg #[GW x1,GW x2]) rfl (by kernel_rfl) (by kernel_rfl) (by kernel_rfl) (fun _ _ _ h=>h) (Or.inl ⟨by rfl,fun W ff=>by obtain⟨⟨⟨s0,s1⟩,⟨s2,s3,s4,s5⟩,s6,s7,s8,s9⟩,⟨zP,wP⟩,tL,zQ⟩:=ff;go_simp⟩) ak ?_;simp only[Act.put];refine bR 9 fun K hK=>?_
   go_simp;refine(F1.o).mono ?_;rintro e w5 ⟨rfl,v5,h5,k5⟩;dsimp only;obtain⟨⟨hB,hW,d_⟩,M0,M1,M2,M3⟩:=PK.o;have py:AL w pb q N x1 x2 a1 a2 w5:=AL.of (M0.a_ k5) (M1.a_ k5) (M3.a_ k5) xi.o xj.o (KK.o.mh (d_.a_ hB k5) ee.1 ee.2);refine hK.o _ _ py (fun _=>?_);clear hK K;have F2:=abk h5 q.lz (bB C aD (a1,a2)).2 (x1,x2) (by omega);simp only[cO]at F2;have F2:=ab F2;have mV:=ab (And.intro (And.intro h5 (And.intro (hW.trans k5) (d_.a_ hB k5))) (And.intro (M0.a_ k5) (And.intro (M1.a_ k5) (And.intro (M2.a_ k5) (M3.a_ k5)))));clear hB hW d_ M0 M1 M2 M3 h5 k5 ak py PS F1 PK;refine bR 11 fun K hK=>?_
   go_simp;refine(F2.o).mono ?_;rintro e w6 ⟨rfl,v6,h6,k6⟩;dsimp only;obtain⟨⟨hB,hW,d_⟩,M0,M1,M2,M3⟩:=mV.o;have rW:AL w pb q N x1 x2 a1 a2 w6:=AL.of (M0.a_ k6) (M1.a_ k6) (M3.a_ k6) xi.o xj.o (KK.o.mh (d_.a_ hB k6) ee.1 ee.2);refine hK.o _ _ rW (fun _=>?_);clear hK K;obtain⟨d0,d1,g0,g1⟩:=(M3.a_ k6).cM;generalize hE:dx q.lz (bB C aD (a1,a2)).1 (bB C aD (a1,a2)).2 (x1,x2)=E at*;obtain⟨uX,y1,y2⟩:=E;simp only at e3 e4 h6;have N0:=((M0.a_ k6).bj (d:=w.heap.size+1+1+1) (by omega) 0 (GW y1)).bj (d:=w.heap.size+1+1+1) (by omega) 1 (GW y2);have N1:=((M1.a_ k6).bj (d:=w.heap.size+1+1+1) (by omega) 0 (GW y1)).bj (d:=w.heap.size+1+1+1) (by omega) 1 (GW y2);have N2:=((M2.a_ k6).bj (d:=w.heap.size+1+1+1) (by omega) 0 (GW y1)).bj (d:=w.heap.size+1+1+1) (by omega) 1 (GW y2);have N3:=((M3.a_ k6).setCell 0 (GW y1)).setCell 1 (GW y2);have h7:=(h6.set (M3.a_ k6).not (by omega) 0 (GW y1)).set (M3.a_ k6).not (by omega) 1 (GW y2);have W7:=((hW.trans k6).set (c:=w.heap.size+1+1+1) (by omega) 0 (GW y1)).set (c:=w.heap.size+1+1+1) (by omega) 1 (GW y2);have S7:=((d_.a_ hB k6).set (c:=w.heap.size+1+1+1) (by omega) 0 (GW y1)).set (c:=w.heap.size+1+1+1) (by omega) 1 (GW y2)
   have ji:Hid (fT (bB C) q.lz (x1,x2) (m-(j+1)) uX (y1,y2)=fT (bB C) q.lz (x1,x2) m st (x1,x2)):=by
    rw[<-HE.o,show m-j=(m-(j+1))+1 by omega];show _=fT (bB C) q.lz (x1,x2) (m-(j+1)) (dx q.lz (bB C aD (a1,a2)).1 (bB C aD (a1,a2)).2 (x1,x2)).1 (dx q.lz (bB C aD (a1,a2)).1 (bB C aD (a1,a2)).2 (x1,x2)).2
    rw[hE]
   have kh:=ab (And.intro (And.intro h7 (And.intro W7 S7)) (And.intro N0 (And.intro N1 (And.intro N2 N3))));clear hB hW d_ M0 M1 M2 M3 h6 k6 rW F2 mV N0 N1 N2 N3 h7 W7 S7 hE HE;refine At (by kernel_rfl) ?_ _;unfold eo;go_wp2_with fail;go_roundg (m-(j+1))
   case measure=>omega
   case rel=>
    obtain⟨⟨h7,W7,S7⟩,N0,N1,N2,N3⟩:=kh.o;exact⟨j+1,v6,uX,y1,y2,by go_num,by omega,rfl,ji,by omega,by omega,e4,h7,W7,S7,N0,N1,N2,N3⟩
  ·have ej:j=m:=(by omega);subst ej;have th:¬((j:Int)<q.hi-q.lo):=by omega
   have ji:Hid ((aD,(a1,a2))=fT (bB C) q.lz (x1,x2) j st (x1,x2)):=by
    have:=HE.o;rw[Gf]at this;exact this
   obtain⟨c0,c1,_,_⟩:=L3.cM;obtain⟨d0,d1,g0,g1⟩:=L2.cM;have aA:=ab (And.intro hB (And.intro hW L2));clear hB hW d_ L0 L1 L2 L3 uE HE;go_wp2_with fail;rw[<-ji.o];exact mZ aA.o.1 aA.o.2.1 aA.o.2.2 (by omega) (by omega) results96 rfl rfl
theorem zK{base e size n cap:Nat}{xs:List Value}(h:w.ownsRow base e size (.slice (some (GB g 0)) n cap) n xs)(k:Nat)(u:Value):(w.setCell (GB g k) u).ownsRow base e size (.slice (some (GB g 0)) n cap) n (xs.set k u):=by
 obtain⟨h1,h2⟩:=h;refine⟨by simpa using h1,Or.inr ?_⟩;rcases h2 with⟨h2,_⟩|⟨g',Mf,aO,hv,a1,a2,a3,a4,a5,a6⟩
 ·cases h2
 ·cases hv;refine⟨g,cap,aO.setIfInBounds k u,rfl,a1,?_,a3,a4,by simpa using a5,?_⟩
  ·have hb:=(Am.1 a2).1;simp only[World.setCell,Ek];simp[a2]
  ·rw[Array.toList_setIfInBounds,List.take_set,a6]
theorem aiE(vs:List Sv)(a:Nat)(ha:a<vs.length)(s:Sv):((((((jB vs).set (a*6) (GW s.k)).set (a*6+1) (.slice s.sa s.sn s.sc)).set (a*6+2) (GW s.ed)).set (a*6+3) (GW s.sl)).set (a*6+4) (GW s.nx)).set (a*6+5) (GW s.ot)=jB (vs.set a s):=by
 induction vs generalizing a with
 |nil=>simp at ha
 |cons q qs ih=>
  cases a with
  |zero=>simp[jB,Sv.cells]
  |succ a=>
   have:=ih a (by simpa using ha);have e:∀j,(a+1)*6+j=a*6+j+1+1+1+1+1+1:=(fun j=>by omega);have e0:(a+1)*6=a*6+1+1+1+1+1+1:=by omega
   simp only[jB,Sv.cells,C4,Dp,Ac,e0,this]
def IC(w:World)(g i:Nat)(s:Sv):World:=(((((w.setCell (GB g i) (GW s.k)).setCell ⟨g,i+1,none⟩ (.slice s.sa s.sn s.sc)).setCell ⟨g,i+2,none⟩ (GW s.ed)).setCell ⟨g,i+3,none⟩ (GW s.sl)).setCell ⟨g,i+4,none⟩ (GW s.nx)).setCell ⟨g,i+5,none⟩ (GW s.ot)
theorem Yf(w:World)(g i:Nat)(s:Sv):aa (fun k=>k=g) w (IC w g i s):=
 ((((((aa.refl (fun k=>k=g) w).setCell (p:=(GB g i)) (Or.inl rfl) _).setCell (p:=⟨g,i+1,none⟩) (Or.inl rfl) _).setCell (p:=⟨g,i+2,none⟩) (Or.inl rfl) _).setCell (p:=⟨g,i+3,none⟩) (Or.inl rfl) _).setCell (p:=⟨g,i+4,none⟩) (Or.inl rfl) _).setCell (p:=⟨g,i+5,none⟩) (Or.inl rfl) _
theorem dz.array(h:dz w b lo hi v st)(aB:st≠ []):∃g c,v=.slice (some (GB g 0)) st.length c/\b+1<=g/\g<w.heap.size/\st.length<=c/\
 (∀i,(hi':i<st.length)->∃s:Sv,gG w lo hi s st[i]/\∀j,j<6->w.cell? ⟨g,i*6+j,none⟩=s.cells[j]? /\w.frozen? ⟨g,i*6+j,none⟩=false):=by
 obtain⟨vs,h1,h2,h3⟩:=h.row;obtain⟨hx,h_⟩:=h1;rcases h_ with⟨_,h0⟩|⟨g,cap,aO,rfl,a1,a2,a3,a4,a5,a6⟩
 ·exact absurd (Aw.1 h0) aB
 ·refine⟨g,cap,rfl,a1,(Am.1 a2).1,a3,fun i hi'=>⟨vs[i],h3 i (by omega) hi',fun j hj=>⟨?_,by simp[World.frozen?,a2]⟩⟩⟩;have hf:=QF vs i (by omega) j hj;rw[<-hf,<-a6,Av (by omega)];simp only[World.cell?,a2];simp
theorem dz.put(h:dz w b lo hi (.slice (some (GB g 0)) st.length c) st){a:Nat}(ha:a<st.length){s:Sv}{m:MS}(hs:gG w lo hi s m)(hg:b+1<=g):dz (IC w g (a*6) s) b lo hi (.slice (some (GB g 0)) st.length c) (st.set a m):=by
 have dW:=h.dW;have az:=h.aq.lt;have kk:=Yf w g (a*6) s;refine⟨h.aq.kept kk (by omega),?_,dW,by simpa using h.bN⟩;obtain⟨vs,h1,h2,h3⟩:=h.row;refine⟨vs.set a s,?_,by simp[h2],fun i a1 a2=>?_⟩
 ·rw[Bp,<-aiE vs a (by omega) s];exact zK (zK (zK (zK (zK (zK h1 _ _) _ _) _ _) _ _) _ _) _ _
 ·simp only[Bp]at a1 a2;by_cases e:i=a
  ·subst e;simp only[List.getElem_set_self];exact hs.kept kk (fun j j1 j2 e=>by omega) (by omega)
  ·rw[List.getElem_set_ne (fun x=>e x.symm),List.getElem_set_ne (fun x=>e x.symm)];exact(h3 i a1 a2).kept kk (fun j j1 j2 e=>by omega) (by omega)
theorem gG.zero(w:World)(lo hi:Nat):gG w lo hi ⟨0,none,0,0,0,0,0,0⟩ bS:=⟨rfl,rfl,rfl,rfl,rfl,by simp[bS],fun e=>by simp[bS]at e⟩
theorem ey.put{w1:World}{v1:Value}(h:ey b w w1 v v1)(hg:v1.ownBlock=some g)(s:Sv):ey b w (IC w1 g i s) v v1:=
 ⟨h.kept.b_ (Yf w1 g i s) (fun k hk e=>by
   subst e;rcases h.aq k hg with h1|h1
   ·exact Or.inr h1
   ·omega),h.aq⟩
theorem bk.put{cs:Array Value}(h:bk w b v c cs t)(hg:v.ownBlock=some g)(i:Nat)(s:Sv):bk (IC w g i s) b v c cs t:=
 ⟨h.aq.kept (Yf w g i s) (fun e=>h.not (Or.inr (e▸hg))),h.not⟩
def LpS(b g c B3 p n:Nat)(s:Sv)(w':World):Prop:=
 w'.cell? (GB b 0)=some (.slice (some (GB g 0)) n c)/\w'.cell? (GB B3 1)=some (GW p)/\
 w'.cell? ⟨g,p*6,none⟩=some (GW s.k)/\w'.cell? ⟨g,p*6+1,none⟩=some (.slice s.sa s.sn s.sc)/\w'.cell? ⟨g,p*6+2,none⟩=some (GW s.ed)/\w'.cell? ⟨g,p*6+3,none⟩=some (GW s.sl)/\w'.cell? ⟨g,p*6+4,none⟩=some (GW s.nx)/\w'.cell? ⟨g,p*6+5,none⟩=some (GW s.ot)
theorem apb(W:World)(p q:Int):(Instr.field 115 (.agg #[GW p,GW q]) 0).run prog W=.ok (GW p) W:=by
 simp[Instr.field,asAgg,go_sem]
theorem aln(h:dz w b lo hi v st)(x:Ex)(hx:df st.length x)(hS:ft lo hi w0 w)(dB:C.ok)(aW:C.sz<=1000)(hP:xo b lo hi w0 N C)
 (nd:q.pa=some (GB pb 0))(iY:q.pn=1)(ee:lo<=pb/\pb<hi)(hK:o9 w0 pb 0 N)(dy:st.length+(4*C.sz.toNat+3)<=9000):
 Calls prog 95 #[BT b 0,Nv.val q,cO x] w (ml w b lo hi v (nF (bB C) q.lz st x).1 (cO (nF (bB C) q.lz st x).2)):=by
 have az:=h.aq.lt;have dW:=h.dW;obtain⟨x1,x2⟩:=x;have oH:pb<w.heap.size:=by omega
 have h1:=h.alloc (.cells q.cells 64);have h2:=h1.alloc (.cells (aM (x1,x2)) 115);have h3:=h2.alloc (.cells (aM (0,0)) 115);have l0:=((bk.new h q.cells 64).alloc (.cells (aM (x1,x2)) 115)).alloc (.cells (aM (0,0)) 115);have l1:=(bk.new h1 (aM (x1,x2)) 115).alloc (.cells (aM (0,0)) 115);have l2:=bk.new h2 (aM (0,0)) 115;have W4:=(((ey.refl b w v).alloc (.cells q.cells 64)).alloc (.cells (aM (x1,x2)) 115)).alloc (.cells (aM (0,0)) 115);have S4:=((hS.alloc (by omega) (.cells q.cells 64)).alloc (by simp;omega) (.cells (aM (x1,x2)) 115)).alloc (by simp;omega) (.cells (aM (0,0)) 115);simp only[iy]at l1 l2;have iO:=oo C dB aW;have tB:df (st++[bS]).length (-1,(st.length:Int)):=by unfold df;simp;omega
 have Y1:=iO.fQ (st++[bS]) (-1,st.length) tB;have g2:=iO.grow (st++[bS]) (-1,st.length);have n2:=iO.bN (st++[bS]) (-1,st.length);have pD:(st++[bS]).length=st.length+1:=by simp
 rw[pD]at g2 n2;have F1:=Jd h3 (gG.zero _ lo hi) (by omega);simp only[Sv.val,Sv.cells,aM,Nv.cells]at F1;simp only[aM]at l1 l2;have mS:=ab F1;clear F1;have dD:=ab (And.intro (And.intro l0 (And.intro l1 l2)) (And.intro W4 (And.intro h3 S4)));have HP:=ab hP;have xi:=ab nd;have xj:=ab iY;have KK:=ab hK;unfold nF qI;generalize hR:bB C (st++[bS]) (-1,st.length)=R at*;obtain⟨S1,t1,u1⟩:=R;simp only at Y1 g2 n2⊢;have e3:=uf q.lz S1 (t1,t1) (x1,x2);have e4:=(yQ (st:=S1) q.lz (f:=(t1,t1)) ⟨Y1.2,Y1.2⟩ (hx.mono (by omega)).l_ (Or.inr (by have:=hx.1;omega))).1;generalize hE:dx q.lz S1 (t1,t1) (x1,x2)=E at*;obtain⟨S2,y1,y2⟩:=E;simp only at e3 e4⊢;obtain⟨p,rfl⟩:∃p:Nat,y2=p:=⟨y2.toNat,by have:=e4.1;omega⟩
 have hp:p<S2.length:=by have:=e4.1;omega
 have eg:S2.getD (p:Int).toNat bS=S2[p]:=by rw[Az,Af,Ae hp];rfl
 rw[eg];clear eg;have HR:=ab hR;have HE:=ab hE;clear h h1 h2 h3 l0 l1 l2 W4 S4 hS hP iO nd iY hK hR hE;simp only[Nv.val,cO,Nv.cells];go_in;go_wp2_with fail;refine(mS.o).mono ?_;rintro e w5 ⟨rfl,v5,h5,k5⟩;obtain⟨⟨l0,l1,l2⟩,W4,h4,S4⟩:=dD.o;have m0:=l0.a_ k5;have S5:=S4.a_ h4 k5;have kH:=tZ.of m0 xi.o xj.o (KK.o.mh S5 ee.1 ee.2);obtain⟨⟨s0,s1⟩,⟨s2,s3,s4,s5⟩,s6,s7,s8,s9⟩:=kH;have F2:=HP.o w5 v5 (st++[bS]) (-1,st.length) h5 tB S5 (by omega);rw[HR.o]at F2;simp only[Nv.val,Nv.cells,cO]at F2;have KT:=ab F2;clear F2;have PK:=ab (And.intro (And.intro h5 (And.intro (W4.trans k5) S5)) (And.intro m0 (And.intro (l1.a_ k5) (l2.a_ k5))));clear l0 l1 l2 W4 h4 S4 m0 S5 h5 k5 dD mS;go_wp2_with fail;refine(KT.o).mono ?_;rintro e w6 ⟨rfl,v6,h6,k6⟩;obtain⟨⟨h5,W5,S5⟩,M0,M1,M2⟩:=PK.o;obtain⟨_,_,_,_,_,_,_,z7⟩:=(M0.a_ k6).iq;obtain⟨c0,c1,_,_⟩:=(M1.a_ k6).cM;have F3:=abk h6 q.lz (t1,t1) (x1,x2) (by omega);rw[HE.o]at F3;simp only[cO]at F3;have Ze:=ab F3;clear F3;have mV:=ab (And.intro (And.intro h6 (And.intro (W5.trans k6) (S5.a_ h5 k6))) (M2.a_ k6));clear h5 W5 S5 M0 M1 M2 h6 k6 PK KT s0 s1 s2 s3 s4 s5 s6 s7 s8 s9;have bD:=apb w6 t1 u1;go_wp2_with fail;refine(Ze.o).mono ?_;rintro e w7 ⟨rfl,v7,h7,k7⟩;obtain⟨⟨h6,W6,S6⟩,M2⟩:=mV.o;have m2:=M2.a_ k7;have W7:=W6.trans k7;have sz7:=W7.kept.size;obtain⟨g,c7,J2,zg,qS,hg3,VU⟩:=h7.array (by intro e;rw[e]at hp;simp at hp);obtain⟨s,pH,mC⟩:=VU p hp;obtain⟨s',akm,tg⟩:=VU st.length (by omega);subst J2;have ka:aa ai w7 ((w7.alloc (.cells #[GW y1,GW (p:Int)] 115)).drew):=((aa.refl ai w7).alloc _).drew;have cell:∀j u,w7.cell? (GB g j)=u->((w7.alloc (.cells #[GW y1,GW (p:Int)] 115)).drew).cell? (GB g j)=u:=fun j u hu=>(ka.cell (p:=(GB g j)) qS (fun hx=>hx)).trans hu
 have ak:LpS b g c7 w7.heap.size p S2.length s ((w7.alloc (.cells #[GW y1,GW (p:Int)] 115)).drew):=
  ⟨(h7.aq.kept ka (fun hx=>hx)).cell 0,(au.new w7 #[GW y1,GW (p:Int)] 115).cell 1,cell _ _ (mC 0 (by omega)).1,cell _ _ (mC 1 (by omega)).1,cell _ _ (mC 2 (by omega)).1,cell _ _ (mC 3 (by omega)).1,cell _ _ (mC 4 (by omega)).1,cell _ _ (mC 5 (by omega)).1⟩
 have PS:=ab ak;have hpi:(p:Int)<(S2.length:Int):=by omega
 have H5:(st.length:Int)<(S2.length:Int):=by omega
 clear ak Ze mV;go_wp2_with fail;refine gD (S:=LpS b g c7 w7.heap.size p S2.length s) 14 (by kernel_rfl) rfl rfl rfl (by kernel_rfl) (by kernel_rfl) ?_;have ak:=PS.o;refine aj 0 30 (BT b 0) ak ?_;refine aj 1 31 (BT b 0) ak ?_;refine aj 2 32 (BT b 0) ak ?_;refine aj 3 33 (.slice (some (GB g 0)) S2.length c7) ak ?_;refine aj 4 34 (GW st.length) ak ?_;refine aj 5 35 (BT b 0) ak ?_;refine aj 6 36 (BT b 0) ak ?_;refine aj 7 37 (BT b 0) ak ?_;refine aj 8 38 (.slice (some (GB g 0)) S2.length c7) ak ?_;refine aj 9 39 (BT w7.heap.size 1) ak ?_;refine aj 10 40 (GW p) ak ?_;refine aj 11 41 (.pointer (some ⟨g,p*6,none⟩)) ak ?_;refine aj 12 42 (.agg #[GW s.k,.slice s.sa s.sn s.sc,GW s.ed,GW s.sl,GW s.nx,GW s.ot]) ak ?_;refine aj 13 43 (.pointer (some ⟨g,st.length*6,none⟩)) ak ?_;simp only[Act.put,Aa,Ad,Ac];refine At (by kernel_rfl) ?_ _;unfold eo;dsimp only;have q0:w7.cell? ⟨g,st.length*6,none⟩=some (GW s'.k):=(tg 0 (by omega)).1;have r0:w7.frozen? ⟨g,st.length*6,none⟩=false:=(tg 0 (by omega)).2;have q1:w7.cell? ⟨g,st.length*6+1,none⟩=some (.slice s'.sa s'.sn s'.sc):=(tg 1 (by omega)).1;have r1:w7.frozen? ⟨g,st.length*6+1,none⟩=false:=(tg 1 (by omega)).2;have q2:w7.cell? ⟨g,st.length*6+2,none⟩=some (GW s'.ed):=(tg 2 (by omega)).1;have r2:w7.frozen? ⟨g,st.length*6+2,none⟩=false:=(tg 2 (by omega)).2;have q3:w7.cell? ⟨g,st.length*6+3,none⟩=some (GW s'.sl):=(tg 3 (by omega)).1;have r3:w7.frozen? ⟨g,st.length*6+3,none⟩=false:=(tg 3 (by omega)).2;have q4:w7.cell? ⟨g,st.length*6+4,none⟩=some (GW s'.nx):=(tg 4 (by omega)).1;have r4:w7.frozen? ⟨g,st.length*6+4,none⟩=false:=(tg 4 (by omega)).2;have q5:w7.cell? ⟨g,st.length*6+5,none⟩=some (GW s'.ot):=(tg 5 (by omega)).1;have r5:w7.frozen? ⟨g,st.length*6+5,none⟩=false:=(tg 5 (by omega)).2;have h9:=h7.put (a:=st.length) (by omega) pH zg;have W9:=W7.put (i:=st.length*6) (g:=g) rfl s;have Oi:=m2.put (g:=g) rfl (st.length*6) s;have szp:(IC w7 g (st.length*6) s).heap.size=w7.heap.size:=by simp[IC,World.setCell]
 have h9b:=(h9.set Oi.not (by omega) 0 (GW y1)).set Oi.not (by omega) 1 (GW (p:Int));have W9b:=(W9.set (c:=w.heap.size+1+1) (by omega) 0 (GW y1)).set (c:=w.heap.size+1+1) (by omega) 1 (GW (p:Int));have n2b:=(Oi.setCell 0 (GW y1)).setCell 1 (GW (p:Int));have h10:=h9b.alloc (.cells #[GW y1,GW (p:Int)] 115);have W10:=W9b.alloc (.cells #[GW y1,GW (p:Int)] 115);have n2q:=(n2b.alloc (.cells #[GW y1,GW (p:Int)] 115)).aq;have h11:=h10.new ((aa.refl ai _).drew);have W11:=W10.new ((aa.refl ai _).drew);have n2r:=n2q.drew;obtain⟨d0,d1,f0,f1⟩:=Oi.cM;have oB:w.heap.size+1+1<w7.heap.size:=m2.aq.lt;have k_:g≠w.heap.size+1+1:=fun e=>m2.not (Or.inr (by rw[<-e];rfl))
 have aA:=ab (And.intro h11 (And.intro W11 n2r));simp only[IC]at d0 d1 f0 f1;clear h9 W9 Oi h9b W9b n2b h10 W10 n2q h11 W11 n2r pH akm mC tg VU PS ak h7 k7 m2 M2 h6 W6 S6 W7 ka cell;simp only[Ak,Ag,Ah];go_simp;clear q0 q1 q2 q3 q4 q5 r0 r1 r2 r3 r4 r5 hpi H5;go_wp2_with fail;refine abA (x:=(y1,(p:Int))) results95 rfl rfl ?_ ?_
 ·exact aA.o.2.2
 ·exact⟨rfl,_,aA.o.1,aA.o.2.1⟩
