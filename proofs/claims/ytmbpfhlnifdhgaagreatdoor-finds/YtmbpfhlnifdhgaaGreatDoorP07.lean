/- The reference's tree -/
import Derived.Test.YtmbpfhlnifdhgaaGreatDoorP06
set_option linter.unusedVariables false
set_option linter.unusedSimpArgs false
set_option maxRecDepth 100000
set_option maxHeartbeats 4000000
namespace Go.Proofs.YtmbpfhlnifdhgaaGreatDoor
open Go.Proofs.Tryz
open Go.RowKit
variable {op:ByteArray} {c:CI} {E:EG} {G:GH} {ax:Int} {nl:List (List UInt8)} {S:List CI} {b k kb nb:Nat} {A:PT} {g:RG} {s st:RS} {aw:RS->RS×PT} {RA n:RT} {t:TG} {vn:Value} {w:World}
theorem ad4(h:(n_ g st).1.au.form=none):st.au.form=none:=by
 unfold n_ at h;split at h
 ·exact h
 ·have:∀s:RS,(ey g s).1.au.form=none->s.au.form=none:=by
   intro s hs;unfold ey at hs;split at hs
   ·exact hs
   ·exact absurd hs (ET g s)
  unfold aK at h;split at h
  ·exact this _ (this _ h)
  ·exact this _ h
theorem aow{ab:RS}(hT:bc w t g st ax vn nl)(qb:Calls prog 62 #[.pointer (some ⟨t.b,0,none⟩)] w (gP w t g ax vn (ab,A) RA))
 (hf:(dU g A ab).1.au.form=none):
 Calls prog 36 #[.pointer (some ⟨t.b,0,none⟩)] w (gP w t g ax vn (dU g A ab) (yG g RA ab)):=by
 unfold dU at hf⊢;unfold yG;rw[show ak EB (aa g ab)=(aa g ab==42)from kD 42 _,show ak EA (aa g ab)=(aa g ab==43)from kD 43 _,show ak dG (aa g ab)=(aa g ab==63)from kD 63 _,show ak D_ (aa g ab)=(aa g ab==123)from kD 123 _]at hf⊢
 cases n1:(aa g ab==42)
 ·cases n2:(aa g ab==43)
  ·cases n3:(aa g ab==63)
   ·cases n4:(aa g ab==123)
    ·simp only[Ag,if_false];exact aoi hT qb n1 n2 n3 n4
    ·rw[n1,n2,n3,n4]at hf;simp only[Ag,if_false,if_true]at hf⊢;rw[E7]at hf
     have hx:(cT g {ab with next:=ab.next+1}).1.au.form=none:=by
      split at hf
      ·rw[Nq (by omega)]at hf;exact hf
      ·exact hf
     clear hf;rw[show aa g (cT g {ab with next:=ab.next+1}).1=aa g (fa (cT g {ab with next:=ab.next+1}).1 (cT g {ab with next:=ab.next+1}).2.1 (cT g {ab with next:=ab.next+1}).2.2 (cx g ab))from by unfold aa;rw[am3]];show Calls prog 36 #[.pointer (some ⟨t.b,0,none⟩)] w (gP w t g ax vn (bT g dG (fa (cT g {ab with next:=ab.next+1}).1 (cT g {ab with next:=ab.next+1}).2.1 (cT g {ab with next:=ab.next+1}).2.2 (cx g ab)),.node 4 [A] (cT g {ab with next:=ab.next+1}).2.1 (cT g {ab with next:=ab.next+1}).2.2) (ss RA (cT g {ab with next:=ab.next+1}).2.1 (cT g {ab with next:=ab.next+1}).2.2 (ak dG (aa g (fa (cT g {ab with next:=ab.next+1}).1 (cT g {ab with next:=ab.next+1}).2.1 (cT g {ab with next:=ab.next+1}).2.2 (cx g ab))))))
     unfold cT at hx⊢;by_cases hc:ak zQ (aa g (aK g {ab with next:=ab.next+1}).1)=true
     ·rw[if_pos hc]at hx⊢;obtain⟨a1,a2,a3⟩:=jE hx;have lR:aa g (aK g {ab with next:=ab.next+1}).1=44:=by rw[ahD]at hc;simpa using hc
      have rP:(aK g {ab with next:=ab.next+1}).1.au.form=none:=ad4 (st:={(aK g {ab with next:=ab.next+1}).1 with next:=(aK g {ab with next:=ab.next+1}).1.next+1}) a2;have dM:ak kF (aa g (aK g {ab with next:=ab.next+1}).1)=false:=by rw[lR];decide
      simp only;rw[a3];clear a3 hx hc;unfold n_ at a1 a2⊢;by_cases hb:ak qU (aa g {(aK g {ab with next:=ab.next+1}).1 with next:=(aK g {ab with next:=ab.next+1}).1.next+1})=true
      ·rw[if_pos hb];exact aom hT qb n4 n1 n2 n3 rP dM lR (by rw[Pb]at hb;simpa using hb)
      ·rw[if_neg hb]at a1 a2⊢;have wL:aa g (aK g {(aK g {ab with next:=ab.next+1}).1 with next:=(aK g {ab with next:=ab.next+1}).1.next+1}).1=125:=by rw[Pb]at a1;simpa using a1
       exact aoy hT qb n4 n1 n2 n3 rP dM lR (by intro e;rw[Pb]at hb;exact hb (by simp[e])) a2 (by rw[wL];decide) wL
     ·rw[if_neg hc]at hx⊢;obtain⟨a1,a2,a3⟩:=jE hx;have lR:aa g (aK g {ab with next:=ab.next+1}).1=125:=by rw[Pb]at a1;simpa using a1
      simp only;rw[a3];exact aoj hT qb n4 n1 n2 n3 a2 (by rw[lR];decide) lR
   ·simp only[Ag,if_false,if_true];exact Yb hT qb (Or.inr (Or.inr ⟨n3,n1,n2,rfl,rfl⟩))
  ·simp only[Ag,if_false,if_true];exact Yb hT qb (Or.inr (Or.inl ⟨n2,n1,rfl,rfl⟩))
 ·simp only[if_true];exact Yb hT qb (Or.inl ⟨n1,rfl,rfl⟩)
theorem aen(h:(aK g s).1.au.form=none):s.au.form=none:=by
 have:∀s:RS,(ey g s).1.au.form=none->s.au.form=none:=by
  intro s hs;unfold ey at hs;split at hs
  ·exact hs
  ·exact absurd hs (ET g s)
 unfold aK at h;split at h
 ·exact this _ (this _ h)
 ·exact this _ h
theorem adW(h:(cT g s).1.au.form=none):s.au.form=none:=by
 unfold cT at h;split at h
 ·have h1:=ad4 (jE h).2.1;exact aen h1
 ·exact aen (jE h).2.1
theorem Xs(h:(dU g A s).1.au.form=none):s.au.form=none:=by
 unfold dU at h;split at h
 ·rw[E7]at h;exact h
 ·split at h
  ·rw[E7]at h;exact h
  ·split at h
   ·rw[E7]at h;exact h
   ·split at h
    ·simp only at h;rw[E7]at h;split at h
     ·rw[Nq (by omega)]at h;exact adW (s:={s with next:=s.next+1}) h
     ·exact adW (s:={s with next:=s.next+1}) h
    ·exact h
theorem Xl(g:RG)(first:Nat):∀(m:Nat) (st:RS),(fB g first m st).au=st.au
 |0,_=>rfl
 |m+1,st=>by
  unfold fB;split
  ·exact Xl g first m {st with next:=st.next+1}
  ·rfl
theorem ael(g:RG)(first:Nat)(st:RS):(jd g first st).au.form=st.au.form:=by
 unfold jd;split
 ·exact Nq (by omega)
 ·rfl
theorem al7(h:(jS g s).au.form=none):s.au.form=none:=by
 have h1:=(jE h).2.1;rw[ael,Xl]at h1;exact(jE h1).2.1
theorem alY(h:(dy g s).au.form=none):s.au.form=none:=by
 unfold dy at h;split at h
 ·exact h
 ·split at h
  ·exact al7 (s:={s with next:=s.next+2,aC:=s.aC+1}) h
  ·have h1:=(jE h).2.1;rw[E7]at h1;exact h1
def Hw(aw:RS->RS×PT):Prop:=∀s,(aw s).1.au.form=none->s.au.form=none
theorem alS(ha:Hw aw)(h:(jr g aw s).1.au.form=none):s.au.form=none:=alY (ha _ (jE h).2.1)
theorem alU(h:(iT g s).au.form=none):s.au.form=none:=by
 have h1:=ad5 (RI (jE h).2.1);rw[E7]at h1;exact h1
theorem alN(ha:Hw aw)(h:(bD g aw s).1.au.form=none):s.au.form=none:=by
 unfold bD at h;split at h
 ·exact alS (s:={s with next:=s.next+1}) ha h
 ·split at h
  ·exact alU (s:={s with next:=s.next+1}) h
  ·split at h
   ·exact(jE (st:={s with next:=s.next+1}) h).2.1
   ·split at h
    ·exact h
    ·exact(Rl h).2.2.1
theorem Xw(ha:Hw aw):∀(m:Nat) (s:RS) (aA:List PT),(eA g aw m s aA).1.au.form=none->s.au.form=none
 |0,_,_,h=>h
 |m+1,s,aA,h=>by
  unfold eA at h;split at h
  ·exact h
  ·exact alN ha (Xs (Xw ha m _ _ h))
theorem aer(ha:Hw aw)(h:(cU g aw s).1.au.form=none):s.au.form=none:=Xw ha _ _ _ h
theorem Xg(ha:Hw aw):∀(m:Nat) (s:RS) (aA:List PT),(eE g aw m s aA).1.au.form=none->s.au.form=none
 |0,_,_,h=>h
 |m+1,s,aA,h=>by
  unfold eE at h;split at h
  ·exact aer (s:={s with next:=s.next+1}) ha (Xg ha m _ _ h)
  ·exact h
theorem EO(g:RG):∀k,Hw (aE g k)
 |0,_,h=>h
 |k+1,s,h=>by
  unfold aE at h;exact aer (EO g k) (Xg (EO g k) _ _ _ h)
theorem bc.vO(h:bc w t g st ax vn nl)(f:Int)(hf:0<=f/\f<=st.next):bc (w.setCell ⟨t.b,2,none⟩ (.int .i64 f)) t g st f vn nl:=by
 have k:I (fun i=>i=t.b) w (w.setCell ⟨t.b,2,none⟩ (.int .i64 f)):=dr 2 _
 exact{h with
  ae:=h.ae.setCell 2 _
  gl:=h.gl.kept k (fun hl=>h.ne hl)
  names:=dh h.names k (fun b hb he=>by have:=(cA h.names hb).1;omega)
  kO:=hf}
theorem bc.aeF{w1 w':World}{bF:RS}{v':Value}(h:bc w t g st ax vn nl)(x:List UInt8)(k1:I aq w w1)
 (a8:w'.ownsRow (t.b+1) 9 1 v' (nl.length+1) ((nl.map fun x=>.string ⟨x.toArray⟩)++[.string ⟨x.toArray⟩]))(hg:w1.grownBy w' vn.ownBlock)
 (e1:bF.next=st.next)(e2:bF.au.rep=st.au.rep/\bF.au.cls=st.au.cls/\bF.au.kX=st.au.kX)(hrel:tK bF (nl++[x]))(km:bF.aC<=bF.next):
 bc (w'.setCell ⟨t.b,3,none⟩ v') t g bF ax v' (nl++[x]):=by
 have kk:I (fun i=>vn.ownBlock=some i) w w':=(k1.mono (fun _ hx=>hx.elim)).dn hg (fun j hj=>Or.inl hj);have k2:I (fun i=>i=t.b) w' (w'.setCell ⟨t.b,3,none⟩ v'):=dr 3 v';have fg:ay w' t.b _ _:=h.ae.kept kk (fun hb=>by have:=(cA h.names hb).1;omega);have iW:=fg.setCell 3 v'
 refine{h with
  ae:=?_
  gl:=(h.gl.kept kk (fun hl hx=>by have:=(cA h.names hx).1;have:=h.bl hl;omega)).kept k2 (fun hl=>h.ne hl)
  next:=by rw[e1];exact h.next
  names:=?_
  l8:=hrel
  aC:=km
  kO:=by rw[e1];exact h.kO
  mj:=by rw[e2.1,e2.2.1,e2.2.2];exact h.mj}
 ·rw[e1,e2.1,e2.2.1,e2.2.2];exact iW
 ·have:=dh a8 k2 (fun b hb he=>by have:=(cA a8 hb).1;omega);simpa using this
theorem tK.plain(h:tK st nl):tK {st with aC:=st.aC+1} (nl++[[]]):=by
 refine⟨by simp[h.1],fun x hx=>?_,h.2.2.1,fun hn x i hx=>?_⟩
 ·rw[h.2.1 x hx]
  cases x with
  |nil=>exact absurd rfl hx
  |cons a l=>simp
 ·rw[h.2.2.2 hn x i hx];constructor
  ·rintro⟨j,rfl,hj⟩;refine⟨j,rfl,?_⟩;rw[Au (by have:=(Af.1 hj).1;omega)];exact hj
  ·rintro⟨j,rfl,hj⟩;refine⟨j,rfl,?_⟩;by_cases ar:j<nl.length
   ·rw[Au ar]at hj;exact hj
   ·rw[Be (by omega)]at hj
    cases hd:j-nl.length with
    |zero=>rw[hd]at hj;simp at hj;first|exact absurd hj hx|exact absurd hj.symm hx
    |succ m=>rw[hd]at hj;simp at hj
def yP(g:RG)(k:Nat):Prop:=∀(w:World) (t:TG) (st:RS) (ax:Int) (vn:Value) (nl:List (List UInt8)),bc w t g st ax vn nl->g.rs.length-st.next<k->(aE g k st).1.au.form=none->
 Calls prog 17 #[.pointer (some ⟨t.b,0,none⟩)] w (gP w t g ax vn (aE g k st) (fe g k ax st))
theorem Pc{wa w2 w3:World}{bj:RS}{va js:Value}{nl3:List (List UInt8)}{b2:Nat}{bK:Int}
 (hT:bc w t g st ax vn nl)(ka:I (fun i=>i=t.b\/vn.ownBlock=some i) w wa)(jO:nb=w.heap.size)(aqt:nb<wa.heap.size)
 (lY:∀i,va.ownBlock=some i->vn.ownBlock=some i\/nb<i)
 (q2:eV w2 (Fr wa.heap.size w2.heap.size js) b2 A RA)(q3:I (fun i=>i=t.b\/va.ownBlock=some i) wa w2)(q4:∀i,js.ownBlock=some i->va.ownBlock=some i\/wa.heap.size<=i)(tf:∀i,js.ownBlock=some i->i<w2.heap.size)
 (h3:bc w3 t g bj ax js nl3)(k3:I (fun i=>i=t.b\/i=nb) w2 w3)(mz:w3.cell? ⟨kb,0,none⟩=some (.pointer (some ⟨b2,0,none⟩)))(DE:w2.heap.size<=kb)
 (dq:ay w3 nb (gJ op (.slice none 0 0) false false (.slice (some ⟨kb,0,none⟩) 1 1) bK 0 0 false) 114)(bS:xN op 1):
 gP w t g ax vn (bj,.node 1 [A] 0 0) (.node op [] false false [RA] bK 0 0 false) (.returned (.pointer (some ⟨nb,0,none⟩))) w3:=by
 have sa:=ka.size;have s2:=q3.size;have s3:=k3.size;have oM:=hT.gR;have fK:∀i,vn.ownBlock=some i->i<w.heap.size:=fun i hi=>(cA hT.names hi).2
 have aF:js.ownBlock≠some nb:=fun e=>by
  rcases q4 nb e with h|h
  ·rcases lY nb h with h|h
   ·have:=fK nb h;omega
   ·omega
  ·omega
 refine⟨nb,js,nl3,rfl,h3,?_,?_,fun i hi=>?_⟩
 ·refine eV.mk nb op [] none 0 0 false false false bK 0 0 1 0 0 (some ⟨kb,0,none⟩) 1 kb [A] [RA] (fun _=>b2) dq ⟨by omega,dq.lt,aF⟩ bS (by omega) (fun _=>⟨rfl,by omega,xT mz,fun e=>by have:=tf kb e;omega⟩) (fun i hi=>?_) rfl (fun i hi gz=>?_) ⟨by omega,by omega,by simp,by omega⟩ (g_.nil _ _)
  ·have:i=0:=by simp at hi;omega
   subst this;exact mz
  ·have:i=0:=by simp at hi;omega
   subst this;exact(q2.kept k3 (fun i hi e=>by have:=hi.1;rcases e with e|e<;>omega)).np (fun i hi _=>⟨by have:=hi.1;omega,by have:=hi.2.1;omega,hi.2.2⟩)
 ·refine(ka.bY q3 (fun i hi he=>?_)).bY k3 (fun i hi he=>?_)
  ·rcases he with he|he
   ·exact Or.inl he
   ·rcases lY i he with h|h
    ·exact Or.inr h
    ·omega
  ·rcases he with he|he
   ·exact Or.inl he
   ·omega
 ·rcases q4 i hi with h|h
  ·rcases lY i h with h|h
   ·exact Or.inl h
   ·exact Or.inr (by omega)
  ·exact Or.inr (by omega)
theorem akG(h:du w G E)(hb:G.T b=some (c::S))(hn:c.n=some n)(bS:n.op=gW)(aI:n.aJ.length=1):
 Calls prog 65 #[.pointer (some ⟨b,0,none⟩)] w (xL w G E b n c S):=by
 obtain⟨i0,b_,cE,cI,cH⟩:=A7 Tryz.G7;obtain⟨vm,vt,dQ,nb,ao,bk,cap,P,bC,iX,aM,hF⟩:=h.open hb hn;have c0:w.cell? ⟨b,0,none⟩=some (.pointer (some ⟨nb,0,none⟩)):=aM.ae.cell 0;have c5:w.cell? ⟨b,5,none⟩=some vm:=aM.ae.cell 5;obtain⟨a,qQ⟩:=aM.more.kG;have ji:=aM.ae.lt;have d0:w.cell? ⟨nb,0,none⟩=some (.string ⟨#[98,97,114,101]⟩):=by have:=hF.op;rw[bS]at this;exact this
 obtain⟨kd,T,jA,eu,ye,d4,dk,mz⟩:=MV hF aI;have DJ:=hF.lt;have fp:cF n c S=[bo kd::S]:=by rw[Na bS,jA];rfl
 have jB:=zT hn (bC c Aq) (fun d hd=>bC d (Ar _ hd)) iX _ (by rw[fp];exact Bj.2 rfl);have HP:=JL h mz aM.more jB.1 jB.2;rw[qQ]at HP c5;have HL:Hid (cF n c S=[bo kd::S]):=fp;clear fp jB mz aM bS jA;go_in;go_wp2_with fail;go_region_with (go_at_call 19;refine(HP _ (by first|exact I.refl _ _|exact(I.refl _ _).drew)).mono ?_;rintro e w2 ⟨G2,pb,rfl,dB,hI,hE,qH⟩;have hK:I (fun j=>j=b) w w2:=qH.mono (fun _ q=>q.elim))
 all_goals
  go_wp2_with (at_builtin;refine Ad _ rfl _ _ 115 rfl w2.heap.size 66 i0 _ 1 8 underlying115 b_ cE cI cH rfl (by decide) _ _ _ rfl (At _ _ _ _) ⟨w2.heap.size,0,none⟩ 1 1 [.pointer (some ⟨pb,0,none⟩)] rfl rfl (vF _ _ _) (by intro u hu;simp at hu;subst hu;rfl) (by unfold maxLen;omega) (by omega) (by rw[cR];omega) ?_)
  intro v' w3 a8 aX cJ bH;have k3:I aq w2 w3:=((I.refl aq w2).alloc _).dn aX (fun j hj=>by simp[Value.ownBlock]at hj);have iN:=hI.kept k3
  have gA:∀j,v'.ownBlock=some j->¬G2.mu j:=fun j hj q=>by
   have:=hI.lt j q;rcases bH with e|e
   ·rw[e]at hj;simp[Value.ownBlock]at hj
   ·rw[e]at hj;simp at hj;omega
  obtain⟨tb,fV,zs,jb,hL⟩:=lJ.one HL.out a8 (Or.inr ⟨pb,rfl,dB⟩) gA;have kf:I (fun j=>j=b) w w3:=hK.trans (k3.mono (fun _ q=>q.elim));rw[jb];clear a8 aX cJ bH gA jb HP;go_wp2_with fail;go_ret;exact⟨G2,iN,hE,kf,_,rfl,Or.inr ⟨tb,fV,zs,rfl,hL⟩⟩
theorem akH(h:du w G E)(hb:G.T b=some (c::S))(hn:c.n=some n)(bS:n.op=fi)(aI:n.aJ.length=1):
 Calls prog 65 #[.pointer (some ⟨b,0,none⟩)] w (xL w G E b n c S):=by
 obtain⟨i0,b_,cE,cI,cH⟩:=A7 Tryz.G7;obtain⟨vm,vt,dQ,nb,ao,bk,cap,P,bC,iX,aM,hF⟩:=h.open hb hn;have c0:w.cell? ⟨b,0,none⟩=some (.pointer (some ⟨nb,0,none⟩)):=aM.ae.cell 0;have c5:w.cell? ⟨b,5,none⟩=some vm:=aM.ae.cell 5;obtain⟨a,qQ⟩:=aM.more.kG;have ji:=aM.ae.lt;have d0:w.cell? ⟨nb,0,none⟩=some (.string ⟨#[103,114,111,117,112]⟩):=by have:=hF.op;rw[bS]at this;exact this
 have d5:=hF.bK;obtain⟨kd,T,jA,eu,ye,d4,dk,mz⟩:=MV hF aI;have DJ:=hF.lt;have fp:cF n c S=[bo kd::mT n.bK::S]:=by rw[Nb bS,jA];rfl
 have jB:=zT hn (bC c Aq) (fun d hd=>bC d (Ar _ hd)) iX _ (by rw[fp];exact Bj.2 rfl)
 have HP:∀w1,I aq (w.alloc (.cells #[.pointer none,.int .i64 0,.int .i64 0,.int .i64 n.bK,.bool false,.pointer a,.slice none 0 0,.slice none 0 0] 118)) w1->Calls prog 19 #[.pointer (some ⟨P 0,0,none⟩),.pointer (some ⟨w.heap.size,0,none⟩)] w1 fun e w'=>
  ∃G' pb,e=.returned (.pointer (some ⟨pb,0,none⟩))/\G'.T pb=some (bo kd::mT n.bK::S)/\du w' G' E/\Ext w G G'/\I aq w w':=fun w1 mC=>by
  have eC:=h.add (c:=mT n.bK) (S:=S) (vn:=.pointer none) (vm:=vm) (fun d hd=>jB.1 d (Ar _ hd)) jB.2.2 rfl aM.more;rw[qQ]at eC;have k1:I aq w (w.alloc (.cells #[.pointer none,.int .i64 0,.int .i64 0,.int .i64 n.bK,.bool false,.pointer a,.slice none 0 0,.slice none 0 0] 118)):=(I.refl _ _).alloc _;refine(JL (vm:=.pointer (some ⟨w.heap.size,0,none⟩)) eC (mz.kept k1 (fun _ _ q=>q)) (Or.inr ⟨w.heap.size,rfl,if_pos rfl⟩) jB.1 jB.2 w1 mC).mono ?_;rintro e w' ⟨G',pb,q1,q2,q3,q4,q5⟩;exact⟨G',pb,q1,q2,q3,(Ext.put w G _).trans q4 (by rw[cR];omega),k1.trans q5⟩
 rw[qQ]at c5;have HL:Hid (cF n c S=[bo kd::mT n.bK::S]):=fp;clear fp jB mz aM bS jA;generalize n.bK=gn at*;go_in;go_wp2_with fail;go_region_with (go_at_call 19;refine(HP _ (by first|exact I.refl _ _|exact(I.refl _ _).drew)).mono ?_;rintro e w2 ⟨G2,pb,rfl,dB,hI,hE,qH⟩;have hK:I (fun j=>j=b) w w2:=qH.mono (fun _ q=>q.elim))
 all_goals
  go_wp2_with (at_builtin;refine Ad _ rfl _ _ 115 rfl w2.heap.size 66 i0 _ 1 8 underlying115 b_ cE cI cH rfl (by decide) _ _ _ rfl (At _ _ _ _) ⟨w2.heap.size,0,none⟩ 1 1 [.pointer (some ⟨pb,0,none⟩)] rfl rfl (vF _ _ _) (by intro u hu;simp at hu;subst hu;rfl) (by unfold maxLen;omega) (by omega) (by rw[cR];omega) ?_)
  intro v' w3 a8 aX cJ bH;have k3:I aq w2 w3:=((I.refl aq w2).alloc _).dn aX (fun j hj=>by simp[Value.ownBlock]at hj);have iN:=hI.kept k3
  have gA:∀j,v'.ownBlock=some j->¬G2.mu j:=fun j hj q=>by
   have:=hI.lt j q;rcases bH with e|e
   ·rw[e]at hj;simp[Value.ownBlock]at hj
   ·rw[e]at hj;simp at hj;omega
  obtain⟨tb,fV,zs,jb,hL⟩:=lJ.one HL.out a8 (Or.inr ⟨pb,rfl,dB⟩) gA;have kf:I (fun j=>j=b) w w3:=hK.trans (k3.mono (fun _ q=>q.elim));rw[jb];clear a8 aX cJ bH gA jb HP;go_wp2_with fail;go_ret;exact⟨G2,iN,hE,kf,_,rfl,Or.inr ⟨tb,fV,zs,rfl,hL⟩⟩
theorem aeL{kd:RT}{T0 T:PT}{L M:Int}{tu:Bool}{a:Option Addr}(h:du w G E)(dM:eV w E.U nb T0 n)(mz:eV w E.U kb T kd)(hm:gQ G (.pointer a) S)(hR:dN n c=⟨some n,L,M,0,tu⟩)
 (bC:mg E.K (bo kd::dN n c::S))(hd:Deep E.D (bo kd::dN n c::S)):
 ∀w1,I aq (w.alloc (.cells #[.pointer (some ⟨nb,0,none⟩),.int .i64 L,.int .i64 M,.int .i64 0,.bool tu,.pointer a,.slice none 0 0,.slice none 0 0] 118)) w1->
  Calls prog 19 #[.pointer (some ⟨kb,0,none⟩),.pointer (some ⟨w.heap.size,0,none⟩)] w1 fun e w'=>
  ∃G' pb,e=.returned (.pointer (some ⟨pb,0,none⟩))/\G'.T pb=some (bo kd::dN n c::S)/\G'.T w.heap.size=some (dN n c::S)/\du w' G' E/\Ext w G G'/\I aq w w'/\ay w' w.heap.size #[.pointer (some ⟨nb,0,none⟩),.int .i64 L,.int .i64 M,.int .i64 0,.bool tu,.pointer a,.slice none 0 0,.slice none 0 0] 118:=fun w1 mC=>by
 have eC:=h.add (c:=dN n c) (S:=S) (vn:=.pointer (some ⟨nb,0,none⟩)) (vm:=.pointer a) (fun d hd=>bC d (Ar _ hd)) hd.2 (by rw[hR];exact⟨nb,T0,rfl,dM⟩) hm;rw[hR]at eC;have k1:I aq w (w.alloc (.cells #[.pointer (some ⟨nb,0,none⟩),.int .i64 L,.int .i64 M,.int .i64 0,.bool tu,.pointer a,.slice none 0 0,.slice none 0 0] 118)):=(I.refl _ _).alloc _;refine(JL (vm:=.pointer (some ⟨w.heap.size,0,none⟩)) eC (mz.kept k1 (fun _ _ q=>q)) (Or.inr ⟨w.heap.size,rfl,if_pos rfl⟩) (by rw[hR]at bC;exact bC) (by rw[hR]at hd;exact hd) w1 mC).mono ?_;rintro e w' ⟨G',pb,q1,q2,q3,q4,q5⟩;refine⟨G',pb,q1,by rw[hR];exact q2,?_,q3,(Ext.put w G _).trans q4 (by rw[cR];omega),k1.trans q5,(ay.new w _ _).kept q5 (fun q=>q)⟩;rw[(q4 w.heap.size (by rw[cR];omega)).1,hR];exact if_pos rfl
theorem ac5(h:du w G E)(hb:G.T b=some (c::S))(hn:c.n=some n)(bS:n.op=ec)(aI:n.aJ.length=1)(pz:0<c.bB\/0<c.aY):
 Calls prog 65 #[.pointer (some ⟨b,0,none⟩)] w (xL w G E b n c S):=by
 obtain⟨i0,b_,cE,cI,cH⟩:=A7 Tryz.G7;obtain⟨vm,vt,dQ,nb,ao,bk,cap,P,bC,iX,aM,hF⟩:=h.open hb hn;have c0:w.cell? ⟨b,0,none⟩=some (.pointer (some ⟨nb,0,none⟩)):=aM.ae.cell 0;have c1:w.cell? ⟨b,1,none⟩=some (.int .i64 c.bB):=aM.ae.cell 1;have c2:w.cell? ⟨b,2,none⟩=some (.int .i64 c.aY):=aM.ae.cell 2;have c4:w.cell? ⟨b,4,none⟩=some (.bool c.bR):=aM.ae.cell 4;have c5:w.cell? ⟨b,5,none⟩=some vm:=aM.ae.cell 5;obtain⟨a,qQ⟩:=aM.more.kG;have ji:=aM.ae.lt;have d0:w.cell? ⟨nb,0,none⟩=some (.string ⟨#[116,105,109,101,115]⟩):=by have:=hF.op;rw[bS]at this;exact this
 obtain⟨kd,T,jA,eu,ye,d4,dk,mz⟩:=MV hF aI;have DJ:=hF.lt;have fp:cF n c S=[bo kd::dN n c::S]:=by rw[yy bS,jA];rfl
 have nO:=bC c Aq;have ajG:0<=c.bB/\c.bB<=99/\ -1<=c.aY/\c.aY<=99:=by unfold CI.ok at nO;rw[hn]at nO;exact nO.2.2 bS
 have jB:=zT hn nO (fun d hd=>bC d (Ar _ hd)) iX _ (by rw[fp];exact Bj.2 rfl)
 obtain⟨T0,dM⟩:∃T0,eV w E.U nb T0 n:=by
  have:=aM.node;rw[hn]at this;obtain⟨Nm,T0,e,dM⟩:=this
  cases e;exact⟨T0,dM⟩
 have hm:=aM.more;rw[qQ]at hm c5;have HP:=fun L M (hR:dN n c=⟨some n,L,M,0,false⟩)=>aeL h dM mz hm hR jB.1 jB.2
 have HL:Hid (cF n c S=[bo kd::dN n c::S]):=fp;have hR:dN n c=if 0<c.bB then⟨some n,c.bB-1,if 0<c.aY then c.aY-1 else c.aY,0,false⟩else if 0<c.aY then⟨some n,0,c.aY-1,0,false⟩else if c.bR=false then⟨some n,0,-1,0,true⟩else c:=rfl
 clear fp jB mz aM bS jA dM nO;generalize c.bB=cl at*;generalize c.aY=cm at*;generalize c.bR=cu at*;by_cases hl:0<cl
 ·rw[if_pos hl]at hR;by_cases eZ:0<cm
  ·rw[if_pos eZ]at hR;have BG:=HP _ _ hR;clear HP hR;go_in;go_wp2_with fail;go_region;all_goals go_wp2_with fail
   all_goals
    refine(BG _ (by first|exact I.refl _ _|exact(I.refl _ _).drew|exact(I.refl _ _).drew.drew)).mono ?_;rintro e w2 ⟨G2,pb,rfl,dB,rW,hI,hE,qH,fJ⟩;have hK:I (fun j=>j=b) w w2:=qH.mono (fun _ q=>q.elim);have r4:w2.cell? ⟨w.heap.size,4,none⟩=some (.bool false):=fJ.cell 4;go_wp2_with (at_builtin;refine Ad _ rfl _ _ 115 rfl w2.heap.size 66 i0 _ 1 8 underlying115 b_ cE cI cH rfl (by decide) _ _ _ rfl (At _ _ _ _) ⟨w2.heap.size,0,none⟩ 1 1 [.pointer (some ⟨pb,0,none⟩)] rfl rfl (vF _ _ _) (by intro u hu;simp at hu;subst hu;rfl) (by unfold maxLen;omega) (by omega) (by rw[cR];omega) ?_);intro v' w3 a8 aX cJ bH;have k3:I aq w2 w3:=((I.refl aq w2).alloc _).dn aX (fun j hj=>by simp[Value.ownBlock]at hj);have iN:=hI.kept k3
    have gA:∀j,v'.ownBlock=some j->¬G2.mu j:=fun j hj q=>by
     have:=hI.lt j q;rcases bH with e|e
     ·rw[e]at hj;simp[Value.ownBlock]at hj
     ·rw[e]at hj;simp at hj;omega
    obtain⟨tb,fV,zs,jb,hL⟩:=lJ.one HL.out a8 (Or.inr ⟨pb,rfl,dB⟩) gA;have kf:I (fun j=>j=b) w w3:=hK.trans (k3.mono (fun _ q=>q.elim));rw[jb];clear a8 aX cJ bH gA jb BG;go_wp2_with fail;go_ret;exact⟨G2,iN,hE,kf,_,rfl,Or.inr ⟨tb,fV,zs,rfl,hL⟩⟩
  ·rw[if_neg eZ]at hR;have BG:=HP _ _ hR;clear HP hR;go_in;go_wp2_with fail;go_region;all_goals go_wp2_with fail
   all_goals
    refine(BG _ (by first|exact I.refl _ _|exact(I.refl _ _).drew|exact(I.refl _ _).drew.drew)).mono ?_;rintro e w2 ⟨G2,pb,rfl,dB,rW,hI,hE,qH,fJ⟩;have hK:I (fun j=>j=b) w w2:=qH.mono (fun _ q=>q.elim);have r4:w2.cell? ⟨w.heap.size,4,none⟩=some (.bool false):=fJ.cell 4;go_wp2_with (at_builtin;refine Ad _ rfl _ _ 115 rfl w2.heap.size 66 i0 _ 1 8 underlying115 b_ cE cI cH rfl (by decide) _ _ _ rfl (At _ _ _ _) ⟨w2.heap.size,0,none⟩ 1 1 [.pointer (some ⟨pb,0,none⟩)] rfl rfl (vF _ _ _) (by intro u hu;simp at hu;subst hu;rfl) (by unfold maxLen;omega) (by omega) (by rw[cR];omega) ?_);intro v' w3 a8 aX cJ bH;have k3:I aq w2 w3:=((I.refl aq w2).alloc _).dn aX (fun j hj=>by simp[Value.ownBlock]at hj);have iN:=hI.kept k3
    have gA:∀j,v'.ownBlock=some j->¬G2.mu j:=fun j hj q=>by
     have:=hI.lt j q;rcases bH with e|e
     ·rw[e]at hj;simp[Value.ownBlock]at hj
     ·rw[e]at hj;simp at hj;omega
    obtain⟨tb,fV,zs,jb,hL⟩:=lJ.one HL.out a8 (Or.inr ⟨pb,rfl,dB⟩) gA;have kf:I (fun j=>j=b) w w3:=hK.trans (k3.mono (fun _ q=>q.elim));rw[jb];clear a8 aX cJ bH gA jb BG;go_wp2_with fail;go_ret;exact⟨G2,iN,hE,kf,_,rfl,Or.inr ⟨tb,fV,zs,rfl,hL⟩⟩
 ·rw[if_neg hl,if_pos (by omega)]at hR;have eZ:0<cm:=by omega
  have BG:=HP _ _ hR;clear HP hR;go_in;go_wp2_with fail;go_region;all_goals go_wp2_with fail
  all_goals
   refine(BG _ (by first|exact I.refl _ _|exact(I.refl _ _).drew|exact(I.refl _ _).drew.drew)).mono ?_;rintro e w2 ⟨G2,pb,rfl,dB,rW,hI,hE,qH,fJ⟩;have hK:I (fun j=>j=b) w w2:=qH.mono (fun _ q=>q.elim);have r4:w2.cell? ⟨w.heap.size,4,none⟩=some (.bool false):=fJ.cell 4;go_wp2_with (at_builtin;refine Ad _ rfl _ _ 115 rfl w2.heap.size 66 i0 _ 1 8 underlying115 b_ cE cI cH rfl (by decide) _ _ _ rfl (At _ _ _ _) ⟨w2.heap.size,0,none⟩ 1 1 [.pointer (some ⟨pb,0,none⟩)] rfl rfl (vF _ _ _) (by intro u hu;simp at hu;subst hu;rfl) (by unfold maxLen;omega) (by omega) (by rw[cR];omega) ?_);intro v' w3 a8 aX cJ bH;have k3:I aq w2 w3:=((I.refl aq w2).alloc _).dn aX (fun j hj=>by simp[Value.ownBlock]at hj);have iN:=hI.kept k3
   have gA:∀j,v'.ownBlock=some j->¬G2.mu j:=fun j hj q=>by
    have:=hI.lt j q;rcases bH with e|e
    ·rw[e]at hj;simp[Value.ownBlock]at hj
    ·rw[e]at hj;simp at hj;omega
   obtain⟨tb,fV,zs,jb,hL⟩:=lJ.one HL.out a8 (Or.inr ⟨pb,rfl,dB⟩) gA;have kf:I (fun j=>j=b) w w3:=hK.trans (k3.mono (fun _ q=>q.elim));rw[jb];clear a8 aX cJ bH gA jb BG;go_wp2_with fail;go_ret;exact⟨G2,iN,hE,kf,_,rfl,Or.inr ⟨tb,fV,zs,rfl,hL⟩⟩
theorem ado(cs:Array Value)(t:TypeId)(hb:b=w.heap.size)(j:Nat)(u:Value)(h:cs.toList[j]? =some u):(w.alloc (.cells cs t)).cell? (Addr.add ⟨b,0,none⟩ j)=some u:=by
 subst hb;exact vF w cs t j u h
theorem du.ae3{rb pb:Nat}{R:CI}{Z:List CI}(h:du w G E)(rW:G.T rb=some (R::S))(hn:R.n=some n)(hl:cF n R S=[Z])(dB:G.T pb=some Z):
 du ((w.setCell ⟨rb,6,none⟩ (.slice (some ⟨w.heap.size,0,none⟩) 1 1)).alloc (.cells #[.pointer (some ⟨pb,0,none⟩)] 66)) G E:=by
 obtain⟨c',S',vn,vm,vt,dQ,e,bC,iX,aM⟩:=h.ct rb _ rW
 cases e;have hk:I (fun j=>j=rb) w ((w.setCell ⟨rb,6,none⟩ (.slice (some ⟨w.heap.size,0,none⟩) 1 1)).alloc (.cells #[.pointer (some ⟨pb,0,none⟩)] 66)):=((I.refl (fun j=>j=rb) w).setCell (p:=⟨rb,6,none⟩) (Or.inl rfl) _).alloc _
 have sU:=ay.jF (w:=w.setCell ⟨rb,6,none⟩ (.slice (some ⟨w.heap.size,0,none⟩) 1 1)) (b:=w.heap.size) #[.pointer (some ⟨pb,0,none⟩)] 66 (by rw[fx]);have xd:∀j,j=rb->G.mu j:=fun j hj=>by subst hj;exact Or.inl (by rw[rW];simp)
 have ho:∀j i,G.O j=some (rb,i)->¬j=rb:=fun j i hj e=>by
  subst e;have:=h.po j (by rw[rW];simp);rw[hj]at this;simp at this
 refine h.Sm (X:=fun j=>j=rb) (vn:=vn) (vm:=vm) (vt:=.slice (some ⟨w.heap.size,0,none⟩) 1 1) (dQ:=dQ) rW (ef.refl w G) (fun _=>rfl) (fun _ _=>rfl) (fun j hj hq=>by have:=h.lt j (Or.inr hq);omega) hk (fun j hj=>Or.inl hj) ⟨?_,?_,aM.more,?_,?_⟩
 ·have:=(aM.ae.setCell 6 (.slice (some ⟨w.heap.size,0,none⟩) 1 1)).alloc (.cells #[.pointer (some ⟨pb,0,none⟩)] 66);exact this
 ·exact aM.node.kept hk (fun i hi q=>h.um i hi (xd i q))
 ·refine Or.inr ⟨n,w.heap.size,1,[.pointer (some ⟨pb,0,none⟩)],hn,rfl,⟨by simp,by simp,sU.lt,fun q=>by have:=h.lt _ q;omega,by rw[hl];rfl,fun k dL=>?_,fun k dL aG=>?_,⟨_,sU⟩⟩⟩
  ·have:k=0:=by simp at dL;omega
   subst this;exact sU.cell 0
  ·have:k=0:=by simp at dL;omega
   subst this;simp only[hl];exact Or.inr ⟨pb,rfl,dB⟩
 ·exact aM.no.ext (ef.refl w G) rfl h.lt hk (fun j i hj=>ho j i hj)
theorem akJ(h:du w G E)(hb:G.T b=some (c::S))(hn:c.n=some n)(bS:n.op=ec)(aI:n.aJ.length=1)(hl:¬0<c.bB)(eZ:¬0<c.aY)(oN:c.bR=false):
 Calls prog 65 #[.pointer (some ⟨b,0,none⟩)] w (xL w G E b n c S):=by
 obtain⟨i0,b_,cE,cI,cH⟩:=A7 Tryz.G7;obtain⟨vm,vt,dQ,nb,ao,bk,cap,P,bC,iX,aM,hF⟩:=h.open hb hn;have c0:w.cell? ⟨b,0,none⟩=some (.pointer (some ⟨nb,0,none⟩)):=aM.ae.cell 0;have c1:w.cell? ⟨b,1,none⟩=some (.int .i64 c.bB):=aM.ae.cell 1;have c2:w.cell? ⟨b,2,none⟩=some (.int .i64 c.aY):=aM.ae.cell 2;have c4:w.cell? ⟨b,4,none⟩=some (.bool false):=by have:=aM.ae.cell 4;rw[<-oN];exact this
 have c5:w.cell? ⟨b,5,none⟩=some vm:=aM.ae.cell 5;obtain⟨a,qQ⟩:=aM.more.kG;have ji:=aM.ae.lt;have d0:w.cell? ⟨nb,0,none⟩=some (.string ⟨#[116,105,109,101,115]⟩):=by have:=hF.op;rw[bS]at this;exact this
 obtain⟨kd,T,jA,eu,ye,d4,dk,mz⟩:=MV hF aI;have DJ:=hF.lt;have fp:cF n c S=[bo kd::dN n c::S]:=by rw[yy bS,jA];rfl
 have nO:=bC c Aq;have jB:=zT hn nO (fun d hd=>bC d (Ar _ hd)) iX _ (by rw[fp];exact Bj.2 rfl)
 obtain⟨T0,dM⟩:∃T0,eV w E.U nb T0 n:=by
  have:=aM.node;rw[hn]at this;obtain⟨Nm,T0,e,dM⟩:=this
  cases e;exact⟨T0,dM⟩
 have hm:=aM.more;rw[qQ]at hm c5;have hR:dN n c=⟨some n,0,-1,0,true⟩:=by unfold dN;rw[if_neg hl,if_neg eZ,if_pos oN]
 have HP:=aeL h dM mz hm hR jB.1 jB.2;have HL:Hid (cF n c S=[bo kd::dN n c::S]):=fp
 have HLR:Hid (cF n (dN n c) S=[bo kd::dN n c::S]):=by
  show _=_
  rw[yy bS,jA];have:dN n (dN n c)=dN n c:=by rw[hR];rfl
  rw[this];rfl
 have HRN:Hid ((dN n c).n=some n):=XG hn;clear fp jB mz aM bS jA dM nO hR;generalize c.bB=cl at*;generalize c.aY=cm at*;go_in;go_wp2_with fail
 all_goals
  refine(HP _ (by first|exact I.refl _ _|exact(I.refl _ _).drew|exact(I.refl _ _).drew.drew)).mono ?_;rintro e w2 ⟨G2,pb,rfl,dB,rW,hI,hE,qH,fJ⟩;have r4:w2.cell? ⟨w.heap.size,4,none⟩=some (.bool true):=fJ.cell 4;have r6:w2.cell? ⟨w.heap.size,6,none⟩=some (.slice none 0 0):=fJ.cell 6;have f6:=fJ.frozen 6;have ajH:=fJ.lt;have tW:=hI.ae3 rW HRN.out HLR.out dB;have ajk:I (fun j=>j=w.heap.size) w2 ((w2.setCell ⟨w.heap.size,6,none⟩ (.slice (some ⟨w2.heap.size,0,none⟩) 1 1)).alloc (.cells #[.pointer (some ⟨pb,0,none⟩)] 66)):=((I.refl (fun j=>j=w.heap.size) w2).setCell (p:=⟨w.heap.size,6,none⟩) (Or.inl rfl) _).alloc _;have hK:I (fun j=>j=b) w ((w2.setCell ⟨w.heap.size,6,none⟩ (.slice (some ⟨w2.heap.size,0,none⟩) 1 1)).alloc (.cells #[.pointer (some ⟨pb,0,none⟩)] 66)):=(qH.mono (fun _ q=>q.elim)).bY ajk (fun i hi he=>by omega);go_wp2_with (at_builtin;refine Ad _ rfl _ _ 115 rfl 0 66 i0 _ 1 8 underlying115 b_ cE cI cH rfl (by decide) _ _ _ rfl (At _ _ _ _) ⟨w2.heap.size+1,0,none⟩ 1 1 [.pointer (some ⟨pb,0,none⟩)] rfl rfl (ado _ _ (by rw[cR,fx])) (by intro u hu;simp at hu;subst hu;rfl) (by unfold maxLen;omega) (by omega) (Aw _) ?_);intro v' w3 a8 aX cJ bH;have k3:I aq ((w2.setCell ⟨w.heap.size,6,none⟩ (.slice (some ⟨w2.heap.size,0,none⟩) 1 1)).alloc (.cells #[.pointer (some ⟨pb,0,none⟩)] 66)) w3:=((I.refl aq _).alloc _).dn aX (fun j hj=>by simp[Value.ownBlock]at hj);have iN:=tW.kept k3
  have gA:∀j,v'.ownBlock=some j->¬G2.mu j:=fun j hj q=>by
   have:=hI.lt j q;rcases bH with e|e
   ·rw[e]at hj;simp[Value.ownBlock]at hj
   ·rw[e]at hj;simp at hj;omega
  obtain⟨tb,fV,zs,jb,hL⟩:=lJ.one HL.out a8 (Or.inr ⟨pb,rfl,dB⟩) gA;have kf:I (fun j=>j=b) w w3:=hK.trans (k3.mono (fun _ q=>q.elim));rw[jb];clear a8 aX cJ bH gA jb HP;go_wp2_with fail;go_ret;exact⟨G2,iN,hE,kf,_,rfl,Or.inr ⟨tb,fV,zs,rfl,hL⟩⟩
theorem akK(h:du w G E)(hb:G.T b=some (c::S))(hn:c.n=some n)(bS:n.op=ec)(aI:n.aJ.length=1)(hl:¬0<c.bB)(eZ:¬0<c.aY)(oN:c.bR=true):
 Calls prog 65 #[.pointer (some ⟨b,0,none⟩)] w (xL w G E b n c S):=by
 obtain⟨i0,b_,cE,cI,cH⟩:=A7 Tryz.G7;obtain⟨vm,vt,dQ,nb,ao,bk,cap,P,bC,iX,aM,hF⟩:=h.open hb hn;have c0:w.cell? ⟨b,0,none⟩=some (.pointer (some ⟨nb,0,none⟩)):=aM.ae.cell 0;have c1:w.cell? ⟨b,1,none⟩=some (.int .i64 c.bB):=aM.ae.cell 1;have c2:w.cell? ⟨b,2,none⟩=some (.int .i64 c.aY):=aM.ae.cell 2;have c4:w.cell? ⟨b,4,none⟩=some (.bool true):=by have:=aM.ae.cell 4;rw[<-oN];exact this
 have ji:=aM.ae.lt;have d0:w.cell? ⟨nb,0,none⟩=some (.string ⟨#[116,105,109,101,115]⟩):=by have:=hF.op;rw[bS]at this;exact this
 obtain⟨kd,T,jA,eu,ye,d4,dk,mz⟩:=MV hF aI;have DJ:=hF.lt;have hR:dN n c=c:=by unfold dN;rw[if_neg hl,if_neg eZ,if_neg (by rw[oN];simp)]
 have fp:cF n c S=[bo kd::c::S]:=by rw[yy bS,jA,hR];rfl
 have nO:=bC c Aq;have jB:=zT hn nO (fun d hd=>bC d (Ar _ hd)) iX _ (by rw[fp];exact Bj.2 rfl);have HP:=JL (vm:=.pointer (some ⟨b,0,none⟩)) h mz (Or.inr ⟨b,rfl,hb⟩) jB.1 jB.2;have HL:Hid (cF n c S=[bo kd::c::S]):=fp;have HB:Hid (ay w b (uY (.pointer (some ⟨nb,0,none⟩)) c vm vt dQ) 118):=aM.ae;have Fq:Hid (G.T b=some (c::S)):=hb;have HN:Hid (c.n=some n):=hn;clear fp jB mz aM bS jA nO hR;go_in;go_wp2_with fail
 all_goals
  refine(HP _ (by first|exact I.refl _ _|exact(I.refl _ _).drew|exact(I.refl _ _).drew.drew)).mono ?_;rintro e w2 ⟨G2,pb,rfl,dB,hI,hE,qH⟩;have fJ:=HB.out.kept qH (fun q=>q);have r4:w2.cell? ⟨b,4,none⟩=some (.bool true):=by have:=fJ.cell 4;rw[<-oN];exact this
  have r6:w2.cell? ⟨b,6,none⟩=some vt:=fJ.cell 6;have f6:=fJ.frozen 6;have ajH:=fJ.lt;have tW:=hI.ae3 (rb:=b) (by rw[(hE b ji).1];exact Fq.out) HN.out HL.out dB;have hK:I (fun j=>j=b) w ((w2.setCell ⟨b,6,none⟩ (.slice (some ⟨w2.heap.size,0,none⟩) 1 1)).alloc (.cells #[.pointer (some ⟨pb,0,none⟩)] 66)):=(qH.mono (fun _ q=>q.elim)).trans (((I.refl (fun j=>j=b) w2).setCell (p:=⟨b,6,none⟩) (Or.inl rfl) _).alloc _);go_wp2_with (at_builtin;refine Ad _ rfl _ _ 115 rfl 0 66 i0 _ 1 8 underlying115 b_ cE cI cH rfl (by decide) _ _ _ rfl (At _ _ _ _) ⟨w2.heap.size+1,0,none⟩ 1 1 [.pointer (some ⟨pb,0,none⟩)] rfl rfl (ado _ _ (by rw[cR,fx])) (by intro u hu;simp at hu;subst hu;rfl) (by unfold maxLen;omega) (by omega) (Aw _) ?_);intro v' w3 a8 aX cJ bH;have k3:I aq ((w2.setCell ⟨b,6,none⟩ (.slice (some ⟨w2.heap.size,0,none⟩) 1 1)).alloc (.cells #[.pointer (some ⟨pb,0,none⟩)] 66)) w3:=((I.refl aq _).alloc _).dn aX (fun j hj=>by simp[Value.ownBlock]at hj);have iN:=tW.kept k3
  have gA:∀j,v'.ownBlock=some j->¬G2.mu j:=fun j hj q=>by
   have:=hI.lt j q;rcases bH with e|e
   ·rw[e]at hj;simp[Value.ownBlock]at hj
   ·rw[e]at hj;simp at hj;omega
  obtain⟨tb,fV,zs,jb,hL⟩:=lJ.one HL.out a8 (Or.inr ⟨pb,rfl,dB⟩) gA;have kf:I (fun j=>j=b) w w3:=hK.trans (k3.mono (fun _ q=>q.elim));rw[jb];clear a8 aX cJ bH gA jb HP;go_wp2_with fail;go_ret;exact⟨G2,iN,hE,kf,_,rfl,Or.inr ⟨tb,fV,zs,rfl,hL⟩⟩
theorem ac6(h:du w G E)(hb:G.T b=some (c::S))(hn:c.n=some n)(bS:n.op=eR\/n.op=pM\/n.op=oX\/n.op=od\/n.op=oW):
 Calls prog 65 #[.pointer (some ⟨b,0,none⟩)] w (xL w G E b n c S):=by
 obtain⟨vm,vt,dQ,nb,ao,bk,cap,P,bC,iX,aM,hF⟩:=h.open hb hn;have c0:w.cell? ⟨b,0,none⟩=some (.pointer (some ⟨nb,0,none⟩)):=aM.ae.cell 0;have d0:=hF.op;have fp:=xn (c:=c) (S:=S) bS;have e1:(n.op.toList== [115,101,113])=false:=by rcases bS with e|e|e|e|e<;>rw[e,A0]<;>decide
 have e2:(n.op.toList== [97,108,116])=false:=by rcases bS with e|e|e|e|e<;>rw[e,A0]<;>decide
 have e3:(n.op.toList== [103,114,111,117,112])=false:=by rcases bS with e|e|e|e|e<;>rw[e,A0]<;>decide
 have e4:(n.op.toList== [98,97,114,101])=false:=by rcases bS with e|e|e|e|e<;>rw[e,A0]<;>decide
 have e5:(n.op.toList== [116,105,109,101,115])=false:=by rcases bS with e|e|e|e|e<;>rw[e,A0]<;>decide
 clear bS;go_in;go_wp2_with fail;go_ret;exact⟨G,h,Ext.refl w G,I.refl _ _,_,rfl,Or.inl ⟨fp,rfl⟩⟩
theorem Deep.right{D:Nat}:∀{A B:List CI},Deep D (A++B)->Deep D B
 | [],_,h=>h
 |_::A,B,h=>Deep.right (A:=A) h.2
theorem mg.right{G:Nat}{A B:List CI}(h:mg G (A++B)):mg G B:=fun d hd=>h d (A2.2 (Or.inr hd))
theorem aaP(ks:List RT)(S:List CI)(m:Nat)(h:m<ks.length):(ks.drop m).map bo++S=bo ks[m]::((ks.drop (m+1)).map bo++S):=by
 rw[Bq h];rfl
theorem amF(ks:List RT)(S:List CI)(m:Nat):ks.map bo++S=(ks.take m).map bo++((ks.drop m).map bo++S):=by
 rw[<-Cq,<-Cv,Ek]
theorem akI(h:du w G E)(hb:G.T b=some (c::S))(hn:c.n=some n)(bS:n.op=iJ):
 Calls prog 65 #[.pointer (some ⟨b,0,none⟩)] w (xL w G E b n c S):=by
 obtain⟨i0,b_,cE,cI,cH⟩:=A7 Tryz.G7;obtain⟨vm,vt,dQ,nb,ao,bk,cap,P,bC,iX,aM,hF⟩:=h.open hb hn;have c0:w.cell? ⟨b,0,none⟩=some (.pointer (some ⟨nb,0,none⟩)):=aM.ae.cell 0;have c5:w.cell? ⟨b,5,none⟩=some vm:=aM.ae.cell 5;obtain⟨a,qQ⟩:=aM.more.kG;have ji:=aM.ae.lt;have d0:w.cell? ⟨nb,0,none⟩=some (.string ⟨#[115,101,113]⟩):=by have:=hF.op;rw[bS]at this;exact this
 have d4:=hF.aJ;have DJ:=hF.lt;have dg:=hF.cB;have hm:=aM.more;rw[qQ]at c5 hm;have fp:cF n c S=[n.aJ.map bo++S]:=Nc bS;have jB:=zT hn (bC c Aq) (fun d hd=>bC d (Ar _ hd)) iX _ (by rw[fp];exact Bj.2 rfl);have HL:Hid (cF n c S=[n.aJ.map bo++S]):=fp;have HF:Hid (Ic w E.U nb n ao bk cap P):=hF
 have qy:Hid (∀m,mg E.K ((n.aJ.drop m).map bo++S)/\Deep E.D ((n.aJ.drop m).map bo++S)):=fun m=>by
  have h1:=jB.1;have h2:=jB.2;rw[amF n.aJ S m]at h1 h2;exact⟨h1.right,h2.right⟩
 clear fp jB aM bS hF;go_in;go_wp2_with fail;go_loopg [5,6] n.aJ.length (fun kk v5 v6 wr=>∃(m:Nat) (a1:Option Addr) (G1:GH),m<=n.aJ.length/\kk=m/\v5=.pointer a1/\v6=.int .i64 ((m:Int)-1)/\gQ G1 (.pointer a1) ((n.aJ.drop m).map bo++S)/\du wr G1 E/\Ext w G G1/\I aq w wr)
 case atStart=>exact⟨n.aJ.length,a,G,Aa _,rfl,rfl,rfl,by rw[List.drop_length];exact hm,h,Ext.refl w G,I.refl _ _⟩
 case round=>
  obtain⟨m,a1,G1,aqp,gH,rfl,rfl,cS,eC,iM,iO⟩:=hrel
  cases m with
  |zero=>
   have iU:Hid (gQ G1 (.pointer a1) (n.aJ.map bo++S)):=cS;clear cS;have bm:=iO.size;go_wp2_with (at_builtin;refine Ad _ rfl _ _ 115 rfl wr.heap.size 66 i0 _ 1 8 underlying115 b_ cE cI cH rfl (by decide) _ _ _ rfl (At _ _ _ _) ⟨wr.heap.size,0,none⟩ 1 1 [.pointer a1] rfl rfl (vF _ _ _) (by intro u hu;simp at hu;subst hu;rfl) (by unfold maxLen;omega) (by omega) (by rw[cR];omega) ?_);intro v' w3 a8 aX cJ bH;have k3:I aq wr w3:=((I.refl aq wr).alloc _).dn aX (fun j hj=>by simp[Value.ownBlock]at hj);have iN:=eC.kept k3
   have gA:∀j,v'.ownBlock=some j->¬G1.mu j:=fun j hj q=>by
    have:=eC.lt j q;rcases bH with e|e
    ·rw[e]at hj;simp[Value.ownBlock]at hj
    ·rw[e]at hj;simp at hj;omega
   obtain⟨tb,fV,zs,jb,hL⟩:=lJ.one HL.out a8 iU.out gA;have kf:I (fun j=>j=b) w w3:=(iO.trans k3).mono (fun _ q=>q.elim);rw[jb];clear a8 aX cJ bH gA jb;go_wp2_with fail;go_ret;exact⟨G1,iN,iM,kf,_,rfl,Or.inr ⟨tb,fV,zs,rfl,hL⟩⟩
  |succ m=>
   have Mn:m<n.aJ.length:=(by omega);obtain⟨LZ,T,lU⟩:=HF.out.sh m Mn;obtain⟨eu,hU,U9⟩:=HF.out.ig (by intro e;rw[e]at Mn;simp at Mn);have d4':wr.cell? ⟨nb,4,none⟩=some (.slice (some ⟨bk,0,none⟩) n.aJ.length cap):=by rw[<-eu,iO.cell (p:=⟨nb,4,none⟩) DJ (fun q=>q)];exact d4
   have dm:wr.cell? ⟨bk,m,none⟩=some (.pointer (some ⟨P m,0,none⟩)):=by rw[iO.cell (p:=⟨bk,m,none⟩) U9 (fun q=>q)];exact LZ
   have Qw:=qy.out m;rw[aaP n.aJ S m Mn]at Qw;have HP:=JL eC (lU.kept iO (fun _ _ q=>q)) cS Qw.1 Qw.2;rw[<-aaP n.aJ S m Mn]at HP;have hmI:(m:Int)<(n.aJ.length:Int):=(by omega);have wU:(0:Int)<=m:=(by omega);have e1:((m+1:Nat):Int)-1=m:=(by omega);rw[e1];clear cS LZ lU Qw eu;go_wp2_with fail;refine(HP _ (I.refl _ _)).mono ?_;rintro e w2 ⟨G2,pb,rfl,dB,hI,hE,qH⟩;have hE2:=iM.trans hE iO.size;have IG:=iO.trans qH;clear HP;go_wp2_with fail;go_roundg m
   case measure=>omega
   case rel=>exact⟨m,_,G2,by omega,rfl,rfl,rfl,Or.inr ⟨pb,rfl,dB⟩,hI,hE2,IG⟩
open Go.Maps
theorem op1(h1:(op.data.toList== [115,101,113])=false)(h2:(op.data.toList== [97,108,116])=false)(h3:(op.data.toList== [116,105,109,101,115])=false):xN op 1:=
 Or.inr (Or.inr (Or.inr ⟨Or.inr rfl,by rw[A0];exact h1,by rw[A0];exact h2,by rw[A0];exact h3⟩))
theorem adG:xN fi 1:=op1 (by decide) (by decide) (by decide)
theorem adF:xN gW 1:=op1 (by decide) (by decide) (by decide)
theorem Tryz.QO:(prog.info? 9).map (fun i=>(i.zero,i.size,i.bytes))=some (some (.string ⟨#[]⟩),1,16):=by kernel_rfl
abbrev uV(op:ByteArray):Obj:=.cells (gJ op (.slice none 0 0) false false (.slice none 0 0) 0 0 0 false) 114
theorem agX(hA:yP g k)(hT:bc w t g st ax vn nl)(ar:st.next<t.l.length)(rX:g.rs.length-st.next<=k)
 (hq:(aa g {st with next:=st.next+1}==63)=false)(hf:(jr g (aE g k) {st with next:=st.next+1}).1.au.form=none):
 Calls prog 88 #[.pointer (some ⟨t.b,0,none⟩)] w (gP w t g ax vn (jr g (aE g k) {st with next:=st.next+1}) (pK g (fe g k) ax {st with next:=st.next+1})):=by
 have hl:=hT.len;have oG:=hT.nZ;have oM:=hT.gR;obtain⟨i0,b_,cE,cI,cH⟩:=A7 Tryz.QO
 have oI:dy g {st with next:=st.next+1}=(⟨st.next+1,st.au,st.aC+1,st.names⟩:RS):=by
  unfold dy;rw[show ak dG (aa g {st with next:=st.next+1})=(aa g {st with next:=st.next+1}==63)from kD 63 _,hq];rfl
 have HR:Hid (pK g (fe g k) ax {st with next:=st.next+1}=.node fi [] false false [fe g k ax (⟨st.next+1,st.au,st.aC+1,st.names⟩:RS)] ((nl.length:Int)+1) 0 0 false):=by
  show _=_
  unfold pK;rw[if_pos (by rw[vB];exact hq),oI,hT.l8.1]
 unfold jr at hf⊢;rw[oI]at hf⊢;clear oI;obtain⟨a1,a2,a3⟩:=jE hf;rw[a3];clear a3 hf;obtain⟨X,hX⟩:∃X,aE g k (⟨st.next+1,st.au,st.aC+1,st.names⟩:RS)=X:=⟨_,rfl⟩
 rw[hX]at a1 a2⊢;have HS:Hid (aE g k (⟨st.next+1,st.au,st.aC+1,st.names⟩:RS)=X):=hX;clear hX;have c1:w.cell? ⟨t.b,1,none⟩=some (.int .i64 st.next):=hT.ae.cell 1;have f1:=hT.ae.frozen 1;have km:=hT.aC;go_in;go_wp2_with fail;have h1:bc ((w.setCell ⟨t.b,1,none⟩ (.int .i64 ((st.next:Int)+1))).alloc (uV fi)) t g {st with next:=st.next+1} ax vn nl:=(hT.step ar).nil ((I.refl _ _).alloc _);have k1:I (fun i=>i=t.b\/vn.ownBlock=some i) w ((w.setCell ⟨t.b,1,none⟩ (.int .i64 ((st.next:Int)+1))).alloc (uV fi)):=((dr (w:=w) (t:=t) 1 (.int .i64 ((st.next:Int)+1))).mono (fun i hi=>Or.inl hi)).alloc _;have b1:ay ((w.setCell ⟨t.b,1,none⟩ (.int .i64 ((st.next:Int)+1))).alloc (uV fi)) w.heap.size (gJ fi (.slice none 0 0) false false (.slice none 0 0) 0 0 0 false) 114:=ay.jF _ _ (by rw[fx]);refine(dI h1).mono ?_;rintro e w2 ⟨rfl,h2,aG⟩;have k2:=k1.trans (aG.mono (fun i hi=>Or.inl hi));have b2:=b1.kept aG (by omega);have s2:=b2.lt;clear h1 k1 b1 aG c1 f1;have fK:∀i,vn.ownBlock=some i->i<w.heap.size:=fun i hi=>(cA hT.names hi).2
 have mA:nl.length<=300:=by have:=hT.l8.1;have:=hT.next;omega
 have cp0:w2.cell? ⟨w.heap.size,0,none⟩=some (.string ⟨#[103,114,111,117,112]⟩):=b2.cell 0;have cp3:w2.cell? ⟨t.b,3,none⟩=some vn:=h2.ae.cell 3;have sp:=b2.lt;go_wp2_with (at_builtin;refine Ad _ rfl _ _ 31 rfl (t.b+1) 9 i0 _ 1 16 underlying31 b_ cE cI cH rfl (by decide) _ _ _ rfl (h2.names.alloc _) ⟨w2.heap.size,0,none⟩ 1 1 [.string ⟨#[]⟩] rfl rfl ?c1 ?c2 ?c3 ?c4 ?c5 ?_)
 first
  |(case c1=>exact Cc _ _ _)
  |skip
 case c2=>first|rfl|(intro u hu;simp at hu;subst hu;rfl)
 case c3=>unfold maxLen;omega
 case c4=>omega
 case c5=>first|omega|(rw[cR];omega)|(simp;omega)
 intro v' w3 bE aX cJ bH;have kg:I (fun i=>vn.ownBlock=some i) w2 w3:=((I.refl _ _).alloc _).dn aX (fun j hj=>Or.inl hj);have b3:=b2.kept kg (fun e=>by have:=fK _ e;omega);have h4:bc (w3.setCell ⟨t.b,3,none⟩ v') t g (⟨st.next+1,st.au,st.aC+1,st.names⟩:RS) ax v' (nl++[[]]):=bc.aeF h2 [] ((I.refl _ _).alloc _) bE aX rfl ⟨rfl,rfl,rfl⟩ hT.l8.plain (by simp;omega)
 have lY:∀i,v'.ownBlock=some i->vn.ownBlock=some i\/w.heap.size<i:=by
  intro i hi;rcases bH with h|h
  ·exact Or.inl (h▸hi)
  ·rw[h]at hi;cases hi;exact Or.inr (by omega)
 obtain⟨nE,wv,lB⟩:=dY bE;rw[lB]at h4 lY⊢;have k4:=(k2.bY kg (fun i hi he=>Or.inr he)).trans ((dr (w:=w3) (t:=t) 3 (.slice nE (nl.length+1) wv)).mono (fun i hi=>Or.inl hi));have c35:w3.cell? ⟨w.heap.size,5,none⟩=some (.int .i64 0):=b3.cell 5;have f35:=b3.frozen 5;have ajN:t.b<w3.heap.size:=by have:=b3.lt;omega
 have zf:=h2.ae.kept kg (fun hb=>by have:=(cA h2.names hb).1;omega);have f33:=zf.frozen 3;have c33:w3.cell? ⟨t.b,3,none⟩=some vn:=zf.cell 3;have c32:w3.cell? ⟨t.b,2,none⟩=some (.int .i64 ax):=zf.cell 2;have f32:=zf.frozen 2;clear bE aX cJ bH lB;have k5:I (fun i=>i=w.heap.size) (w3.setCell ⟨t.b,3,none⟩ (.slice nE (nl.length+1) wv)) ((w3.setCell ⟨t.b,3,none⟩ (.slice nE (nl.length+1) wv)).setCell ⟨w.heap.size,5,none⟩ (.int .i64 ((nl.length:Int)+1))):=(I.refl (fun i=>i=w.heap.size) _).setCell (p:=⟨w.heap.size,5,none⟩) (Or.inl rfl) _;have h5:=h4.new hT k5 (fun i hi=>by omega) (fun b hb hx=>(lY b hb).elim (fun h=>by have:=fK b h;omega) (fun h=>by omega));have b5:=(b3.dD (p:=⟨t.b,3,none⟩) (show w.heap.size≠t.b by omega) (.slice nE (nl.length+1) wv)).setCell 5 (.int .i64 ((nl.length:Int)+1));have kx:=k4.bY k5 (fun i hi he=>by omega);obtain⟨wx,rZ⟩:∃wx,wx=(w3.setCell ⟨t.b,3,none⟩ (.slice nE (nl.length+1) wv)).setCell ⟨w.heap.size,5,none⟩ (.int .i64 ((nl.length:Int)+1)):=⟨_,rfl⟩
 have hx:=h5;have bx:=b5;rw[<-rZ]at hx bx kx;clear h5 b5 h4 k4 k5;have V_:t.b<wx.heap.size:=hx.gR;have Wk:=hx.next
 have L_:=hT.kO;have T7:wx.cell? ⟨t.b,2,none⟩=some (.int .i64 ax):=hx.ae.cell 2;have UB:=hx.ae.frozen 2;have Gn:0<=ax/\ax<=(((st.next+1):Nat):Int):=by omega
 have h6:=hx.vO ax Gn;have b6:=bx.dD (p:=⟨t.b,2,none⟩) (show w.heap.size≠t.b by omega) (.int .i64 ax);have k6:=kx.trans ((dr (w:=wx) (t:=t) 2 (.int .i64 ax)).mono (fun i hi=>Or.inl hi));go_wp2_with fail;rw[<-rZ];clear rZ;refine(hA _ t _ _ _ _ h6 (by show g.rs.length-(st.next+1)<k;omega) (by rw[HS.out];exact a2)).mono ?_;rw[HS.out];rintro e w7 ⟨b7,Hv,WY,rfl,h7,q2,q3,q4⟩;have pD:∀i,Hv.ownBlock=some i->i<w7.heap.size:=fun i hi=>(cA h7.names hi).2
 have oq:=b6.kept q3 (by rintro(e|e);·omega
                         ·rcases lY _ e with h|h
                          ·have:=fK _ h;omega
                          ·omega)
 have s7:=q3.size;rw[fx]at s7;have sx:=bx.lt;have hX:=h7.next
 have xc:=gI (g:=g) (st:=X.1) (by intro e;rw[e,Jr]at a1;exact absurd a1 (by simp));have Vk:=h7.kO;have Ld:w7.cell? ⟨w.heap.size,4,none⟩=some (.slice none 0 0):=oq.cell 4;have f74:=oq.frozen 4;have TW:w7.cell? ⟨t.b,2,none⟩=some (.int .i64 ax):=h7.ae.cell 2;have f72:=h7.ae.frozen 2;have Ir:w7.cell? ⟨t.b,1,none⟩=some (.int .i64 X.1.next):=h7.ae.cell 1;have f71:=h7.ae.frozen 1;have V7:=h7.gR;have VG:=oq.lt;have UZ:X.1.next<=300:=by omega
 have k8:I (fun i=>i=w.heap.size) w7 (w7.setCell ⟨w.heap.size,4,none⟩ (.slice (some ⟨w7.heap.size,0,none⟩) 1 1)):=(I.refl (fun i=>i=w.heap.size) w7).setCell (p:=⟨w.heap.size,4,none⟩) (Or.inl rfl) _
 have h8:=h7.new hT k8 (fun i hi=>by omega) (fun b hb hx=>by
  rcases q4 b hb with h|h
  ·rcases lY b h with h|h
   ·have:=fK b h;omega
   ·omega
  ·rw[fx]at h;omega)
 have h9:=((h8.vO ax (by omega)).step (by omega)).nil ((I.refl aq _).alloc (.cells #[.pointer (some ⟨b7,0,none⟩)] 30));have k9:I (fun i=>i=t.b\/i=w.heap.size) w7 _:=(((k8.mono (fun i hi=>Or.inr hi)).trans ((dr (t:=t) 2 (.int .i64 ax)).mono (fun i hi=>Or.inl hi))).trans ((dr (t:=t) 1 (.int .i64 ((X.1.next:Int)+1))).mono (fun i hi=>Or.inl hi))).alloc (.cells #[.pointer (some ⟨b7,0,none⟩)] 30);have b9:=(((oq.setCell 4 (.slice (some ⟨w7.heap.size,0,none⟩) 1 1)).dD (p:=⟨t.b,2,none⟩) (show w.heap.size≠t.b by omega) (.int .i64 ax)).dD (p:=⟨t.b,1,none⟩) (show w.heap.size≠t.b by omega) (.int .i64 ((X.1.next:Int)+1))).alloc (.cells #[.pointer (some ⟨b7,0,none⟩)] 30);have oz:ay ((((w7.setCell ⟨w.heap.size,4,none⟩ (.slice (some ⟨w7.heap.size,0,none⟩) 1 1)).setCell ⟨t.b,2,none⟩ (.int .i64 ax)).setCell ⟨t.b,1,none⟩ (.int .i64 ((X.1.next:Int)+1))).alloc (.cells #[.pointer (some ⟨b7,0,none⟩)] 30)) w7.heap.size #[.pointer (some ⟨b7,0,none⟩)] 30:=ay.jF _ _ (by simp only[fx]);go_wp2_with fail;go_ret;rw[HR.out];exact Pc (wa:=wx.setCell ⟨t.b,2,none⟩ (.int .i64 ax)) hT k6 rfl (by rw[fx];exact sx) lY q2 q3 q4 pD h9 k9 (oz.cell 0) (Aa _) b9 adG
theorem agU(hA:yP g k)(hT:bc w t g st ax vn nl)(ar:st.next<t.l.length)(rX:g.rs.length-st.next<=k)
 (hq:(aa g {st with next:=st.next+1}==63)=true)(hr:(aa g {st with next:=st.next+2}==58)=true)(hf:(jr g (aE g k) {st with next:=st.next+1}).1.au.form=none):
 Calls prog 88 #[.pointer (some ⟨t.b,0,none⟩)] w (gP w t g ax vn (jr g (aE g k) {st with next:=st.next+1}) (pK g (fe g k) ax {st with next:=st.next+1})):=by
 have hl:=hT.len;have oG:=hT.nZ;have oM:=hT.gR;obtain⟨i0,b_,cE,cI,cH⟩:=A7 Tryz.QO
 have oI:dy g {st with next:=st.next+1}=(⟨st.next+3,st.au,st.aC,st.names⟩:RS):=by
  have lT:(dy g {st with next:=st.next+1}).au.form=none:=EO g k _ (jE hf).2.1;unfold dy at lT⊢;rw[show ak dG (aa g {st with next:=st.next+1})=(aa g {st with next:=st.next+1}==63)from kD 63 _,hq]at lT⊢;simp only[Dv,if_false]at lT⊢;rw[show ak pH (aa g {st with next:=st.next+2})=(aa g {st with next:=st.next+2}==60)from kD 60 _]at lT⊢;rw[Ai.1 hr]at lT⊢;simp only[show((58:Int)==60)=false from rfl,Ag,if_false]at lT⊢;rw[(jE lT).2.2];rw[show bT g lI {st with next:=st.next+2}={st with next:=st.next+2}from by unfold bT;rw[if_neg (by rw[Ai.1 hr];decide)]]
 have HR:Hid (pK g (fe g k) ax {st with next:=st.next+1}=.node gW [] false false [fe g k (ax) (⟨st.next+3,st.au,st.aC,st.names⟩:RS)] 0 0 0 false):=by
  show _=_
  unfold pK;rw[if_neg (by rw[vB,hq];simp),if_neg (by show¬ak pH (aa g {st with next:=st.next+2})=true;rw[Ai.1 hr];decide),if_neg (by show¬ak lI (aa g {st with next:=st.next+2})=true;rw[Ai.1 hr];decide),oI]
 unfold jr at hf⊢;rw[oI]at hf⊢;clear oI;obtain⟨a1,a2,a3⟩:=jE hf;rw[a3];clear a3 hf;obtain⟨X,hX⟩:∃X,aE g k (⟨st.next+3,st.au,st.aC,st.names⟩:RS)=X:=⟨_,rfl⟩
 rw[hX]at a1 a2⊢;have HS:Hid (aE g k (⟨st.next+3,st.au,st.aC,st.names⟩:RS)=X):=hX;clear hX;have c1:w.cell? ⟨t.b,1,none⟩=some (.int .i64 st.next):=hT.ae.cell 1;have f1:=hT.ae.frozen 1;have km:=hT.aC;go_in;go_wp2_with fail;have h1:bc ((w.setCell ⟨t.b,1,none⟩ (.int .i64 ((st.next:Int)+1))).alloc (uV fi)) t g {st with next:=st.next+1} ax vn nl:=(hT.step ar).nil ((I.refl _ _).alloc _);have k1:I (fun i=>i=t.b\/vn.ownBlock=some i) w ((w.setCell ⟨t.b,1,none⟩ (.int .i64 ((st.next:Int)+1))).alloc (uV fi)):=((dr (w:=w) (t:=t) 1 (.int .i64 ((st.next:Int)+1))).mono (fun i hi=>Or.inl hi)).alloc _;have b1:ay ((w.setCell ⟨t.b,1,none⟩ (.int .i64 ((st.next:Int)+1))).alloc (uV fi)) w.heap.size (gJ fi (.slice none 0 0) false false (.slice none 0 0) 0 0 0 false) 114:=ay.jF _ _ (by rw[fx]);refine(dI h1).mono ?_;rintro e w2 ⟨rfl,h2,aG⟩;have k2:=k1.trans (aG.mono (fun i hi=>Or.inl hi));have b2:=b1.kept aG (by omega);have s2:=b2.lt;clear h1 k1 b1 aG c1 f1;have fK:∀i,vn.ownBlock=some i->i<w.heap.size:=fun i hi=>(cA hT.names hi).2
 have mA:nl.length<=300:=by have:=hT.l8.1;have:=hT.next;omega
 have yk:st.next+1<t.l.length:=by have:=gI (g:=g) (st:={st with next:=st.next+1}) (by rw[Ai.1 hq];omega);simp at this;omega
 have zg:w2.cell? ⟨t.b,1,none⟩=some (.int .i64 ((st.next:Int)+1)):=by have:=h2.ae.cell 1;simpa using this
 have f21:=h2.ae.frozen 1
 have h3:bc (w2.setCell ⟨t.b,1,none⟩ (.int .i64 ((st.next:Int)+2))) t g {st with next:=st.next+2} ax vn nl:=by
  have:=h2.oZ (st.next+2) (by omega) (by simp);simpa using this
 have b3:=b2.dD (p:=⟨t.b,1,none⟩) (show w.heap.size≠t.b by omega) (.int .i64 ((st.next:Int)+2));have k3:=k2.trans ((dr (w:=w2) (t:=t) 1 (.int .i64 ((st.next:Int)+2))).mono (fun i hi=>Or.inl hi));clear zg f21;have zg:w2.cell? ⟨t.b,1,none⟩=some (.int .i64 ((st.next:Int)+1)):=by have:=h2.ae.cell 1;simpa using this
 have f21:=h2.ae.frozen 1;go_wp2_with fail;refine(dI h3).mono ?_;rintro e w4 ⟨rfl,h4,cQ⟩;have b4:=b3.kept cQ (by omega);have k4:=k3.trans (cQ.mono (fun i hi=>Or.inl hi));clear zg f21 h3 b3 k3 cQ;have Gx:st.next+2<t.l.length:=by have:=gI (g:=g) (st:={st with next:=st.next+2}) (by rw[Ai.1 hr];omega);simp at this;omega
 have K_:w4.cell? ⟨t.b,1,none⟩=some (.int .i64 ((st.next:Int)+2)):=by have:=h4.ae.cell 1;simpa using this
 have f41:=h4.ae.frozen 1;have TR:w4.cell? ⟨w.heap.size,0,none⟩=some (.string ⟨#[103,114,111,117,112]⟩):=b4.cell 0;have f40:=b4.frozen 0
 have h5:bc (w4.setCell ⟨t.b,1,none⟩ (.int .i64 ((st.next:Int)+3))) t g {st with next:=st.next+3} ax vn nl:=by
  have:=h4.oZ (st.next+3) (by omega) (by simp);simpa using this
 have b5:=(b4.dD (p:=⟨t.b,1,none⟩) (show w.heap.size≠t.b by omega) (.int .i64 ((st.next:Int)+3))).setCell 0 (.string gW);have k5:I (fun i=>i=w.heap.size) (w4.setCell ⟨t.b,1,none⟩ (.int .i64 ((st.next:Int)+3))) ((w4.setCell ⟨t.b,1,none⟩ (.int .i64 ((st.next:Int)+3))).setCell ⟨w.heap.size,0,none⟩ (.string gW)):=(I.refl (fun i=>i=w.heap.size) _).setCell (p:=⟨w.heap.size,0,none⟩) (Or.inl rfl) _;have LF:=h5.new hT k5 (fun i hi=>by omega) (fun b hb hx=>by have:=fK b hb;omega);have MP:=(k4.trans ((dr (w:=w4) (t:=t) 1 (.int .i64 ((st.next:Int)+3))).mono (fun i hi=>Or.inl hi))).bY k5 (fun i hi he=>by omega);have lY:∀i,vn.ownBlock=some i->vn.ownBlock=some i\/w.heap.size<i:=fun i hi=>Or.inl hi
 have c42:w4.cell? ⟨t.b,2,none⟩=some (.int .i64 ax):=h4.ae.cell 2;have f42:=h4.ae.frozen 2;have ajO:=h4.gR;have ajv:=b4.lt;clear k4 b4 h4;obtain⟨wx,rZ⟩:∃wx,wx=((w4.setCell ⟨t.b,1,none⟩ (.int .i64 ((st.next:Int)+3))).setCell ⟨w.heap.size,0,none⟩ (.string gW)):=⟨_,rfl⟩
 have hx:=LF;have bx:=b5;have kx:=MP;rw[<-rZ]at hx bx kx;clear LF b5 MP h5 k5;have V_:t.b<wx.heap.size:=hx.gR;have Wk:=hx.next
 have L_:=hT.kO;have T7:wx.cell? ⟨t.b,2,none⟩=some (.int .i64 ax):=hx.ae.cell 2;have UB:=hx.ae.frozen 2;have Gn:0<=ax/\ax<=(((st.next+3):Nat):Int):=by omega
 have h6:=hx.vO ax Gn;have b6:=bx.dD (p:=⟨t.b,2,none⟩) (show w.heap.size≠t.b by omega) (.int .i64 ax);have k6:=kx.trans ((dr (w:=wx) (t:=t) 2 (.int .i64 ax)).mono (fun i hi=>Or.inl hi));go_wp2_with fail;rw[show(⟨#[98,97,114,101]⟩:ByteArray)=gW from rfl,show((st.next:Int)+2+1)=(st.next:Int)+3 from by omega,<-rZ];clear rZ;refine(hA _ t _ _ _ _ h6 (by show g.rs.length-(st.next+3)<k;omega) (by rw[HS.out];exact a2)).mono ?_;rw[HS.out];rintro e w7 ⟨b7,Hv,WY,rfl,h7,q2,q3,q4⟩;have pD:∀i,Hv.ownBlock=some i->i<w7.heap.size:=fun i hi=>(cA h7.names hi).2
 have oq:=b6.kept q3 (by rintro(e|e);·omega
                         ·rcases lY _ e with h|h
                          ·have:=fK _ h;omega
                          ·omega)
 have s7:=q3.size;rw[fx]at s7;have sx:=bx.lt;have hX:=h7.next
 have xc:=gI (g:=g) (st:=X.1) (by intro e;rw[e,Jr]at a1;exact absurd a1 (by simp));have Vk:=h7.kO;have Ld:w7.cell? ⟨w.heap.size,4,none⟩=some (.slice none 0 0):=oq.cell 4;have f74:=oq.frozen 4;have TW:w7.cell? ⟨t.b,2,none⟩=some (.int .i64 ax):=h7.ae.cell 2;have f72:=h7.ae.frozen 2;have Ir:w7.cell? ⟨t.b,1,none⟩=some (.int .i64 X.1.next):=h7.ae.cell 1;have f71:=h7.ae.frozen 1;have V7:=h7.gR;have VG:=oq.lt;have UZ:X.1.next<=300:=by omega
 have k8:I (fun i=>i=w.heap.size) w7 (w7.setCell ⟨w.heap.size,4,none⟩ (.slice (some ⟨w7.heap.size,0,none⟩) 1 1)):=(I.refl (fun i=>i=w.heap.size) w7).setCell (p:=⟨w.heap.size,4,none⟩) (Or.inl rfl) _
 have h8:=h7.new hT k8 (fun i hi=>by omega) (fun b hb hx=>by
  rcases q4 b hb with h|h
  ·rcases lY b h with h|h
   ·have:=fK b h;omega
   ·omega
  ·rw[fx]at h;omega)
 have h9:=((h8.vO ax (by omega)).step (by omega)).nil ((I.refl aq _).alloc (.cells #[.pointer (some ⟨b7,0,none⟩)] 30));have k9:I (fun i=>i=t.b\/i=w.heap.size) w7 _:=(((k8.mono (fun i hi=>Or.inr hi)).trans ((dr (t:=t) 2 (.int .i64 ax)).mono (fun i hi=>Or.inl hi))).trans ((dr (t:=t) 1 (.int .i64 ((X.1.next:Int)+1))).mono (fun i hi=>Or.inl hi))).alloc (.cells #[.pointer (some ⟨b7,0,none⟩)] 30);have b9:=(((oq.setCell 4 (.slice (some ⟨w7.heap.size,0,none⟩) 1 1)).dD (p:=⟨t.b,2,none⟩) (show w.heap.size≠t.b by omega) (.int .i64 ax)).dD (p:=⟨t.b,1,none⟩) (show w.heap.size≠t.b by omega) (.int .i64 ((X.1.next:Int)+1))).alloc (.cells #[.pointer (some ⟨b7,0,none⟩)] 30);have oz:ay ((((w7.setCell ⟨w.heap.size,4,none⟩ (.slice (some ⟨w7.heap.size,0,none⟩) 1 1)).setCell ⟨t.b,2,none⟩ (.int .i64 ax)).setCell ⟨t.b,1,none⟩ (.int .i64 ((X.1.next:Int)+1))).alloc (.cells #[.pointer (some ⟨b7,0,none⟩)] 30)) w7.heap.size #[.pointer (some ⟨b7,0,none⟩)] 30:=ay.jF _ _ (by simp only[fx]);go_wp2_with fail;go_ret;rw[HR.out];exact Pc (wa:=wx.setCell ⟨t.b,2,none⟩ (.int .i64 ax)) hT k6 rfl (by rw[fx];exact sx) lY q2 q3 q4 pD h9 k9 (oz.cell 0) (Aa _) b9 adF
theorem agW(hA:yP g k)(hT:bc w t g st ax vn nl)(ar:st.next<t.l.length)(rX:g.rs.length-st.next<=k)
 (hq:(aa g {st with next:=st.next+1}==63)=true)(hr:(aa g {st with next:=st.next+2}==105)=true)(hl4:st.next+3<t.l.length)(hf:(jr g (aE g k) {st with next:=st.next+1}).1.au.form=none):
 Calls prog 88 #[.pointer (some ⟨t.b,0,none⟩)] w (gP w t g ax vn (jr g (aE g k) {st with next:=st.next+1}) (pK g (fe g k) ax {st with next:=st.next+1})):=by
 have hl:=hT.len;have oG:=hT.nZ;have oM:=hT.gR;obtain⟨i0,b_,cE,cI,cH⟩:=A7 Tryz.QO
 have oI:dy g {st with next:=st.next+1}=(⟨st.next+4,st.au,st.aC,st.names⟩:RS):=by
  have lT:(dy g {st with next:=st.next+1}).au.form=none:=EO g k _ (jE hf).2.1;unfold dy at lT⊢;rw[show ak dG (aa g {st with next:=st.next+1})=(aa g {st with next:=st.next+1}==63)from kD 63 _,hq]at lT⊢;simp only[Dv,if_false]at lT⊢;rw[show ak pH (aa g {st with next:=st.next+2})=(aa g {st with next:=st.next+2}==60)from kD 60 _]at lT⊢;rw[Ai.1 hr]at lT⊢;simp only[show((105:Int)==60)=false from rfl,Ag,if_false]at lT⊢;rw[(jE lT).2.2];rw[show bT g lI {st with next:=st.next+2}={st with next:=st.next+3}from by unfold bT;rw[if_pos (by rw[Ai.1 hr];decide)]]
 have HR:Hid (pK g (fe g k) ax {st with next:=st.next+1}=.node gW [] false false [fe g k (ax+1) (⟨st.next+4,st.au,st.aC,st.names⟩:RS)] 0 0 0 false):=by
  show _=_
  unfold pK;rw[if_neg (by rw[vB,hq];simp),if_neg (by show¬ak pH (aa g {st with next:=st.next+2})=true;rw[Ai.1 hr];decide),if_pos (by show ak lI (aa g {st with next:=st.next+2})=true;rw[Ai.1 hr];decide),oI]
 unfold jr at hf⊢;rw[oI]at hf⊢;clear oI;obtain⟨a1,a2,a3⟩:=jE hf;rw[a3];clear a3 hf;obtain⟨X,hX⟩:∃X,aE g k (⟨st.next+4,st.au,st.aC,st.names⟩:RS)=X:=⟨_,rfl⟩
 rw[hX]at a1 a2⊢;have HS:Hid (aE g k (⟨st.next+4,st.au,st.aC,st.names⟩:RS)=X):=hX;clear hX;have c1:w.cell? ⟨t.b,1,none⟩=some (.int .i64 st.next):=hT.ae.cell 1;have f1:=hT.ae.frozen 1;have km:=hT.aC;go_in;go_wp2_with fail;have h1:bc ((w.setCell ⟨t.b,1,none⟩ (.int .i64 ((st.next:Int)+1))).alloc (uV fi)) t g {st with next:=st.next+1} ax vn nl:=(hT.step ar).nil ((I.refl _ _).alloc _);have k1:I (fun i=>i=t.b\/vn.ownBlock=some i) w ((w.setCell ⟨t.b,1,none⟩ (.int .i64 ((st.next:Int)+1))).alloc (uV fi)):=((dr (w:=w) (t:=t) 1 (.int .i64 ((st.next:Int)+1))).mono (fun i hi=>Or.inl hi)).alloc _;have b1:ay ((w.setCell ⟨t.b,1,none⟩ (.int .i64 ((st.next:Int)+1))).alloc (uV fi)) w.heap.size (gJ fi (.slice none 0 0) false false (.slice none 0 0) 0 0 0 false) 114:=ay.jF _ _ (by rw[fx]);refine(dI h1).mono ?_;rintro e w2 ⟨rfl,h2,aG⟩;have k2:=k1.trans (aG.mono (fun i hi=>Or.inl hi));have b2:=b1.kept aG (by omega);have s2:=b2.lt;clear h1 k1 b1 aG c1 f1;have fK:∀i,vn.ownBlock=some i->i<w.heap.size:=fun i hi=>(cA hT.names hi).2
 have mA:nl.length<=300:=by have:=hT.l8.1;have:=hT.next;omega
 have yk:st.next+1<t.l.length:=by have:=gI (g:=g) (st:={st with next:=st.next+1}) (by rw[Ai.1 hq];omega);simp at this;omega
 have zg:w2.cell? ⟨t.b,1,none⟩=some (.int .i64 ((st.next:Int)+1)):=by have:=h2.ae.cell 1;simpa using this
 have f21:=h2.ae.frozen 1
 have h3:bc (w2.setCell ⟨t.b,1,none⟩ (.int .i64 ((st.next:Int)+2))) t g {st with next:=st.next+2} ax vn nl:=by
  have:=h2.oZ (st.next+2) (by omega) (by simp);simpa using this
 have b3:=b2.dD (p:=⟨t.b,1,none⟩) (show w.heap.size≠t.b by omega) (.int .i64 ((st.next:Int)+2));have k3:=k2.trans ((dr (w:=w2) (t:=t) 1 (.int .i64 ((st.next:Int)+2))).mono (fun i hi=>Or.inl hi));clear zg f21;have zg:w2.cell? ⟨t.b,1,none⟩=some (.int .i64 ((st.next:Int)+1)):=by have:=h2.ae.cell 1;simpa using this
 have f21:=h2.ae.frozen 1;go_wp2_with fail;refine(dI h3).mono ?_;rintro e w4 ⟨rfl,h4,cQ⟩;have b4:=b3.kept cQ (by omega);have k4:=k3.trans (cQ.mono (fun i hi=>Or.inl hi));clear zg f21 h3 b3 k3 cQ;have Gx:st.next+2<t.l.length:=by have:=gI (g:=g) (st:={st with next:=st.next+2}) (by rw[Ai.1 hr];omega);simp at this;omega
 have K_:w4.cell? ⟨t.b,1,none⟩=some (.int .i64 ((st.next:Int)+2)):=by have:=h4.ae.cell 1;simpa using this
 have f41:=h4.ae.frozen 1;have TR:w4.cell? ⟨w.heap.size,0,none⟩=some (.string ⟨#[103,114,111,117,112]⟩):=b4.cell 0;have f40:=b4.frozen 0
 have h5:bc (w4.setCell ⟨t.b,1,none⟩ (.int .i64 ((st.next:Int)+3))) t g {st with next:=st.next+3} ax vn nl:=by
  have:=h4.oZ (st.next+3) (by omega) (by simp);simpa using this
 have b5:=(b4.dD (p:=⟨t.b,1,none⟩) (show w.heap.size≠t.b by omega) (.int .i64 ((st.next:Int)+3))).setCell 0 (.string gW);have k5:I (fun i=>i=w.heap.size) (w4.setCell ⟨t.b,1,none⟩ (.int .i64 ((st.next:Int)+3))) ((w4.setCell ⟨t.b,1,none⟩ (.int .i64 ((st.next:Int)+3))).setCell ⟨w.heap.size,0,none⟩ (.string gW)):=(I.refl (fun i=>i=w.heap.size) _).setCell (p:=⟨w.heap.size,0,none⟩) (Or.inl rfl) _;have LF:=h5.new hT k5 (fun i hi=>by omega) (fun b hb hx=>by have:=fK b hb;omega);have MP:=(k4.trans ((dr (w:=w4) (t:=t) 1 (.int .i64 ((st.next:Int)+3))).mono (fun i hi=>Or.inl hi))).bY k5 (fun i hi he=>by omega);have lY:∀i,vn.ownBlock=some i->vn.ownBlock=some i\/w.heap.size<i:=fun i hi=>Or.inl hi
 have c42:w4.cell? ⟨t.b,2,none⟩=some (.int .i64 ax):=h4.ae.cell 2;have f42:=h4.ae.frozen 2;have ajO:=h4.gR;have ajv:=b4.lt;clear k4 b4 h4
 have h7a:bc (((w4.setCell ⟨t.b,1,none⟩ (.int .i64 ((st.next:Int)+3))).setCell ⟨w.heap.size,0,none⟩ (.string gW)).setCell ⟨t.b,1,none⟩ (.int .i64 ((st.next:Int)+4))) t g {st with next:=st.next+4} ax vn nl:=by
  have:=LF.oZ (st.next+4) (by omega) (by simp);simpa using this
 have Z2:=b5.dD (p:=⟨t.b,1,none⟩) (show w.heap.size≠t.b by omega) (.int .i64 ((st.next:Int)+4));have k7a:=MP.trans ((dr (w:=((w4.setCell ⟨t.b,1,none⟩ (.int .i64 ((st.next:Int)+3))).setCell ⟨w.heap.size,0,none⟩ (.string gW))) (t:=t) 1 (.int .i64 ((st.next:Int)+4))).mono (fun i hi=>Or.inl hi));obtain⟨wx,rZ⟩:∃wx,wx=((w4.setCell ⟨t.b,1,none⟩ (.int .i64 ((st.next:Int)+3))).setCell ⟨w.heap.size,0,none⟩ (.string gW)).setCell ⟨t.b,1,none⟩ (.int .i64 ((st.next:Int)+4)):=⟨_,rfl⟩
 have hx:=h7a;have bx:=Z2;have kx:=k7a;rw[<-rZ]at hx bx kx;clear LF b5 MP h5 k5 h7a Z2 k7a;have V_:t.b<wx.heap.size:=hx.gR;have Wk:=hx.next
 have L_:=hT.kO;have T7:wx.cell? ⟨t.b,2,none⟩=some (.int .i64 ax):=hx.ae.cell 2;have UB:=hx.ae.frozen 2;have Gn:0<=(ax+1)/\(ax+1)<=(((st.next+4):Nat):Int):=by omega
 have h6:=hx.vO (ax+1) Gn;have b6:=bx.dD (p:=⟨t.b,2,none⟩) (show w.heap.size≠t.b by omega) (.int .i64 (ax+1));have k6:=kx.trans ((dr (w:=wx) (t:=t) 2 (.int .i64 (ax+1))).mono (fun i hi=>Or.inl hi));go_wp2_with fail;rw[show(⟨#[98,97,114,101]⟩:ByteArray)=gW from rfl,show((st.next:Int)+2+1+1)=(st.next:Int)+4 from by omega,show((st.next:Int)+2+1)=(st.next:Int)+3 from by omega,<-rZ];clear rZ;refine(hA _ t _ _ _ _ h6 (by show g.rs.length-(st.next+4)<k;omega) (by rw[HS.out];exact a2)).mono ?_;rw[HS.out];rintro e w7 ⟨b7,Hv,WY,rfl,h7,q2,q3,q4⟩;have pD:∀i,Hv.ownBlock=some i->i<w7.heap.size:=fun i hi=>(cA h7.names hi).2
 have oq:=b6.kept q3 (by rintro(e|e);·omega
                         ·rcases lY _ e with h|h
                          ·have:=fK _ h;omega
                          ·omega)
 have s7:=q3.size;rw[fx]at s7;have sx:=bx.lt;have hX:=h7.next
 have xc:=gI (g:=g) (st:=X.1) (by intro e;rw[e,Jr]at a1;exact absurd a1 (by simp));have Vk:=h7.kO;have Ld:w7.cell? ⟨w.heap.size,4,none⟩=some (.slice none 0 0):=oq.cell 4;have f74:=oq.frozen 4;have TW:w7.cell? ⟨t.b,2,none⟩=some (.int .i64 (ax+1)):=h7.ae.cell 2;have f72:=h7.ae.frozen 2;have Ir:w7.cell? ⟨t.b,1,none⟩=some (.int .i64 X.1.next):=h7.ae.cell 1;have f71:=h7.ae.frozen 1;have V7:=h7.gR;have VG:=oq.lt;have UZ:X.1.next<=300:=by omega
 have k8:I (fun i=>i=w.heap.size) w7 (w7.setCell ⟨w.heap.size,4,none⟩ (.slice (some ⟨w7.heap.size,0,none⟩) 1 1)):=(I.refl (fun i=>i=w.heap.size) w7).setCell (p:=⟨w.heap.size,4,none⟩) (Or.inl rfl) _
 have h8:=h7.new hT k8 (fun i hi=>by omega) (fun b hb hx=>by
  rcases q4 b hb with h|h
  ·rcases lY b h with h|h
   ·have:=fK b h;omega
   ·omega
  ·rw[fx]at h;omega)
 have h9:=((h8.vO ax (by omega)).step (by omega)).nil ((I.refl aq _).alloc (.cells #[.pointer (some ⟨b7,0,none⟩)] 30));have k9:I (fun i=>i=t.b\/i=w.heap.size) w7 _:=(((k8.mono (fun i hi=>Or.inr hi)).trans ((dr (t:=t) 2 (.int .i64 ax)).mono (fun i hi=>Or.inl hi))).trans ((dr (t:=t) 1 (.int .i64 ((X.1.next:Int)+1))).mono (fun i hi=>Or.inl hi))).alloc (.cells #[.pointer (some ⟨b7,0,none⟩)] 30);have b9:=(((oq.setCell 4 (.slice (some ⟨w7.heap.size,0,none⟩) 1 1)).dD (p:=⟨t.b,2,none⟩) (show w.heap.size≠t.b by omega) (.int .i64 ax)).dD (p:=⟨t.b,1,none⟩) (show w.heap.size≠t.b by omega) (.int .i64 ((X.1.next:Int)+1))).alloc (.cells #[.pointer (some ⟨b7,0,none⟩)] 30);have oz:ay ((((w7.setCell ⟨w.heap.size,4,none⟩ (.slice (some ⟨w7.heap.size,0,none⟩) 1 1)).setCell ⟨t.b,2,none⟩ (.int .i64 ax)).setCell ⟨t.b,1,none⟩ (.int .i64 ((X.1.next:Int)+1))).alloc (.cells #[.pointer (some ⟨b7,0,none⟩)] 30)) w7.heap.size #[.pointer (some ⟨b7,0,none⟩)] 30:=ay.jF _ _ (by simp only[fx]);go_wp2_with fail;go_ret;rw[HR.out];exact Pc (wa:=wx.setCell ⟨t.b,2,none⟩ (.int .i64 (ax+1))) hT k6 rfl (by rw[fx];exact sx) lY q2 q3 q4 pD h9 k9 (oz.cell 0) (Aa _) b9 adF
theorem aef(g:RG)(first:Nat):∀(m:Nat) (st:RS),fB g first m st={st with next:=(fB g first m st).next}
 |0,_=>rfl
 |m+1,st=>by
  unfold fB;split
  ·exact aef g first m {st with next:=st.next+1}
  ·rfl
theorem aed(g:RG)(first:Nat):∀(m:Nat) (st:RS) (j:Nat),st.next<=j->j<(fB g first m st).next->ak jc (g.rs.getD j (-1))=true
 |0,st,j,h1,h2=>by simp only[fB]at h2;omega
 |m+1,st,j,h1,h2=>by
  unfold fB at h2;split at h2
  ·rename_i hc
   by_cases hj:j=st.next
   ·subst hj;exact hc.2
   ·exact aed g first m {st with next:=st.next+1} j (by simp;omega) h2
  ·omega
def j_(g:RG)(a b:Nat):List UInt8:=((g.rs.take b).drop a).map fun r=>UInt8.ofNat r.toNat
theorem ag_(g:RG)(a:Nat):j_ g a a=[]:=by simp[j_]
theorem aha(g:RG)(a b:Nat)(Gh:a<=b)(hb:b<g.rs.length):j_ g a (b+1)=j_ g a b++[UInt8.ofNat (g.rs.getD b (-1)).toNat]:=by
 unfold j_;rw[Cb hb,List.drop_append_of_le_length (by simp;omega)];simp[List.getD,Ab hb]
theorem aao(g:RG)(a b:Nat)(hb:b<=g.rs.length):(j_ g a b).length=b-a:=by
 simp[j_];omega
theorem Rh{r:Int}(h:ak jc r=true):97<=r/\r<=122:=by
 unfold ak jc at h;simp only[Ch,Cn,Br,Bo,Ai]at h;rcases h with h|h|h|h|h|h|h|h|h|h|h|h|h|h|h|h|h|h|h|h|h|h|h|h|h|h<;>rw[<-h]<;>decide
theorem ah0(r:Int)(h:97<=r/\r<=122):(Utf8.encode r).data.toList=[UInt8.ofNat r.toNat]:=by
 have:r=97\/r=98\/r=99\/r=100\/r=101\/r=102\/r=103\/r=104\/r=105\/r=106\/r=107\/r=108\/r=109\/r=110\/r=111\/r=112\/r=113\/r=114\/r=115\/r=116\/r=117\/r=118\/r=119\/r=120\/r=121\/r=122:=by omega
 rcases this with h|h|h|h|h|h|h|h|h|h|h|h|h|h|h|h|h|h|h|h|h|h|h|h|h|h<;>subst h<;>rfl
theorem ano(l:List Int)(hl:∀r∈l,97<=r/\r<=122):AH l=l.map fun r=>UInt8.ofNat r.toNat:=by
 have key:∀(l:List Int) (aA:ByteArray),(∀r∈l,97<=r/\r<=122)->(l.foldl (fun r n=>r++Utf8.encode n) aA).data.toList=aA.data.toList++l.map fun r=>UInt8.ofNat r.toNat:=by
  intro l;induction l with
  |nil=>intro aA _;simp
  |cons a l ih=>
   intro aA h;rw[Cu,ih _ (fun r hr=>h r (Ar _ hr))];rw[ByteArray.data_append,Array.toList_append,ah0 a (h a Aq)];simp
 unfold AH runesBytes;rw[key l _ hl];rfl
theorem tK.named(h:tK st nl)(x:List UInt8)(hx:x≠ [])(Jb:nl.any (fun y=>y==x)=false):tK {st with aC:=st.aC+1,names:=(x,st.aC+1)::st.names} (nl++[x]):=by
 have aF:∀j:Nat,nl[j]? =some x->False:=by
  intro j hj;rw[Ee]at Jb;obtain⟨hl,he⟩:=Af.1 hj;exact Jb _ (Ay hl) (by rw[he];simp)
 refine⟨by simp[h.1],fun y hy=>?_,fun p hp=>?_,fun hn y i hy=>?_⟩
 ·simp only[Ch,Cl,Cn,Br];rw[h.2.1 y hy,Bool.or_comm]
 ·rcases Bk.1 hp with rfl|hp
  ·exact hx
  ·exact h.2.2.1 p hp
 ·simp only[Bk,Prod.mk.injEq];rw[h.2.2.2 hn y i hy];constructor
  ·rintro(⟨rfl,rfl⟩|⟨j,rfl,hj⟩)
   ·exact⟨nl.length,by rw[h.1],by simp⟩
   ·refine⟨j,rfl,?_⟩;rw[Au (Af.1 hj).1];exact hj
  ·rintro⟨j,rfl,hj⟩;by_cases ar:j<nl.length
   ·rw[Au ar]at hj;exact Or.inr ⟨j,rfl,hj⟩
   ·rw[Be (by omega)]at hj
    cases hd:j-nl.length with
    |zero=>
     rw[hd]at hj;simp at hj;exact Or.inl ⟨hj.symm,by have:=h.1;omega⟩
    |succ m=>rw[hd]at hj;simp at hj
theorem tK.aoV(h:tK st nl)(x:List UInt8)(hx:x≠ [])(hold:nl.any (fun y=>y==x)=true)(hn:st.au.kX≠none):tK {st with aC:=st.aC+1} (nl++[x]):=by
 refine⟨by simp[h.1],fun y hy=>?_,h.2.2.1,fun nU=>absurd nU hn⟩;simp only[Cl,Ch,Cn,Br];rw[h.2.1 y hy]
 cases hxy:(x==y)
 ·simp
 ·have e:x=y:=by simpa using hxy
  subst e;rw[hold];rfl
theorem bc.anK(h:bc w t g st ax vn nl)(p:Int)(hp:0<=p)(hn:st.au.kX=none):bc (w.setCell ⟨t.b,6,none⟩ (.int .i64 p)) t g (st.bG 6 p) ax vn nl:=by
 have e:st.bG 6 p={st with au:={st.au with kX:=some p}}:=by simp[RS.bG,bu.bG,bu.get,hn,bu.put]
 have k:I (fun i=>i=t.b) w (w.setCell ⟨t.b,6,none⟩ (.int .i64 p)):=dr 6 _;rw[e]
 exact{h with
  ae:=h.ae.setCell 6 _
  gl:=h.gl.kept k (fun hl=>h.ne hl)
  names:=dh h.names k (fun b hb he=>by have:=(cA h.names hb).1;omega)
  l8:=⟨h.l8.1,h.l8.2.1,h.l8.2.2.1,fun hc=>by simp at hc⟩
  aC:=h.aC
  kO:=h.kO
  mj:=⟨h.mj.1,h.mj.2.1,fun q hq=>by simp at hq;omega⟩}
theorem adt(p:Int)(hn:st.au.kX≠none):st.bG 6 p=st:=by
 cases hc:st.au.kX with
 |none=>exact absurd hc hn
 |some q=>simp[RS.bG,bu.bG,bu.get,hc]
theorem ads(st:RS)(p:Int):(st.bG 6 p).au.kX≠none:=by
 cases hc:st.au.kX with
 |none=>simp[RS.bG,bu.bG,bu.get,hc,bu.put]
 |some q=>simp[RS.bG,bu.bG,bu.get,hc]
def mG(st:RS)(nl:List (List UInt8))(x:List UInt8)(p:Int):RS:=if nl.any (fun y=>y==x)then st.bG 6 p else st
theorem WT(st:RS)(nl:List (List UInt8))(x:List UInt8)(p:Int):(mG st nl x p).next=st.next:=by unfold mG;split<;>rfl
theorem ak6(st:RS)(nl:List (List UInt8))(x:List UInt8)(p:Int):(mG st nl x p).aC=st.aC:=by unfold mG;split<;>rfl
theorem ak7(st:RS)(nl:List (List UInt8))(y x:List UInt8)(p:Int)(h:(y==x)=true):mG st (nl++[y]) x p=(mG st nl x p).bG 6 p:=by
 unfold mG;simp only[Cl,Ch,Cn,Br,h,Bool.or_true,if_true];split
 ·rw[adt _ (ads st p)]
 ·rfl
theorem ak8(st:RS)(nl:List (List UInt8))(y x:List UInt8)(p:Int)(h:(y==x)=false):mG st (nl++[y]) x p=mG st nl x p:=by
 unfold mG;simp only[Cl,Ch,Cn,Br,h]
end Go.Proofs.YtmbpfhlnifdhgaaGreatDoor
