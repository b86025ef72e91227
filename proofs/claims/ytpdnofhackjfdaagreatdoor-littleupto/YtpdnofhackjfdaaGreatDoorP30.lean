/- The engine of ma -/
import Derived.Test.YtpdnofhackjfdaaGreatDoorP29
set_option linter.all false
set_option maxRecDepth 100000
set_option maxHeartbeats 4000000
namespace Go.Proofs.YtpdnofhackjfdaaGreatDoor
open Go.Proofs.Tryz
variable {X:ByteArray} {c:CX} {bh r r':Int} {M cl:List Int} {ms:List MS} {l:List bG} {a b f i j k n q st u:Nat} {T:Nat->ik} {mt:Option (Int×Nat)}
theorem aoI(m:MS)(bh st:Int)(f:FS):∃e:List bG,(l7 m bh st f).next=f.next++e/\∀t∈e,t.2=st:=by
 unfold l7;split
 ·exact⟨[(m.next,st)],rfl,fun t ht=>by simp only[Bo]at ht;rw[ht]⟩
 ·exact⟨[],by simp,fun t ht=>by cases ht⟩
theorem aaT(ms:List MS)(ah bh:Int):∀(d:Nat) (u st:Int) (f:FS),∃e:List bG,(gw ms ah bh d u st f).1.next=f.next++e/\∀t∈e,t.2=st
 |0,_,_,f=>⟨[],by unfold gw;simp,fun t ht=>by cases ht⟩
 |d+1,u,st,f=>by
  have IH:=fun u f=>aaT ms ah bh d u st f
  have Z:∃e:List bG,f.next=f.next++e/\∀t∈e,t.2=st:=⟨[],by simp,fun t ht=>by cases ht⟩
  unfold gw;split
  ·exact Z
  ·split
   ·exact Z
   ·split
    ·exact Z
    ·split
     ·exact aoI _ _ _ _
     ·split
      ·split
       ·exact IH _ _
       ·exact Z
      ·split
       ·exact IH _ _
       ·split
        ·exact IH _ _
        ·rename_i m _ _ _ _ _ _
         obtain⟨e1,h1,h2⟩:=IH m.next ⟨f.seen.set u.toNat true,f.dI,f.next⟩
         obtain⟨e2,h3,h4⟩:=IH m.a_ (gw ms ah bh d m.next st ⟨f.seen.set u.toNat true,f.dI,f.next⟩).1;refine⟨e1++e2,by rw[h3,h1,Bd],fun t ht=>?_⟩;rcases Al.1 ht with ht|ht
         ·exact h2 t ht
         ·exact h4 t ht
def nY(l:List bG):Prop:=(l.map (·.2)).Pairwise (· <= ·)
theorem aec{e:List bG}{st:Int}(h:∀t∈e,t.2=st):nY e:=by
 unfold nY;rw[List.pairwise_map];exact List.Pairwise.imp_of_mem (fun ha hb _=>by rw[h _ ha,h _ hb];exact Ce _) (List.pairwise_of_forall (R:=fun _ _=>True) (fun _ _=>trivial))
theorem aeN(ms:List MS)(ah bh:Int):∀(l:List bG) (f:FS),nY l->∃e:List bG,(iK ms ah bh l f).1.next=f.next++e/\(∀t∈e,∃q∈l,q.2=t.2)/\nY e/\∀st,(iK ms ah bh l f).2=some st->∃q∈l,q.2=st
 | [],f,_=>⟨[],by unfold iK;simp,fun t ht=>(by cases ht),by unfold nY;simp,fun st h=>(by unfold iK at h;cases h)⟩
 |t::ts,f,hr=>by
  obtain⟨e1,h1,h2⟩:=aaT ms ah bh ms.length t.1 t.2 f;unfold nY at hr;simp only[Bw,Cu]at hr;unfold iK;split
  ·refine⟨e1,h1,fun q hq=>⟨t,by simp,(h2 q hq).symm⟩,aec h2,fun st h=>⟨t,by simp,by simpa using h⟩⟩
  ·obtain⟨e2,h3,h4,h5,h6⟩:=aeN ms ah bh ts (gw ms ah bh ms.length t.1 t.2 f).1 hr.2;refine⟨e1++e2,by rw[h3,h1,Bd],fun q hq=>?_,?_,fun st h=>?_⟩
   ·rcases Al.1 hq with hq|hq
    ·exact⟨t,by simp,(h2 q hq).symm⟩
    ·obtain⟨p,hp,qD⟩:=h4 q hq;exact⟨p,by simp[hp],qD⟩
   ·unfold nY;rw[Ci,B7];refine⟨aec h2,h5,fun a ha b hb=>?_⟩;obtain⟨q,hq,rfl⟩:=Bg.1 ha;obtain⟨p,hp,rfl⟩:=Bg.1 hb;rw[h2 q hq];obtain⟨r,A_,sW⟩:=h4 p hp;rw[<-sW];exact hr.1 _ (Bg.2 ⟨r,A_,rfl⟩)
   ·obtain⟨p,hp,qD⟩:=h6 st h;exact⟨p,by simp[hp],qD⟩
theorem aot{ah:Int}(h:nY l):(∀t∈ (aZ ms ah bh l).1,∃q∈l,q.2=t.2)/\nY (aZ ms ah bh l).1/\∀st,(aZ ms ah bh l).2=some st->∃q∈l,q.2=st:=by
 obtain⟨e,h1,h2,h3,h4⟩:=aeN ms ah bh l (FS.new ms.length) h;have he:(iK ms ah bh l (FS.new ms.length)).1.next=e:=by rw[h1];rfl
 unfold aZ;rw[he];exact⟨h2,h3,h4⟩
def db(aJ:List Int)(s:Int):List Int:=if aJ.getLast?=some s then aJ else aJ++[s]
def gB:List bG->List Int->List bG×List Int
 | [],aJ=>([],aJ)
 |t::ts,aJ=>((t.1,((db aJ t.2).length:Int)-1)::(gB ts (db aJ t.2)).1,(gB ts (db aJ t.2)).2)
theorem UF(aJ:List Int)(s:Int):db aJ s≠ []:=by
 unfold db;split
 ·rename_i h;intro e;subst e;simp at h
 ·simp
theorem abl(aJ:List Int)(s:Int):(db aJ s).getLast?=some s:=by
 unfold db;split
 ·assumption
 ·simp
theorem abm(aJ:List Int)(s:Int):aJ<+:db aJ s:=by
 unfold db;split
 ·exact List.prefix_rfl
 ·exact List.prefix_append _ _
theorem WZ:∀(l:List bG) (aJ:List Int),aJ<+:(gB l aJ).2
 | [],aJ=>List.prefix_rfl
 |t::ts,aJ=>(abm aJ t.2).trans (WZ ts (db aJ t.2))
def gz(M:List Int)(j:Int):Int:=M.getD j.toNat 0
theorem acH{a b:List Int}(h:a<+:b)(hj:j<a.length):gz b (j:Int)=a.getD j 0:=by
 obtain⟨c,rfl⟩:=h;unfold gz;rw[Ay,Af,Af,A9 hj]
theorem aik{l:List Int}{s:Int}(h:l.getLast?=some s):l.getD (l.length-1) 0=s:=by
 rw[Ey]at h;rw[Af,h];rfl
theorem ad4:∀(l:List bG) (aJ:List Int),gV (gz (gB l aJ).2) (gB l aJ).1=l
 | [],aJ=>rfl
 |t::ts,aJ=>by
  have h1:=ad4 ts (db aJ t.2);have az:=UF aJ t.2;have cT:0<(db aJ t.2).length:=Br.2 az;have e:((db aJ t.2).length:Int)-1=(((db aJ t.2).length-1:Nat):Int):=by omega
  have h2:gz (gB ts (db aJ t.2)).2 (((db aJ t.2).length:Int)-1)=t.2:=by
   rw[e,acH (WZ ts (db aJ t.2)) (by omega)];exact aik (abl aJ t.2)
  show(t.1,gz (gB ts (db aJ t.2)).2 (((db aJ t.2).length:Int)-1))::gV (gz (gB ts (db aJ t.2)).2) (gB ts (db aJ t.2)).1=t::ts
  rw[h2,h1]
def jo(l:List bG):Nat:=match l.getLast? with
 |none=>0
 |some t=>(t.2+1).toNat
theorem ad5:∀(l:List bG) (aJ:List Int),l≠ []->jo (gB l aJ).1=(gB l aJ).2.length
 | [],aJ,h=>absurd rfl h
 | [t],aJ,_=>by
   have cT:0<(db aJ t.2).length:=Br.2 (UF aJ t.2);unfold jo;simp only[gB,List.getLast?_singleton];omega
 |t::t2::ts,aJ,_=>by
  have h:=ad5 (t2::ts) (db aJ t.2) (by simp)
  have e:jo (gB (t::t2::ts) aJ).1=jo (gB (t2::ts) (db aJ t.2)).1:=by
   show jo (_::(gB (t2::ts) (db aJ t.2)).1)=_
   unfold jo;rw[show(gB (t2::ts) (db aJ t.2)).1=(t2.1,((db (db aJ t.2) t2.2).length:Int)-1)::(gB ts (db (db aJ t.2) t2.2)).1 from rfl,List.getLast?_cons_cons]
  rw[e,h];rfl
def fM(l:List bG):List bG×List Int:=gB l []
theorem ann(l:List bG):jo (fM l).1=(fM l).2.length:=by
 unfold fM;by_cases h:l=[]
 ·subst h;rfl
 ·exact ad5 l [] h
theorem anl(l:List bG):gV (gz (fM l).2) (fM l).1=l:=ad4 l []
theorem WY:∀(l:List bG) (aJ:List Int),(gB l aJ).1.length=l.length
 | [],_=>rfl
 |t::ts,aJ=>by show(gB ts _).1.length+1=ts.length+1;rw[WY ts]
theorem ad9:∀(l:List bG) (aJ:List Int),(gB l aJ).1.map (·.1)=l.map (·.1)
 | [],_=>rfl
 |t::ts,aJ=>by show t.1::(gB ts _).1.map (·.1)=t.1::ts.map (·.1);rw[ad9 ts]
theorem Ru:∀(l:List bG) (aJ:List Int),∀t∈ (gB l aJ).1,(aJ.length:Int)-1<=t.2/\0<=t.2/\t.2<((gB l aJ).2.length:Int)
 | [],aJ,t,ht=>by cases ht
 |q::ts,aJ,t,ht=>by
  have cT:0<(db aJ q.2).length:=Br.2 (UF aJ q.2);have hp:=(abm aJ q.2).length_le;have qD:=(WZ ts (db aJ q.2)).length_le;have e:(gB (q::ts) aJ).2=(gB ts (db aJ q.2)).2:=rfl;rcases Cg.1 (show t∈ (q.1,((db aJ q.2).length:Int)-1)::(gB ts (db aJ q.2)).1 from ht)with h|h
  ·rw[h,e];simp only;omega
  ·have:=Ru ts (db aJ q.2) t h;rw[e];omega
theorem ad7:∀(l:List bG) (aJ:List Int),nY (gB l aJ).1
 | [],_=>by unfold gB nY;simp
 |t::ts,aJ=>by
  have h:=ad7 ts (db aJ t.2);have hr:=Ru ts (db aJ t.2);unfold nY at h⊢;show((((db aJ t.2).length:Int)-1)::((gB ts (db aJ t.2)).1.map (·.2))).Pairwise (· <= ·)
  rw[Cu];refine⟨fun a ha=>?_,h⟩;obtain⟨q,hq,rfl⟩:=Bg.1 ha;exact(hr q hq).1
theorem ad8:∀(l:List bG) (aJ:List Int),nY l->aJ.Pairwise (· < ·)->(∀h∈aJ,∀t∈l,h<=t.2)->(gB l aJ).2.Pairwise (· < ·)
 | [],aJ,_,h,_=>h
 |t::ts,aJ,hr,hs,hle=>by
  unfold nY at hr;simp only[Bw,Cu]at hr;refine ad8 ts (db aJ t.2) hr.2 ?_ (fun h hh q hq=>?_)
  ·unfold db;split
   ·exact hs
   ·rename_i az
    rw[B7];refine⟨hs,by simp,fun a ha b hb=>?_⟩;simp only[Bo]at hb;subst hb;have h1:=hle a ha t (by simp);refine Fy fun hx=>az ?_
    have hn:aJ≠ []:=List.ne_nil_of_mem ha;rw[Ec hn];have h2:=hle (aJ.getLast hn) (List.getLast_mem hn) t (by simp)
    have h3:a<=aJ.getLast hn:=by
     by_cases he:a=aJ.getLast hn
     ·rw[he];exact Ce _
     ·obtain⟨k,hk,sQ⟩:=C3 ha
      have oA:k<aJ.length-1:=by
       refine Fy fun hx=>he ?_
       have:k=aJ.length-1:=(by omega);subst this;rw[List.getLast_eq_getElem];exact sQ.symm
      have:=(Cd.1 hs) k (aJ.length-1) hk (by omega) oA;rw[List.getLast_eq_getElem,<-sQ];exact Int.le_of_lt this
    congr 1
    omega
  ·have Qq:h∈aJ\/h=t.2:=by
    unfold db at hh;split at hh
    ·exact Or.inl hh
    ·rcases Al.1 hh with h1|h1
     ·exact Or.inl h1
     ·simp only[Bo]at h1;exact Or.inr h1
   rcases Qq with h1|h1
   ·exact hle h h1 q (by simp[hq])
   ·rw[h1];exact hr.1 _ (Bg.2 ⟨q,hq,rfl⟩)
theorem ano(h:nY l):(fM l).2.Pairwise (· < ·):=ad8 l [] h (by simp) (fun h hh=>by cases hh)
theorem ad6:∀(l:List bG) (aJ:List Int),∀h∈ (gB l aJ).2,h∈aJ\/∃t∈l,t.2=h
 | [],aJ,h,hh=>Or.inl hh
 |t::ts,aJ,h,hh=>by
  rcases ad6 ts (db aJ t.2) h hh with h1|⟨q,hq,kC⟩
  ·unfold db at h1;split at h1
   ·exact Or.inl h1
   ·rcases Al.1 h1 with h2|h2
    ·exact Or.inl h2
    ·simp only[Bo]at h2;exact Or.inr ⟨t,by simp,h2.symm⟩
  ·exact Or.inr ⟨q,by simp[hq],kC⟩
theorem aed{l:List Int}(h:l.Pairwise (· < ·))(h0:∀x∈l,0<=x):∀k,(hk:k<l.length)->(k:Int)<=l[k]:=by
 intro k;induction k with
 |zero=>intro hk;exact h0 _ (A5 hk)
 |succ k ih=>
  intro hk;have h1:=ih (by omega);have h2:=(Cd.1 h) k (k+1) (by omega) hk (by omega);omega
structure dt where
 aV:List bG
 ah:Int
 mt:Bool
structure dt.Ok(ms:List MS)(s:dt):Prop where
 st:∀t∈s.aV,0<=t.1/\t.1<ms.length
 rg:∀t∈s.aV,0<=t.2/\t.2<(jo s.aV:Int)
 aeb:nY s.aV
 bJ:s.aV.length<=ms.length
 TU:jo s.aV<=s.aV.length
def dx(st:Int)(s:dt):List bG:=if s.mt then s.aV else s.aV++[(st,(jo s.aV:Int))]
def mA(s:dt)(M:List Int)(p:Int):List Int:=if s.mt then M else M++[p]
def mC(ms:List MS)(st j7 bh:Int)(s:dt):dt×List Int×Option Int:=(⟨(fM (aZ ms s.ah bh (dx st s)).1).1,j7,s.mt||(aZ ms s.ah bh (dx st s)).2.isSome⟩,(fM (aZ ms s.ah bh (dx st s)).1).2,(aZ ms s.ah bh (dx st s)).2)
theorem alL{s:dt}(h:s.Ok ms)(st:Int):nY (dx st s):=by
 unfold dx;split
 ·exact h.aeb
 ·unfold nY;rw[Ci,B7];refine⟨h.aeb,by simp,fun a ha b hb=>?_⟩;obtain⟨q,hq,rfl⟩:=Bg.1 ha;simp only[Bw,Ge,Bo]at hb;rw[hb];exact Int.le_of_lt (h.rg q hq).2
theorem ac4{s:dt}(h:s.Ok ms)(st:Int):∀t∈dx st s,0<=t.2/\t.2<(jo s.aV:Int)+(if s.mt then 0 else 1):=by
 unfold dx;split
 ·intro t ht;have:=h.rg t ht;omega
 ·intro t ht;rcases Al.1 ht with ht|ht
  ·have:=h.rg t ht;omega
  ·simp only[Bo]at ht;rw[ht];simp only;omega
def uX(M:List Int)(l:List bG):List bG:=gV (gz M) l
theorem anj{φ ψ:Int->Int}(h:∀t∈l,φ t.2=ψ t.2):gV φ l=gV ψ l:=Fz fun t ht=>by rw[h t ht]
theorem ank(φ ψ:Int->Int)(l:List bG):gV φ (gV ψ l)=gV (fun j=>φ (ψ j)) l:=by unfold gV;rw[Gg];rfl
theorem alK{s:dt}(h:s.Ok ms)(hM:M.length=jo s.aV)(st p:Int):uX (mA s M p) (dx st s)=if s.mt then uX M s.aV else uX M s.aV++[(st,p)]:=by
 unfold dx mA;by_cases hm:s.mt=true
 ·rw[if_pos hm,if_pos hm,if_pos hm]
 ·rw[if_neg hm,if_neg hm,if_neg hm];unfold uX gV;rw[Ci];congr 1
  ·refine Fz fun t ht=>?_
   have hr:=h.rg t ht;obtain⟨k,hk⟩:=Au hr.1;rw[hk]at hr⊢;have:=acH (List.prefix_append M [p]) (j:=k) (by omega);show(t.1,gz (M++[p]) ((k:Nat):Int))=(t.1,gz M ((k:Nat):Int))
   rw[this];unfold gz;rw[Ay]
  ·simp only[Bw,Ge];unfold gz;rw[Ay,<-hM,Af,Cl (Ab _)];simp
theorem al8{s:dt}{st j7 ah nC p:Int}(h:s.Ok ms)(hM:M.length=jo s.aV)(ajF:DW ms s.ah s.ah nC bh):
 aZ ms s.ah bh (uX (mA s M p) (dx st s))=(uX ((mC ms st j7 nC s).2.1.map (gz (mA s M p))) (mC ms st j7 nC s).1.aV,(mC ms st j7 nC s).2.2.map (gz (mA s M p))):=by
 unfold uX;rw[Xs ajF (gz (mA s M p)) (dx st s)];have e:(mC ms st j7 nC s).1.aV=(fM (aZ ms s.ah nC (dx st s)).1).1:=rfl;have e2:(mC ms st j7 nC s).2.1=(fM (aZ ms s.ah nC (dx st s)).1).2:=rfl;have e3:(mC ms st j7 nC s).2.2=(aZ ms s.ah nC (dx st s)).2:=rfl;rw[e,e2,e3];congr 1;conv=>lhs;rw[<-anl (aZ ms s.ah nC (dx st s)).1]
 rw[ank];refine anj fun t ht=>?_
 have hr:=Ru _ [] t ht;obtain⟨k,hk⟩:=Au hr.2.1;have oA:k<(fM (aZ ms s.ah nC (dx st s)).1).2.length:=by have:=hr.2.2;rw[hk]at this;unfold fM;omega
 show gz (mA s M p) (gz (fM (aZ ms s.ah nC (dx st s)).1).2 t.2)=gz ((fM (aZ ms s.ah nC (dx st s)).1).2.map (gz (mA s M p))) t.2
 rw[hk];conv=>rhs;unfold gz
 conv=>lhs;rw[show gz (fM (aZ ms s.ah nC (dx st s)).1).2 (k:Int)=(fM (aZ ms s.ah nC (dx st s)).1).2.getD k 0 from by unfold gz;rw[Ay]]
 simp only[Ay,Af,Bv,Ae oA,C9,Dr];unfold gz;rw[Af]
theorem WC(hg:eW ms){s:dt}{st j7:Int}(h:s.Ok ms)(pk:∀t∈ (aZ ms s.ah bh (dx st s)).1,0<=t.1/\t.1<ms.length)(dw:(aZ ms s.ah bh (dx st s)).1.length<=ms.length):
 (mC ms st j7 bh s).1.Ok ms/\(mC ms st j7 bh s).2.1.length=jo (mC ms st j7 bh s).1.aV/\(mC ms st j7 bh s).2.1.Pairwise (· < ·)/\
 (∀j∈ (mC ms st j7 bh s).2.1,0<=j/\j<(jo s.aV:Int)+(if s.mt then 0 else 1))/\∀j,(mC ms st j7 bh s).2.2=some j->0<=j/\j<(jo s.aV:Int)+(if s.mt then 0 else 1):=by
 obtain⟨h1,h2,h3⟩:=aot (ms:=ms) (ah:=s.ah) (bh:=bh) (alL h st);have cT:(fM (aZ ms s.ah bh (dx st s)).1).1.length=(aZ ms s.ah bh (dx st s)).1.length:=WY _ _;have hn:=ann (aZ ms s.ah bh (dx st s)).1
 have hle:∀(l:List bG) (aJ:List Int),(gB l aJ).2.length<=aJ.length+l.length:=by
  intro l;induction l with
  |nil=>intro aJ;exact Ab _
  |cons t ts ih=>
   intro aJ;have:=ih (db aJ t.2);have h2:(db aJ t.2).length<=aJ.length+1:=by unfold db;split<;>simp
   show(gB ts (db aJ t.2)).2.length<=aJ.length+(ts.length+1)
   omega
 have AU:=hle (aZ ms s.ah bh (dx st s)).1 [];refine⟨⟨fun t ht=>?_,fun t ht=>?_,ad7 _ _,?_,?_⟩,hn.symm,ano h2,fun j hj=>?_,fun j hj=>?_⟩
 ·have hm:t.1∈ (gB (aZ ms s.ah bh (dx st s)).1 []).1.map (·.1):=Bg.2 ⟨t,ht,rfl⟩;rw[ad9]at hm;obtain⟨q,hq,kC⟩:=Bg.1 hm;rw[<-kC];exact pk q hq
 ·have:=Ru _ [] t ht;show 0<=t.2/\t.2<(jo (fM (aZ ms s.ah bh (dx st s)).1).1:Int)
  rw[hn];exact⟨this.2.1,this.2.2⟩
 ·show(fM (aZ ms s.ah bh (dx st s)).1).1.length<=_
  rw[cT];exact dw
 ·show jo (fM (aZ ms s.ah bh (dx st s)).1).1<=(fM (aZ ms s.ah bh (dx st s)).1).1.length
  rw[hn,cT];simpa[fM]using AU
 ·rcases ad6 _ [] j hj with hx|⟨t,ht,qI⟩
  ·cases hx
  ·obtain⟨q,hq,kC⟩:=h1 t ht;have:=ac4 h st q hq;rw[<-qI,<-kC];exact this
 ·obtain⟨q,hq,kC⟩:=h3 j hj;have:=ac4 h st q hq;rw[<-kC];exact this
def pY(c:Int):Int:=if c= -1 then-1 else if kI c then 119 else 32
theorem anP(c:Int):pY c= -1\/pY c=119\/pY c=32:=by
 unfold pY;split
 ·exact Or.inl rfl
 ·split
  ·exact Or.inr (Or.inl rfl)
  ·exact Or.inr (Or.inr rfl)
theorem aei(e a b:Int):e_ e a b=e_ e (pY a) b:=by
 unfold e_;by_cases h:a= -1
 ·subst h;rfl
 ·have e1:pY a=if kI a then 119 else 32:=by unfold pY;rw[if_neg h]
  have e2:(a== -1)=false:=by simpa using h
  have e3:(pY a== -1)=false:=by rw[e1];split<;>rfl
  have e4:kI (pY a)=kI a:=by
   rw[e1]
   cases hw:kI a<;>rfl
  rw[e2,e3,e4]
def o_(ms:List MS):Bool:=ms.any fun m=>m.kind==2
def jL(ms:List MS)(c:Int):Int:=if o_ ms then pY c else-1
theorem Xq(ms:List MS)(c:Int):pD ms c (jL ms c):=fun u m hm hk b=>by
 have he:o_ ms=true:=by
  unfold o_;rw[Cq];exact⟨m,Ca hm,by simp[hk]⟩
 unfold jL;rw[if_pos he];exact aei _ _ _
theorem Xp(ms:List MS)(c:Int):jL ms c= -1\/jL ms c=119\/jL ms c=32:=by
 unfold jL;split
 ·exact anP c
 ·exact Or.inl rfl
def jn(cl:List Int)(r:Int):Nat:=cl.countP fun c=>decide (c<=r)
theorem alj(cl:List Int)(h:r<=r'):jn cl r<=jn cl r':=by
 induction cl with
 |nil=>exact Ab _
 |cons c cs ih=>
  unfold jn at ih⊢;rw[Eb,Eb];by_cases h1:c<=r
  ·rw[if_pos (by simpa using h1),if_pos (by simp;omega)];omega
  ·rw[if_neg (by simpa using h1)];omega
theorem acQ(cl:List Int)(h:r<=r')(he:jn cl r=jn cl r'):∀c∈cl,c<=r'->c<=r:=by
 induction cl with
 |nil=>intro c hc;cases hc
 |cons c cs ih=>
  have hm:=alj cs h;unfold jn at ih he hm;rw[Eb,Eb]at he;intro d hd rE;by_cases h1:c<=r
  ·rw[if_pos (by simpa using h1),if_pos (by simp;omega)]at he;rcases Cg.1 hd with rfl|hd
   ·exact h1
   ·exact ih (by omega) d hd rE
  ·rw[if_neg (by simpa using h1)]at he;by_cases h2:c<=r'
   ·rw[if_pos (by simpa using h2)]at he;omega
   ·rw[if_neg (by simpa using h2)]at he;rcases Cg.1 hd with rfl|hd
    ·exact absurd rE h2
    ·exact ih (by omega) d hd rE
theorem acP(he:jn cl r=jn cl r'){c:Int}(hc:c∈cl):c<=r↔c<=r':=by
 rcases Int.le_total r r' with h|h
 ·exact⟨fun h1=>by omega,fun h1=>acQ cl h he c hc h1⟩
 ·exact⟨fun h1=>acQ cl h he.symm c hc h1,fun h1=>by omega⟩
def uD(cl:List Int)(S:bF):Prop:=∀s∈S,s.1∈cl/\s.2+1∈cl
theorem ab_{S:bF}(h:uD cl S)(he:jn cl r=jn cl r'):bV S r=bV S r':=by
 unfold bV;rw[Be,Cq,Cq]
 have key:∀s∈S,((decide (s.1<=r)&&decide (r<=s.2))=true) ↔((decide (s.1<=r')&&decide (r'<=s.2))=true):=fun s hs=>by
  have h1:=acP he (h s hs).1;have h2:=acP he (h s hs).2;simp only[Co,Az];omega
 exact⟨fun⟨s,hs,h1⟩=>⟨s,hs,(key s hs).1 h1⟩,fun⟨s,hs,h1⟩=>⟨s,hs,(key s hs).2 h1⟩⟩
structure tA(ms:List MS)(cl:List Int):Prop where
 take:∀(u:Nat) (m:MS),ms[u]? =some m->m.kind=1->∃S,(∀c,0<=c->c<=1114111->bV S c=eV m.sp m.fo m.nt c)/\uD cl S
 eE:∀(u:Nat) (m:MS),ms[u]? =some m->m.kind=2->∃S,(∀c,0<=c->c<=1114111->bV S c=kI c)/\uD cl S
theorem tA.wm(h:tA ms cl)(he:o_ ms=true)(hr:0<=r/\r<=1114111)(kD:0<=r'/\r'<=1114111)(hn:jn cl r=jn cl r'):kI r=kI r':=by
 unfold o_ at he;rw[Cq]at he;obtain⟨m,hm,hk⟩:=he;obtain⟨u,hu,Ql⟩:=C3 hm;obtain⟨S,h1,h2⟩:=h.eE u m (by rw[Ae hu,Ql]) (by simpa using hk);rw[<-h1 r hr.1 hr.2,<-h1 r' kD.1 kD.2];exact ab_ h2 hn
theorem tA.y8(h:tA ms cl)(hr:0<=r/\r<=1114111)(kD:0<=r'/\r'<=1114111)(hn:jn cl r=jn cl r')(ah:Int):DW ms ah ah r r' where
 take u m hm hk:=by
  obtain⟨S,h1,h2⟩:=h.take u m hm hk;rw[<-h1 r hr.1 hr.2,<-h1 r' kD.1 kD.2];exact ab_ h2 hn
 eE u m hm hk:=by
  have he:o_ ms=true:=by
   unfold o_;rw[Cq];exact⟨m,Ca hm,by simp[hk]⟩
  have hw:=h.wm he hr kD hn;unfold e_;have e1:(r== -1)=false:=by simp;omega
  have e2:(r'== -1)=false:=by simp;omega
  rw[e1,e2,hw]
theorem tA.j7(h:tA ms cl)(hr:0<=r/\r<=1114111)(kD:0<=r'/\r'<=1114111)(hn:jn cl r=jn cl r'):jL ms r=jL ms r':=by
 unfold jL;split
 ·rename_i he
  have hw:=h.wm he hr kD hn;unfold pY;rw[if_neg (show¬r= -1 by omega),if_neg (show¬r'= -1 by omega),hw]
 ·rfl
def zg(t:bG):List Nat:=[(t.1 % 256).toNat,(t.1/256 % 256).toNat,(t.2 % 256).toNat,(t.2/256 % 256).toNat]
def G0(s:dt):List Nat:=[(s.ah % 256).toNat,if s.mt then 1 else 0]++s.aV.flatMap zg
theorem aoT{t q:bG}(ht:(0<=t.1/\t.1<65536)/\0<=t.2/\t.2<65536)(hq:(0<=q.1/\q.1<65536)/\0<=q.2/\q.2<65536)(h:zg t=zg q):t=q:=by
 unfold zg at h;simp only[F7,and_true]at h;obtain⟨h1,h2,h3,h4⟩:=h;refine Prod.ext ?_ ?_ <;>omega
theorem ae0:∀(l k:List bG),(∀t∈l,(0<=t.1/\t.1<65536)/\0<=t.2/\t.2<65536)->(∀t∈k,(0<=t.1/\t.1<65536)/\0<=t.2/\t.2<65536)->l.flatMap zg=k.flatMap zg->l=k
 | [],[],_,_,_=>rfl
 | [],q::qs,_,_,h=>by rw[Fp,C5]at h;unfold zg at h;simp at h
 |t::ts,[],_,_,h=>by rw[Fp,C5]at h;unfold zg at h;simp at h
 |t::ts,q::qs,hl,hk,h=>by
  rw[C5,C5]at h;obtain⟨h1,h2⟩:=List.append_inj h (by unfold zg;rfl);rw[aoT (hl t (by simp)) (hk q (by simp)) h1,ae0 ts qs (fun x hx=>hl x (by simp[hx])) (fun x hx=>hk x (by simp[hx])) h2]
theorem akq(hm:ms.length<=60000){s r:dt}(hs:s.Ok ms)(hr:r.Ok ms)(as_:s.ah= -1\/s.ah=119\/s.ah=32)(ar:r.ah= -1\/r.ah=119\/r.ah=32)(h:G0 s=G0 r):s=r:=by
 unfold G0 at h;obtain⟨h1,h2⟩:=List.append_inj h rfl;simp only[F7,and_true]at h1
 have b:∀s:dt,s.Ok ms->∀t∈s.aV,(0<=t.1/\t.1<65536)/\0<=t.2/\t.2<65536:=fun s hs t ht=>by
  have a1:=hs.st t ht;have a2:=hs.rg t ht;have a3:=hs.bJ;have a4:=hs.TU;omega
 have e1:=ae0 s.aV r.aV (b s hs) (b r hr) h2;have e2:s.ah=r.ah:=by omega
 have e3:s.mt=r.mt:=by
  have:=h1.2
  cases qG:s.mt<;>cases kD:r.mt<;>rw[qG,kD]at this<;>first|rfl|cases this
 cases s;cases r
 simp only at e1 e2 e3;rw[e1,e2,e3]
def EU(n b0 b1 b2:Nat):Bool:=decide (n≠0)&&(decide (Lib.firstT b0 % 8<=n)||(decide (1<n/\(b1<Lib.accLo (Lib.firstT b0/16)\/Lib.accHi (Lib.firstT b0/16)<b1))||decide (2<n/\(b2<128\/191<b2))))
theorem aih{N b0 b1 b2 c1 c2 c3:Nat}(h:EU n b0 b1 b2=true)(hN:n<=N)(h1:1<n->c1=b1)(h2:2<n->c2=b2)(r0:b0<256)(r1:c1<256)(r2:c2<256)(r3:c3<256):(Lib.decodeN N b0 c1 c2 c3).2<=n:=by
 unfold EU at h;simp only[Co,Bool.or_eq_true,Az]at h;obtain⟨h0,h⟩:=h;rcases Lib.firstT_cases b0 with hX|hX|hX|hX|hX|hX|hX|hX|hX
 ·rw[Lib.ascii_eq _ _ _ _ _ hX];show 1<=n;omega
 ·rw[Lib.bad_eq _ _ _ _ _ r0 hX];show 1<=n;omega
 all_goals
  rw[<-Lib.slow_eq _ _ _ _ _ (by omega) r1 r2 r3 (by omega)];rw[hX]at h⊢;simp only[Lib.accLo,Lib.accHi,Nat.reduceEqDiff,if_true,if_false,Nat.reduceMod,Nat.reduceDiv]at h⊢;unfold Lib.slowN;repeat' split
  all_goals(simp only;omega)
def sJ(s:ByteArray):Bool:=EU s.size (s.get! 0).toNat (s.get! 1).toNat (s.get! 2).toNat
theorem EV(s:ByteArray)(k:Nat):(s.get! k).toNat<256:=(s.get! k).toNat_lt
theorem aij{p:Nat}(hq:q<=X.size)(h:sJ (X.extract p q)=true):p<q/\p+(Utf8.decode X p).2<=q/\Lib.decodeGo (X.extract p q)=Utf8.decode X p:=by
 unfold sJ at h;rw[extract_size X p q hq]at h
 have h0:q-p≠0:=by
  intro h0;rw[h0]at h;unfold EU at h;simp at h
 have hp:p<q:=by omega
 have hw:(Utf8.decode X p).2<=q-p:=by
  rw[Lib.decode_at];have e0:(X.extract p q).get! 0=X.get! p:=by have:=vf X p q 0 hq (by omega);rwa[Dt]at this
  rw[e0]at h;refine aih h (by omega) (fun h1=>?_) (fun h2=>?_) (EV _ _) (EV _ _) (EV _ _) (EV _ _)
  ·rw[vf X p q 1 hq (by omega)]
  ·rw[vf X p q 2 hq (by omega)]
 refine⟨hp,by omega,?_⟩;have hs:(X.extract p q).size≠0:=by rw[extract_size X p q hq];exact h0
 unfold Lib.decodeGo;rw[if_neg hs];have:=EH X p q 0 hq (by omega) (by simpa using(show p+(Utf8.decode X p).2<=q by omega));rwa[Dt]at this
theorem aii{s:ByteArray}(h0:0<s.size)(h:(s.get! 0).toNat<128):sJ s=true:=by
 have e1:Lib.firstT (s.get! 0).toNat=240:=by unfold Lib.firstT;rw[if_pos h]
 have e0:decide (s.size≠0)=true:=Cz (by omega);have e2:decide (240 % 8<=s.size)=true:=Cz (by omega);unfold sJ EU;rw[e1,e0,e2];rfl
theorem aeh(hi:i<(aF X).length)(hq:q<=X.size)(h:bd X (i+1)<=q):((Lib.decodeGo (X.extract (bd X i) q)).1:Int)=(aO X).bl i/\bd X i+(Lib.decodeGo (X.extract (bd X i) q)).2=bd X (i+1):=by
 have hn:=sA hi;have hb:=pJ hi;have hs:(X.extract (bd X i) q).size≠0:=by rw[extract_size X _ q hq];omega
 have e:Lib.decodeGo (X.extract (bd X i) q)=Utf8.decode X (bd X i):=by
  unfold Lib.decodeGo;rw[if_neg hs];have:=EH X (bd X i) q 0 hq (by omega) (by rw[Dt];omega);rwa[Dt]at this
 rw[e];exact⟨(Nz hi).symm,hn.symm⟩
theorem aaZ(hi:i<=(aF X).length)(hq:q<=X.size)(h:sJ (X.extract (bd X i) q)=true):i<(aF X).length/\bd X (i+1)<=q:=by
 obtain⟨h1,h2,h3⟩:=aij hq h
 have aw:i<(aF X).length:=by
  rcases Nat.lt_or_ge i (aF X).length with h|h
  ·exact h
  ·rw[mP h]at h1;omega
 exact⟨aw,by rw[sA aw];exact h2⟩
theorem ahL(s:ByteArray):s.extract 0 s.size=s:=by
 apply Fd
 apply Fq.1
 rw[Cw,List.drop_zero,Nat.sub_zero];exact By (by rw[<-E0];exact Ab _)
theorem Ph(X:ByteArray)(a b c d:Nat)(h:a+d<=b):(X.extract a b).extract c d=X.extract (a+c) (a+d):=by
 apply Fd
 apply Fq.1
 rw[Cw,Cw,Cw,List.drop_take,List.take_take,Fg];congr 1;omega
theorem afJ(h:f<i)(hi:i<=(aF X).length):((Lib.decodeLastL (X.extract (bd X f) (bd X i)).data.toList).1:Int)=(aO X).ahead i:=by
 have S:ki X ⟨X.extract (bd X f) (bd X i),(bd X f:Int),(aO X).ahead f,-1,true⟩ f i:=⟨rfl,rfl,by omega,hi,fun _ _=>rfl,fun h=>(by cases h)⟩;have hn:=S.n;unfold CX.n at hn;simp only at hn;have h1:=acv (s:=X.extract (bd X f) (bd X i)) (i:=i-f-1) (by omega);rw[mP (s:=X.extract (bd X f) (bd X i)) (show(aF (X.extract (bd X f) (bd X i))).length<=i-f-1+1 by omega),ahL]at h1;rw[h1];have h2:=S.bl (k:=i-f-1) (by omega);have e:(aO X).ahead i=(aO X).bl (i-1):=if_neg (by omega);rw[e,show i-1=f+(i-f-1) by omega];exact h2
def uW(X:ByteArray)(i:Nat)(a:Int):Prop:=∀e b,e_ e a b=e_ e ((aO X).ahead i) b
theorem uW.ah{a:Int}(h:uW X i a)(ms:List MS):pD ms ((aO X).ahead i) a:=fun u m _ _ b=>(h _ b).symm
theorem uW.mk(X:ByteArray)(i:Nat):uW X i (pY ((aO X).ahead i)):=fun e b=>(aei e _ b).symm
theorem uW.zero(X:ByteArray):uW X 0 (-1):=fun _ _=>rfl
structure wF(X:ByteArray)(f i:Nat)(l:List bG)(mt:Option (Int×Nat)):Prop where
 le:f<=i
 aV:∀t∈l,aK X f<=t.2
 mtc:∀s j,mt=some (s,j)->aK X f<=s
theorem pF.qN(h:pF ms X st b i l mt)(bC:st<ms.length):zH ms (jA st (aK X i) mt.isSome l):=by
 unfold jA
 cases mt with
 |some m=>exact h.aV
 |none=>
  refine⟨fun t ht=>?_,?_⟩
  ·simp only[Dc,Aq,if_false,Al,Bo]at ht;rcases ht with ht|rfl
   ·exact h.aV.1 t ht
   ·exact⟨by simp,by simp only;omega⟩
  ·simp only[Dc,Aq,if_false,Ci,Bw,Ge];rw[B7];refine⟨h.aV.2,by simp,fun a UE c hc=>?_⟩;obtain⟨t,ht,rfl⟩:=Bg.1 UE;simp only[Bo]at hc;obtain⟨k,aU,aN,bA⟩:=h.NJ t ht;rw[hc,bA];exact IE X (by omega)
theorem wF.step(hg:eW ms)(h:wF X f i l mt)(hE:pF ms X st b i l mt)(bC:st<ms.length)(hi:i<(aF X).length){ah:Int}(ha:pD ms ((aO X).ahead i) ah):
 wF X f (i+1) (aZ ms ah ((aO X).bl i) (jA st (aK X i) mt.isSome l)).1 (tj i (aZ ms ah ((aO X).bl i) (jA st (aK X i) mt.isSome l)).2 mt):=by
 have Uo:tC ms (lq ms (aO X)) i ((aO X).ahead i) ((aO X).bl i):=Lx hg (aO X) hi;obtain⟨_,s1,s2,s3⟩:=Xt hg (Uo.ahead ha) (hE.qN bC)
 have hS:∀t∈jA st (aK X i) mt.isSome l,aK X f<=t.2:=fun t ht=>by
  unfold jA at ht;split at ht
  ·exact h.aV t ht
  ·simp only[Al,Bo]at ht;rcases ht with ht|rfl
   ·exact h.aV t ht
   ·exact IE X h.le
 refine⟨by have:=h.le;omega,fun t ht=>?_,fun s j hm=>?_⟩
 ·obtain⟨q,hq,kC⟩:=s2 t ht;rw[<-kC];exact hS q hq
 ·unfold tj at hm
  cases hd:(aZ ms ah ((aO X).bl i) (jA st (aK X i) mt.isSome l)).2 with
  |some s'=>
   rw[hd]at hm;simp only[C9,Ed,Ba,Cm]at hm;obtain⟨⟨q,hq,kC⟩,_⟩:=s3 s' hd;rw[<-hm.1,<-kC];exact hS q hq
  |none=>
   rw[hd]at hm;exact h.mtc s j hm
def yj(X:ByteArray)(i:Nat)(l:List bG):Int:=(l.head?.map (·.2)).getD (aK X i)
theorem wF.wQ(hE:pF ms X st b i l mt)(hf:yj X i l=aK X f)(wW:f<=i)(hc:l=[]->mt=none):wF X f i l mt:=by
 unfold yj at hf
 cases l with
 |nil=>exact⟨wW,by simp,fun s j hm=>(by rw[hc rfl]at hm;cases hm)⟩
 |cons t ts=>
  have hp:=hE.aV.2;simp only[Bw,Cu]at hp;have hf':t.2=aK X f:=hf;refine⟨wW,fun q hq=>?_,fun s j hm=>?_⟩
  ·rw[<-hf'];rcases Cg.1 hq with rfl|hq
   ·exact Ce _
   ·exact hp.1 _ (Bg.2 ⟨q,hq,rfl⟩)
  ·rw[<-hf'];exact(hE.QX s j hm).2.2 t (by simp)
theorem wF.mono(h:wF X f i l mt):aK X f<=yj X i l:=by
 unfold yj
 cases l with
 |nil=>exact IE X h.le
 |cons t ts=>exact h.aV t (by simp)
def tp(a j:Nat):Nat:=if a=j then j+1 else j
theorem OX(hi:i<=(aF X).length)(hj:j<=(aF X).length)(h:aK X i=aK X j):i=j:=OY hi hj (by unfold aK at h;omega)
theorem aoP{gs:List Int}{told:Int}(hT:mJ T (aF X).length)(hba:b<=a)(haj:a<=j)(hj:j<=(aF X).length)(e:T a=some (j,gs))(hn:∀k,b<=k->k<a->T k=none):
 (eP T (aF X).length (aK X) false b told).1=(if !(aK X a==aK X j&&aK X j==told)then [⟨a,j,gs⟩]else [])++(eP T (aF X).length (aK X) false (tp a j) (aK X j)).1:=by
 rw[TP (a:=a) hba (by omega) hn,IP hT (by omega) e rfl];unfold tp;by_cases cy:a=j
 ·subst cy;rw[if_pos rfl,if_pos rfl];by_cases ht:told=aK X a
  ·rw[if_pos ht,ht];simp
  ·have:(aK X a==told)=false:=(by simpa using fun h=>ht h.symm);rw[if_neg ht,this];simp
 ·have:(aK X a==aK X j)=false:=by simpa using fun h=>cy (OX (by omega) hj h)
  rw[if_neg cy,if_neg cy,this];simp
theorem alA(ha:a<=(aF X).length)(hj:j<(aF X).length):(if aK X a=aK X j then aK X j+((bd X (j+1)-bd X j:Nat):Int)else aK X j)=aK X (tp a j):=by
 unfold tp;by_cases h:a=j
 ·subst h;rw[if_pos rfl,if_pos rfl];have:=(pJ hj).1;unfold aK;omega
 ·rw[if_neg (fun h'=>h (OX ha (by omega) h')),if_neg h]
theorem alZ(hg:eW ms){c2:CX}{r:Nat}(h:ki X c a r)(ho:c.op=true)(hS:ki X c2 0 r)(yB:c2.op=true)(hu:u<ms.length)(hk:k<=c.n)(gs:List Int):cZ ms c2 u (a+k) gs=Hr a (cZ ms c u k gs):=by
 have hn:=h.n;have hl:=h.le;have w_:=h.yH;have hN:c2.n=r:=by rw[hS.n];omega
 refine Pp hg c.n (Q:=fun u k=>∀gs,cZ ms c2 u (a+k) gs=Hr a (cZ ms c u k gs)) (fun u k m hk hm GM GN gs=>?_) _ k (Ab _) hk u hu gs;by_cases rH:c.n<=k
 ·rw[yX ho rH,yX yB (by omega)];rfl
 ·have t1:(c.op&&decide (c.n<=k))=false:=by rw[ho];simp;omega
  have t2:(c2.op&&decide (c2.n<=a+k))=false:=by rw[yB];simp;omega
  have Vc:a+k<=c2.n:=by omega
  have q1:a+k<r-0:=by omega
  have q2:k<r-a:=by omega
  have q3:k<=r-a:=by omega
  have q4:a+k<=r-0:=by omega
  have q5:k<c.n:=by omega
  have q6:a+k<c2.n:=by omega
  obtain⟨⟨k0,k4⟩,g1,g2,g3⟩:=hg u m hm;obtain⟨a0,a1,a2,a3,a4⟩:=oN hg c hk hm t1 gs;obtain⟨b0,b1,b2,b3,b4⟩:=oN hg c2 Vc hm t2 gs
  have T:∀v:Int,0<=v->v<u->∀gs,cZ ms c2 v (a+k) gs=Hr a (cZ ms c v k gs):=fun v h0 hv gs=>by
   obtain⟨q,rfl⟩:=Au h0;exact GM q (by omega) gs
  have hR:c2.bl (a+k)=c.bl k:=by
   have hz:0+(a+k)=a+k:=Bf _;have x1:=hS.bl (k:=a+k) q1;have x2:=h.bl (k:=k) q2;exact x1.trans ((congrArg (aO X).bl hz).trans x2.symm)
  by_cases e0:m.kind=0
  ·rw[a0 e0,b0 e0];rfl
  ·by_cases e1:m.kind=1
   ·rw[a1 e1,b1 e1,hR];have d1:decide (k<c.n)=true:=Cz q5;have d2:decide (a+k<c2.n)=true:=Cz q6;rw[d1,d2];have pj:=g1 e1;clear g1 g2 g3 a0 a2 a3 a4 b0 b2 b3 b4;obtain⟨q,hq⟩:=Au pj.1;by_cases ht:(true&&eV m.sp m.fo m.nt (c.bl k))=true
    ·rw[if_pos ht,if_pos ht,hq];have:=GN q (by omega) q5 gs;rw[<-Di]at this;exact this
    ·rw[if_neg ht,if_neg ht];rfl
   ·have jW:=g2 (by omega);by_cases e2:m.kind=2
    ·rw[a2 e2,b2 e2];have hz:0+(a+k)=a+k:=Bf _;have x1:=h.eE (k:=k) q3 t1 m.eE;have x2:=hS.eE (k:=a+k) q4 t2 m.eE;rw[hz]at x2;have x3:=x2.trans x1.symm;rw[x3];by_cases hh:e_ m.eE (c.ahead k) (c.gM k)=true
     ·rw[if_pos hh,if_pos hh];exact T _ jW.1 jW.2 gs
     ·rw[if_neg hh,if_neg hh];rfl
    ·by_cases e3:m.kind=3
     ·rw[a3 e3,b3 e3];have hz:0+(a+k)=a+k:=Bf _;have x1:=h.aY (k:=k) q3;have x2:=hS.aY (k:=a+k) q4;rw[hz]at x2;have x3:=x2.trans x1.symm;rw[x3];exact T _ jW.1 jW.2 _
     ·have e4:m.kind=4:=(by omega);have ho3:=g3 e4;rw[a4 e4,b4 e4,T _ jW.1 jW.2,T _ ho3.1 ho3.2];unfold Hr;rw[QS]
theorem alX(hg:eW ms){r:Nat}(h:ki X c a r)(ho:c.op=true)(hu:u<ms.length)(hk:k<=c.n)(gs:List Int):cZ ms (pX X r) u (a+k) gs=Hr a (cZ ms c u k gs):=alZ hg h ho (adf h.yH) rfl hu hk gs
theorem alY(hg:eW ms){r:Nat}{dB:List Int}(h:ki X c a r)(ho:c.op=true){G:Nat}(bC:st<ms.length)(e:eJ ms (pX X r) st G a=some (j,dB)):∃LO,eJ ms c st G 0=some (j-a,LO)/\a<=j:=by
 have:=alX hg h ho bC (Ao _) (gK G);rw[Dt]at this;have e':Hr a (cZ ms c (st:Int) 0 (gK G))=some (j,dB):=by rw[<-this];exact e
 unfold Hr at e';obtain⟨⟨j2,g2⟩,hv,nP⟩:=Eg.1 e';simp only[Cm]at nP;exact⟨g2,by show cZ ms c (st:Int) 0 (gK G)=_;rw[hv,show j-a=j2 by omega],by omega⟩
theorem aaJ{b:Nat->Int}{op:Bool}{P:Ev->Prop}(hT:mJ T n)(hP:∀i j gs,i<=n->T i=some (j,gs)->P ⟨i,j,gs⟩):∀(k i:Nat) (told:Int),∀e∈ (ko T n b op k i told).1,P e:=by
 intro k;induction k with
 |zero=>intro i told e he;simp[ko]at he
 |succ k ih=>
  intro i told e he;unfold ko at he;by_cases hn:n<i
  ·rw[if_pos hn]at he;simp at he
  ·rw[if_neg hn]at he
   cases h:T i with
   |none=>rw[h]at he;exact ih _ _ e he
   |some v=>
    obtain⟨j,gs⟩:=v;rw[h]at he;simp only at he;have h1:=hP i j gs (by omega) h;split at he
    ·simp at he
    ·split at he
     ·split at he
      ·exact ih _ _ e he
      ·rcases Cg.1 he with rfl|he
       ·exact h1
       ·exact ih _ _ e he
     ·rcases Cg.1 he with rfl|he
      ·exact h1
      ·exact ih _ _ e he
