/- The engine of marks as plain functions -/
import Derived.Test.YtpdnofhackjfdaaGreatDoorP29
set_option linter.all false
set_option maxRecDepth 100000
set_option maxHeartbeats 4000000
namespace Go.Proofs.YtpdnofhackjfdaaGreatDoor
open Go.Proofs.Tryz
variable {X:ByteArray} {c:CX} {bh r r':Int} {M cl:List Int} {ms:List MS} {l:List bF} {a b f i j k n q st u:Nat} {T:Nat->iH} {mt:Option (Int×Nat)}
theorem an7(m:MS)(bh st:Int)(f:FS):∃e:List bF,(mT m bh st f).next=f.next++e/\∀t∈e,t.2=st:=by
 unfold mT;split
 ·exact⟨[(m.next,st)],rfl,fun t ht=>by simp only[Bm]at ht;rw[ht]⟩
 ·exact⟨[],by simp,fun t ht=>by cases ht⟩
theorem aa0(ms:List MS)(ah bh:Int):∀(d:Nat) (u st:Int) (f:FS),∃e:List bF,(gx ms ah bh d u st f).1.next=f.next++e/\∀t∈e,t.2=st
 |0,_,_,f=>⟨[],by unfold gx;simp,fun t ht=>by cases ht⟩
 |d+1,u,st,f=>by
  have IH:=fun u f=>aa0 ms ah bh d u st f
  have Z:∃e:List bF,f.next=f.next++e/\∀t∈e,t.2=st:=⟨[],by simp,fun t ht=>by cases ht⟩
  unfold gx;split
  ·exact Z
  ·split
   ·exact Z
   ·split
    ·exact Z
    ·split
     ·exact an7 _ _ _ _
     ·split
      ·split
       ·exact IH _ _
       ·exact Z
      ·split
       ·exact IH _ _
       ·split
        ·exact IH _ _
        ·rename_i m _ _ _ _ _ _
         obtain⟨e1,h1,h2⟩:=IH m.next ⟨f.seen.set u.toNat true,f.dF,f.next⟩
         obtain⟨e2,h3,h4⟩:=IH m.a_ (gx ms ah bh d m.next st ⟨f.seen.set u.toNat true,f.dF,f.next⟩).1;refine⟨e1++e2,by rw[h3,h1,Bw],fun t ht=>?_⟩;rcases Ap.1 ht with ht|ht
         ·exact h2 t ht
         ·exact h4 t ht
def nR(l:List bF):Prop:=(l.map (·.2)).Pairwise (· <= ·)
theorem aec{e:List bF}{st:Int}(h:∀t∈e,t.2=st):nR e:=by
 unfold nR;rw[List.pairwise_map];exact List.Pairwise.imp_of_mem (fun ha hb _=>by rw[h _ ha,h _ hb];exact Cg _) (List.pairwise_of_forall (R:=fun _ _=>True) (fun _ _=>trivial))
theorem aeP(ms:List MS)(ah bh:Int):∀(l:List bF) (f:FS),nR l->∃e:List bF,(iW ms ah bh l f).1.next=f.next++e/\(∀t∈e,∃q∈l,q.2=t.2)/\nR e/\∀st,(iW ms ah bh l f).2=some st->∃q∈l,q.2=st
 | [],f,_=>⟨[],by unfold iW;simp,fun t ht=>(by cases ht),by unfold nR;simp,fun st h=>(by unfold iW at h;cases h)⟩
 |t::ts,f,hr=>by
  obtain⟨e1,h1,h2⟩:=aa0 ms ah bh ms.length t.1 t.2 f;unfold nR at hr;simp only[Cc,Cs]at hr;unfold iW;split
  ·refine⟨e1,h1,fun q hq=>⟨t,by simp,(h2 q hq).symm⟩,aec h2,fun st h=>⟨t,by simp,by simpa using h⟩⟩
  ·obtain⟨e2,h3,h4,h5,h6⟩:=aeP ms ah bh ts (gx ms ah bh ms.length t.1 t.2 f).1 hr.2;refine⟨e1++e2,by rw[h3,h1,Bw],fun q hq=>?_,?_,fun st h=>?_⟩
   ·rcases Ap.1 hq with hq|hq
    ·exact⟨t,by simp,(h2 q hq).symm⟩
    ·obtain⟨p,hp,qB⟩:=h4 q hq;exact⟨p,by simp[hp],qB⟩
   ·unfold nR;rw[Ch,B7];refine⟨aec h2,h5,fun a ha b hb=>?_⟩;obtain⟨q,hq,rfl⟩:=Bf.1 ha;obtain⟨p,hp,rfl⟩:=Bf.1 hb;rw[h2 q hq];obtain⟨r,I5,rK⟩:=h4 p hp;rw[<-rK];exact hr.1 _ (Bf.2 ⟨r,I5,rfl⟩)
   ·obtain⟨p,hp,qB⟩:=h6 st h;exact⟨p,by simp[hp],qB⟩
theorem anU{ah:Int}(h:nR l):(∀t∈ (aZ ms ah bh l).1,∃q∈l,q.2=t.2)/\nR (aZ ms ah bh l).1/\∀st,(aZ ms ah bh l).2=some st->∃q∈l,q.2=st:=by
 obtain⟨e,h1,h2,h3,h4⟩:=aeP ms ah bh l (FS.new ms.length) h;have he:(iW ms ah bh l (FS.new ms.length)).1.next=e:=by rw[h1];rfl
 unfold aZ;rw[he];exact⟨h2,h3,h4⟩
def c_(aJ:List Int)(s:Int):List Int:=if aJ.getLast?=some s then aJ else aJ++[s]
def gD:List bF->List Int->List bF×List Int
 | [],aJ=>([],aJ)
 |t::ts,aJ=>((t.1,((c_ aJ t.2).length:Int)-1)::(gD ts (c_ aJ t.2)).1,(gD ts (c_ aJ t.2)).2)
theorem Us(aJ:List Int)(s:Int):c_ aJ s≠ []:=by
 unfold c_;split
 ·rename_i h;intro e;subst e;simp at h
 ·simp
theorem abp(aJ:List Int)(s:Int):(c_ aJ s).getLast?=some s:=by
 unfold c_;split
 ·assumption
 ·simp
theorem abq(aJ:List Int)(s:Int):aJ<+:c_ aJ s:=by
 unfold c_;split
 ·exact List.prefix_rfl
 ·exact List.prefix_append _ _
theorem WL:∀(l:List bF) (aJ:List Int),aJ<+:(gD l aJ).2
 | [],aJ=>List.prefix_rfl
 |t::ts,aJ=>(abq aJ t.2).trans (WL ts (c_ aJ t.2))
def gB(M:List Int)(j:Int):Int:=M.getD j.toNat 0
theorem acI{a b:List Int}(h:a<+:b)(hj:j<a.length):gB b (j:Int)=a.getD j 0:=by
 obtain⟨c,rfl⟩:=h;unfold gB;rw[Ay,Af,Af,A6 hj]
theorem ah9{l:List Int}{s:Int}(h:l.getLast?=some s):l.getD (l.length-1) 0=s:=by
 rw[Eq]at h;rw[Af,h];rfl
theorem ad5:∀(l:List bF) (aJ:List Int),gV (gB (gD l aJ).2) (gD l aJ).1=l
 | [],aJ=>rfl
 |t::ts,aJ=>by
  have h1:=ad5 ts (c_ aJ t.2);have az:=Us aJ t.2;have cT:0<(c_ aJ t.2).length:=Bp.2 az;have e:((c_ aJ t.2).length:Int)-1=(((c_ aJ t.2).length-1:Nat):Int):=by omega
  have h2:gB (gD ts (c_ aJ t.2)).2 (((c_ aJ t.2).length:Int)-1)=t.2:=by
   rw[e,acI (WL ts (c_ aJ t.2)) (by omega)];exact ah9 (abp aJ t.2)
  show(t.1,gB (gD ts (c_ aJ t.2)).2 (((c_ aJ t.2).length:Int)-1))::gV (gB (gD ts (c_ aJ t.2)).2) (gD ts (c_ aJ t.2)).1=t::ts
  rw[h2,h1]
def jm(l:List bF):Nat:=match l.getLast? with
 |none=>0
 |some t=>(t.2+1).toNat
theorem ad6:∀(l:List bF) (aJ:List Int),l≠ []->jm (gD l aJ).1=(gD l aJ).2.length
 | [],aJ,h=>absurd rfl h
 | [t],aJ,_=>by
   have cT:0<(c_ aJ t.2).length:=Bp.2 (Us aJ t.2);unfold jm;simp only[gD,List.getLast?_singleton];omega
 |t::t2::ts,aJ,_=>by
  have h:=ad6 (t2::ts) (c_ aJ t.2) (by simp)
  have e:jm (gD (t::t2::ts) aJ).1=jm (gD (t2::ts) (c_ aJ t.2)).1:=by
   show jm (_::(gD (t2::ts) (c_ aJ t.2)).1)=_
   unfold jm;rw[show(gD (t2::ts) (c_ aJ t.2)).1=(t2.1,((c_ (c_ aJ t.2) t2.2).length:Int)-1)::(gD ts (c_ (c_ aJ t.2) t2.2)).1 from rfl,List.getLast?_cons_cons]
  rw[e,h];rfl
def fO(l:List bF):List bF×List Int:=gD l []
theorem amT(l:List bF):jm (fO l).1=(fO l).2.length:=by
 unfold fO;by_cases h:l=[]
 ·subst h;rfl
 ·exact ad6 l [] h
theorem amR(l:List bF):gV (gB (fO l).2) (fO l).1=l:=ad5 l []
theorem WK:∀(l:List bF) (aJ:List Int),(gD l aJ).1.length=l.length
 | [],_=>rfl
 |t::ts,aJ=>by show(gD ts _).1.length+1=ts.length+1;rw[WK ts]
theorem ad_:∀(l:List bF) (aJ:List Int),(gD l aJ).1.map (·.1)=l.map (·.1)
 | [],_=>rfl
 |t::ts,aJ=>by show t.1::(gD ts _).1.map (·.1)=t.1::ts.map (·.1);rw[ad_ ts]
theorem Rg:∀(l:List bF) (aJ:List Int),∀t∈ (gD l aJ).1,(aJ.length:Int)-1<=t.2/\0<=t.2/\t.2<((gD l aJ).2.length:Int)
 | [],aJ,t,ht=>by cases ht
 |q::ts,aJ,t,ht=>by
  have cT:0<(c_ aJ q.2).length:=Bp.2 (Us aJ q.2);have hp:=(abq aJ q.2).length_le;have qB:=(WL ts (c_ aJ q.2)).length_le;have e:(gD (q::ts) aJ).2=(gD ts (c_ aJ q.2)).2:=rfl;rcases Cn.1 (show t∈ (q.1,((c_ aJ q.2).length:Int)-1)::(gD ts (c_ aJ q.2)).1 from ht)with h|h
  ·rw[h,e];simp only;omega
  ·have:=Rg ts (c_ aJ q.2) t h;rw[e];omega
theorem ad8:∀(l:List bF) (aJ:List Int),nR (gD l aJ).1
 | [],_=>by unfold gD nR;simp
 |t::ts,aJ=>by
  have h:=ad8 ts (c_ aJ t.2);have hr:=Rg ts (c_ aJ t.2);unfold nR at h⊢;show((((c_ aJ t.2).length:Int)-1)::((gD ts (c_ aJ t.2)).1.map (·.2))).Pairwise (· <= ·)
  rw[Cs];refine⟨fun a ha=>?_,h⟩;obtain⟨q,hq,rfl⟩:=Bf.1 ha;exact(hr q hq).1
theorem ad9:∀(l:List bF) (aJ:List Int),nR l->aJ.Pairwise (· < ·)->(∀h∈aJ,∀t∈l,h<=t.2)->(gD l aJ).2.Pairwise (· < ·)
 | [],aJ,_,h,_=>h
 |t::ts,aJ,hr,hs,hle=>by
  unfold nR at hr;simp only[Cc,Cs]at hr;refine ad9 ts (c_ aJ t.2) hr.2 ?_ (fun h hh q hq=>?_)
  ·unfold c_;split
   ·exact hs
   ·rename_i az
    rw[B7];refine⟨hs,by simp,fun a ha b hb=>?_⟩;simp only[Bm]at hb;subst hb;have h1:=hle a ha t (by simp);refine Fs fun hx=>az ?_
    have hn:aJ≠ []:=List.ne_nil_of_mem ha;rw[D7 hn];have h2:=hle (aJ.getLast hn) (List.getLast_mem hn) t (by simp)
    have h3:a<=aJ.getLast hn:=by
     by_cases he:a=aJ.getLast hn
     ·rw[he];exact Cg _
     ·obtain⟨k,hk,sP⟩:=C4 ha
      have oh:k<aJ.length-1:=by
       refine Fs fun hx=>he ?_
       have:k=aJ.length-1:=(by omega);subst this;rw[List.getLast_eq_getElem];exact sP.symm
      have:=(Ce.1 hs) k (aJ.length-1) hk (by omega) oh;rw[List.getLast_eq_getElem,<-sP];exact Int.le_of_lt this
    congr 1
    omega
  ·have Qe:h∈aJ\/h=t.2:=by
    unfold c_ at hh;split at hh
    ·exact Or.inl hh
    ·rcases Ap.1 hh with h1|h1
     ·exact Or.inl h1
     ·simp only[Bm]at h1;exact Or.inr h1
   rcases Qe with h1|h1
   ·exact hle h h1 q (by simp[hq])
   ·rw[h1];exact hr.1 _ (Bf.2 ⟨q,hq,rfl⟩)
theorem amU(h:nR l):(fO l).2.Pairwise (· < ·):=ad9 l [] h (by simp) (fun h hh=>by cases hh)
theorem ad7:∀(l:List bF) (aJ:List Int),∀h∈ (gD l aJ).2,h∈aJ\/∃t∈l,t.2=h
 | [],aJ,h,hh=>Or.inl hh
 |t::ts,aJ,h,hh=>by
  rcases ad7 ts (c_ aJ t.2) h hh with h1|⟨q,hq,km⟩
  ·unfold c_ at h1;split at h1
   ·exact Or.inl h1
   ·rcases Ap.1 h1 with h2|h2
    ·exact Or.inl h2
    ·simp only[Bm]at h2;exact Or.inr ⟨t,by simp,h2.symm⟩
  ·exact Or.inr ⟨q,by simp[hq],km⟩
theorem aed{l:List Int}(h:l.Pairwise (· < ·))(h0:∀x∈l,0<=x):∀k,(hk:k<l.length)->(k:Int)<=l[k]:=by
 intro k;induction k with
 |zero=>intro hk;exact h0 _ (A5 hk)
 |succ k ih=>
  intro hk;have h1:=ih (by omega);have h2:=(Ce.1 h) k (k+1) (by omega) hk (by omega);omega
structure dq where
 aU:List bF
 ah:Int
 mt:Bool
structure dq.Ok(ms:List MS)(s:dq):Prop where
 st:∀t∈s.aU,0<=t.1/\t.1<ms.length
 rg:∀t∈s.aU,0<=t.2/\t.2<(jm s.aU:Int)
 aeb:nR s.aU
 bT:s.aU.length<=ms.length
 TF:jm s.aU<=s.aU.length
def du(st:Int)(s:dq):List bF:=if s.mt then s.aU else s.aU++[(st,(jm s.aU:Int))]
def mr(s:dq)(M:List Int)(p:Int):List Int:=if s.mt then M else M++[p]
def mu(ms:List MS)(st jV bh:Int)(s:dq):dq×List Int×Option Int:=(⟨(fO (aZ ms s.ah bh (du st s)).1).1,jV,s.mt||(aZ ms s.ah bh (du st s)).2.isSome⟩,(fO (aZ ms s.ah bh (du st s)).1).2,(aZ ms s.ah bh (du st s)).2)
theorem alm{s:dq}(h:s.Ok ms)(st:Int):nR (du st s):=by
 unfold du;split
 ·exact h.aeb
 ·unfold nR;rw[Ch,B7];refine⟨h.aeb,by simp,fun a ha b hb=>?_⟩;obtain⟨q,hq,rfl⟩:=Bf.1 ha;simp only[Cc,Fy,Bm]at hb;rw[hb];exact Int.le_of_lt (h.rg q hq).2
theorem ac6{s:dq}(h:s.Ok ms)(st:Int):∀t∈du st s,0<=t.2/\t.2<(jm s.aU:Int)+(if s.mt then 0 else 1):=by
 unfold du;split
 ·intro t ht;have:=h.rg t ht;omega
 ·intro t ht;rcases Ap.1 ht with ht|ht
  ·have:=h.rg t ht;omega
  ·simp only[Bm]at ht;rw[ht];simp only;omega
def uZ(M:List Int)(l:List bF):List bF:=gV (gB M) l
theorem amP{φ ψ:Int->Int}(h:∀t∈l,φ t.2=ψ t.2):gV φ l=gV ψ l:=Ft fun t ht=>by rw[h t ht]
theorem amQ(φ ψ:Int->Int)(l:List bF):gV φ (gV ψ l)=gV (fun j=>φ (ψ j)) l:=by unfold gV;rw[Fz];rfl
theorem alk{s:dq}(h:s.Ok ms)(hM:M.length=jm s.aU)(st p:Int):uZ (mr s M p) (du st s)=if s.mt then uZ M s.aU else uZ M s.aU++[(st,p)]:=by
 unfold du mr;by_cases hm:s.mt=true
 ·rw[if_pos hm,if_pos hm,if_pos hm]
 ·rw[if_neg hm,if_neg hm,if_neg hm];unfold uZ gV;rw[Ch];congr 1
  ·refine Ft fun t ht=>?_
   have hr:=h.rg t ht;obtain⟨k,hk⟩:=Au hr.1;rw[hk]at hr⊢;have:=acI (List.prefix_append M [p]) (j:=k) (by omega);show(t.1,gB (M++[p]) ((k:Nat):Int))=(t.1,gB M ((k:Nat):Int))
   rw[this];unfold gB;rw[Ay]
  ·simp only[Cc,Fy];unfold gB;rw[Ay,<-hM,Af,Bt (Ab _)];simp
theorem alJ{s:dq}{st jV ah ng p:Int}(h:s.Ok ms)(hM:M.length=jm s.aU)(ajo:DD ms s.ah s.ah ng bh):
 aZ ms s.ah bh (uZ (mr s M p) (du st s))=(uZ ((mu ms st jV ng s).2.1.map (gB (mr s M p))) (mu ms st jV ng s).1.aU,(mu ms st jV ng s).2.2.map (gB (mr s M p))):=by
 unfold uZ;rw[Xh ajo (gB (mr s M p)) (du st s)];have e:(mu ms st jV ng s).1.aU=(fO (aZ ms s.ah ng (du st s)).1).1:=rfl;have e2:(mu ms st jV ng s).2.1=(fO (aZ ms s.ah ng (du st s)).1).2:=rfl;have e3:(mu ms st jV ng s).2.2=(aZ ms s.ah ng (du st s)).2:=rfl;rw[e,e2,e3];congr 1;conv=>lhs;rw[<-amR (aZ ms s.ah ng (du st s)).1]
 rw[amQ];refine amP fun t ht=>?_
 have hr:=Rg _ [] t ht;obtain⟨k,hk⟩:=Au hr.2.1;have oh:k<(fO (aZ ms s.ah ng (du st s)).1).2.length:=by have:=hr.2.2;rw[hk]at this;unfold fO;omega
 show gB (mr s M p) (gB (fO (aZ ms s.ah ng (du st s)).1).2 t.2)=gB ((fO (aZ ms s.ah ng (du st s)).1).2.map (gB (mr s M p))) t.2
 rw[hk];conv=>rhs;unfold gB
 conv=>lhs;rw[show gB (fO (aZ ms s.ah ng (du st s)).1).2 (k:Int)=(fO (aZ ms s.ah ng (du st s)).1).2.getD k 0 from by unfold gB;rw[Ay]]
 simp only[Ay,Af,Bv,Ae oh,C7,Da];unfold gB;rw[Af]
theorem Wm(hg:eR ms){s:dq}{st jV:Int}(h:s.Ok ms)(o_:∀t∈ (aZ ms s.ah bh (du st s)).1,0<=t.1/\t.1<ms.length)(dh:(aZ ms s.ah bh (du st s)).1.length<=ms.length):
 (mu ms st jV bh s).1.Ok ms/\(mu ms st jV bh s).2.1.length=jm (mu ms st jV bh s).1.aU/\(mu ms st jV bh s).2.1.Pairwise (· < ·)/\
 (∀j∈ (mu ms st jV bh s).2.1,0<=j/\j<(jm s.aU:Int)+(if s.mt then 0 else 1))/\∀j,(mu ms st jV bh s).2.2=some j->0<=j/\j<(jm s.aU:Int)+(if s.mt then 0 else 1):=by
 obtain⟨h1,h2,h3⟩:=anU (ms:=ms) (ah:=s.ah) (bh:=bh) (alm h st);have cT:(fO (aZ ms s.ah bh (du st s)).1).1.length=(aZ ms s.ah bh (du st s)).1.length:=WK _ _;have hn:=amT (aZ ms s.ah bh (du st s)).1
 have hle:∀(l:List bF) (aJ:List Int),(gD l aJ).2.length<=aJ.length+l.length:=by
  intro l;induction l with
  |nil=>intro aJ;exact Ab _
  |cons t ts ih=>
   intro aJ;have:=ih (c_ aJ t.2);have h2:(c_ aJ t.2).length<=aJ.length+1:=by unfold c_;split<;>simp
   show(gD ts (c_ aJ t.2)).2.length<=aJ.length+(ts.length+1)
   omega
 have sR:=hle (aZ ms s.ah bh (du st s)).1 [];refine⟨⟨fun t ht=>?_,fun t ht=>?_,ad8 _ _,?_,?_⟩,hn.symm,amU h2,fun j hj=>?_,fun j hj=>?_⟩
 ·have hm:t.1∈ (gD (aZ ms s.ah bh (du st s)).1 []).1.map (·.1):=Bf.2 ⟨t,ht,rfl⟩;rw[ad_]at hm;obtain⟨q,hq,km⟩:=Bf.1 hm;rw[<-km];exact o_ q hq
 ·have:=Rg _ [] t ht;show 0<=t.2/\t.2<(jm (fO (aZ ms s.ah bh (du st s)).1).1:Int)
  rw[hn];exact⟨this.2.1,this.2.2⟩
 ·show(fO (aZ ms s.ah bh (du st s)).1).1.length<=_
  rw[cT];exact dh
 ·show jm (fO (aZ ms s.ah bh (du st s)).1).1<=(fO (aZ ms s.ah bh (du st s)).1).1.length
  rw[hn,cT];simpa[fO]using sR
 ·rcases ad7 _ [] j hj with hx|⟨t,ht,ue⟩
  ·cases hx
  ·obtain⟨q,hq,km⟩:=h1 t ht;have:=ac6 h st q hq;rw[<-ue,<-km];exact this
 ·obtain⟨q,hq,km⟩:=h3 j hj;have:=ac6 h st q hq;rw[<-km];exact this
def pW(c:Int):Int:=if c= -1 then-1 else if kD c then 119 else 32
theorem ann(c:Int):pW c= -1\/pW c=119\/pW c=32:=by
 unfold pW;split
 ·exact Or.inl rfl
 ·split
  ·exact Or.inr (Or.inl rfl)
  ·exact Or.inr (Or.inr rfl)
theorem aek(e a b:Int):eU e a b=eU e (pW a) b:=by
 unfold eU;by_cases h:a= -1
 ·subst h;rfl
 ·have e1:pW a=if kD a then 119 else 32:=by unfold pW;rw[if_neg h]
  have e2:(a== -1)=false:=by simpa using h
  have e3:(pW a== -1)=false:=by rw[e1];split<;>rfl
  have e4:kD (pW a)=kD a:=by
   rw[e1]
   cases hw:kD a<;>rfl
  rw[e2,e3,e4]
def oW(ms:List MS):Bool:=ms.any fun m=>m.kind==2
def jJ(ms:List MS)(c:Int):Int:=if oW ms then pW c else-1
theorem Xf(ms:List MS)(c:Int):pw ms c (jJ ms c):=fun u m hm hk b=>by
 have he:oW ms=true:=by
  unfold oW;rw[Cp];exact⟨m,Ca hm,by simp[hk]⟩
 unfold jJ;rw[if_pos he];exact aek _ _ _
theorem Xe(ms:List MS)(c:Int):jJ ms c= -1\/jJ ms c=119\/jJ ms c=32:=by
 unfold jJ;split
 ·exact ann c
 ·exact Or.inl rfl
def jl(cl:List Int)(r:Int):Nat:=cl.countP fun c=>decide (c<=r)
theorem akZ(cl:List Int)(h:r<=r'):jl cl r<=jl cl r':=by
 induction cl with
 |nil=>exact Ab _
 |cons c cs ih=>
  unfold jl at ih⊢;rw[D6,D6];by_cases h1:c<=r
  ·rw[if_pos (by simpa using h1),if_pos (by simp;omega)];omega
  ·rw[if_neg (by simpa using h1)];omega
theorem acR(cl:List Int)(h:r<=r')(he:jl cl r=jl cl r'):∀c∈cl,c<=r'->c<=r:=by
 induction cl with
 |nil=>intro c hc;cases hc
 |cons c cs ih=>
  have hm:=akZ cs h;unfold jl at ih he hm;rw[D6,D6]at he;intro d hd vC;by_cases h1:c<=r
  ·rw[if_pos (by simpa using h1),if_pos (by simp;omega)]at he;rcases Cn.1 hd with rfl|hd
   ·exact h1
   ·exact ih (by omega) d hd vC
  ·rw[if_neg (by simpa using h1)]at he;by_cases h2:c<=r'
   ·rw[if_pos (by simpa using h2)]at he;omega
   ·rw[if_neg (by simpa using h2)]at he;rcases Cn.1 hd with rfl|hd
    ·exact absurd vC h2
    ·exact ih (by omega) d hd vC
theorem acQ(he:jl cl r=jl cl r'){c:Int}(hc:c∈cl):c<=r↔c<=r':=by
 rcases Int.le_total r r' with h|h
 ·exact⟨fun h1=>by omega,fun h1=>acR cl h he c hc h1⟩
 ·exact⟨fun h1=>acR cl h he.symm c hc h1,fun h1=>by omega⟩
def uE(cl:List Int)(S:bD):Prop:=∀s∈S,s.1∈cl/\s.2+1∈cl
theorem acd{S:bD}(h:uE cl S)(he:jl cl r=jl cl r'):bU S r=bU S r':=by
 unfold bU;rw[Bg,Cp,Cp]
 have key:∀s∈S,((decide (s.1<=r)&&decide (r<=s.2))=true) ↔((decide (s.1<=r')&&decide (r'<=s.2))=true):=fun s hs=>by
  have h1:=acQ he (h s hs).1;have h2:=acQ he (h s hs).2;simp only[Cm,Az];omega
 exact⟨fun⟨s,hs,h1⟩=>⟨s,hs,(key s hs).1 h1⟩,fun⟨s,hs,h1⟩=>⟨s,hs,(key s hs).2 h1⟩⟩
structure tt(ms:List MS)(cl:List Int):Prop where
 take:∀(u:Nat) (m:MS),ms[u]? =some m->m.kind=1->∃S,(∀c,0<=c->c<=1114111->bU S c=fP m.sp m.fo m.nt c)/\uE cl S
 eo:∀(u:Nat) (m:MS),ms[u]? =some m->m.kind=2->∃S,(∀c,0<=c->c<=1114111->bU S c=kD c)/\uE cl S
theorem tt.wk(h:tt ms cl)(he:oW ms=true)(hr:0<=r/\r<=1114111)(ko:0<=r'/\r'<=1114111)(hn:jl cl r=jl cl r'):kD r=kD r':=by
 unfold oW at he;rw[Cp]at he;obtain⟨m,hm,hk⟩:=he;obtain⟨u,hu,Qa⟩:=C4 hm;obtain⟨S,h1,h2⟩:=h.eo u m (by rw[Ae hu,Qa]) (by simpa using hk);rw[<-h1 r hr.1 hr.2,<-h1 r' ko.1 ko.2];exact acd h2 hn
theorem tt.sh(h:tt ms cl)(hr:0<=r/\r<=1114111)(ko:0<=r'/\r'<=1114111)(hn:jl cl r=jl cl r')(ah:Int):DD ms ah ah r r' where
 take u m hm hk:=by
  obtain⟨S,h1,h2⟩:=h.take u m hm hk;rw[<-h1 r hr.1 hr.2,<-h1 r' ko.1 ko.2];exact acd h2 hn
 eo u m hm hk:=by
  have he:oW ms=true:=by
   unfold oW;rw[Cp];exact⟨m,Ca hm,by simp[hk]⟩
  have hw:=h.wk he hr ko hn;unfold eU;have e1:(r== -1)=false:=by simp;omega
  have e2:(r'== -1)=false:=by simp;omega
  rw[e1,e2,hw]
theorem tt.jV(h:tt ms cl)(hr:0<=r/\r<=1114111)(ko:0<=r'/\r'<=1114111)(hn:jl cl r=jl cl r'):jJ ms r=jJ ms r':=by
 unfold jJ;split
 ·rename_i he
  have hw:=h.wk he hr ko hn;unfold pW;rw[if_neg (show¬r= -1 by omega),if_neg (show¬r'= -1 by omega),hw]
 ·rfl
def zc(t:bF):List Nat:=[(t.1 % 256).toNat,(t.1/256 % 256).toNat,(t.2 % 256).toNat,(t.2/256 % 256).toNat]
def GD(s:dq):List Nat:=[(s.ah % 256).toNat,if s.mt then 1 else 0]++s.aU.flatMap zc
theorem aoi{t q:bF}(ht:(0<=t.1/\t.1<65536)/\0<=t.2/\t.2<65536)(hq:(0<=q.1/\q.1<65536)/\0<=q.2/\q.2<65536)(h:zc t=zc q):t=q:=by
 unfold zc at h;simp only[Fu,and_true]at h;obtain⟨h1,h2,h3,h4⟩:=h;refine Prod.ext ?_ ?_ <;>omega
theorem ae4:∀(l k:List bF),(∀t∈l,(0<=t.1/\t.1<65536)/\0<=t.2/\t.2<65536)->(∀t∈k,(0<=t.1/\t.1<65536)/\0<=t.2/\t.2<65536)->l.flatMap zc=k.flatMap zc->l=k
 | [],[],_,_,_=>rfl
 | [],q::qs,_,_,h=>by rw[List.flatMap_nil,Di]at h;unfold zc at h;simp at h
 |t::ts,[],_,_,h=>by rw[List.flatMap_nil,Di]at h;unfold zc at h;simp at h
 |t::ts,q::qs,hl,hk,h=>by
  rw[Di,Di]at h;obtain⟨h1,h2⟩:=List.append_inj h (by unfold zc;rfl);rw[aoi (hl t (by simp)) (hk q (by simp)) h1,ae4 ts qs (fun x hx=>hl x (by simp[hx])) (fun x hx=>hk x (by simp[hx])) h2]
theorem aj8(hm:ms.length<=60000){s r:dq}(hs:s.Ok ms)(hr:r.Ok ms)(as_:s.ah= -1\/s.ah=119\/s.ah=32)(ar:r.ah= -1\/r.ah=119\/r.ah=32)(h:GD s=GD r):s=r:=by
 unfold GD at h;obtain⟨h1,h2⟩:=List.append_inj h rfl;simp only[Fu,and_true]at h1
 have b:∀s:dq,s.Ok ms->∀t∈s.aU,(0<=t.1/\t.1<65536)/\0<=t.2/\t.2<65536:=fun s hs t ht=>by
  have a1:=hs.st t ht;have a2:=hs.rg t ht;have a3:=hs.bT;have a4:=hs.TF;omega
 have e1:=ae4 s.aU r.aU (b s hs) (b r hr) h2;have e2:s.ah=r.ah:=by omega
 have e3:s.mt=r.mt:=by
  have:=h1.2
  cases qF:s.mt<;>cases ko:r.mt<;>rw[qF,ko]at this<;>first|rfl|cases this
 cases s;cases r
 simp only at e1 e2 e3;rw[e1,e2,e3]
def IA(n b0 b1 b2:Nat):Bool:=decide (n≠0)&&(decide (Lib.firstT b0 % 8<=n)||(decide (1<n/\(b1<Lib.accLo (Lib.firstT b0/16)\/Lib.accHi (Lib.firstT b0/16)<b1))||decide (2<n/\(b2<128\/191<b2))))
theorem ah7{N b0 b1 b2 c1 c2 c3:Nat}(h:IA n b0 b1 b2=true)(hN:n<=N)(h1:1<n->c1=b1)(h2:2<n->c2=b2)(r0:b0<256)(r1:c1<256)(r2:c2<256)(r3:c3<256):(Lib.decodeN N b0 c1 c2 c3).2<=n:=by
 unfold IA at h;simp only[Cm,Bool.or_eq_true,Az]at h;obtain⟨h0,h⟩:=h;rcases Lib.firstT_cases b0 with hX|hX|hX|hX|hX|hX|hX|hX|hX
 ·rw[Lib.ascii_eq _ _ _ _ _ hX];show 1<=n;omega
 ·rw[Lib.bad_eq _ _ _ _ _ r0 hX];show 1<=n;omega
 all_goals
  rw[<-Lib.slow_eq _ _ _ _ _ (by omega) r1 r2 r3 (by omega)];rw[hX]at h⊢;simp only[Lib.accLo,Lib.accHi,Nat.reduceEqDiff,if_true,if_false,Nat.reduceMod,Nat.reduceDiv]at h⊢;unfold Lib.slowN;repeat' split
  all_goals(simp only;omega)
def vm(s:ByteArray):Bool:=IA s.size (s.get! 0).toNat (s.get! 1).toNat (s.get! 2).toNat
theorem DY(s:ByteArray)(k:Nat):(s.get! k).toNat<256:=(s.get! k).toNat_lt
theorem ah8{p:Nat}(hq:q<=X.size)(h:vm (X.extract p q)=true):p<q/\p+(Utf8.decode X p).2<=q/\Lib.decodeGo (X.extract p q)=Utf8.decode X p:=by
 unfold vm at h;rw[extract_size X p q hq]at h
 have h0:q-p≠0:=by
  intro h0;rw[h0]at h;unfold IA at h;simp at h
 have hp:p<q:=by omega
 have hw:(Utf8.decode X p).2<=q-p:=by
  rw[Lib.decode_at];have e0:(X.extract p q).get! 0=X.get! p:=by have:=vg X p q 0 hq (by omega);rwa[Dm]at this
  rw[e0]at h;refine ah7 h (by omega) (fun h1=>?_) (fun h2=>?_) (DY _ _) (DY _ _) (DY _ _) (DY _ _)
  ·rw[vg X p q 1 hq (by omega)]
  ·rw[vg X p q 2 hq (by omega)]
 refine⟨hp,by omega,?_⟩;have hs:(X.extract p q).size≠0:=by rw[extract_size X p q hq];exact h0
 unfold Lib.decodeGo;rw[if_neg hs];have:=DO X p q 0 hq (by omega) (by simpa using(show p+(Utf8.decode X p).2<=q by omega));rwa[Dm]at this
theorem aeh(hi:i<(aF X).length)(hq:q<=X.size)(h:bd X (i+1)<=q):((Lib.decodeGo (X.extract (bd X i) q)).1:Int)=(aM X).bu i/\bd X i+(Lib.decodeGo (X.extract (bd X i) q)).2=bd X (i+1):=by
 have hn:=tJ hi;have hb:=pE hi;have hs:(X.extract (bd X i) q).size≠0:=by rw[extract_size X _ q hq];omega
 have e:Lib.decodeGo (X.extract (bd X i) q)=Utf8.decode X (bd X i):=by
  unfold Lib.decodeGo;rw[if_neg hs];have:=DO X (bd X i) q 0 hq (by omega) (by rw[Dm];omega);rwa[Dm]at this
 rw[e];exact⟨(Ri hi).symm,hn.symm⟩
theorem aa6(hi:i<=(aF X).length)(hq:q<=X.size)(h:vm (X.extract (bd X i) q)=true):i<(aF X).length/\bd X (i+1)<=q:=by
 obtain⟨h1,h2,h3⟩:=ah8 hq h
 have aw:i<(aF X).length:=by
  rcases Nat.lt_or_ge i (aF X).length with h|h
  ·exact h
  ·rw[nf h]at h1;omega
 exact⟨aw,by rw[tJ aw];exact h2⟩
theorem ahE(s:ByteArray):s.extract 0 s.size=s:=by
 apply E9
 apply Fi.1
 rw[Cu,List.drop_zero,Nat.sub_zero];exact By (by rw[<-Es];exact Ab _)
theorem O9(X:ByteArray)(a b c d:Nat)(h:a+d<=b):(X.extract a b).extract c d=X.extract (a+c) (a+d):=by
 apply E9
 apply Fi.1
 rw[Cu,Cu,Cu,List.drop_take,List.take_take,List.drop_drop];congr 1;omega
theorem afM(h:f<i)(hi:i<=(aF X).length):((Lib.decodeLastL (X.extract (bd X f) (bd X i)).data.toList).1:Int)=(aM X).ahead i:=by
 have S:jZ X ⟨X.extract (bd X f) (bd X i),(bd X f:Int),(aM X).ahead f,-1,true⟩ f i:=⟨rfl,rfl,by omega,hi,fun _ _=>rfl,fun h=>(by cases h)⟩;have hn:=S.n;unfold CX.n at hn;simp only at hn;have h1:=acz (s:=X.extract (bd X f) (bd X i)) (i:=i-f-1) (by omega);rw[nf (s:=X.extract (bd X f) (bd X i)) (show(aF (X.extract (bd X f) (bd X i))).length<=i-f-1+1 by omega),ahE]at h1;rw[h1];have h2:=S.bu (k:=i-f-1) (by omega);have e:(aM X).ahead i=(aM X).bu (i-1):=if_neg (by omega);rw[e,show i-1=f+(i-f-1) by omega];exact h2
def uY(X:ByteArray)(i:Nat)(a:Int):Prop:=∀e b,eU e a b=eU e ((aM X).ahead i) b
theorem uY.ah{a:Int}(h:uY X i a)(ms:List MS):pw ms ((aM X).ahead i) a:=fun u m _ _ b=>(h _ b).symm
theorem uY.mk(X:ByteArray)(i:Nat):uY X i (pW ((aM X).ahead i)):=fun e b=>(aek e _ b).symm
theorem uY.zero(X:ByteArray):uY X 0 (-1):=fun _ _=>rfl
structure wE(X:ByteArray)(f i:Nat)(l:List bF)(mt:Option (Int×Nat)):Prop where
 le:f<=i
 aU:∀t∈l,aN X f<=t.2
 mtc:∀s j,mt=some (s,j)->aN X f<=s
theorem pz.qM(h:pz ms X st b i l mt)(bt:st<ms.length):zE ms (jT st (aN X i) mt.isSome l):=by
 unfold jT
 cases mt with
 |some m=>exact h.aU
 |none=>
  refine⟨fun t ht=>?_,?_⟩
  ·simp only[Do,Aq,if_false,Ap,Bm]at ht;rcases ht with ht|rfl
   ·exact h.aU.1 t ht
   ·exact⟨by simp,by simp only;omega⟩
  ·simp only[Do,Aq,if_false,Ch,Cc,Fy];rw[B7];refine⟨h.aU.2,by simp,fun a Ur c hc=>?_⟩;obtain⟨t,ht,rfl⟩:=Bf.1 Ur;simp only[Bm]at hc;obtain⟨k,aT,aO,bA⟩:=h.Ny t ht;rw[hc,bA];exact Ip X (by omega)
theorem wE.step(hg:eR ms)(h:wE X f i l mt)(hE:pz ms X st b i l mt)(bt:st<ms.length)(hi:i<(aF X).length){ah:Int}(ha:pw ms ((aM X).ahead i) ah):
 wE X f (i+1) (aZ ms ah ((aM X).bu i) (jT st (aN X i) mt.isSome l)).1 (uv i (aZ ms ah ((aM X).bu i) (jT st (aN X i) mt.isSome l)).2 mt):=by
 have Lx:tz ms (ln ms (aM X)) i ((aM X).ahead i) ((aM X).bu i):=Lh hg (aM X) hi;obtain⟨_,s1,s2,s3⟩:=Xi hg (Lx.ahead ha) (hE.qM bt)
 have hS:∀t∈jT st (aN X i) mt.isSome l,aN X f<=t.2:=fun t ht=>by
  unfold jT at ht;split at ht
  ·exact h.aU t ht
  ·simp only[Ap,Bm]at ht;rcases ht with ht|rfl
   ·exact h.aU t ht
   ·exact Ip X h.le
 refine⟨by have:=h.le;omega,fun t ht=>?_,fun s j hm=>?_⟩
 ·obtain⟨q,hq,km⟩:=s2 t ht;rw[<-km];exact hS q hq
 ·unfold uv at hm
  cases hd:(aZ ms ah ((aM X).bu i) (jT st (aN X i) mt.isSome l)).2 with
  |some s'=>
   rw[hd]at hm;simp only[C7,D8,A9,Ck]at hm;obtain⟨⟨q,hq,km⟩,_⟩:=s3 s' hd;rw[<-hm.1,<-km];exact hS q hq
  |none=>
   rw[hd]at hm;exact h.mtc s j hm
def zW(X:ByteArray)(i:Nat)(l:List bF):Int:=(l.head?.map (·.2)).getD (aN X i)
theorem wE.zV(hE:pz ms X st b i l mt)(hf:zW X i l=aN X f)(ET:f<=i)(hc:l=[]->mt=none):wE X f i l mt:=by
 unfold zW at hf
 cases l with
 |nil=>exact⟨ET,by simp,fun s j hm=>(by rw[hc rfl]at hm;cases hm)⟩
 |cons t ts=>
  have hp:=hE.aU.2;simp only[Cc,Cs]at hp;have hf':t.2=aN X f:=hf;refine⟨ET,fun q hq=>?_,fun s j hm=>?_⟩
  ·rw[<-hf'];rcases Cn.1 hq with rfl|hq
   ·exact Cg _
   ·exact hp.1 _ (Bf.2 ⟨q,hq,rfl⟩)
  ·rw[<-hf'];exact(hE.QM s j hm).2.2 t (by simp)
theorem wE.mono(h:wE X f i l mt):aN X f<=zW X i l:=by
 unfold zW
 cases l with
 |nil=>exact Ip X h.le
 |cons t ts=>exact h.aU t (by simp)
def tg(a j:Nat):Nat:=if a=j then j+1 else j
theorem OM(hi:i<=(aF X).length)(hj:j<=(aF X).length)(h:aN X i=aN X j):i=j:=ON hi hj (by unfold aN at h;omega)
theorem aoe{gs:List Int}{told:Int}(hT:nO T (aF X).length)(hba:b<=a)(haj:a<=j)(hj:j<=(aF X).length)(e:T a=some (j,gs))(hn:∀k,b<=k->k<a->T k=none):
 (eM T (aF X).length (aN X) false b told).1=(if !(aN X a==aN X j&&aN X j==told)then [⟨a,j,gs⟩]else [])++(eM T (aF X).length (aN X) false (tg a j) (aN X j)).1:=by
 rw[TD (a:=a) hba (by omega) hn,Iw hT (by omega) e rfl];unfold tg;by_cases cQ:a=j
 ·subst cQ;rw[if_pos rfl,if_pos rfl];by_cases ht:told=aN X a
  ·rw[if_pos ht,ht];simp
  ·have:(aN X a==told)=false:=(by simpa using fun h=>ht h.symm);rw[if_neg ht,this];simp
 ·have:(aN X a==aN X j)=false:=by simpa using fun h=>cQ (OM (by omega) hj h)
  rw[if_neg cQ,if_neg cQ,this];simp
theorem alc(ha:a<=(aF X).length)(hj:j<(aF X).length):(if aN X a=aN X j then aN X j+((bd X (j+1)-bd X j:Nat):Int)else aN X j)=aN X (tg a j):=by
 unfold tg;by_cases h:a=j
 ·subst h;rw[if_pos rfl,if_pos rfl];have:=(pE hj).1;unfold aN;omega
 ·rw[if_neg (fun h'=>h (OM ha (by omega) h')),if_neg h]
theorem alA(hg:eR ms){c2:CX}{r:Nat}(h:jZ X c a r)(ho:c.op=true)(hS:jZ X c2 0 r)(FY:c2.op=true)(hu:u<ms.length)(hk:k<=c.n)(gs:List Int):cW ms c2 u (a+k) gs=Hc a (cW ms c u k gs):=by
 have hn:=h.n;have hl:=h.le;have qz:=h.yH;have hN:c2.n=r:=by rw[hS.n];omega
 refine Pg hg c.n (Q:=fun u k=>∀gs,cW ms c2 u (a+k) gs=Hc a (cW ms c u k gs)) (fun u k m hk hm Gt Gu gs=>?_) _ k (Ab _) hk u hu gs;by_cases tZ:c.n<=k
 ·rw[yX ho tZ,yX FY (by omega)];rfl
 ·have t1:(c.op&&decide (c.n<=k))=false:=by rw[ho];simp;omega
  have t2:(c2.op&&decide (c2.n<=a+k))=false:=by rw[FY];simp;omega
  have UZ:a+k<=c2.n:=by omega
  have q1:a+k<r-0:=by omega
  have q2:k<r-a:=by omega
  have q3:k<=r-a:=by omega
  have q4:a+k<=r-0:=by omega
  have q5:k<c.n:=by omega
  have q6:a+k<c2.n:=by omega
  obtain⟨⟨k0,k4⟩,g1,g2,g3⟩:=hg u m hm;obtain⟨a0,a1,a2,a3,a4⟩:=oE hg c hk hm t1 gs;obtain⟨b0,b1,b2,b3,b4⟩:=oE hg c2 UZ hm t2 gs
  have T:∀v:Int,0<=v->v<u->∀gs,cW ms c2 v (a+k) gs=Hc a (cW ms c v k gs):=fun v h0 hv gs=>by
   obtain⟨q,rfl⟩:=Au h0;exact Gt q (by omega) gs
  have hR:c2.bu (a+k)=c.bu k:=by
   have hz:0+(a+k)=a+k:=Ba _;have x1:=hS.bu (k:=a+k) q1;have x2:=h.bu (k:=k) q2;exact x1.trans ((congrArg (aM X).bu hz).trans x2.symm)
  by_cases e0:m.kind=0
  ·rw[a0 e0,b0 e0];rfl
  ·by_cases e1:m.kind=1
   ·rw[a1 e1,b1 e1,hR];have d1:decide (k<c.n)=true:=Cx q5;have d2:decide (a+k<c2.n)=true:=Cx q6;rw[d1,d2];have o9:=g1 e1;clear g1 g2 g3 a0 a2 a3 a4 b0 b2 b3 b4;obtain⟨q,hq⟩:=Au o9.1;by_cases ht:(true&&fP m.sp m.fo m.nt (c.bu k))=true
    ·rw[if_pos ht,if_pos ht,hq];have:=Gu q (by omega) q5 gs;rw[<-Dn]at this;exact this
    ·rw[if_neg ht,if_neg ht];rfl
   ·have jS:=g2 (by omega);by_cases e2:m.kind=2
    ·rw[a2 e2,b2 e2];have hz:0+(a+k)=a+k:=Ba _;have x1:=h.eo (k:=k) q3 t1 m.eo;have x2:=hS.eo (k:=a+k) q4 t2 m.eo;rw[hz]at x2;have x3:=x2.trans x1.symm;rw[x3];by_cases hh:eU m.eo (c.ahead k) (c.gM k)=true
     ·rw[if_pos hh,if_pos hh];exact T _ jS.1 jS.2 gs
     ·rw[if_neg hh,if_neg hh];rfl
    ·by_cases e3:m.kind=3
     ·rw[a3 e3,b3 e3];have hz:0+(a+k)=a+k:=Ba _;have x1:=h.aW (k:=k) q3;have x2:=hS.aW (k:=a+k) q4;rw[hz]at x2;have x3:=x2.trans x1.symm;rw[x3];exact T _ jS.1 jS.2 _
     ·have e4:m.kind=4:=(by omega);have ho3:=g3 e4;rw[a4 e4,b4 e4,T _ jS.1 jS.2,T _ ho3.1 ho3.2];unfold Hc;rw[QH]
theorem aly(hg:eR ms){r:Nat}(h:jZ X c a r)(ho:c.op=true)(hu:u<ms.length)(hk:k<=c.n)(gs:List Int):cW ms (pV X r) u (a+k) gs=Hc a (cW ms c u k gs):=alA hg h ho (adh h.yH) rfl hu hk gs
theorem alz(hg:eR ms){r:Nat}{dp:List Int}(h:jZ X c a r)(ho:c.op=true){G:Nat}(bt:st<ms.length)(e:eG ms (pV X r) st G a=some (j,dp)):∃Lv,eG ms c st G 0=some (j-a,Lv)/\a<=j:=by
 have:=aly hg h ho bt (Am _) (gH G);rw[Dm]at this;have e':Hc a (cW ms c (st:Int) 0 (gH G))=some (j,dp):=by rw[<-this];exact e
 unfold Hc at e';obtain⟨⟨j2,g2⟩,hv,nI⟩:=Eb.1 e';simp only[Ck]at nI;exact⟨g2,by show cW ms c (st:Int) 0 (gH G)=_;rw[hv,show j-a=j2 by omega],by omega⟩
theorem TC{b:Nat->Int}{op:Bool}{P:Ev->Prop}(hT:nO T n)(hP:∀i j gs,i<=n->T i=some (j,gs)->P ⟨i,j,gs⟩):∀(k i:Nat) (told:Int),∀e∈ (j9 T n b op k i told).1,P e:=by
 intro k;induction k with
 |zero=>intro i told e he;simp[j9]at he
 |succ k ih=>
  intro i told e he;unfold j9 at he;by_cases hn:n<i
  ·rw[if_pos hn]at he;simp at he
  ·rw[if_neg hn]at he
   cases h:T i with
   |none=>rw[h]at he;exact ih _ _ e he
   |some v=>
    obtain⟨j,gs⟩:=v;rw[h]at he;simp only at he;have h1:=hP i j gs (by omega) h;split at he
    ·simp at he
    ·split at he
     ·split at he
      ·exact ih _ _ e he
      ·rcases Cn.1 he with rfl|he
       ·exact h1
       ·exact ih _ _ e he
     ·rcases Cn.1 he with rfl|he
      ·exact h1
      ·exact ih _ _ e he
end Go.Proofs.YtpdnofhackjfdaaGreatDoor
