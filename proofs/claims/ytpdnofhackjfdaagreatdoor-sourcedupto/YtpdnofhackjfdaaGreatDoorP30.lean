/- The engine of ma -/
import Derived.Test.YtpdnofhackjfdaaGreatDoorP29
set_option linter.all false
set_option maxRecDepth 100000
set_option maxHeartbeats 4000000
namespace Go.Proofs.YtpdnofhackjfdaaGreatDoor
open Go.Proofs.Tryz
variable {X:ByteArray} {c:CX} {bh r r':Int} {M cl:List Int} {ms:List MS} {l:List bJ} {a b f i j k n q st u:Nat} {T:Nat->iT} {mt:Option (Int×Nat)}
theorem api(m:MS)(bh st:Int)(f:FS):∃e:List bJ,(ny m bh st f).next=f.next++e/\∀t∈e,t.2=st:=by
 unfold ny;split
 ·exact⟨[(m.next,st)],rfl,fun t ht=>by simp only[Bq]at ht;rw[ht]⟩
 ·exact⟨[],by simp,fun t ht=>by cases ht⟩
theorem abG(ms:List MS)(ah bh:Int):∀(d:Nat) (u st:Int) (f:FS),∃e:List bJ,(gH ms ah bh d u st f).1.next=f.next++e/\∀t∈e,t.2=st
 |0,_,_,f=>⟨[],by unfold gH;simp,fun t ht=>by cases ht⟩
 |d+1,u,st,f=>by
  have IH:=fun u f=>abG ms ah bh d u st f
  have Z:∃e:List bJ,f.next=f.next++e/\∀t∈e,t.2=st:=⟨[],by simp,fun t ht=>by cases ht⟩
  unfold gH;split
  ·exact Z
  ·split
   ·exact Z
   ·split
    ·exact Z
    ·split
     ·exact api _ _ _ _
     ·split
      ·split
       ·exact IH _ _
       ·exact Z
      ·split
       ·exact IH _ _
       ·split
        ·exact IH _ _
        ·rename_i m _ _ _ _ _ _
         obtain⟨e1,h1,h2⟩:=IH m.next ⟨f.seen.set u.toNat true,f.dO,f.next⟩
         obtain⟨e2,h3,h4⟩:=IH m.bj (gH ms ah bh d m.next st ⟨f.seen.set u.toNat true,f.dO,f.next⟩).1;refine⟨e1++e2,by rw[h3,h1,Bu],fun t ht=>?_⟩;rcases Ap.1 ht with ht|ht
         ·exact h2 t ht
         ·exact h4 t ht
def og(l:List bJ):Prop:=(l.map (·.2)).Pairwise (· <= ·)
theorem aeX{e:List bJ}{st:Int}(h:∀t∈e,t.2=st):og e:=by
 unfold og;rw[List.pairwise_map];exact List.Pairwise.imp_of_mem (fun ha hb _=>by rw[h _ ha,h _ hb];exact Cm _) (List.pairwise_of_forall (R:=fun _ _=>True) (fun _ _=>trivial))
theorem afx(ms:List MS)(ah bh:Int):∀(l:List bJ) (f:FS),og l->∃e:List bJ,(je ms ah bh l f).1.next=f.next++e/\(∀t∈e,∃q∈l,q.2=t.2)/\og e/\∀st,(je ms ah bh l f).2=some st->∃q∈l,q.2=st
 | [],f,_=>⟨[],by unfold je;simp,fun t ht=>(by cases ht),by unfold og;simp,fun st h=>(by unfold je at h;cases h)⟩
 |t::ts,f,hr=>by
  obtain⟨e1,h1,h2⟩:=abG ms ah bh ms.length t.1 t.2 f;unfold og at hr;simp only[Ch,Cy]at hr;unfold je;split
  ·refine⟨e1,h1,fun q hq=>⟨t,by simp,(h2 q hq).symm⟩,aeX h2,fun st h=>⟨t,by simp,by simpa using h⟩⟩
  ·obtain⟨e2,h3,h4,h5,h6⟩:=afx ms ah bh ts (gH ms ah bh ms.length t.1 t.2 f).1 hr.2;refine⟨e1++e2,by rw[h3,h1,Bu],fun q hq=>?_,?_,fun st h=>?_⟩
   ·rcases Ap.1 hq with hq|hq
    ·exact⟨t,by simp,(h2 q hq).symm⟩
    ·obtain⟨p,hp,qW⟩:=h4 q hq;exact⟨p,by simp[hp],qW⟩
   ·unfold og;rw[Ca,Cd];refine⟨aeX h2,h5,fun a ha b hb=>?_⟩;obtain⟨q,hq,rfl⟩:=Be.1 ha;obtain⟨p,hp,rfl⟩:=Be.1 hb;rw[h2 q hq];obtain⟨r,WN,qZ⟩:=h4 p hp;rw[<-qZ];exact hr.1 _ (Be.2 ⟨r,WN,rfl⟩)
   ·obtain⟨p,hp,qW⟩:=h6 st h;exact⟨p,by simp[hp],qW⟩
theorem aoZ{ah:Int}(h:og l):(∀t∈ (bc ms ah bh l).1,∃q∈l,q.2=t.2)/\og (bc ms ah bh l).1/\∀st,(bc ms ah bh l).2=some st->∃q∈l,q.2=st:=by
 obtain⟨e,h1,h2,h3,h4⟩:=afx ms ah bh l (FS.new ms.length) h;have he:(je ms ah bh l (FS.new ms.length)).1.next=e:=by rw[h1];rfl
 unfold bc;rw[he];exact⟨h2,h3,h4⟩
def dg(aN:List Int)(s:Int):List Int:=if aN.getLast?=some s then aN else aN++[s]
def gO:List bJ->List Int->List bJ×List Int
 | [],aN=>([],aN)
 |t::ts,aN=>((t.1,((dg aN t.2).length:Int)-1)::(gO ts (dg aN t.2)).1,(gO ts (dg aN t.2)).2)
theorem VR(aN:List Int)(s:Int):dg aN s≠ []:=by
 unfold dg;split
 ·rename_i h;intro e;subst e;simp at h
 ·simp
theorem ab5(aN:List Int)(s:Int):(dg aN s).getLast?=some s:=by
 unfold dg;split
 ·assumption
 ·simp
theorem ab6(aN:List Int)(s:Int):aN<+:dg aN s:=by
 unfold dg;split
 ·exact List.prefix_rfl
 ·exact List.prefix_append _ _
theorem Yi:∀(l:List bJ) (aN:List Int),aN<+:(gO l aN).2
 | [],aN=>List.prefix_rfl
 |t::ts,aN=>(ab6 aN t.2).trans (Yi ts (dg aN t.2))
def gL(M:List Int)(j:Int):Int:=M.getD j.toNat 0
theorem adr{a b:List Int}(h:a<+:b)(hj:j<a.length):gL b (j:Int)=a.getD j 0:=by
 obtain⟨c,rfl⟩:=h;unfold gL;rw[Az,Af,Af,Ay hj]
theorem aiX{l:List Int}{s:Int}(h:l.getLast?=some s):l.getD (l.length-1) 0=s:=by
 rw[Ey]at h;rw[Af,h];rfl
theorem aeP:∀(l:List bJ) (aN:List Int),ij (gL (gO l aN).2) (gO l aN).1=l
 | [],aN=>rfl
 |t::ts,aN=>by
  have h1:=aeP ts (dg aN t.2);have aB:=VR aN t.2;have dc:0<(dg aN t.2).length:=Bt.2 aB;have e:((dg aN t.2).length:Int)-1=(((dg aN t.2).length-1:Nat):Int):=by omega
  have h2:gL (gO ts (dg aN t.2)).2 (((dg aN t.2).length:Int)-1)=t.2:=by
   rw[e,adr (Yi ts (dg aN t.2)) (by omega)];exact aiX (ab5 aN t.2)
  show(t.1,gL (gO ts (dg aN t.2)).2 (((dg aN t.2).length:Int)-1))::ij (gL (gO ts (dg aN t.2)).2) (gO ts (dg aN t.2)).1=t::ts
  rw[h2,h1]
def jv(l:List bJ):Nat:=match l.getLast? with
 |none=>0
 |some t=>(t.2+1).toNat
theorem aeQ:∀(l:List bJ) (aN:List Int),l≠ []->jv (gO l aN).1=(gO l aN).2.length
 | [],aN,h=>absurd rfl h
 | [t],aN,_=>by
   have dc:0<(dg aN t.2).length:=Bt.2 (VR aN t.2);unfold jv;simp only[gO,List.getLast?_singleton];omega
 |t::t2::ts,aN,_=>by
  have h:=aeQ (t2::ts) (dg aN t.2) (by simp)
  have e:jv (gO (t::t2::ts) aN).1=jv (gO (t2::ts) (dg aN t.2)).1:=by
   show jv (_::(gO (t2::ts) (dg aN t.2)).1)=_
   unfold jv;rw[show(gO (t2::ts) (dg aN t.2)).1=(t2.1,((dg (dg aN t.2) t2.2).length:Int)-1)::(gO ts (dg (dg aN t.2) t2.2)).1 from rfl,List.getLast?_cons_cons]
  rw[e,h];rfl
def fV(l:List bJ):List bJ×List Int:=gO l []
theorem anS(l:List bJ):jv (fV l).1=(fV l).2.length:=by
 unfold fV;by_cases h:l=[]
 ·subst h;rfl
 ·exact aeQ l [] h
theorem anQ(l:List bJ):ij (gL (fV l).2) (fV l).1=l:=aeP l []
theorem Yh:∀(l:List bJ) (aN:List Int),(gO l aN).1.length=l.length
 | [],_=>rfl
 |t::ts,aN=>by show(gO ts _).1.length+1=ts.length+1;rw[Yh ts]
theorem aeU:∀(l:List bJ) (aN:List Int),(gO l aN).1.map (·.1)=l.map (·.1)
 | [],_=>rfl
 |t::ts,aN=>by show t.1::(gO ts _).1.map (·.1)=t.1::ts.map (·.1);rw[aeU ts]
theorem SC:∀(l:List bJ) (aN:List Int),∀t∈ (gO l aN).1,(aN.length:Int)-1<=t.2/\0<=t.2/\t.2<((gO l aN).2.length:Int)
 | [],aN,t,ht=>by cases ht
 |q::ts,aN,t,ht=>by
  have dc:0<(dg aN q.2).length:=Bt.2 (VR aN q.2);have hp:=(ab6 aN q.2).length_le;have qW:=(Yi ts (dg aN q.2)).length_le;have e:(gO (q::ts) aN).2=(gO ts (dg aN q.2)).2:=rfl;rcases Ct.1 (show t∈ (q.1,((dg aN q.2).length:Int)-1)::(gO ts (dg aN q.2)).1 from ht)with h|h
  ·rw[h,e];simp only;omega
  ·have:=SC ts (dg aN q.2) t h;rw[e];omega
theorem aeS:∀(l:List bJ) (aN:List Int),og (gO l aN).1
 | [],_=>by unfold gO og;simp
 |t::ts,aN=>by
  have h:=aeS ts (dg aN t.2);have hr:=SC ts (dg aN t.2);unfold og at h⊢;show((((dg aN t.2).length:Int)-1)::((gO ts (dg aN t.2)).1.map (·.2))).Pairwise (· <= ·)
  rw[Cy];refine⟨fun a ha=>?_,h⟩;obtain⟨q,hq,rfl⟩:=Be.1 ha;exact(hr q hq).1
theorem aeT:∀(l:List bJ) (aN:List Int),og l->aN.Pairwise (· < ·)->(∀h∈aN,∀t∈l,h<=t.2)->(gO l aN).2.Pairwise (· < ·)
 | [],aN,_,h,_=>h
 |t::ts,aN,hr,hs,hle=>by
  unfold og at hr;simp only[Ch,Cy]at hr;refine aeT ts (dg aN t.2) hr.2 ?_ (fun h hh q hq=>?_)
  ·unfold dg;split
   ·exact hs
   ·rename_i aB
    rw[Cd];refine⟨hs,by simp,fun a ha b hb=>?_⟩;simp only[Bq]at hb;subst hb;have h1:=hle a ha t (by simp);refine Fy fun hx=>aB ?_
    have hn:aN≠ []:=List.ne_nil_of_mem ha;rw[Eb hn];have h2:=hle (aN.getLast hn) (List.getLast_mem hn) t (by simp)
    have h3:a<=aN.getLast hn:=by
     by_cases he:a=aN.getLast hn
     ·rw[he];exact Cm _
     ·obtain⟨k,hk,ti⟩:=C6 ha
      have mE:k<aN.length-1:=by
       refine Fy fun hx=>he ?_
       have:k=aN.length-1:=(by omega);subst this;rw[List.getLast_eq_getElem];exact ti.symm
      have:=(Cj.1 hs) k (aN.length-1) hk (by omega) mE;rw[List.getLast_eq_getElem,<-ti];exact Int.le_of_lt this
    congr 1
    omega
  ·have Ru:h∈aN\/h=t.2:=by
    unfold dg at hh;split at hh
    ·exact Or.inl hh
    ·rcases Ap.1 hh with h1|h1
     ·exact Or.inl h1
     ·simp only[Bq]at h1;exact Or.inr h1
   rcases Ru with h1|h1
   ·exact hle h h1 q (by simp[hq])
   ·rw[h1];exact hr.1 _ (Be.2 ⟨q,hq,rfl⟩)
theorem anT(h:og l):(fV l).2.Pairwise (· < ·):=aeT l [] h (by simp) (fun h hh=>by cases hh)
theorem aeR:∀(l:List bJ) (aN:List Int),∀h∈ (gO l aN).2,h∈aN\/∃t∈l,t.2=h
 | [],aN,h,hh=>Or.inl hh
 |t::ts,aN,h,hh=>by
  rcases aeR ts (dg aN t.2) h hh with h1|⟨q,hq,kE⟩
  ·unfold dg at h1;split at h1
   ·exact Or.inl h1
   ·rcases Ap.1 h1 with h2|h2
    ·exact Or.inl h2
    ·simp only[Bq]at h2;exact Or.inr ⟨t,by simp,h2.symm⟩
  ·exact Or.inr ⟨q,by simp[hq],kE⟩
theorem aeY{l:List Int}(h:l.Pairwise (· < ·))(h0:∀x∈l,0<=x):∀k,(hk:k<l.length)->(k:Int)<=l[k]:=by
 intro k;induction k with
 |zero=>intro hk;exact h0 _ (A6 hk)
 |succ k ih=>
  intro hk;have h1:=ih (by omega);have h2:=(Cj.1 h) k (k+1) (by omega) hk (by omega);omega
structure dC where
 aX:List bJ
 ah:Int
 mt:Bool
structure dC.Ok(ms:List MS)(s:dC):Prop where
 st:∀t∈s.aX,0<=t.1/\t.1<ms.length
 rg:∀t∈s.aX,0<=t.2/\t.2<(jv s.aX:Int)
 aeW:og s.aX
 bN:s.aX.length<=ms.length
 U6:jv s.aX<=s.aX.length
def dF(st:Int)(s:dC):List bJ:=if s.mt then s.aX else s.aX++[(st,(jv s.aX:Int))]
def mK(s:dC)(M:List Int)(p:Int):List Int:=if s.mt then M else M++[p]
def mL(ms:List MS)(st j9 bh:Int)(s:dC):dC×List Int×Option Int:=(⟨(fV (bc ms s.ah bh (dF st s)).1).1,j9,s.mt||(bc ms s.ah bh (dF st s)).2.isSome⟩,(fV (bc ms s.ah bh (dF st s)).1).2,(bc ms s.ah bh (dF st s)).2)
theorem amg{s:dC}(h:s.Ok ms)(st:Int):og (dF st s):=by
 unfold dF;split
 ·exact h.aeW
 ·unfold og;rw[Ca,Cd];refine⟨h.aeW,by simp,fun a ha b hb=>?_⟩;obtain⟨q,hq,rfl⟩:=Be.1 ha;simp only[Ch,Gg,Bq]at hb;rw[hb];exact Int.le_of_lt (h.rg q hq).2
theorem adP{s:dC}(h:s.Ok ms)(st:Int):∀t∈dF st s,0<=t.2/\t.2<(jv s.aX:Int)+(if s.mt then 0 else 1):=by
 unfold dF;split
 ·intro t ht;have:=h.rg t ht;omega
 ·intro t ht;rcases Ap.1 ht with ht|ht
  ·have:=h.rg t ht;omega
  ·simp only[Bq]at ht;rw[ht];simp only;omega
def vC(M:List Int)(l:List bJ):List bJ:=ij (gL M) l
theorem anO{φ ψ:Int->Int}(h:∀t∈l,φ t.2=ψ t.2):ij φ l=ij ψ l:=Fz fun t ht=>by rw[h t ht]
theorem anP(φ ψ:Int->Int)(l:List bJ):ij φ (ij ψ l)=ij (fun j=>φ (ψ j)) l:=by unfold ij;rw[Fl];rfl
theorem amf{s:dC}(h:s.Ok ms)(hM:M.length=jv s.aX)(st p:Int):vC (mK s M p) (dF st s)=if s.mt then vC M s.aX else vC M s.aX++[(st,p)]:=by
 unfold dF mK;by_cases hm:s.mt=true
 ·rw[if_pos hm,if_pos hm,if_pos hm]
 ·rw[if_neg hm,if_neg hm,if_neg hm];unfold vC ij;rw[Ca];congr 1
  ·refine Fz fun t ht=>?_
   have hr:=h.rg t ht;obtain⟨k,hk⟩:=Au hr.1;rw[hk]at hr⊢;have:=adr (List.prefix_append M [p]) (j:=k) (by omega);show(t.1,gL (M++[p]) ((k:Nat):Int))=(t.1,gL M ((k:Nat):Int))
   rw[this];unfold gL;rw[Az]
  ·simp only[Ch,Gg];unfold gL;rw[Az,<-hM,Af,Br (Ab _)];simp
theorem amB{s:dC}{st j9 ah nJ p:Int}(h:s.Ok ms)(hM:M.length=jv s.aX)(akg:FP ms s.ah s.ah nJ bh):
 bc ms s.ah bh (vC (mK s M p) (dF st s))=(vC ((mL ms st j9 nJ s).2.1.map (gL (mK s M p))) (mL ms st j9 nJ s).1.aX,(mL ms st j9 nJ s).2.2.map (gL (mK s M p))):=by
 unfold vC;rw[YE akg (gL (mK s M p)) (dF st s)];have e:(mL ms st j9 nJ s).1.aX=(fV (bc ms s.ah nJ (dF st s)).1).1:=rfl;have e2:(mL ms st j9 nJ s).2.1=(fV (bc ms s.ah nJ (dF st s)).1).2:=rfl;have e3:(mL ms st j9 nJ s).2.2=(bc ms s.ah nJ (dF st s)).2:=rfl;rw[e,e2,e3];congr 1;conv=>lhs;rw[<-anQ (bc ms s.ah nJ (dF st s)).1]
 rw[anP];refine anO fun t ht=>?_
 have hr:=SC _ [] t ht;obtain⟨k,hk⟩:=Au hr.2.1;have mE:k<(fV (bc ms s.ah nJ (dF st s)).1).2.length:=by have:=hr.2.2;rw[hk]at this;unfold fV;omega
 show gL (mK s M p) (gL (fV (bc ms s.ah nJ (dF st s)).1).2 t.2)=gL ((fV (bc ms s.ah nJ (dF st s)).1).2.map (gL (mK s M p))) t.2
 rw[hk];conv=>rhs;unfold gL
 conv=>lhs;rw[show gL (fV (bc ms s.ah nJ (dF st s)).1).2 (k:Int)=(fV (bc ms s.ah nJ (dF st s)).1).2.getD k 0 from by unfold gL;rw[Az]]
 simp only[Az,Af,Cb,Ae mE,Da,De];unfold gL;rw[Af]
theorem XW(hg:fg ms){s:dC}{st j9:Int}(h:s.Ok ms)(pF:∀t∈ (bc ms s.ah bh (dF st s)).1,0<=t.1/\t.1<ms.length)(dy:(bc ms s.ah bh (dF st s)).1.length<=ms.length):
 (mL ms st j9 bh s).1.Ok ms/\(mL ms st j9 bh s).2.1.length=jv (mL ms st j9 bh s).1.aX/\(mL ms st j9 bh s).2.1.Pairwise (· < ·)/\
 (∀j∈ (mL ms st j9 bh s).2.1,0<=j/\j<(jv s.aX:Int)+(if s.mt then 0 else 1))/\∀j,(mL ms st j9 bh s).2.2=some j->0<=j/\j<(jv s.aX:Int)+(if s.mt then 0 else 1):=by
 obtain⟨h1,h2,h3⟩:=aoZ (ms:=ms) (ah:=s.ah) (bh:=bh) (amg h st);have dc:(fV (bc ms s.ah bh (dF st s)).1).1.length=(bc ms s.ah bh (dF st s)).1.length:=Yh _ _;have hn:=anS (bc ms s.ah bh (dF st s)).1
 have hle:∀(l:List bJ) (aN:List Int),(gO l aN).2.length<=aN.length+l.length:=by
  intro l;induction l with
  |nil=>intro aN;exact Ab _
  |cons t ts ih=>
   intro aN;have:=ih (dg aN t.2);have h2:(dg aN t.2).length<=aN.length+1:=by unfold dg;split<;>simp
   show(gO ts (dg aN t.2)).2.length<=aN.length+(ts.length+1)
   omega
 have uB:=hle (bc ms s.ah bh (dF st s)).1 [];refine⟨⟨fun t ht=>?_,fun t ht=>?_,aeS _ _,?_,?_⟩,hn.symm,anT h2,fun j hj=>?_,fun j hj=>?_⟩
 ·have hm:t.1∈ (gO (bc ms s.ah bh (dF st s)).1 []).1.map (·.1):=Be.2 ⟨t,ht,rfl⟩;rw[aeU]at hm;obtain⟨q,hq,kE⟩:=Be.1 hm;rw[<-kE];exact pF q hq
 ·have:=SC _ [] t ht;show 0<=t.2/\t.2<(jv (fV (bc ms s.ah bh (dF st s)).1).1:Int)
  rw[hn];exact⟨this.2.1,this.2.2⟩
 ·show(fV (bc ms s.ah bh (dF st s)).1).1.length<=_
  rw[dc];exact dy
 ·show jv (fV (bc ms s.ah bh (dF st s)).1).1<=(fV (bc ms s.ah bh (dF st s)).1).1.length
  rw[hn,dc];simpa[fV]using uB
 ·rcases aeR _ [] j hj with hx|⟨t,ht,uH⟩
  ·cases hx
  ·obtain⟨q,hq,kE⟩:=h1 t ht;have:=adP h st q hq;rw[<-uH,<-kE];exact this
 ·obtain⟨q,hq,kE⟩:=h3 j hj;have:=adP h st q hq;rw[<-kE];exact this
def qv(c:Int):Int:=if c= -1 then-1 else if kM c then 119 else 32
theorem aor(c:Int):qv c= -1\/qv c=119\/qv c=32:=by
 unfold qv;split
 ·exact Or.inl rfl
 ·split
  ·exact Or.inr (Or.inl rfl)
  ·exact Or.inr (Or.inr rfl)
theorem ae6(e a b:Int):fi e a b=fi e (qv a) b:=by
 unfold fi;by_cases h:a= -1
 ·subst h;rfl
 ·have e1:qv a=if kM a then 119 else 32:=by unfold qv;rw[if_neg h]
  have e2:(a== -1)=false:=by simpa using h
  have e3:(qv a== -1)=false:=by rw[e1];split<;>rfl
  have e4:kM (qv a)=kM a:=by
   rw[e1]
   cases hw:kM a<;>rfl
  rw[e2,e3,e4]
def pz(ms:List MS):Bool:=ms.any fun m=>m.kind==2
def jR(ms:List MS)(c:Int):Int:=if pz ms then qv c else-1
theorem YC(ms:List MS)(c:Int):pR ms c (jR ms c):=fun u m hm hk b=>by
 have he:pz ms=true:=by
  unfold pz;rw[Cu];exact⟨m,Ce hm,by simp[hk]⟩
 unfold jR;rw[if_pos he];exact ae6 _ _ _
theorem YB(ms:List MS)(c:Int):jR ms c= -1\/jR ms c=119\/jR ms c=32:=by
 unfold jR;split
 ·exact aor c
 ·exact Or.inl rfl
def ju(cl:List Int)(r:Int):Nat:=cl.countP fun c=>decide (c<=r)
theorem alT(cl:List Int)(h:r<=r'):ju cl r<=ju cl r':=by
 induction cl with
 |nil=>exact Ab _
 |cons c cs ih=>
  unfold ju at ih⊢;rw[Ea,Ea];by_cases h1:c<=r
  ·rw[if_pos (by simpa using h1),if_pos (by simp;omega)];omega
  ·rw[if_neg (by simpa using h1)];omega
theorem adA(cl:List Int)(h:r<=r')(he:ju cl r=ju cl r'):∀c∈cl,c<=r'->c<=r:=by
 induction cl with
 |nil=>intro c hc;cases hc
 |cons c cs ih=>
  have hm:=alT cs h;unfold ju at ih he hm;rw[Ea,Ea]at he;intro d hd v_;by_cases h1:c<=r
  ·rw[if_pos (by simpa using h1),if_pos (by simp;omega)]at he;rcases Ct.1 hd with rfl|hd
   ·exact h1
   ·exact ih (by omega) d hd v_
  ·rw[if_neg (by simpa using h1)]at he;by_cases h2:c<=r'
   ·rw[if_pos (by simpa using h2)]at he;omega
   ·rw[if_neg (by simpa using h2)]at he;rcases Ct.1 hd with rfl|hd
    ·exact absurd v_ h2
    ·exact ih (by omega) d hd v_
theorem adz(he:ju cl r=ju cl r'){c:Int}(hc:c∈cl):c<=r↔c<=r':=by
 rcases Int.le_total r r' with h|h
 ·exact⟨fun h1=>by omega,fun h1=>adA cl h he c hc h1⟩
 ·exact⟨fun h1=>adA cl h he.symm c hc h1,fun h1=>by omega⟩
def uZ(cl:List Int)(S:bI):Prop:=∀s∈S,s.1∈cl/\s.2+1∈cl
theorem acU{S:bI}(h:uZ cl S)(he:ju cl r=ju cl r'):cu S r=cu S r':=by
 unfold cu;rw[Bi,Cu,Cu]
 have key:∀s∈S,((decide (s.1<=r)&&decide (r<=s.2))=true) ↔((decide (s.1<=r')&&decide (r'<=s.2))=true):=fun s hs=>by
  have h1:=adz he (h s hs).1;have h2:=adz he (h s hs).2;simp only[Cq,A5];omega
 exact⟨fun⟨s,hs,h1⟩=>⟨s,hs,(key s hs).1 h1⟩,fun⟨s,hs,h1⟩=>⟨s,hs,(key s hs).2 h1⟩⟩
structure tO(ms:List MS)(cl:List Int):Prop where
 take:∀(u:Nat) (m:MS),ms[u]? =some m->m.kind=1->∃S,(∀c,0<=c->c<=1114111->cu S c=fW m.sp m.fo m.nt c)/\uZ cl S
 eM:∀(u:Nat) (m:MS),ms[u]? =some m->m.kind=2->∃S,(∀c,0<=c->c<=1114111->cu S c=kM c)/\uZ cl S
theorem tO.wX(h:tO ms cl)(he:pz ms=true)(hr:0<=r/\r<=1114111)(kF:0<=r'/\r'<=1114111)(hn:ju cl r=ju cl r'):kM r=kM r':=by
 unfold pz at he;rw[Cu]at he;obtain⟨m,hm,hk⟩:=he;obtain⟨u,hu,Rp⟩:=C6 hm;obtain⟨S,h1,h2⟩:=h.eM u m (by rw[Ae hu,Rp]) (by simpa using hk);rw[<-h1 r hr.1 hr.2,<-h1 r' kF.1 kF.2];exact acU h2 hn
theorem tO.qu(h:tO ms cl)(hr:0<=r/\r<=1114111)(kF:0<=r'/\r'<=1114111)(hn:ju cl r=ju cl r')(ah:Int):FP ms ah ah r r' where
 take u m hm hk:=by
  obtain⟨S,h1,h2⟩:=h.take u m hm hk;rw[<-h1 r hr.1 hr.2,<-h1 r' kF.1 kF.2];exact acU h2 hn
 eM u m hm hk:=by
  have he:pz ms=true:=by
   unfold pz;rw[Cu];exact⟨m,Ce hm,by simp[hk]⟩
  have hw:=h.wX he hr kF hn;unfold fi;have e1:(r== -1)=false:=by simp;omega
  have e2:(r'== -1)=false:=by simp;omega
  rw[e1,e2,hw]
theorem tO.j9(h:tO ms cl)(hr:0<=r/\r<=1114111)(kF:0<=r'/\r'<=1114111)(hn:ju cl r=ju cl r'):jR ms r=jR ms r':=by
 unfold jR;split
 ·rename_i he
  have hw:=h.wX he hr kF hn;unfold qv;rw[if_neg (show¬r= -1 by omega),if_neg (show¬r'= -1 by omega),hw]
 ·rfl
def zX(t:bJ):List Nat:=[(t.1 % 256).toNat,(t.1/256 % 256).toNat,(t.2 % 256).toNat,(t.2/256 % 256).toNat]
def Il(s:dC):List Nat:=[(s.ah % 256).toNat,if s.mt then 1 else 0]++s.aX.flatMap zX
theorem apw{t q:bJ}(ht:(0<=t.1/\t.1<65536)/\0<=t.2/\t.2<65536)(hq:(0<=q.1/\q.1<65536)/\0<=q.2/\q.2<65536)(h:zX t=zX q):t=q:=by
 unfold zX at h;simp only[Ga,and_true]at h;obtain⟨h1,h2,h3,h4⟩:=h;refine Prod.ext ?_ ?_ <;>omega
theorem afN:∀(l k:List bJ),(∀t∈l,(0<=t.1/\t.1<65536)/\0<=t.2/\t.2<65536)->(∀t∈k,(0<=t.1/\t.1<65536)/\0<=t.2/\t.2<65536)->l.flatMap zX=k.flatMap zX->l=k
 | [],[],_,_,_=>rfl
 | [],q::qs,_,_,h=>by rw[List.flatMap_nil,Dn]at h;unfold zX at h;simp at h
 |t::ts,[],_,_,h=>by rw[List.flatMap_nil,Dn]at h;unfold zX at h;simp at h
 |t::ts,q::qs,hl,hk,h=>by
  rw[Dn,Dn]at h;obtain⟨h1,h2⟩:=List.append_inj h (by unfold zX;rfl);rw[apw (hl t (by simp)) (hk q (by simp)) h1,afN ts qs (fun x hx=>hl x (by simp[hx])) (fun x hx=>hk x (by simp[hx])) h2]
theorem ak1(hm:ms.length<=60000){s r:dC}(hs:s.Ok ms)(hr:r.Ok ms)(as_:s.ah= -1\/s.ah=119\/s.ah=32)(ar:r.ah= -1\/r.ah=119\/r.ah=32)(h:Il s=Il r):s=r:=by
 unfold Il at h;obtain⟨h1,h2⟩:=List.append_inj h rfl;simp only[Ga,and_true]at h1
 have b:∀s:dC,s.Ok ms->∀t∈s.aX,(0<=t.1/\t.1<65536)/\0<=t.2/\t.2<65536:=fun s hs t ht=>by
  have a1:=hs.st t ht;have a2:=hs.rg t ht;have a3:=hs.bN;have a4:=hs.U6;omega
 have e1:=afN s.aX r.aX (b s hs) (b r hr) h2;have e2:s.ah=r.ah:=by omega
 have e3:s.mt=r.mt:=by
  have:=h1.2
  cases q_:s.mt<;>cases kF:r.mt<;>rw[q_,kF]at this<;>first|rfl|cases this
 cases s;cases r
 simp only at e1 e2 e3;rw[e1,e2,e3]
def Jr(n b0 b1 b2:Nat):Bool:=decide (n≠0)&&(decide (Lib.firstT b0 % 8<=n)||(decide (1<n/\(b1<Lib.accLo (Lib.firstT b0/16)\/Lib.accHi (Lib.firstT b0/16)<b1))||decide (2<n/\(b2<128\/191<b2))))
theorem aiV{N b0 b1 b2 c1 c2 c3:Nat}(h:Jr n b0 b1 b2=true)(hN:n<=N)(h1:1<n->c1=b1)(h2:2<n->c2=b2)(r0:b0<256)(r1:c1<256)(r2:c2<256)(r3:c3<256):(Lib.decodeN N b0 c1 c2 c3).2<=n:=by
 unfold Jr at h;simp only[Cq,Bool.or_eq_true,A5]at h;obtain⟨h0,h⟩:=h;rcases Lib.firstT_cases b0 with hX|hX|hX|hX|hX|hX|hX|hX|hX
 ·rw[Lib.ascii_eq _ _ _ _ _ hX];show 1<=n;omega
 ·rw[Lib.bad_eq _ _ _ _ _ r0 hX];show 1<=n;omega
 all_goals
  rw[<-Lib.slow_eq _ _ _ _ _ (by omega) r1 r2 r3 (by omega)];rw[hX]at h⊢;simp only[Lib.accLo,Lib.accHi,Nat.reduceEqDiff,if_true,if_false,Nat.reduceMod,Nat.reduceDiv]at h⊢;unfold Lib.slowN;repeat' split
  all_goals(simp only;omega)
def vP(s:ByteArray):Bool:=Jr s.size (s.get! 0).toNat (s.get! 1).toNat (s.get! 2).toNat
theorem Gz(s:ByteArray)(k:Nat):(s.get! k).toNat<256:=(s.get! k).toNat_lt
theorem aiW{p:Nat}(hq:q<=X.size)(h:vP (X.extract p q)=true):p<q/\p+(Utf8.decode X p).2<=q/\Lib.decodeGo (X.extract p q)=Utf8.decode X p:=by
 unfold vP at h;rw[extract_size X p q hq]at h
 have h0:q-p≠0:=by
  intro h0;rw[h0]at h;unfold Jr at h;simp at h
 have hp:p<q:=by omega
 have hw:(Utf8.decode X p).2<=q-p:=by
  rw[Lib.decode_at];have e0:(X.extract p q).get! 0=X.get! p:=by have:=vN X p q 0 hq (by omega);rwa[Dr]at this
  rw[e0]at h;refine aiV h (by omega) (fun h1=>?_) (fun h2=>?_) (Gz _ _) (Gz _ _) (Gz _ _) (Gz _ _)
  ·rw[vN X p q 1 hq (by omega)]
  ·rw[vN X p q 2 hq (by omega)]
 refine⟨hp,by omega,?_⟩;have hs:(X.extract p q).size≠0:=by rw[extract_size X p q hq];exact h0
 unfold Lib.decodeGo;rw[if_neg hs];have:=Gp X p q 0 hq (by omega) (by simpa using(show p+(Utf8.decode X p).2<=q by omega));rwa[Dr]at this
theorem ae3(hi:i<(aJ X).length)(hq:q<=X.size)(h:bd X (i+1)<=q):((Lib.decodeGo (X.extract (bd X i) q)).1:Int)=(aQ X).bF i/\bd X i+(Lib.decodeGo (X.extract (bd X i) q)).2=bd X (i+1):=by
 have hn:=uc hi;have hb:=pY hi;have hs:(X.extract (bd X i) q).size≠0:=by rw[extract_size X _ q hq];omega
 have e:Lib.decodeGo (X.extract (bd X i) q)=Utf8.decode X (bd X i):=by
  unfold Lib.decodeGo;rw[if_neg hs];have:=Gp X (bd X i) q 0 hq (by omega) (by rw[Dr];omega);rwa[Dr]at this
 rw[e];exact⟨(SF hi).symm,hn.symm⟩
theorem abM(hi:i<=(aJ X).length)(hq:q<=X.size)(h:vP (X.extract (bd X i) q)=true):i<(aJ X).length/\bd X (i+1)<=q:=by
 obtain⟨h1,h2,h3⟩:=aiW hq h
 have az:i<(aJ X).length:=by
  rcases Nat.lt_or_ge i (aJ X).length with h|h
  ·exact h
  ·rw[nI h]at h1;omega
 exact⟨az,by rw[uc az];exact h2⟩
theorem aiv(s:ByteArray):s.extract 0 s.size=s:=by
 apply Dj
 apply Fp.1
 rw[C0,List.drop_zero,Nat.sub_zero];exact Bz (by rw[<-E0];exact Ab _)
theorem QD(X:ByteArray)(a b c d:Nat)(h:a+d<=b):(X.extract a b).extract c d=X.extract (a+c) (a+d):=by
 apply Dj
 apply Fp.1
 rw[C0,C0,C0,List.drop_take,Gh,List.drop_drop];congr 1;omega
theorem agw(h:f<i)(hi:i<=(aJ X).length):((Lib.decodeLastL (X.extract (bd X f) (bd X i)).data.toList).1:Int)=(aQ X).ahead i:=by
 have S:ki X ⟨X.extract (bd X f) (bd X i),(bd X f:Int),(aQ X).ahead f,-1,true⟩ f i:=⟨rfl,rfl,by omega,hi,fun _ _=>rfl,fun h=>(by cases h)⟩;have hn:=S.n;unfold CX.n at hn;simp only at hn;have h1:=adf (s:=X.extract (bd X f) (bd X i)) (i:=i-f-1) (by omega);rw[nI (s:=X.extract (bd X f) (bd X i)) (show(aJ (X.extract (bd X f) (bd X i))).length<=i-f-1+1 by omega),aiv]at h1;rw[h1];have h2:=S.bF (k:=i-f-1) (by omega);have e:(aQ X).ahead i=(aQ X).bF (i-1):=if_neg (by omega);rw[e,show i-1=f+(i-f-1) by omega];exact h2
def vB(X:ByteArray)(i:Nat)(a:Int):Prop:=∀e b,fi e a b=fi e ((aQ X).ahead i) b
theorem vB.ah{a:Int}(h:vB X i a)(ms:List MS):pR ms ((aQ X).ahead i) a:=fun u m _ _ b=>(h _ b).symm
theorem vB.mk(X:ByteArray)(i:Nat):vB X i (qv ((aQ X).ahead i)):=fun e b=>(ae6 e _ b).symm
theorem vB.zero(X:ByteArray):vB X 0 (-1):=fun _ _=>rfl
structure xl(X:ByteArray)(f i:Nat)(l:List bJ)(mt:Option (Int×Nat)):Prop where
 le:f<=i
 aX:∀t∈l,aR X f<=t.2
 mtc:∀s j,mt=some (s,j)->aR X f<=s
theorem pT.rz(h:pT ms X st b i l mt)(bD:st<ms.length):AS ms (j7 st (aR X i) mt.isSome l):=by
 unfold j7
 cases mt with
 |some m=>exact h.aX
 |none=>
  refine⟨fun t ht=>?_,?_⟩
  ·simp only[Du,Aq,if_false,Ap,Bq]at ht;rcases ht with ht|rfl
   ·exact h.aX.1 t ht
   ·exact⟨by simp,by simp only;omega⟩
  ·simp only[Du,Aq,if_false,Ca,Ch,Gg];rw[Cd];refine⟨h.aX.2,by simp,fun a VQ c hc=>?_⟩;obtain⟨t,ht,rfl⟩:=Be.1 VQ;simp only[Bq]at hc;obtain⟨k,aU,aS,bm⟩:=h.OO t ht;rw[hc,bm];exact Jh X (by omega)
theorem xl.step(hg:fg ms)(h:xl X f i l mt)(hE:pT ms X st b i l mt)(bD:st<ms.length)(hi:i<(aJ X).length){ah:Int}(ha:pR ms ((aQ X).ahead i) ah):
 xl X f (i+1) (bc ms ah ((aQ X).bF i) (j7 st (aR X i) mt.isSome l)).1 (uR i (bc ms ah ((aQ X).bF i) (j7 st (aR X i) mt.isSome l)).2 mt):=by
 have MG:tQ ms (lF ms (aQ X)) i ((aQ X).ahead i) ((aQ X).bF i):=Mo hg (aQ X) hi;obtain⟨_,s1,s2,s3⟩:=YF hg (MG.ahead ha) (hE.rz bD)
 have hS:∀t∈j7 st (aR X i) mt.isSome l,aR X f<=t.2:=fun t ht=>by
  unfold j7 at ht;split at ht
  ·exact h.aX t ht
  ·simp only[Ap,Bq]at ht;rcases ht with ht|rfl
   ·exact h.aX t ht
   ·exact Jh X h.le
 refine⟨by have:=h.le;omega,fun t ht=>?_,fun s j hm=>?_⟩
 ·obtain⟨q,hq,kE⟩:=s2 t ht;rw[<-kE];exact hS q hq
 ·unfold uR at hm
  cases hd:(bc ms ah ((aQ X).bF i) (j7 st (aR X i) mt.isSome l)).2 with
  |some s'=>
   rw[hd]at hm;simp only[Da,Ec,Bd,Cp]at hm;obtain⟨⟨q,hq,kE⟩,_⟩:=s3 s' hd;rw[<-hm.1,<-kE];exact hS q hq
  |none=>
   rw[hd]at hm;exact h.mtc s j hm
def yU(X:ByteArray)(i:Nat)(l:List bJ):Int:=(l.head?.map (·.2)).getD (aR X i)
theorem xl.BL(hE:pT ms X st b i l mt)(hf:yU X i l=aR X f)(ze:f<=i)(hc:l=[]->mt=none):xl X f i l mt:=by
 unfold yU at hf
 cases l with
 |nil=>exact⟨ze,by simp,fun s j hm=>(by rw[hc rfl]at hm;cases hm)⟩
 |cons t ts=>
  have hp:=hE.aX.2;simp only[Ch,Cy]at hp;have hf':t.2=aR X f:=hf;refine⟨ze,fun q hq=>?_,fun s j hm=>?_⟩
  ·rw[<-hf'];rcases Ct.1 hq with rfl|hq
   ·exact Cm _
   ·exact hp.1 _ (Be.2 ⟨q,hq,rfl⟩)
  ·rw[<-hf'];exact(hE.Sa s j hm).2.2 t (by simp)
theorem xl.mono(h:xl X f i l mt):aR X f<=yU X i l:=by
 unfold yU
 cases l with
 |nil=>exact Jh X h.le
 |cons t ts=>exact h.aX t (by simp)
def tI(a j:Nat):Nat:=if a=j then j+1 else j
theorem Ql(hi:i<=(aJ X).length)(hj:j<=(aJ X).length)(h:aR X i=aR X j):i=j:=Qm hi hj (by unfold aR at h;omega)
theorem apr{gs:List Int}{told:Int}(hT:oc T (aJ X).length)(hba:b<=a)(haj:a<=j)(hj:j<=(aJ X).length)(e:T a=some (j,gs))(hn:∀k,b<=k->k<a->T k=none):
 (e_ T (aJ X).length (aR X) false b told).1=(if !(aR X a==aR X j&&aR X j==told)then [⟨a,j,gs⟩]else [])++(e_ T (aJ X).length (aR X) false (tI a j) (aR X j)).1:=by
 rw[U3 (a:=a) hba (by omega) hn,Jo hT (by omega) e rfl];unfold tI;by_cases cY:a=j
 ·subst cY;rw[if_pos rfl,if_pos rfl];by_cases ht:told=aR X a
  ·rw[if_pos ht,ht];simp
  ·have:(aR X a==told)=false:=(by simpa using fun h=>ht h.symm);rw[if_neg ht,this];simp
 ·have:(aR X a==aR X j)=false:=by simpa using fun h=>cY (Ql (by omega) hj h)
  rw[if_neg cY,if_neg cY,this];simp
theorem al7(ha:a<=(aJ X).length)(hj:j<(aJ X).length):(if aR X a=aR X j then aR X j+((bd X (j+1)-bd X j:Nat):Int)else aR X j)=aR X (tI a j):=by
 unfold tI;by_cases h:a=j
 ·subst h;rw[if_pos rfl,if_pos rfl];have:=(pY hj).1;unfold aR;omega
 ·rw[if_neg (fun h'=>h (Ql ha (by omega) h')),if_neg h]
theorem ams(hg:fg ms){c2:CX}{r:Nat}(h:ki X c a r)(ho:c.op=true)(hS:ki X c2 0 r)(Hs:c2.op=true)(hu:u<ms.length)(hk:k<=c.n)(gs:List Int):dd ms c2 u (a+k) gs=IF a (dd ms c u k gs):=by
 have hn:=h.n;have hl:=h.le;have tm:=h.zy;have hN:c2.n=r:=by rw[hS.n];omega
 refine QL hg c.n (Q:=fun u k=>∀gs,dd ms c2 u (a+k) gs=IF a (dd ms c u k gs)) (fun u k m hk hm Ic Ie gs=>?_) _ k (Ab _) hk u hu gs;by_cases uA:c.n<=k
 ·rw[zO ho uA,zO Hs (by omega)];rfl
 ·have t1:(c.op&&decide (c.n<=k))=false:=by rw[ho];simp;omega
  have t2:(c2.op&&decide (c2.n<=a+k))=false:=by rw[Hs];simp;omega
  have Wq:a+k<=c2.n:=by omega
  have q1:a+k<r-0:=by omega
  have q2:k<r-a:=by omega
  have q3:k<=r-a:=by omega
  have q4:a+k<=r-0:=by omega
  have q5:k<c.n:=by omega
  have q6:a+k<c2.n:=by omega
  obtain⟨⟨k0,k4⟩,g1,g2,g3⟩:=hg u m hm;obtain⟨a0,a1,a2,a3,a4⟩:=oU hg c hk hm t1 gs;obtain⟨b0,b1,b2,b3,b4⟩:=oU hg c2 Wq hm t2 gs
  have T:∀v:Int,0<=v->v<u->∀gs,dd ms c2 v (a+k) gs=IF a (dd ms c v k gs):=fun v h0 hv gs=>by
   obtain⟨q,rfl⟩:=Au h0;exact Ic q (by omega) gs
  have hR:c2.bF (a+k)=c.bF k:=by
   have hz:0+(a+k)=a+k:=Ba _;have x1:=hS.bF (k:=a+k) q1;have x2:=h.bF (k:=k) q2;exact x1.trans ((congrArg (aQ X).bF hz).trans x2.symm)
  by_cases e0:m.kind=0
  ·rw[a0 e0,b0 e0];rfl
  ·by_cases e1:m.kind=1
   ·rw[a1 e1,b1 e1,hR];have d1:decide (k<c.n)=true:=C2 q5;have d2:decide (a+k<c2.n)=true:=C2 q6;rw[d1,d2];have pE:=g1 e1;clear g1 g2 g3 a0 a2 a3 a4 b0 b2 b3 b4;obtain⟨q,hq⟩:=Au pE.1;by_cases ht:(true&&fW m.sp m.fo m.nt (c.bF k))=true
    ·rw[if_pos ht,if_pos ht,hq];have:=Ie q (by omega) q5 gs;rw[<-Dt]at this;exact this
    ·rw[if_neg ht,if_neg ht];rfl
   ·have jZ:=g2 (by omega);by_cases e2:m.kind=2
    ·rw[a2 e2,b2 e2];have hz:0+(a+k)=a+k:=Ba _;have x1:=h.eM (k:=k) q3 t1 m.eM;have x2:=hS.eM (k:=a+k) q4 t2 m.eM;rw[hz]at x2;have x3:=x2.trans x1.symm;rw[x3];by_cases hh:fi m.eM (c.ahead k) (c.gZ k)=true
     ·rw[if_pos hh,if_pos hh];exact T _ jZ.1 jZ.2 gs
     ·rw[if_neg hh,if_neg hh];rfl
    ·by_cases e3:m.kind=3
     ·rw[a3 e3,b3 e3];have hz:0+(a+k)=a+k:=Ba _;have x1:=h.aZ (k:=k) q3;have x2:=hS.aZ (k:=a+k) q4;rw[hz]at x2;have x3:=x2.trans x1.symm;rw[x3];exact T _ jZ.1 jZ.2 _
     ·have e4:m.kind=4:=(by omega);have ho3:=g3 e4;rw[a4 e4,b4 e4,T _ jZ.1 jZ.2,T _ ho3.1 ho3.2];unfold IF;rw[R6]
theorem amq(hg:fg ms){r:Nat}(h:ki X c a r)(ho:c.op=true)(hu:u<ms.length)(hk:k<=c.n)(gs:List Int):dd ms (qt X r) u (a+k) gs=IF a (dd ms c u k gs):=ams hg h ho (adY h.zy) rfl hu hk gs
theorem amr(hg:fg ms){r:Nat}{dA:List Int}(h:ki X c a r)(ho:c.op=true){G:Nat}(bD:st<ms.length)(e:eV ms (qt X r) st G a=some (j,dA)):∃MD,eV ms c st G 0=some (j-a,MD)/\a<=j:=by
 have:=amq hg h ho bD (Al _) (gR G);rw[Dr]at this;have e':IF a (dd ms c (st:Int) 0 (gR G))=some (j,dA):=by rw[<-this];exact e
 unfold IF at e';obtain⟨⟨j2,g2⟩,hv,nV⟩:=Ef.1 e';simp only[Cp]at nV;exact⟨g2,by show dd ms c (st:Int) 0 (gR G)=_;rw[hv,show j-a=j2 by omega],by omega⟩
theorem U1{b:Nat->Int}{op:Bool}{P:Ev->Prop}(hT:oc T n)(hP:∀i j gs,i<=n->T i=some (j,gs)->P ⟨i,j,gs⟩):∀(k i:Nat) (told:Int),∀e∈ (kt T n b op k i told).1,P e:=by
 intro k;induction k with
 |zero=>intro i told e he;simp[kt]at he
 |succ k ih=>
  intro i told e he;unfold kt at he;by_cases hn:n<i
  ·rw[if_pos hn]at he;simp at he
  ·rw[if_neg hn]at he
   cases h:T i with
   |none=>rw[h]at he;exact ih _ _ e he
   |some v=>
    obtain⟨j,gs⟩:=v;rw[h]at he;simp only at he;have h1:=hP i j gs (by omega) h;split at he
    ·simp at he
    ·split at he
     ·split at he
      ·exact ih _ _ e he
      ·rcases Ct.1 he with rfl|he
       ·exact h1
       ·exact ih _ _ e he
     ·rcases Ct.1 he with rfl|he
      ·exact h1
      ·exact ih _ _ e he
