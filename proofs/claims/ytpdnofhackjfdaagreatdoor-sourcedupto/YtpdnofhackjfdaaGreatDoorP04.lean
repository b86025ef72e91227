/- Spans of runes,  -/
import Derived.Test.YtpdnofhackjfdaaGreatDoorP03
set_option linter.all false
set_option maxRecDepth 100000
namespace Go.Proofs.YtpdnofhackjfdaaGreatDoor
open Go.Proofs.Tryz
variable {fo nt:Bool} {g:RG}
abbrev bI:=List (Int×Int)
def qo(aF:bI)(s:Int×Int):bI:=
 match aF.getLast? with
 |some p=>if s.1<=p.2 then aF.dropLast++[(p.1,max p.2 s.2)]else aF++[s]
 |none=>[s]
def lk(l:bI):bI:=l.foldl qo []
def gB(x:bI×Int)(t:Int×Int):bI×Int:=(if x.2<t.1 then x.1++[(x.2,t.1-1)]else x.1,t.2+1)
def zH(x:bI×Int):bI:=if x.2<=1114111 then x.1++[(x.2,1114111)]else x.1
def yc(S:bI):bI:=zH (S.foldl gB ([],0))
def mj(aF:bI)(s:Int×Int):bI:=if max s.1 97<=min s.2 122 then aF++[(max s.1 97-32,min s.2 122-32)]else aF
def qP(aF:bI)(s:Int×Int):bI:=if max s.1 65<=min s.2 90 then aF++[(max s.1 65+32,min s.2 90+32)]else aF
def iC(aF:bI)(s:Int×Int):bI:=qP (mj aF s) s
def pZ(l:bI):bI:=l.foldl iC l
def ph(S:bI):Prop:=S.Pairwise (fun a b=>a.2<b.1)/\∀s∈S,s.1<=s.2
def dH(S:bI):Prop:=∀s∈S,(-1<=s.1/\s.1<=1114111)/\(-1<=s.2/\s.2<=1114111)
theorem wu(c:Int):cu [] c=false:=rfl
theorem tD(s:Int×Int)(l:bI)(c:Int):cu (s::l) c=((decide (s.1<=c)&&decide (c<=s.2))||cu l c):=rfl
theorem If(a b:bI)(c:Int):cu (a++b) c=(cu a c||cu b c):=by simp[cu,List.any_append]
theorem akw{a b:bI}(h:a.Perm b)(c:Int):cu a c=cu b c:=by
 unfold cu;rw[Bi,Cu,Cu];exact⟨fun⟨x,hx,e⟩=>⟨x,h.mem_iff.1 hx,e⟩,fun⟨x,hx,e⟩=>⟨x,h.mem_iff.2 hx,e⟩⟩
theorem J6{l:bI}{c:Int}:cu l c=true↔∃s∈l,s.1<=c/\c<=s.2:=by
 unfold cu;rw[Cu];constructor
 ·rintro⟨s,hs,h⟩;simp at h;exact⟨s,hs,h⟩
 ·rintro⟨s,hs,h⟩;exact⟨s,hs,by simp[h]⟩
theorem dH.append{a b:bI}(ha:dH a)(hb:dH b):dH (a++b):=fun s hs=>by
 rcases Ap.1 hs with h|h
 ·exact ha s h
 ·exact hb s h
theorem dH.one{x y:Int}(h1: -1<=x/\x<=1114111)(h2: -1<=y/\y<=1114111):dH [(x,y)]:=fun s hs=>by
 simp at hs;subst hs;exact⟨h1,h2⟩
theorem Of(a:bI)(p s:Int×Int):qo (a++[p]) s=if s.1<=p.2 then a++[(p.1,max p.2 s.2)]else a++[p]++[s]:=by
 unfold qo;simp[Dy]
theorem alF(s:Int×Int):qo [] s=[s]:=rfl
theorem SO(a:bI):a=[]\/∃b p,a=b++[p]:=by
 cases h:a.reverse with
 |nil=>left;simpa using h
 |cons p r=>right;exact⟨r.reverse,p,by have:=congrArg List.reverse h;simpa using this⟩
theorem alG{a:bI}{s:Int×Int}(ha:dH a)(hs:dH [s]):dH (qo a s):=by
 rcases SO a with rfl|⟨b,p,rfl⟩
 ·exact hs
 ·rw[Of];have hp:=ha p (by simp);have q_:=hs s (by simp);split
  ·refine dH.append (fun x hx=>ha x (by simp[hx])) (dH.one hp.1 ?_);omega
  ·exact ha.append hs
theorem alE(a:bI)(s:Int×Int):(qo a s).length<=a.length+1:=by
 rcases SO a with rfl|⟨b,p,rfl⟩
 ·simp[alF]
 ·rw[Of];split<;>simp
theorem alD(l:bI)(i:Nat)(h:i<l.length):lk (l.take (i+1))=qo (lk (l.take i)) l[i]:=by
 unfold lk;rw[D0,List.foldl_append,Ae h];rfl
theorem R7(l:bI)(h:dH l):dH (lk l)/\(lk l).length<=l.length:=by
 have:∀(l aF:bI),dH aF->dH l->dH (l.foldl qo aF)/\(l.foldl qo aF).length<=aF.length+l.length:=by
  intro l;induction l with
  |nil=>intro aF ha _;exact⟨ha,by simp⟩
  |cons s l ih=>
   intro aF ha hl;have h1:=ih (qo aF s) (alG ha (fun x hx=>hl x (by simp at hx;simp[hx]))) (fun x hx=>hl x (by simp[hx]));have h2:=alE aF s;exact⟨h1.1,by simp only[D2,Ax];omega⟩
 have:=this l [] (fun _ h=>by simp at h) h;exact⟨this.1,by show(l.foldl qo []).length<=_;simpa using this.2⟩
theorem adv(l:bI)(hs:l.Pairwise (fun a b=>a.1<=b.1))(ho:∀s∈l,s.1<=s.2):ph (lk l)/\∀c,cu (lk l) c=cu l c:=by
 have:∀(l aF:bI),ph aF->(∀p,aF.getLast?=some p->∀s∈l,p.1<=s.1)->l.Pairwise (fun a b=>a.1<=b.1)->(∀s∈l,s.1<=s.2)->ph (l.foldl qo aF)/\∀c,cu (l.foldl qo aF) c=(cu aF c||cu l c):=by
  intro l;induction l with
  |nil=>intro aF ha _ _ _;exact⟨ha,fun c=>by simp[wu]⟩
  |cons s l ih=>
   intro aF ha hb hl ho;have cZ:=ho s (by simp);have pD:=Cy.1 hl;rcases SO aF with rfl|⟨b,p,rfl⟩
   ·have h1:=ih [s] ⟨by simp,by simpa using cZ⟩ (fun q hq x hx=>by simp at hq;subst hq;exact pD.1 x hx) pD.2 (fun x hx=>ho x (by simp[hx]));refine⟨h1.1,fun c=>?_⟩;show cu (l.foldl qo [s]) c=_
    rw[h1.2,tD,tD,wu];simp
   ·have hp:=hb p (by simp[Dy]) s (by simp);have hpo:=ha.2 p (by simp);have JF:=Cd.1 ha.1;rw[D2,Of];by_cases hm:s.1<=p.2
    ·rw[if_pos hm]
     have ht:ph (b++[(p.1,max p.2 s.2)]):=by
      refine⟨Cd.2 ⟨JF.1,by simp,fun x hx y hy=>?_⟩,fun x hx=>?_⟩
      ·simp at hy;subst hy;exact JF.2.2 x hx p (by simp)
      ·rcases Ap.1 hx with h|h
       ·exact ha.2 x (by simp[h])
       ·simp at h;subst h;simp only;omega
     have h1:=ih (b++[(p.1,max p.2 s.2)]) ht (fun q hq x hx=>by
      simp[Dy]at hq;subst hq;exact hb p (by simp[Dy]) x (by simp[hx])) pD.2 (fun x hx=>ho x (by simp[hx]))
     refine⟨h1.1,fun c=>?_⟩;rw[h1.2,If,If,tD,tD,tD,wu]
     cases cu b c<;>cases cu l c<;>simp
     rw[Bi];simp;omega
    ·rw[if_neg hm]
     have ht:ph (b++[p]++[s]):=by
      refine⟨Cd.2 ⟨ha.1,by simp,fun x hx y hy=>?_⟩,fun x hx=>?_⟩
      ·simp at hy;subst hy
       rcases Ap.1 hx with h|h
       ·have:=JF.2.2 x h p (by simp);omega
       ·simp at h;subst h;omega
      ·rcases Ap.1 hx with h|h
       ·exact ha.2 x h
       ·simp at h;subst h;exact cZ
     have h1:=ih (b++[p]++[s]) ht (fun q hq x hx=>by
      simp[Dy]at hq;subst hq;exact pD.1 x hx) pD.2 (fun x hx=>ho x (by simp[hx]))
     refine⟨h1.1,fun c=>?_⟩;rw[h1.2,If,tD,tD,wu]
     cases cu (b++[p]) c<;>cases cu l c<;>simp
 have:=this l [] ⟨by simp,by simp⟩ (fun p h=>by simp at h) hs ho;exact⟨this.1,fun c=>by rw[show lk l=l.foldl qo []from rfl,this.2];simp[wu]⟩
theorem amw(l:bI)(i:Nat)(h:i<l.length):(l.take (i+1)).foldl gB ([],0)=gB ((l.take i).foldl gB ([],0)) l[i]:=by
 rw[D0,List.foldl_append,Ae h];rfl
theorem ad1(l:bI)(h:dH l):dH (l.foldl gB ([],0)).1/\(0<=(l.foldl gB ([],0)).2/\(l.foldl gB ([],0)).2<=1114112)/\(l.foldl gB ([],0)).1.length<=l.length:=by
 have:∀(l:bI) (x:bI×Int),dH x.1->(0<=x.2/\x.2<=1114112)->dH l->dH (l.foldl gB x).1/\(0<=(l.foldl gB x).2/\(l.foldl gB x).2<=1114112)/\(l.foldl gB x).1.length<=x.1.length+l.length:=by
  intro l;induction l with
  |nil=>intro x h1 h2 _;exact⟨h1,h2,by simp⟩
  |cons s l ih=>
   intro x h1 h2 hl;have hs:=hl s (by simp)
   have q:=ih (gB x s) (by
    unfold gB;split
    ·exact h1.append (dH.one (by omega) (by omega))
    ·exact h1) (by unfold gB;simp only;omega) (fun y hy=>hl y (by simp[hy]))
   refine⟨q.1,q.2.1,?_⟩;have h3:(gB x s).1.length<=x.1.length+1:=by unfold gB;split<;>simp
   simp only[D2,Ax];omega
 have:=this l ([],0) (fun _ h=>by simp at h) (by simp) h;exact⟨this.1,this.2.1,by simpa using this.2.2⟩
theorem amy(l:bI)(h:dH l):dH (yc l)/\(yc l).length<=l.length+1:=by
 obtain⟨h1,h2,h3⟩:=ad1 l h;unfold yc zH;split
 ·exact⟨h1.append (dH.one (by omega) (by omega)),by simp;omega⟩
 ·exact⟨h1,by omega⟩
theorem amx(l:bI)(ht:ph l)(h0:∀s∈l,0<=s.1/\s.2<=1114111):ph (yc l)/\∀c,0<=c->c<=1114111->cu (yc l) c= !cu l c:=by
 have:∀(l:bI) (x:bI×Int),ph x.1->(∀s∈x.1,s.2<x.2)->0<=x.2->(∀s∈l,x.2<=s.1)->ph l->(∀s∈l,s.2<=1114111)->ph (zH (l.foldl gB x))/\∀c,0<=c->c<=1114111->cu (zH (l.foldl gB x)) c=(cu x.1 c||(decide (x.2<=c)&& !cu l c)):=by
  intro l;induction l with
  |nil=>
   intro x h1 h2 h3 _ _ _;show ph (zH x)/\∀c,0<=c->c<=1114111->cu (zH x) c=_
   unfold zH;by_cases hx:x.2<=1114111
   ·rw[if_pos hx];refine⟨⟨Cd.2 ⟨h1.1,by simp,fun a ha b hb=>?_⟩,fun a ha=>?_⟩,fun c c1 c2=>?_⟩
    ·simp at hb;subst hb;exact h2 a ha
    ·rcases Ap.1 ha with h|h
     ·exact h1.2 a h
     ·simp at h;subst h;exact hx
    ·rw[If,tD,wu];simp[c2]
   ·rw[if_neg hx];refine⟨h1,fun c c1 c2=>?_⟩;have:decide (x.2<=c)=false:=by simp;omega
    rw[this];simp
  |cons s l ih=>
   intro x h1 h2 h3 h4 h5 h6;have hs:=h4 s (by simp);have WV:=h5.2 s (by simp);have Rk:=Cy.1 h5.1
   have t1:ph (gB x s).1:=by
    unfold gB;simp only;split
    ·refine⟨Cd.2 ⟨h1.1,by simp,fun a ha b hb=>?_⟩,fun a ha=>?_⟩
     ·simp at hb;subst hb;exact h2 a ha
     ·rcases Ap.1 ha with h|h
      ·exact h1.2 a h
      ·simp at h;subst h;simp only;omega
    ·exact h1
   have q:=ih (gB x s) t1 (by
    unfold gB;simp only;split
    ·intro a ha;rcases Ap.1 ha with h|h
     ·have:=h2 a h;omega
     ·simp at h;subst h;simp only;omega
    ·intro a ha;have:=h2 a ha;omega) (by unfold gB;simp only;omega) (by
    intro y hy;unfold gB;simp only;have:=Rk.1 y hy;omega) ⟨Rk.2,fun y hy=>h5.2 y (by simp[hy])⟩ (fun y hy=>h6 y (by simp[hy]))
   refine⟨q.1,fun c c1 c2=>?_⟩;rw[D2,q.2 c c1 c2,tD]
   have hl:cu l c=true->s.2<c:=by
    intro h;obtain⟨y,hy,hyc⟩:=J6.1 h;have:=Rk.1 y hy;omega
   unfold gB;simp only;split
   ·rw[If,tD,wu]
    cases Wv:cu l c
    ·cases cu x.1 c<;>simp
     rw[Bi];simp;omega
    ·have:=hl Wv
     cases cu x.1 c<;>simp
     omega
   ·cases Wv:cu l c
    ·cases cu x.1 c<;>simp
     rw[Bi];simp;omega
    ·have:=hl Wv
     cases cu x.1 c<;>simp
 have:=this l ([],0) ⟨by simp,by simp⟩ (by simp) (by simp) (fun s hs=>(h0 s hs).1) ht (fun s hs=>(h0 s hs).2);refine⟨this.1,fun c c1 c2=>?_⟩;unfold yc;rw[this.2 c c1 c2];simp[wu,c1]
theorem ag2(l aF:bI)(i:Nat)(h:i<l.length):(l.take (i+1)).foldl iC aF=iC ((l.take i).foldl iC aF) l[i]:=by
 rw[D0,List.foldl_append,Ae h];rfl
theorem YA(a:bI)(s:Int×Int):a.length<=(mj a s).length/\(mj a s).length<=a.length+1:=by unfold mj;split<;>simp
theorem abX(a:bI)(s:Int×Int):a.length<=(qP a s).length/\(qP a s).length<=a.length+1:=by unfold qP;split<;>simp
theorem UK(l aF:bI)(h:dH l)(ha:dH aF):dH (l.foldl iC aF)/\(l.foldl iC aF).length<=aF.length+2*l.length:=by
 induction l generalizing aF with
 |nil=>exact⟨ha,by simp⟩
 |cons s l ih=>
  have hs:=h s (by simp)
  have h1:dH (mj aF s):=by
   unfold mj;split
   ·exact ha.append (dH.one (by omega) (by omega))
   ·exact ha
  have h2:dH (iC aF s):=by
   unfold iC qP;split
   ·exact h1.append (dH.one (by omega) (by omega))
   ·exact h1
  have q:=ih (iC aF s) (fun y hy=>h y (by simp[hy])) h2;refine⟨q.1,?_⟩;have l1:=YA aF s;have l2:(iC aF s).length<=(mj aF s).length+1:=(abX (mj aF s) s).2;simp only[D2,Ax];omega
theorem ag1(a:bI)(s:Int×Int)(c:Int):cu (iC a s) c=(cu a c||(zz c&&(decide (s.1<=zI c)&&decide (zI c<=s.2)))):=by
 have h1:cu (mj a s) c=(cu a c||(decide (65<=c)&&decide (c<=90)&&(decide (s.1<=c+32)&&decide (c+32<=s.2)))):=by
  unfold mj;split
  ·rw[If,tD,wu]
   cases cu a c<;>simp
   rw[Bi];simp;omega
  ·cases cu a c<;>simp
   omega
 have h2:cu (iC a s) c=(cu (mj a s) c||(decide (97<=c)&&decide (c<=122)&&(decide (s.1<=c-32)&&decide (c-32<=s.2)))):=by
  unfold iC qP;split
  ·rw[If,tD,wu]
   cases cu (mj a s) c<;>simp
   rw[Bi];simp;omega
  ·cases cu (mj a s) c<;>simp
   omega
 rw[h2,h1];unfold zz zI
 cases cu a c<;>simp
 rw[Bi];by_cases h:97<=c
 ·simp[h];omega
 ·simp[h]
theorem agZ(l:bI)(c:Int):cu (pZ l) c=(cu l c||(zz c&&cu l (zI c))):=by
 have:∀(l aF:bI),cu (l.foldl iC aF) c=(cu aF c||(zz c&&cu l (zI c))):=by
  intro l;induction l with
  |nil=>intro aF;simp[wu]
  |cons s l ih=>
   intro aF;rw[D2,ih,ag1,tD]
   cases cu aF c<;>cases zz c<;>simp
 exact this l l
theorem ag0(l:bI)(h:∀s∈l,0<=s.1/\s.1<=s.2/\s.2<=1114111):∀s∈pZ l,0<=s.1/\s.1<=s.2/\s.2<=1114111:=by
 have:∀(l aF:bI),(∀s∈l,0<=s.1/\s.1<=s.2/\s.2<=1114111)->(∀s∈aF,0<=s.1/\s.1<=s.2/\s.2<=1114111)->∀s∈l.foldl iC aF,0<=s.1/\s.1<=s.2/\s.2<=1114111:=by
  intro l;induction l with
  |nil=>intro aF _ h;exact h
  |cons s l ih=>
   intro aF hl ha;refine ih (iC aF s) (fun y hy=>hl y (by simp[hy])) ?_
   have h1:∀y∈mj aF s,0<=y.1/\y.1<=y.2/\y.2<=1114111:=by
    unfold mj;split
    ·intro y hy;rcases Ap.1 hy with h|h
     ·exact ha y h
     ·simp at h;subst h;simp only;omega
    ·exact ha
   unfold iC qP;split
   ·intro y hy;rcases Ap.1 hy with h|h
    ·exact h1 y h
    ·simp at h;subst h;simp only;omega
   ·exact h1
 exact this l l h h
def vA(S sp:bI)(fo nt:Bool):Prop:=
 ∃l:bI,l.Perm (if fo then pZ sp else sp)/\l.Pairwise (fun a b=>a.1<=b.1)/\S=if nt then yc (lk l)else lk l
theorem vA.aoh{S sp:bI}(h:vA S sp fo nt)(hr:dH sp):dH S/\S.length<=3*sp.length+1:=by
 obtain⟨l,hp,_,rfl⟩:=h
 have hb:dH (if fo then pZ sp else sp)/\(if fo then pZ sp else sp).length<=3*sp.length:=by
  cases fo
  ·exact⟨hr,by simp;omega⟩
  ·have:=UK sp sp hr hr;exact⟨this.1,by show(pZ sp).length<=_;unfold pZ;omega⟩
 have hl:dH l:=fun s hs=>hb.1 s (hp.mem_iff.1 hs)
 have hm:=R7 l hl;have Hk:=hp.length_eq
 cases nt
 ·exact⟨hm.1,by simp only[Aq,if_false];omega⟩
 ·have:=amy _ hm.1;exact⟨this.1,by simp only[if_true];omega⟩
theorem vA.has{S sp:bI}(h:vA S sp fo nt)(ho:∀s∈sp,0<=s.1/\s.1<=s.2/\s.2<=1114111):
 ph S/\∀c,0<=c->c<=1114111->cu S c=((cu sp c||(fo&&zz c&&cu sp (zI c))) !=nt):=by
 obtain⟨l,hp,hs,rfl⟩:=h
 have hb:(∀s∈ (if fo then pZ sp else sp),0<=s.1/\s.1<=s.2/\s.2<=1114111)/\∀c,cu (if fo then pZ sp else sp) c=(cu sp c||(fo&&zz c&&cu sp (zI c))):=by
  cases fo
  ·exact⟨ho,fun c=>by simp⟩
  ·exact⟨ag0 sp ho,fun c=>by simp[agZ]⟩
 have hl:∀s∈l,0<=s.1/\s.1<=s.2/\s.2<=1114111:=fun s hs=>hb.1 s (hp.mem_iff.1 hs)
 have hm:=adv l hs (fun s h=>(hl s h).2.1);have hc:∀c,cu (lk l) c=(cu sp c||(fo&&zz c&&cu sp (zI c))):=fun c=>by rw[hm.2,akw hp,hb.2]
 cases nt
 ·exact⟨hm.1,fun c _ _=>by simp only[Aq,if_false];rw[hc];simp⟩
 ·have eD:∀s∈lk l,0<=s.1/\s.2<=1114111:=by
   intro s q_;have h1:=hm.1.2 s q_;obtain⟨y,hy,hy2⟩:=J6.1 ((hm.2 s.1).symm.trans (J6.2 ⟨s,q_,by omega⟩));obtain⟨z,hz,de⟩:=J6.1 ((hm.2 s.2).symm.trans (J6.2 ⟨s,q_,by omega⟩));have:=hl y hy;have:=hl z hz;omega
  have:=amx _ hm.1 eD;exact⟨this.1,fun c c1 c2=>by simp only[if_true];rw[this.2 c c1 c2,hc];simp⟩
def xX:List UInt8:=[68,87,83]
def uN:List UInt8:=[98,66]
def Ob:List UInt8:=[94,36]
def Kc:List UInt8:=[46]
def mi(r:Int):bI:=if r=100 then [(48,57)]else if r=119 then [(48,57),(65,90),(95,95),(97,122)]else [(9,10),(13,13),(32,32)]
def sY(r:Int):Int:=if r=94 then 0 else if r=36 then 1 else if r=98 then 2 else 3
inductive CT where
 |node (k:Int) (sp:bI) (fo nt:Bool) (ed gr lo hi:Int) (lz:Bool) (cU:List CT):CT
def mx(sp:bI)(fo nt:Bool):CT:=.node 0 sp fo nt 0 0 0 0 false []
def vH(e:Int):CT:=.node 1 [] false false e 0 0 0 false []
def iN(g:RG)(st:RS):bI:=
 if aK gA (aC g st)=true/\aK mJ (aC g {st with next:=st.next+1})=true then mi (aC g {st with next:=st.next+1})
 else [((dq g st).2,if aK xW (aC g (dq g st).1)then(dq g {(dq g st).1 with next:=(dq g st).1.next+1}).2 else(dq g st).2)]
def rO(g:RG):Nat->RS->bI->bI
 |0,_,aF=>aF
 |m+1,st,aF=>if aC g st= -1\/aK qn (aC g st)=true then aF else rO g m (gi g st) (aF++iN g st)
def Me(g:RG)(fo:Bool)(st:RS):CT:=
 mx (rO g (g.rs.length+1) (gi g (fG g tF st)) (iN g (fG g tF st))) fo (aK tF (aC g st))
def ox(fo:Bool)(q:Int):CT:=
 if aK uN q then vH (sY q)
 else if aK mJ q then mx (mi q) fo false
 else if aK xX q then mx (mi (q+32)) fo true
 else mx [(qN q,qN q)] fo false
def Ji(fo:Bool)(q:Int):CT:=if aK Kc q then mx [(10,10)] fo true else vH (sY q)
def sV(g:RG)(bZ:Bool->RS->CT)(fo:Bool)(st:RS):CT:=
 if aK iE (aC g st)=false then .node 2 [] false false 0 (st.aT+1) 0 0 false [bZ fo (iH g st)]
 else if aK DL (aC g {st with next:=st.next+1})then .node 2 [] false false 0 (st.aT+1) 0 0 false [bZ fo (iH g st)]
 else .node 2 [] false false 0 0 0 0 false [bZ (aK lI (aC g {st with next:=st.next+1})||fo) (iH g st)]
def ko(g:RG)(bZ:Bool->RS->CT)(fo:Bool)(st:RS):CT:=
 if aK Ke (aC g st)then sV g bZ fo {st with next:=st.next+1}
 else if aK N9 (aC g st)then Me g fo {st with next:=st.next+1}
 else if aK gA (aC g st)then ox fo (aC g {st with next:=st.next+1})
 else if aK RY (aC g st)then Ji fo (aC g st)
 else mx [(aC g st,aC g st)] fo false
def ud(a:CT)(lo hi:Int)(lz:Bool):CT:=.node 5 [] false false 0 0 lo hi lz [a]
def nK(g:RG)(a:CT)(st:RS):CT:=
 if aK Oa (aC g st)then ud a 0 (-1) (aK iE (aC g {st with next:=st.next+1}))
 else if aK N_ (aC g st)then ud a 1 (-1) (aK iE (aC g {st with next:=st.next+1}))
 else if aK iE (aC g st)then ud a 0 1 (aK iE (aC g {st with next:=st.next+1}))
 else if aK N7 (aC g st)then
  ud a (eO g {st with next:=st.next+1}).2.1 (eO g {st with next:=st.next+1}).2.2 (aK iE (aC g (eO g {st with next:=st.next+1}).1))
 else a
def my(g:RG)(aI:RS->RS×PT)(bZ:Bool->RS->CT)(fo:Bool):Nat->RS->List CT->List CT
 |0,_,aF=>aF
 |m+1,st,aF=>
  if aC g st= -1\/aK uM (aC g st)=true then aF
  else my g aI bZ fo m (iw g (dE g aI st).2 (dE g aI st).1).1 (aF++[nK g (ko g bZ fo st) (dE g aI st).1])
def nL(g:RG)(aI:RS->RS×PT)(bZ:Bool->RS->CT)(fo:Bool)(st:RS):CT:=.node 3 [] false false 0 0 0 0 false (my g aI bZ fo (g.rs.length+1) st [])
def lE(g:RG)(aI:RS->RS×PT)(bZ:Bool->RS->CT)(fo:Bool):Nat->RS->List CT->List CT
 |0,_,aF=>aF
 |m+1,st,aF=>
  if aK wD (aC g st)then lE g aI bZ fo m (eR g aI {st with next:=st.next+1}).1 (aF++[nL g aI bZ fo {st with next:=st.next+1}])else aF
def dR(g:RG):Nat->Bool->RS->CT
 |0,_,_=>mx [] false false
 |k+1,fo,st=>.node 4 [] false false 0 0 0 0 false (lE g (aY g k) (dR g k) fo (g.rs.length+1) (eR g (aY g k) st).1 [nL g (aY g k) (dR g k) fo st])
def pk(g:RG)(st:RS):CT:=dR g (g.rs.length+1) false st
theorem ahi(g:RG)(m:Nat)(st:RS)(aF:bI)(h:aC g st= -1\/aK qn (aC g st)=true):rO g m st aF=aF:=by
 cases m with
 |zero=>rfl
 |succ m=>unfold rO;rw[if_pos h]
theorem aaW(g:RG)(aI:RS->RS×PT)(bZ:Bool->RS->CT)(fo:Bool)(m:Nat)(st:RS)(aF:List CT)(h:aC g st= -1\/aK uM (aC g st)=true):my g aI bZ fo m st aF=aF:=by
 cases m with
 |zero=>rfl
 |succ m=>unfold my;rw[if_pos h]
theorem ahg(g:RG)(aI:RS->RS×PT)(bZ:Bool->RS->CT)(fo:Bool)(m:Nat)(st:RS)(aF:List CT)(h:aK wD (aC g st)=false):lE g aI bZ fo m st aF=aF:=by
 cases m with
 |zero=>rfl
 |succ m=>unfold lE;rw[if_neg (by rw[h];simp)]
theorem SM(r:Int):dH (mi r)/\1<=(mi r).length/\(mi r).length<=4:=by
 unfold mi;split
 ·exact⟨fun s h=>by simp at h;subst h;decide,by simp,by simp⟩
 ·split
  ·exact⟨fun s h=>by simp at h;rcases h with rfl|rfl|rfl|rfl<;>decide,by simp,by simp⟩
  ·exact⟨fun s h=>by simp at h;rcases h with rfl|rfl|rfl<;>decide,by simp,by simp⟩
theorem abq{q:Int}(h: -1<=q/\q<=1114111): -1<=qN q/\qN q<=1114111:=by
 unfold qN;split
 ·omega
 ·split
  ·omega
  ·split<;>omega
theorem aet(hs:∀st:RS,-1<=aC g st/\aC g st<=1114111)(qM:Bool)(st:RS): -1<=(l9 g qM st).2/\(l9 g qM st).2<=1114111:=by
 unfold l9
 cases qM
 ·exact hs st
 ·exact abq (hs st)
theorem aaS(hs:∀st:RS,-1<=aC g st/\aC g st<=1114111)(st:RS):dH (iN g st)/\1<=(iN g st).length/\(iN g st).length<=4:=by
 unfold iN;split
 ·exact SM _
 ·have h1:=aet hs (aK gA (aC g st)) (fG g gA st);refine⟨dH.one h1 ?_,by simp,by simp⟩;split
  ·exact aet hs _ _
  ·exact h1
