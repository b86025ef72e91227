/- Spans of runes, as plain functions -/
import Derived.Test.YtpdnofhackjfdaaGreatDoorP03
set_option linter.all false
set_option maxRecDepth 100000
namespace Go.Proofs.YtpdnofhackjfdaaGreatDoor
open Go.Proofs.Tryz
variable {fo nt:Bool} {g:RG}
abbrev bD:=List (Int×Int)
def pS(aC:bD)(s:Int×Int):bD:=
 match aC.getLast? with
 |some p=>if s.1<=p.2 then aC.dropLast++[(p.1,max p.2 s.2)]else aC++[s]
 |none=>[s]
def kU(l:bD):bD:=l.foldl pS []
def gk(x:bD×Int)(t:Int×Int):bD×Int:=(if x.2<t.1 then x.1++[(x.2,t.1-1)]else x.1,t.2+1)
def yR(x:bD×Int):bD:=if x.2<=1114111 then x.1++[(x.2,1114111)]else x.1
def xw(S:bD):bD:=yR (S.foldl gk ([],0))
def lW(aC:bD)(s:Int×Int):bD:=if max s.1 97<=min s.2 122 then aC++[(max s.1 97-32,min s.2 122-32)]else aC
def qt(aC:bD)(s:Int×Int):bD:=if max s.1 65<=min s.2 90 then aC++[(max s.1 65+32,min s.2 90+32)]else aC
def il(aC:bD)(s:Int×Int):bD:=qt (lW aC s) s
def pF(l:bD):bD:=l.foldl il l
def oQ(S:bD):Prop:=S.Pairwise (fun a b=>a.2<b.1)/\∀s∈S,s.1<=s.2
def dy(S:bD):Prop:=∀s∈S,(-1<=s.1/\s.1<=1114111)/\(-1<=s.2/\s.2<=1114111)
theorem vI(c:Int):bU [] c=false:=rfl
theorem ta(s:Int×Int)(l:bD)(c:Int):bU (s::l) c=((decide (s.1<=c)&&decide (c<=s.2))||bU l c):=rfl
theorem Gv(a b:bD)(c:Int):bU (a++b) c=(bU a c||bU b c):=by simp[bU,List.any_append]
theorem ajE{a b:bD}(h:a.Perm b)(c:Int):bU a c=bU b c:=by
 unfold bU;rw[Bg,Cp,Cp];exact⟨fun⟨x,hx,e⟩=>⟨x,h.mem_iff.1 hx,e⟩,fun⟨x,hx,e⟩=>⟨x,h.mem_iff.2 hx,e⟩⟩
theorem Je{l:bD}{c:Int}:bU l c=true↔∃s∈l,s.1<=c/\c<=s.2:=by
 unfold bU;rw[Cp];constructor
 ·rintro⟨s,hs,h⟩;simp at h;exact⟨s,hs,h⟩
 ·rintro⟨s,hs,h⟩;exact⟨s,hs,by simp[h]⟩
theorem dy.append{a b:bD}(ha:dy a)(hb:dy b):dy (a++b):=fun s hs=>by
 rcases Ap.1 hs with h|h
 ·exact ha s h
 ·exact hb s h
theorem dy.one{x y:Int}(h1: -1<=x/\x<=1114111)(h2: -1<=y/\y<=1114111):dy [(x,y)]:=fun s hs=>by
 simp at hs;subst hs;exact⟨h1,h2⟩
theorem MX(a:bD)(p s:Int×Int):pS (a++[p]) s=if s.1<=p.2 then a++[(p.1,max p.2 s.2)]else a++[p]++[s]:=by
 unfold pS;simp[Dt]
theorem akL(s:Int×Int):pS [] s=[s]:=rfl
theorem Rp(a:bD):a=[]\/∃b p,a=b++[p]:=by
 cases h:a.reverse with
 |nil=>left;simpa using h
 |cons p r=>right;exact⟨r.reverse,p,by have:=congrArg List.reverse h;simpa using this⟩
theorem akM{a:bD}{s:Int×Int}(ha:dy a)(hs:dy [s]):dy (pS a s):=by
 rcases Rp a with rfl|⟨b,p,rfl⟩
 ·exact hs
 ·rw[MX];have hp:=ha p (by simp);have qF:=hs s (by simp);split
  ·refine dy.append (fun x hx=>ha x (by simp[hx])) (dy.one hp.1 ?_);omega
  ·exact ha.append hs
theorem akK(a:bD)(s:Int×Int):(pS a s).length<=a.length+1:=by
 rcases Rp a with rfl|⟨b,p,rfl⟩
 ·simp[akL]
 ·rw[MX];split<;>simp
theorem akJ(l:bD)(i:Nat)(h:i<l.length):kU (l.take (i+1))=pS (kU (l.take i)) l[i]:=by
 unfold kU;rw[Dv,List.foldl_append,Ae h];rfl
theorem QI(l:bD)(h:dy l):dy (kU l)/\(kU l).length<=l.length:=by
 have:∀(l aC:bD),dy aC->dy l->dy (l.foldl pS aC)/\(l.foldl pS aC).length<=aC.length+l.length:=by
  intro l;induction l with
  |nil=>intro aC ha _;exact⟨ha,by simp⟩
  |cons s l ih=>
   intro aC ha hl;have h1:=ih (pS aC s) (akM ha (fun x hx=>hl x (by simp at hx;simp[hx]))) (fun x hx=>hl x (by simp[hx]));have h2:=akK aC s;exact⟨h1.1,by simp only[Dw,Ax];omega⟩
 have:=this l [] (fun _ h=>by simp at h) h;exact⟨this.1,by show(l.foldl pS []).length<=_;simpa using this.2⟩
theorem acM(l:bD)(hs:l.Pairwise (fun a b=>a.1<=b.1))(ho:∀s∈l,s.1<=s.2):oQ (kU l)/\∀c,bU (kU l) c=bU l c:=by
 have:∀(l aC:bD),oQ aC->(∀p,aC.getLast?=some p->∀s∈l,p.1<=s.1)->l.Pairwise (fun a b=>a.1<=b.1)->(∀s∈l,s.1<=s.2)->oQ (l.foldl pS aC)/\∀c,bU (l.foldl pS aC) c=(bU aC c||bU l c):=by
  intro l;induction l with
  |nil=>intro aC ha _ _ _;exact⟨ha,fun c=>by simp[vI]⟩
  |cons s l ih=>
   intro aC ha hb hl ho;have cR:=ho s (by simp);have o7:=Cs.1 hl;rcases Rp aC with rfl|⟨b,p,rfl⟩
   ·have h1:=ih [s] ⟨by simp,by simpa using cR⟩ (fun q hq x hx=>by simp at hq;subst hq;exact o7.1 x hx) o7.2 (fun x hx=>ho x (by simp[hx]));refine⟨h1.1,fun c=>?_⟩;show bU (l.foldl pS [s]) c=_
    rw[h1.2,ta,ta,vI];simp
   ·have hp:=hb p (by simp[Dt]) s (by simp);have hpo:=ha.2 p (by simp);have UD:=B7.1 ha.1;rw[Dw,MX];by_cases hm:s.1<=p.2
    ·rw[if_pos hm]
     have ht:oQ (b++[(p.1,max p.2 s.2)]):=by
      refine⟨B7.2 ⟨UD.1,by simp,fun x hx y hy=>?_⟩,fun x hx=>?_⟩
      ·simp at hy;subst hy;exact UD.2.2 x hx p (by simp)
      ·rcases Ap.1 hx with h|h
       ·exact ha.2 x (by simp[h])
       ·simp at h;subst h;simp only;omega
     have h1:=ih (b++[(p.1,max p.2 s.2)]) ht (fun q hq x hx=>by
      simp[Dt]at hq;subst hq;exact hb p (by simp[Dt]) x (by simp[hx])) o7.2 (fun x hx=>ho x (by simp[hx]))
     refine⟨h1.1,fun c=>?_⟩;rw[h1.2,Gv,Gv,ta,ta,ta,vI]
     cases bU b c<;>cases bU l c<;>simp
     rw[Bg];simp;omega
    ·rw[if_neg hm]
     have ht:oQ (b++[p]++[s]):=by
      refine⟨B7.2 ⟨ha.1,by simp,fun x hx y hy=>?_⟩,fun x hx=>?_⟩
      ·simp at hy;subst hy
       rcases Ap.1 hx with h|h
       ·have:=UD.2.2 x h p (by simp);omega
       ·simp at h;subst h;omega
      ·rcases Ap.1 hx with h|h
       ·exact ha.2 x h
       ·simp at h;subst h;exact cR
     have h1:=ih (b++[p]++[s]) ht (fun q hq x hx=>by
      simp[Dt]at hq;subst hq;exact o7.1 x hx) o7.2 (fun x hx=>ho x (by simp[hx]))
     refine⟨h1.1,fun c=>?_⟩;rw[h1.2,Gv,ta,ta,vI]
     cases bU (b++[p]) c<;>cases bU l c<;>simp
 have:=this l [] ⟨by simp,by simp⟩ (fun p h=>by simp at h) hs ho;exact⟨this.1,fun c=>by rw[show kU l=l.foldl pS []from rfl,this.2];simp[vI]⟩
theorem alE(l:bD)(i:Nat)(h:i<l.length):(l.take (i+1)).foldl gk ([],0)=gk ((l.take i).foldl gk ([],0)) l[i]:=by
 rw[Dv,List.foldl_append,Ae h];rfl
theorem adl(l:bD)(h:dy l):dy (l.foldl gk ([],0)).1/\(0<=(l.foldl gk ([],0)).2/\(l.foldl gk ([],0)).2<=1114112)/\(l.foldl gk ([],0)).1.length<=l.length:=by
 have:∀(l:bD) (x:bD×Int),dy x.1->(0<=x.2/\x.2<=1114112)->dy l->dy (l.foldl gk x).1/\(0<=(l.foldl gk x).2/\(l.foldl gk x).2<=1114112)/\(l.foldl gk x).1.length<=x.1.length+l.length:=by
  intro l;induction l with
  |nil=>intro x h1 h2 _;exact⟨h1,h2,by simp⟩
  |cons s l ih=>
   intro x h1 h2 hl;have hs:=hl s (by simp)
   have q:=ih (gk x s) (by
    unfold gk;split
    ·exact h1.append (dy.one (by omega) (by omega))
    ·exact h1) (by unfold gk;simp only;omega) (fun y hy=>hl y (by simp[hy]))
   refine⟨q.1,q.2.1,?_⟩;have h3:(gk x s).1.length<=x.1.length+1:=by unfold gk;split<;>simp
   simp only[Dw,Ax];omega
 have:=this l ([],0) (fun _ h=>by simp at h) (by simp) h;exact⟨this.1,this.2.1,by simpa using this.2.2⟩
theorem alG(l:bD)(h:dy l):dy (xw l)/\(xw l).length<=l.length+1:=by
 obtain⟨h1,h2,h3⟩:=adl l h;unfold xw yR;split
 ·exact⟨h1.append (dy.one (by omega) (by omega)),by simp;omega⟩
 ·exact⟨h1,by omega⟩
theorem alF(l:bD)(ht:oQ l)(h0:∀s∈l,0<=s.1/\s.2<=1114111):oQ (xw l)/\∀c,0<=c->c<=1114111->bU (xw l) c= !bU l c:=by
 have:∀(l:bD) (x:bD×Int),oQ x.1->(∀s∈x.1,s.2<x.2)->0<=x.2->(∀s∈l,x.2<=s.1)->oQ l->(∀s∈l,s.2<=1114111)->oQ (yR (l.foldl gk x))/\∀c,0<=c->c<=1114111->bU (yR (l.foldl gk x)) c=(bU x.1 c||(decide (x.2<=c)&& !bU l c)):=by
  intro l;induction l with
  |nil=>
   intro x h1 h2 h3 _ _ _;show oQ (yR x)/\∀c,0<=c->c<=1114111->bU (yR x) c=_
   unfold yR;by_cases hx:x.2<=1114111
   ·rw[if_pos hx];refine⟨⟨B7.2 ⟨h1.1,by simp,fun a ha b hb=>?_⟩,fun a ha=>?_⟩,fun c c1 c2=>?_⟩
    ·simp at hb;subst hb;exact h2 a ha
    ·rcases Ap.1 ha with h|h
     ·exact h1.2 a h
     ·simp at h;subst h;exact hx
    ·rw[Gv,ta,vI];simp[c2]
   ·rw[if_neg hx];refine⟨h1,fun c c1 c2=>?_⟩;have:decide (x.2<=c)=false:=by simp;omega
    rw[this];simp
  |cons s l ih=>
   intro x h1 h2 h3 h4 h5 h6;have hs:=h4 s (by simp);have Vp:=h5.2 s (by simp);have PW:=Cs.1 h5.1
   have t1:oQ (gk x s).1:=by
    unfold gk;simp only;split
    ·refine⟨B7.2 ⟨h1.1,by simp,fun a ha b hb=>?_⟩,fun a ha=>?_⟩
     ·simp at hb;subst hb;exact h2 a ha
     ·rcases Ap.1 ha with h|h
      ·exact h1.2 a h
      ·simp at h;subst h;simp only;omega
    ·exact h1
   have q:=ih (gk x s) t1 (by
    unfold gk;simp only;split
    ·intro a ha;rcases Ap.1 ha with h|h
     ·have:=h2 a h;omega
     ·simp at h;subst h;simp only;omega
    ·intro a ha;have:=h2 a ha;omega) (by unfold gk;simp only;omega) (by
    intro y hy;unfold gk;simp only;have:=PW.1 y hy;omega) ⟨PW.2,fun y hy=>h5.2 y (by simp[hy])⟩ (fun y hy=>h6 y (by simp[hy]))
   refine⟨q.1,fun c c1 c2=>?_⟩;rw[Dw,q.2 c c1 c2,ta]
   have hl:bU l c=true->s.2<c:=by
    intro h;obtain⟨y,hy,hyc⟩:=Je.1 h;have:=PW.1 y hy;omega
   unfold gk;simp only;split
   ·rw[Gv,ta,vI]
    cases U3:bU l c
    ·cases bU x.1 c<;>simp
     rw[Bg];simp;omega
    ·have:=hl U3
     cases bU x.1 c<;>simp
     omega
   ·cases U3:bU l c
    ·cases bU x.1 c<;>simp
     rw[Bg];simp;omega
    ·have:=hl U3
     cases bU x.1 c<;>simp
 have:=this l ([],0) ⟨by simp,by simp⟩ (by simp) (by simp) (fun s hs=>(h0 s hs).1) ht (fun s hs=>(h0 s hs).2);refine⟨this.1,fun c c1 c2=>?_⟩;unfold xw;rw[this.2 c c1 c2];simp[vI,c1]
theorem age(l aC:bD)(i:Nat)(h:i<l.length):(l.take (i+1)).foldl il aC=il ((l.take i).foldl il aC) l[i]:=by
 rw[Dv,List.foldl_append,Ae h];rfl
theorem Xd(a:bD)(s:Int×Int):a.length<=(lW a s).length/\(lW a s).length<=a.length+1:=by unfold lW;split<;>simp
theorem abh(a:bD)(s:Int×Int):a.length<=(qt a s).length/\(qt a s).length<=a.length+1:=by unfold qt;split<;>simp
theorem Tn(l aC:bD)(h:dy l)(ha:dy aC):dy (l.foldl il aC)/\(l.foldl il aC).length<=aC.length+2*l.length:=by
 induction l generalizing aC with
 |nil=>exact⟨ha,by simp⟩
 |cons s l ih=>
  have hs:=h s (by simp)
  have h1:dy (lW aC s):=by
   unfold lW;split
   ·exact ha.append (dy.one (by omega) (by omega))
   ·exact ha
  have h2:dy (il aC s):=by
   unfold il qt;split
   ·exact h1.append (dy.one (by omega) (by omega))
   ·exact h1
  have q:=ih (il aC s) (fun y hy=>h y (by simp[hy])) h2;refine⟨q.1,?_⟩;have l1:=Xd aC s;have l2:(il aC s).length<=(lW aC s).length+1:=(abh (lW aC s) s).2;simp only[Dw,Ax];omega
theorem agd(a:bD)(s:Int×Int)(c:Int):bU (il a s) c=(bU a c||(yI c&&(decide (s.1<=yS c)&&decide (yS c<=s.2)))):=by
 have h1:bU (lW a s) c=(bU a c||(decide (65<=c)&&decide (c<=90)&&(decide (s.1<=c+32)&&decide (c+32<=s.2)))):=by
  unfold lW;split
  ·rw[Gv,ta,vI]
   cases bU a c<;>simp
   rw[Bg];simp;omega
  ·cases bU a c<;>simp
   omega
 have h2:bU (il a s) c=(bU (lW a s) c||(decide (97<=c)&&decide (c<=122)&&(decide (s.1<=c-32)&&decide (c-32<=s.2)))):=by
  unfold il qt;split
  ·rw[Gv,ta,vI]
   cases bU (lW a s) c<;>simp
   rw[Bg];simp;omega
  ·cases bU (lW a s) c<;>simp
   omega
 rw[h2,h1];unfold yI yS
 cases bU a c<;>simp
 rw[Bg];by_cases h:97<=c
 ·simp[h];omega
 ·simp[h]
theorem agb(l:bD)(c:Int):bU (pF l) c=(bU l c||(yI c&&bU l (yS c))):=by
 have:∀(l aC:bD),bU (l.foldl il aC) c=(bU aC c||(yI c&&bU l (yS c))):=by
  intro l;induction l with
  |nil=>intro aC;simp[vI]
  |cons s l ih=>
   intro aC;rw[Dw,ih,agd,ta]
   cases bU aC c<;>cases yI c<;>simp
 exact this l l
theorem agc(l:bD)(h:∀s∈l,0<=s.1/\s.1<=s.2/\s.2<=1114111):∀s∈pF l,0<=s.1/\s.1<=s.2/\s.2<=1114111:=by
 have:∀(l aC:bD),(∀s∈l,0<=s.1/\s.1<=s.2/\s.2<=1114111)->(∀s∈aC,0<=s.1/\s.1<=s.2/\s.2<=1114111)->∀s∈l.foldl il aC,0<=s.1/\s.1<=s.2/\s.2<=1114111:=by
  intro l;induction l with
  |nil=>intro aC _ h;exact h
  |cons s l ih=>
   intro aC hl ha;refine ih (il aC s) (fun y hy=>hl y (by simp[hy])) ?_
   have h1:∀y∈lW aC s,0<=y.1/\y.1<=y.2/\y.2<=1114111:=by
    unfold lW;split
    ·intro y hy;rcases Ap.1 hy with h|h
     ·exact ha y h
     ·simp at h;subst h;simp only;omega
    ·exact ha
   unfold il qt;split
   ·intro y hy;rcases Ap.1 hy with h|h
    ·exact h1 y h
    ·simp at h;subst h;simp only;omega
   ·exact h1
 exact this l l h h
def uX(S sp:bD)(fo nt:Bool):Prop:=
 ∃l:bD,l.Perm (if fo then pF sp else sp)/\l.Pairwise (fun a b=>a.1<=b.1)/\S=if nt then xw (kU l)else kU l
theorem uX.anh{S sp:bD}(h:uX S sp fo nt)(hr:dy sp):dy S/\S.length<=3*sp.length+1:=by
 obtain⟨l,hp,_,rfl⟩:=h
 have hb:dy (if fo then pF sp else sp)/\(if fo then pF sp else sp).length<=3*sp.length:=by
  cases fo
  ·exact⟨hr,by simp;omega⟩
  ·have:=Tn sp sp hr hr;exact⟨this.1,by show(pF sp).length<=_;unfold pF;omega⟩
 have hl:dy l:=fun s hs=>hb.1 s (hp.mem_iff.1 hs)
 have hm:=QI l hl;have FN:=hp.length_eq
 cases nt
 ·exact⟨hm.1,by simp only[Aq,if_false];omega⟩
 ·have:=alG _ hm.1;exact⟨this.1,by simp only[if_true];omega⟩
theorem uX.has{S sp:bD}(h:uX S sp fo nt)(ho:∀s∈sp,0<=s.1/\s.1<=s.2/\s.2<=1114111):
 oQ S/\∀c,0<=c->c<=1114111->bU S c=((bU sp c||(fo&&yI c&&bU sp (yS c))) !=nt):=by
 obtain⟨l,hp,hs,rfl⟩:=h
 have hb:(∀s∈ (if fo then pF sp else sp),0<=s.1/\s.1<=s.2/\s.2<=1114111)/\∀c,bU (if fo then pF sp else sp) c=(bU sp c||(fo&&yI c&&bU sp (yS c))):=by
  cases fo
  ·exact⟨ho,fun c=>by simp⟩
  ·exact⟨agc sp ho,fun c=>by simp[agb]⟩
 have hl:∀s∈l,0<=s.1/\s.1<=s.2/\s.2<=1114111:=fun s hs=>hb.1 s (hp.mem_iff.1 hs)
 have hm:=acM l hs (fun s h=>(hl s h).2.1);have hc:∀c,bU (kU l) c=(bU sp c||(fo&&yI c&&bU sp (yS c))):=fun c=>by rw[hm.2,ajE hp,hb.2]
 cases nt
 ·exact⟨hm.1,fun c _ _=>by simp only[Aq,if_false];rw[hc];simp⟩
 ·have dR:∀s∈kU l,0<=s.1/\s.2<=1114111:=by
   intro s qF;have h1:=hm.1.2 s qF;obtain⟨y,hy,hy2⟩:=Je.1 ((hm.2 s.1).symm.trans (Je.2 ⟨s,qF,by omega⟩));obtain⟨z,hz,cY⟩:=Je.1 ((hm.2 s.2).symm.trans (Je.2 ⟨s,qF,by omega⟩));have:=hl y hy;have:=hl z hz;omega
  have:=alF _ hm.1 dR;exact⟨this.1,fun c c1 c2=>by simp only[if_true];rw[this.2 c c1 c2,hc];simp⟩
def xp:List UInt8:=[68,87,83]
def um:List UInt8:=[98,66]
def MT:List UInt8:=[94,36]
def Jk:List UInt8:=[46]
def lV(r:Int):bD:=if r=100 then [(48,57)]else if r=119 then [(48,57),(65,90),(95,95),(97,122)]else [(9,10),(13,13),(32,32)]
def sG(r:Int):Int:=if r=94 then 0 else if r=36 then 1 else if r=98 then 2 else 3
inductive CT where
 |node (k:Int) (sp:bD) (fo nt:Bool) (ed gr lo hi:Int) (lz:Bool) (cN:List CT):CT
def l9(sp:bD)(fo nt:Bool):CT:=.node 0 sp fo nt 0 0 0 0 false []
def u9(e:Int):CT:=.node 1 [] false false e 0 0 0 false []
def iB(g:RG)(st:RS):bD:=
 if aG gj (ay g st)=true/\aG mq (ay g {st with next:=st.next+1})=true then lV (ay g {st with next:=st.next+1})
 else [((dd g st).2,if aG xo (ay g (dd g st).1)then(dd g {(dd g st).1 with next:=(dd g st).1.next+1}).2 else(dd g st).2)]
def rj(g:RG):Nat->RS->bD->bD
 |0,_,aC=>aC
 |m+1,st,aC=>if ay g st= -1\/aG pR (ay g st)=true then aC else rj g m (fT g st) (aC++iB g st)
def KY(g:RG)(fo:Bool)(st:RS):CT:=
 l9 (rj g (g.rs.length+1) (fT g (fg g td st)) (iB g (fg g td st))) fo (aG td (ay g st))
def nY(fo:Bool)(q:Int):CT:=
 if aG um q then u9 (sG q)
 else if aG mq q then l9 (lV q) fo false
 else if aG xp q then l9 (lV (q+32)) fo true
 else l9 [(qp q,qp q)] fo false
def Iq(fo:Bool)(q:Int):CT:=if aG Jk q then l9 [(10,10)] fo true else u9 (sG q)
def sE(g:RG)(bS:Bool->RS->CT)(fo:Bool)(st:RS):CT:=
 if aG iq (ay g st)=false then .node 2 [] false false 0 (st.aQ+1) 0 0 false [bS fo (ix g st)]
 else if aG BJ (ay g {st with next:=st.next+1})then .node 2 [] false false 0 (st.aQ+1) 0 0 false [bS fo (ix g st)]
 else .node 2 [] false false 0 0 0 0 false [bS (aG lI (ay g {st with next:=st.next+1})||fo) (ix g st)]
def j8(g:RG)(bS:Bool->RS->CT)(fo:Bool)(st:RS):CT:=
 if aG Jm (ay g st)then sE g bS fo {st with next:=st.next+1}
 else if aG MO (ay g st)then KY g fo {st with next:=st.next+1}
 else if aG gj (ay g st)then nY fo (ay g {st with next:=st.next+1})
 else if aG QE (ay g st)then Iq fo (ay g st)
 else l9 [(ay g st,ay g st)] fo false
def tK(a:CT)(lo hi:Int)(lz:Bool):CT:=.node 5 [] false false 0 0 lo hi lz [a]
def ni(g:RG)(a:CT)(st:RS):CT:=
 if aG MR (ay g st)then tK a 0 (-1) (aG iq (ay g {st with next:=st.next+1}))
 else if aG MP (ay g st)then tK a 1 (-1) (aG iq (ay g {st with next:=st.next+1}))
 else if aG iq (ay g st)then tK a 0 1 (aG iq (ay g {st with next:=st.next+1}))
 else if aG MN (ay g st)then
  tK a (ey g {st with next:=st.next+1}).2.1 (ey g {st with next:=st.next+1}).2.2 (aG iq (ay g (ey g {st with next:=st.next+1}).1))
 else a
def l_(g:RG)(aE:RS->RS×PT)(bS:Bool->RS->CT)(fo:Bool):Nat->RS->List CT->List CT
 |0,_,aC=>aC
 |m+1,st,aC=>
  if ay g st= -1\/aG uj (ay g st)=true then aC
  else l_ g aE bS fo m (h_ g (dt g aE st).2 (dt g aE st).1).1 (aC++[ni g (j8 g bS fo st) (dt g aE st).1])
def nj(g:RG)(aE:RS->RS×PT)(bS:Bool->RS->CT)(fo:Bool)(st:RS):CT:=.node 3 [] false false 0 0 0 0 false (l_ g aE bS fo (g.rs.length+1) st [])
def ll(g:RG)(aE:RS->RS×PT)(bS:Bool->RS->CT)(fo:Bool):Nat->RS->List CT->List CT
 |0,_,aC=>aC
 |m+1,st,aC=>
  if aG vN (ay g st)then ll g aE bS fo m (eD g aE {st with next:=st.next+1}).1 (aC++[nj g aE bS fo {st with next:=st.next+1}])else aC
def dI(g:RG):Nat->Bool->RS->CT
 |0,_,_=>l9 [] false false
 |k+1,fo,st=>.node 4 [] false false 0 0 0 0 false (ll g (aV g k) (dI g k) fo (g.rs.length+1) (eD g (aV g k) st).1 [nj g (aV g k) (dI g k) fo st])
def oS(g:RG)(st:RS):CT:=dI g (g.rs.length+1) false st
theorem agt(g:RG)(m:Nat)(st:RS)(aC:bD)(h:ay g st= -1\/aG pR (ay g st)=true):rj g m st aC=aC:=by
 cases m with
 |zero=>rfl
 |succ m=>unfold rj;rw[if_pos h]
theorem aag(g:RG)(aE:RS->RS×PT)(bS:Bool->RS->CT)(fo:Bool)(m:Nat)(st:RS)(aC:List CT)(h:ay g st= -1\/aG uj (ay g st)=true):l_ g aE bS fo m st aC=aC:=by
 cases m with
 |zero=>rfl
 |succ m=>unfold l_;rw[if_pos h]
theorem agr(g:RG)(aE:RS->RS×PT)(bS:Bool->RS->CT)(fo:Bool)(m:Nat)(st:RS)(aC:List CT)(h:aG vN (ay g st)=false):ll g aE bS fo m st aC=aC:=by
 cases m with
 |zero=>rfl
 |succ m=>unfold ll;rw[if_neg (by rw[h];simp)]
theorem Ro(r:Int):dy (lV r)/\1<=(lV r).length/\(lV r).length<=4:=by
 unfold lV;split
 ·exact⟨fun s h=>by simp at h;subst h;decide,by simp,by simp⟩
 ·split
  ·exact⟨fun s h=>by simp at h;rcases h with rfl|rfl|rfl|rfl<;>decide,by simp,by simp⟩
  ·exact⟨fun s h=>by simp at h;rcases h with rfl|rfl|rfl<;>decide,by simp,by simp⟩
theorem aaM{q:Int}(h: -1<=q/\q<=1114111): -1<=qp q/\qp q<=1114111:=by
 unfold qp;split
 ·omega
 ·split
  ·omega
  ·split<;>omega
theorem adN(hs:∀st:RS,-1<=ay g st/\ay g st<=1114111)(qo:Bool)(st:RS): -1<=(lQ g qo st).2/\(lQ g qo st).2<=1114111:=by
 unfold lQ
 cases qo
 ·exact hs st
 ·exact aaM (hs st)
theorem aac(hs:∀st:RS,-1<=ay g st/\ay g st<=1114111)(st:RS):dy (iB g st)/\1<=(iB g st).length/\(iB g st).length<=4:=by
 unfold iB;split
 ·exact Ro _
 ·have h1:=adN hs (aG gj (ay g st)) (fg g gj st);refine⟨dy.one h1 ?_,by simp,by simp⟩;split
  ·exact adN hs _ _
  ·exact h1
end Go.Proofs.YtpdnofhackjfdaaGreatDoor
