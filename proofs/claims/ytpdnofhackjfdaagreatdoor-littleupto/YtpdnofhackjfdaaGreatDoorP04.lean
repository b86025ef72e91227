/- Spans of runes,  -/
import Derived.Test.YtpdnofhackjfdaaGreatDoorP03
set_option linter.all false
set_option maxRecDepth 100000
namespace Go.Proofs.YtpdnofhackjfdaaGreatDoor
open Go.Proofs.Tryz
variable {fo nt:Bool} {g:RG}
abbrev bF:=List (Int×Int)
def pV(aA:bF)(s:Int×Int):bF:=
 match aA.getLast? with
 |some p=>if s.1<=p.2 then aA.dropLast++[(p.1,max p.2 s.2)]else aA++[s]
 |none=>[s]
def kY(l:bF):bF:=l.foldl pV []
def gh(x:bF×Int)(t:Int×Int):bF×Int:=(if x.2<t.1 then x.1++[(x.2,t.1-1)]else x.1,t.2+1)
def yR(x:bF×Int):bF:=if x.2<=1114111 then x.1++[(x.2,1114111)]else x.1
def xy(S:bF):bF:=yR (S.foldl gh ([],0))
def lZ(aA:bF)(s:Int×Int):bF:=if max s.1 97<=min s.2 122 then aA++[(max s.1 97-32,min s.2 122-32)]else aA
def qx(aA:bF)(s:Int×Int):bF:=if max s.1 65<=min s.2 90 then aA++[(max s.1 65+32,min s.2 90+32)]else aA
def im(aA:bF)(s:Int×Int):bF:=qx (lZ aA s) s
def pK(l:bF):bF:=l.foldl im l
def oX(S:bF):Prop:=S.Pairwise (fun a b=>a.2<b.1)/\∀s∈S,s.1<=s.2
def dz(S:bF):Prop:=∀s∈S,(-1<=s.1/\s.1<=1114111)/\(-1<=s.2/\s.2<=1114111)
theorem vH(c:Int):bV [] c=false:=rfl
theorem tc(s:Int×Int)(l:bF)(c:Int):bV (s::l) c=((decide (s.1<=c)&&decide (c<=s.2))||bV l c):=rfl
theorem GQ(a b:bF)(c:Int):bV (a++b) c=(bV a c||bV b c):=by simp[bV,List.any_append]
theorem ajV{a b:bF}(h:a.Perm b)(c:Int):bV a c=bV b c:=by
 unfold bV;rw[Be,Cq,Cq];exact⟨fun⟨x,hx,e⟩=>⟨x,h.mem_iff.1 hx,e⟩,fun⟨x,hx,e⟩=>⟨x,h.mem_iff.2 hx,e⟩⟩
theorem Jr{l:bF}{c:Int}:bV l c=true↔∃s∈l,s.1<=c/\c<=s.2:=by
 unfold bV;rw[Cq];constructor
 ·rintro⟨s,hs,h⟩;simp at h;exact⟨s,hs,h⟩
 ·rintro⟨s,hs,h⟩;exact⟨s,hs,by simp[h]⟩
theorem dz.append{a b:bF}(ha:dz a)(hb:dz b):dz (a++b):=fun s hs=>by
 rcases Al.1 hs with h|h
 ·exact ha s h
 ·exact hb s h
theorem dz.one{x y:Int}(h1: -1<=x/\x<=1114111)(h2: -1<=y/\y<=1114111):dz [(x,y)]:=fun s hs=>by
 simp at hs;subst hs;exact⟨h1,h2⟩
theorem Nc(a:bF)(p s:Int×Int):pV (a++[p]) s=if s.1<=p.2 then a++[(p.1,max p.2 s.2)]else a++[p]++[s]:=by
 unfold pV;simp[D0]
theorem ak6(s:Int×Int):pV [] s=[s]:=rfl
theorem RC(a:bF):a=[]\/∃b p,a=b++[p]:=by
 cases h:a.reverse with
 |nil=>left;simpa using h
 |cons p r=>right;exact⟨r.reverse,p,by have:=congrArg List.reverse h;simpa using this⟩
theorem ak7{a:bF}{s:Int×Int}(ha:dz a)(hs:dz [s]):dz (pV a s):=by
 rcases RC a with rfl|⟨b,p,rfl⟩
 ·exact hs
 ·rw[Nc];have hp:=ha p (by simp);have qG:=hs s (by simp);split
  ·refine dz.append (fun x hx=>ha x (by simp[hx])) (dz.one hp.1 ?_);omega
  ·exact ha.append hs
theorem ak5(a:bF)(s:Int×Int):(pV a s).length<=a.length+1:=by
 rcases RC a with rfl|⟨b,p,rfl⟩
 ·simp[ak6]
 ·rw[Nc];split<;>simp
theorem ak4(l:bF)(i:Nat)(h:i<l.length):kY (l.take (i+1))=pV (kY (l.take i)) l[i]:=by
 unfold kY;rw[Ff,List.foldl_append,Ae h];rfl
theorem QT(l:bF)(h:dz l):dz (kY l)/\(kY l).length<=l.length:=by
 have:∀(l aA:bF),dz aA->dz l->dz (l.foldl pV aA)/\(l.foldl pV aA).length<=aA.length+l.length:=by
  intro l;induction l with
  |nil=>intro aA ha _;exact⟨ha,by simp⟩
  |cons s l ih=>
   intro aA ha hl;have h1:=ih (pV aA s) (ak7 ha (fun x hx=>hl x (by simp at hx;simp[hx]))) (fun x hx=>hl x (by simp[hx]));have h2:=ak5 aA s;exact⟨h1.1,by simp only[Dn,Av];omega⟩
 have:=this l [] (fun _ h=>by simp at h) h;exact⟨this.1,by show(l.foldl pV []).length<=_;simpa using this.2⟩
theorem acL(l:bF)(hs:l.Pairwise (fun a b=>a.1<=b.1))(ho:∀s∈l,s.1<=s.2):oX (kY l)/\∀c,bV (kY l) c=bV l c:=by
 have:∀(l aA:bF),oX aA->(∀p,aA.getLast?=some p->∀s∈l,p.1<=s.1)->l.Pairwise (fun a b=>a.1<=b.1)->(∀s∈l,s.1<=s.2)->oX (l.foldl pV aA)/\∀c,bV (l.foldl pV aA) c=(bV aA c||bV l c):=by
  intro l;induction l with
  |nil=>intro aA ha _ _ _;exact⟨ha,fun c=>by simp[vH]⟩
  |cons s l ih=>
   intro aA ha hb hl ho;have cU:=ho s (by simp);have mV:=Cu.1 hl;rcases RC aA with rfl|⟨b,p,rfl⟩
   ·have h1:=ih [s] ⟨by simp,by simpa using cU⟩ (fun q hq x hx=>by simp at hq;subst hq;exact mV.1 x hx) mV.2 (fun x hx=>ho x (by simp[hx]));refine⟨h1.1,fun c=>?_⟩;show bV (l.foldl pV [s]) c=_
    rw[h1.2,tc,tc,vH];simp
   ·have hp:=hb p (by simp[D0]) s (by simp);have hpo:=ha.2 p (by simp);have UR:=B7.1 ha.1;rw[Dn,Nc];by_cases hm:s.1<=p.2
    ·rw[if_pos hm]
     have ht:oX (b++[(p.1,max p.2 s.2)]):=by
      refine⟨B7.2 ⟨UR.1,by simp,fun x hx y hy=>?_⟩,fun x hx=>?_⟩
      ·simp at hy;subst hy;exact UR.2.2 x hx p (by simp)
      ·rcases Al.1 hx with h|h
       ·exact ha.2 x (by simp[h])
       ·simp at h;subst h;simp only;omega
     have h1:=ih (b++[(p.1,max p.2 s.2)]) ht (fun q hq x hx=>by
      simp[D0]at hq;subst hq;exact hb p (by simp[D0]) x (by simp[hx])) mV.2 (fun x hx=>ho x (by simp[hx]))
     refine⟨h1.1,fun c=>?_⟩;rw[h1.2,GQ,GQ,tc,tc,tc,vH]
     cases bV b c<;>cases bV l c<;>simp
     rw[Be];simp;omega
    ·rw[if_neg hm]
     have ht:oX (b++[p]++[s]):=by
      refine⟨B7.2 ⟨ha.1,by simp,fun x hx y hy=>?_⟩,fun x hx=>?_⟩
      ·simp at hy;subst hy
       rcases Al.1 hx with h|h
       ·have:=UR.2.2 x h p (by simp);omega
       ·simp at h;subst h;omega
      ·rcases Al.1 hx with h|h
       ·exact ha.2 x h
       ·simp at h;subst h;exact cU
     have h1:=ih (b++[p]++[s]) ht (fun q hq x hx=>by
      simp[D0]at hq;subst hq;exact mV.1 x hx) mV.2 (fun x hx=>ho x (by simp[hx]))
     refine⟨h1.1,fun c=>?_⟩;rw[h1.2,GQ,tc,tc,vH]
     cases bV (b++[p]) c<;>cases bV l c<;>simp
 have:=this l [] ⟨by simp,by simp⟩ (fun p h=>by simp at h) hs ho;exact⟨this.1,fun c=>by rw[show kY l=l.foldl pV []from rfl,this.2];simp[vH]⟩
theorem al3(l:bF)(i:Nat)(h:i<l.length):(l.take (i+1)).foldl gh ([],0)=gh ((l.take i).foldl gh ([],0)) l[i]:=by
 rw[Ff,List.foldl_append,Ae h];rfl
theorem adk(l:bF)(h:dz l):dz (l.foldl gh ([],0)).1/\(0<=(l.foldl gh ([],0)).2/\(l.foldl gh ([],0)).2<=1114112)/\(l.foldl gh ([],0)).1.length<=l.length:=by
 have:∀(l:bF) (x:bF×Int),dz x.1->(0<=x.2/\x.2<=1114112)->dz l->dz (l.foldl gh x).1/\(0<=(l.foldl gh x).2/\(l.foldl gh x).2<=1114112)/\(l.foldl gh x).1.length<=x.1.length+l.length:=by
  intro l;induction l with
  |nil=>intro x h1 h2 _;exact⟨h1,h2,by simp⟩
  |cons s l ih=>
   intro x h1 h2 hl;have hs:=hl s (by simp)
   have q:=ih (gh x s) (by
    unfold gh;split
    ·exact h1.append (dz.one (by omega) (by omega))
    ·exact h1) (by unfold gh;simp only;omega) (fun y hy=>hl y (by simp[hy]))
   refine⟨q.1,q.2.1,?_⟩;have h3:(gh x s).1.length<=x.1.length+1:=by unfold gh;split<;>simp
   simp only[Dn,Av];omega
 have:=this l ([],0) (fun _ h=>by simp at h) (by simp) h;exact⟨this.1,this.2.1,by simpa using this.2.2⟩
theorem al5(l:bF)(h:dz l):dz (xy l)/\(xy l).length<=l.length+1:=by
 obtain⟨h1,h2,h3⟩:=adk l h;unfold xy yR;split
 ·exact⟨h1.append (dz.one (by omega) (by omega)),by simp;omega⟩
 ·exact⟨h1,by omega⟩
theorem al4(l:bF)(ht:oX l)(h0:∀s∈l,0<=s.1/\s.2<=1114111):oX (xy l)/\∀c,0<=c->c<=1114111->bV (xy l) c= !bV l c:=by
 have:∀(l:bF) (x:bF×Int),oX x.1->(∀s∈x.1,s.2<x.2)->0<=x.2->(∀s∈l,x.2<=s.1)->oX l->(∀s∈l,s.2<=1114111)->oX (yR (l.foldl gh x))/\∀c,0<=c->c<=1114111->bV (yR (l.foldl gh x)) c=(bV x.1 c||(decide (x.2<=c)&& !bV l c)):=by
  intro l;induction l with
  |nil=>
   intro x h1 h2 h3 _ _ _;show oX (yR x)/\∀c,0<=c->c<=1114111->bV (yR x) c=_
   unfold yR;by_cases hx:x.2<=1114111
   ·rw[if_pos hx];refine⟨⟨B7.2 ⟨h1.1,by simp,fun a ha b hb=>?_⟩,fun a ha=>?_⟩,fun c c1 c2=>?_⟩
    ·simp at hb;subst hb;exact h2 a ha
    ·rcases Al.1 ha with h|h
     ·exact h1.2 a h
     ·simp at h;subst h;exact hx
    ·rw[GQ,tc,vH];simp[c2]
   ·rw[if_neg hx];refine⟨h1,fun c c1 c2=>?_⟩;have:decide (x.2<=c)=false:=by simp;omega
    rw[this];simp
  |cons s l ih=>
   intro x h1 h2 h3 h4 h5 h6;have hs:=h4 s (by simp);have VD:=h5.2 s (by simp);have Qf:=Cu.1 h5.1
   have t1:oX (gh x s).1:=by
    unfold gh;simp only;split
    ·refine⟨B7.2 ⟨h1.1,by simp,fun a ha b hb=>?_⟩,fun a ha=>?_⟩
     ·simp at hb;subst hb;exact h2 a ha
     ·rcases Al.1 ha with h|h
      ·exact h1.2 a h
      ·simp at h;subst h;simp only;omega
    ·exact h1
   have q:=ih (gh x s) t1 (by
    unfold gh;simp only;split
    ·intro a ha;rcases Al.1 ha with h|h
     ·have:=h2 a h;omega
     ·simp at h;subst h;simp only;omega
    ·intro a ha;have:=h2 a ha;omega) (by unfold gh;simp only;omega) (by
    intro y hy;unfold gh;simp only;have:=Qf.1 y hy;omega) ⟨Qf.2,fun y hy=>h5.2 y (by simp[hy])⟩ (fun y hy=>h6 y (by simp[hy]))
   refine⟨q.1,fun c c1 c2=>?_⟩;rw[Dn,q.2 c c1 c2,tc]
   have hl:bV l c=true->s.2<c:=by
    intro h;obtain⟨y,hy,hyc⟩:=Jr.1 h;have:=Qf.1 y hy;omega
   unfold gh;simp only;split
   ·rw[GQ,tc,vH]
    cases Vg:bV l c
    ·cases bV x.1 c<;>simp
     rw[Be];simp;omega
    ·have:=hl Vg
     cases bV x.1 c<;>simp
     omega
   ·cases Vg:bV l c
    ·cases bV x.1 c<;>simp
     rw[Be];simp;omega
    ·have:=hl Vg
     cases bV x.1 c<;>simp
 have:=this l ([],0) ⟨by simp,by simp⟩ (by simp) (by simp) (fun s hs=>(h0 s hs).1) ht (fun s hs=>(h0 s hs).2);refine⟨this.1,fun c c1 c2=>?_⟩;unfold xy;rw[this.2 c c1 c2];simp[vH,c1]
theorem agc(l aA:bF)(i:Nat)(h:i<l.length):(l.take (i+1)).foldl im aA=im ((l.take i).foldl im aA) l[i]:=by
 rw[Ff,List.foldl_append,Ae h];rfl
theorem Xo(a:bF)(s:Int×Int):a.length<=(lZ a s).length/\(lZ a s).length<=a.length+1:=by unfold lZ;split<;>simp
theorem abd(a:bF)(s:Int×Int):a.length<=(qx a s).length/\(qx a s).length<=a.length+1:=by unfold qx;split<;>simp
theorem Tw(l aA:bF)(h:dz l)(ha:dz aA):dz (l.foldl im aA)/\(l.foldl im aA).length<=aA.length+2*l.length:=by
 induction l generalizing aA with
 |nil=>exact⟨ha,by simp⟩
 |cons s l ih=>
  have hs:=h s (by simp)
  have h1:dz (lZ aA s):=by
   unfold lZ;split
   ·exact ha.append (dz.one (by omega) (by omega))
   ·exact ha
  have h2:dz (im aA s):=by
   unfold im qx;split
   ·exact h1.append (dz.one (by omega) (by omega))
   ·exact h1
  have q:=ih (im aA s) (fun y hy=>h y (by simp[hy])) h2;refine⟨q.1,?_⟩;have l1:=Xo aA s;have l2:(im aA s).length<=(lZ aA s).length+1:=(abd (lZ aA s) s).2;simp only[Dn,Av];omega
theorem agb(a:bF)(s:Int×Int)(c:Int):bV (im a s) c=(bV a c||(yI c&&(decide (s.1<=yS c)&&decide (yS c<=s.2)))):=by
 have h1:bV (lZ a s) c=(bV a c||(decide (65<=c)&&decide (c<=90)&&(decide (s.1<=c+32)&&decide (c+32<=s.2)))):=by
  unfold lZ;split
  ·rw[GQ,tc,vH]
   cases bV a c<;>simp
   rw[Be];simp;omega
  ·cases bV a c<;>simp
   omega
 have h2:bV (im a s) c=(bV (lZ a s) c||(decide (97<=c)&&decide (c<=122)&&(decide (s.1<=c-32)&&decide (c-32<=s.2)))):=by
  unfold im qx;split
  ·rw[GQ,tc,vH]
   cases bV (lZ a s) c<;>simp
   rw[Be];simp;omega
  ·cases bV (lZ a s) c<;>simp
   omega
 rw[h2,h1];unfold yI yS
 cases bV a c<;>simp
 rw[Be];by_cases h:97<=c
 ·simp[h];omega
 ·simp[h]
theorem af_(l:bF)(c:Int):bV (pK l) c=(bV l c||(yI c&&bV l (yS c))):=by
 have:∀(l aA:bF),bV (l.foldl im aA) c=(bV aA c||(yI c&&bV l (yS c))):=by
  intro l;induction l with
  |nil=>intro aA;simp[vH]
  |cons s l ih=>
   intro aA;rw[Dn,ih,agb,tc]
   cases bV aA c<;>cases yI c<;>simp
 exact this l l
theorem aga(l:bF)(h:∀s∈l,0<=s.1/\s.1<=s.2/\s.2<=1114111):∀s∈pK l,0<=s.1/\s.1<=s.2/\s.2<=1114111:=by
 have:∀(l aA:bF),(∀s∈l,0<=s.1/\s.1<=s.2/\s.2<=1114111)->(∀s∈aA,0<=s.1/\s.1<=s.2/\s.2<=1114111)->∀s∈l.foldl im aA,0<=s.1/\s.1<=s.2/\s.2<=1114111:=by
  intro l;induction l with
  |nil=>intro aA _ h;exact h
  |cons s l ih=>
   intro aA hl ha;refine ih (im aA s) (fun y hy=>hl y (by simp[hy])) ?_
   have h1:∀y∈lZ aA s,0<=y.1/\y.1<=y.2/\y.2<=1114111:=by
    unfold lZ;split
    ·intro y hy;rcases Al.1 hy with h|h
     ·exact ha y h
     ·simp at h;subst h;simp only;omega
    ·exact ha
   unfold im qx;split
   ·intro y hy;rcases Al.1 hy with h|h
    ·exact h1 y h
    ·simp at h;subst h;simp only;omega
   ·exact h1
 exact this l l h h
def uV(S sp:bF)(fo nt:Bool):Prop:=
 ∃l:bF,l.Perm (if fo then pK sp else sp)/\l.Pairwise (fun a b=>a.1<=b.1)/\S=if nt then xy (kY l)else kY l
theorem uV.anN{S sp:bF}(h:uV S sp fo nt)(hr:dz sp):dz S/\S.length<=3*sp.length+1:=by
 obtain⟨l,hp,_,rfl⟩:=h
 have hb:dz (if fo then pK sp else sp)/\(if fo then pK sp else sp).length<=3*sp.length:=by
  cases fo
  ·exact⟨hr,by simp;omega⟩
  ·have:=Tw sp sp hr hr;exact⟨this.1,by show(pK sp).length<=_;unfold pK;omega⟩
 have hl:dz l:=fun s hs=>hb.1 s (hp.mem_iff.1 hs)
 have hm:=QT l hl;have Qi:=hp.length_eq
 cases nt
 ·exact⟨hm.1,by simp only[Aq,if_false];omega⟩
 ·have:=al5 _ hm.1;exact⟨this.1,by simp only[if_true];omega⟩
theorem uV.has{S sp:bF}(h:uV S sp fo nt)(ho:∀s∈sp,0<=s.1/\s.1<=s.2/\s.2<=1114111):
 oX S/\∀c,0<=c->c<=1114111->bV S c=((bV sp c||(fo&&yI c&&bV sp (yS c))) !=nt):=by
 obtain⟨l,hp,hs,rfl⟩:=h
 have hb:(∀s∈ (if fo then pK sp else sp),0<=s.1/\s.1<=s.2/\s.2<=1114111)/\∀c,bV (if fo then pK sp else sp) c=(bV sp c||(fo&&yI c&&bV sp (yS c))):=by
  cases fo
  ·exact⟨ho,fun c=>by simp⟩
  ·exact⟨aga sp ho,fun c=>by simp[af_]⟩
 have hl:∀s∈l,0<=s.1/\s.1<=s.2/\s.2<=1114111:=fun s hs=>hb.1 s (hp.mem_iff.1 hs)
 have hm:=acL l hs (fun s h=>(hl s h).2.1);have hc:∀c,bV (kY l) c=(bV sp c||(fo&&yI c&&bV sp (yS c))):=fun c=>by rw[hm.2,ajV hp,hb.2]
 cases nt
 ·exact⟨hm.1,fun c _ _=>by simp only[Aq,if_false];rw[hc];simp⟩
 ·have dR:∀s∈kY l,0<=s.1/\s.2<=1114111:=by
   intro s qG;have h1:=hm.1.2 s qG;obtain⟨y,hy,hy2⟩:=Jr.1 ((hm.2 s.1).symm.trans (Jr.2 ⟨s,qG,by omega⟩));obtain⟨z,hz,c_⟩:=Jr.1 ((hm.2 s.2).symm.trans (Jr.2 ⟨s,qG,by omega⟩));have:=hl y hy;have:=hl z hz;omega
  have:=al4 _ hm.1 dR;exact⟨this.1,fun c c1 c2=>by simp only[if_true];rw[this.2 c c1 c2,hc];simp⟩
def xr:List UInt8:=[68,87,83]
def uq:List UInt8:=[98,66]
def M9:List UInt8:=[94,36]
def Jy:List UInt8:=[46]
def lY(r:Int):bF:=if r=100 then [(48,57)]else if r=119 then [(48,57),(65,90),(95,95),(97,122)]else [(9,10),(13,13),(32,32)]
def sF(r:Int):Int:=if r=94 then 0 else if r=36 then 1 else if r=98 then 2 else 3
inductive CT where
 |node (k:Int) (sp:bF) (fo nt:Bool) (ed gr lo hi:Int) (lz:Bool) (cP:List CT):CT
def kj(sp:bF)(fo nt:Bool):CT:=.node 0 sp fo nt 0 0 0 0 false []
def u9(e:Int):CT:=.node 1 [] false false e 0 0 0 false []
def iy(g:RG)(st:RS):bF:=
 if aG f_ (ay g st)=true/\aG my (ay g {st with next:=st.next+1})=true then lY (ay g {st with next:=st.next+1})
 else [((df g st).2,if aG xq (ay g (df g st).1)then(df g {(df g st).1 with next:=(df g st).1.next+1}).2 else(df g st).2)]
def rp(g:RG):Nat->RS->bF->bF
 |0,_,aA=>aA
 |m+1,st,aA=>if ay g st= -1\/aG pU (ay g st)=true then aA else rp g m (fU g st) (aA++iy g st)
def Ln(g:RG)(fo:Bool)(st:RS):CT:=
 kj (rp g (g.rs.length+1) (fU g (fq g tg st)) (iy g (fq g tg st))) fo (aG tg (ay g st))
def oh(fo:Bool)(q:Int):CT:=
 if aG uq q then u9 (sF q)
 else if aG my q then kj (lY q) fo false
 else if aG xr q then kj (lY (q+32)) fo true
 else kj [(qv q,qv q)] fo false
def IG(fo:Bool)(q:Int):CT:=if aG Jy q then kj [(10,10)] fo true else u9 (sF q)
def sC(g:RG)(bU:Bool->RS->CT)(fo:Bool)(st:RS):CT:=
 if aG ic (ay g st)=false then .node 2 [] false false 0 (st.aR+1) 0 0 false [bU fo (iu g st)]
 else if aG CG (ay g {st with next:=st.next+1})then .node 2 [] false false 0 (st.aR+1) 0 0 false [bU fo (iu g st)]
 else .node 2 [] false false 0 0 0 0 false [bU (aG lI (ay g {st with next:=st.next+1})||fo) (iu g st)]
def jG(g:RG)(bU:Bool->RS->CT)(fo:Bool)(st:RS):CT:=
 if aG G_ (ay g st)then sC g bU fo {st with next:=st.next+1}
 else if aG JB (ay g st)then Ln g fo {st with next:=st.next+1}
 else if aG f_ (ay g st)then oh fo (ay g {st with next:=st.next+1})
 else if aG M7 (ay g st)then IG fo (ay g st)
 else kj [(ay g st,ay g st)] fo false
def tO(a:CT)(lo hi:Int)(lz:Bool):CT:=.node 5 [] false false 0 0 lo hi lz [a]
def mh(g:RG)(a:CT)(st:RS):CT:=
 if aG JE (ay g st)then tO a 0 (-1) (aG ic (ay g {st with next:=st.next+1}))
 else if aG JC (ay g st)then tO a 1 (-1) (aG ic (ay g {st with next:=st.next+1}))
 else if aG ic (ay g st)then tO a 0 1 (aG ic (ay g {st with next:=st.next+1}))
 else if aG JA (ay g st)then
  tO a (eF g {st with next:=st.next+1}).2.1 (eF g {st with next:=st.next+1}).2.2 (aG ic (ay g (eF g {st with next:=st.next+1}).1))
 else a
def km(g:RG)(aE:RS->RS×PT)(bU:Bool->RS->CT)(fo:Bool):Nat->RS->List CT->List CT
 |0,_,aA=>aA
 |m+1,st,aA=>
  if ay g st= -1\/aG oG (ay g st)=true then aA
  else km g aE bU fo m (gJ g (dq g aE st).2 (dq g aE st).1).1 (aA++[mh g (jG g bU fo st) (dq g aE st).1])
def lJ(g:RG)(aE:RS->RS×PT)(bU:Bool->RS->CT)(fo:Bool)(st:RS):CT:=.node 3 [] false false 0 0 0 0 false (km g aE bU fo (g.rs.length+1) st [])
def jU(g:RG)(aE:RS->RS×PT)(bU:Bool->RS->CT)(fo:Bool):Nat->RS->List CT->List CT
 |0,_,aA=>aA
 |m+1,st,aA=>
  if aG tf (ay g st)then jU g aE bU fo m (dK g aE {st with next:=st.next+1}).1 (aA++[lJ g aE bU fo {st with next:=st.next+1}])else aA
def dh(g:RG):Nat->Bool->RS->CT
 |0,_,_=>kj [] false false
 |k+1,fo,st=>.node 4 [] false false 0 0 0 0 false (jU g (aQ g k) (dh g k) fo (g.rs.length+1) (dK g (aQ g k) st).1 [lJ g (aQ g k) (dh g k) fo st])
def pL(g:RG)(st:RS):CT:=dh g (g.rs.length+1) false st
theorem agt(g:RG)(m:Nat)(st:RS)(aA:bF)(h:ay g st= -1\/aG pU (ay g st)=true):rp g m st aA=aA:=by
 cases m with
 |zero=>rfl
 |succ m=>unfold rp;rw[if_pos h]
theorem TA(g:RG)(aE:RS->RS×PT)(bU:Bool->RS->CT)(fo:Bool)(m:Nat)(st:RS)(aA:List CT)(h:ay g st= -1\/aG oG (ay g st)=true):km g aE bU fo m st aA=aA:=by
 cases m with
 |zero=>rfl
 |succ m=>unfold km;rw[if_pos h]
theorem Z8(g:RG)(aE:RS->RS×PT)(bU:Bool->RS->CT)(fo:Bool)(m:Nat)(st:RS)(aA:List CT)(h:aG tf (ay g st)=false):jU g aE bU fo m st aA=aA:=by
 cases m with
 |zero=>rfl
 |succ m=>unfold jU;rw[if_neg (by rw[h];simp)]
theorem RB(r:Int):dz (lY r)/\1<=(lY r).length/\(lY r).length<=4:=by
 unfold lY;split
 ·exact⟨fun s h=>by simp at h;subst h;decide,by simp,by simp⟩
 ·split
  ·exact⟨fun s h=>by simp at h;rcases h with rfl|rfl|rfl|rfl<;>decide,by simp,by simp⟩
  ·exact⟨fun s h=>by simp at h;rcases h with rfl|rfl|rfl<;>decide,by simp,by simp⟩
theorem aaH{q:Int}(h: -1<=q/\q<=1114111): -1<=qv q/\qv q<=1114111:=by
 unfold qv;split
 ·omega
 ·split
  ·omega
  ·split<;>omega
theorem adM(hs:∀st:RS,-1<=ay g st/\ay g st<=1114111)(qu:Bool)(st:RS): -1<=(lT g qu st).2/\(lT g qu st).2<=1114111:=by
 unfold lT
 cases qu
 ·exact hs st
 ·exact aaH (hs st)
theorem Z9(hs:∀st:RS,-1<=ay g st/\ay g st<=1114111)(st:RS):dz (iy g st)/\1<=(iy g st).length/\(iy g st).length<=4:=by
 unfold iy;split
 ·exact RB _
 ·have h1:=adM hs (aG f_ (ay g st)) (fq g f_ st);refine⟨dz.one h1 ?_,by simp,by simp⟩;split
  ·exact adM hs _ _
  ·exact h1
