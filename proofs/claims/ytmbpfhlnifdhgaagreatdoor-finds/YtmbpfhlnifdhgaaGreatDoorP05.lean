/- The reference -/
import Derived.Test.YtmbpfhlnifdhgaaGreatDoorP04
set_option linter.unusedVariables false
set_option linter.unusedSimpArgs false
set_option maxRecDepth 100000
set_option maxHeartbeats 4000000
namespace Go.Proofs.YtmbpfhlnifdhgaaGreatDoor
open Go.Proofs.Tryz
open Go.RowKit
variable {fd nt:Bool} {s:ByteArray} {c:CI} {ax r:Int} {sp:List (Int×Int)} {nl:List (List UInt8)} {l:List (Nat×Int)} {S:List CI} {gs:List Int} {ts:List Nat} {D G b bl bs cap gb i lo m nb xb:Nat} {p:Nat×Int} {U U':Nat->Prop} {ao:Option Addr} {T:PT} {g:RG} {st:RS} {R k n:RT} {c':Sc} {x:TX} {v vn vs:Value} {w w':World}
theorem aaE(s:ByteArray)(i:Nat):(Utf8.decode s i).2<=4:=by
 rw[T_];unfold pk;repeat' split
 all_goals first|(simp;done)|(simp only;split<;>simp)
abbrev BZ:=Value×Value×Value
def qG:List BZ->List Value
 | []=>[]
 |q::qs=>q.1::q.2.1::q.2.2::qG qs
theorem aio(a b:List BZ):qG (a++b)=qG a++qG b:=by
 induction a with
 |nil=>rfl
 |cons q qs ih=>simp[qG,ih]
theorem aip(qs:List BZ)(i:Nat)(h:i<qs.length):(qG qs)[i*3]? =some qs[i].1/\(qG qs)[i*3+1]? =some qs[i].2.1/\(qG qs)[i*3+2]? =some qs[i].2.2:=by
 induction qs generalizing i with
 |nil=>simp at h
 |cons q qs ih=>
  cases i with
  |zero=>simp[qG]
  |succ i=>
   have hi:i<qs.length:=(by simpa using h);have:=ih i hi;simp only[qG,Am];rw[show(i+1)*3=i*3+1+1+1 by omega,show i*3+1+1+1+1=(i*3+1)+1+1+1 by omega,show i*3+1+1+1+2=(i*3+2)+1+1+1 by omega];simpa using this
def Fa(s:ByteArray)(p:Nat×Int):BZ:=(.int .i64 p.2,.int .i64 p.1,.int .i64 (Utf8.decode s p.1).2)
def fC(s:ByteArray):List (Nat×Int):=dK s (s.size+1) 0
theorem Tryz.akc:(prog.info? 103).map (fun i=>(i.zero,i.size,i.bytes))=some (some (.agg #[.int .i64 0,.int .i64 0,.int .i64 0]),3,24):=by kernel_rfl
theorem aoC(q:BZ)(j:Nat)(u:Value)(h: [q.1,q.2.1,q.2.2][j]? =some u):(w.alloc (.cells #[q.1,q.2.1,q.2.2] 103)).cell? (Addr.add ⟨w.heap.size,0,none⟩ j)=some u:=by
 have hb:=ay.new w #[q.1,q.2.1,q.2.2] 103;match j,h with
 |0,h=>simp at h;subst h;exact hb.cell 0
 |1,h=>simp at h;subst h;exact hb.cell 1
 |2,h=>simp at h;subst h;exact hb.cell 2
 |j+3,h=>simp at h
theorem aeO(s:ByteArray)(m pos:Nat)(hm:0<m)(h:pos<s.size):dK s m pos=(pos,((Utf8.decode s pos).1:Int))::dK s (m-1) (pos+(Utf8.decode s pos).2):=by
 obtain⟨m',rfl⟩:∃m',m=m'+1:=⟨m-1,by omega⟩
 rw[show dK s (m'+1) pos=if pos<s.size then(pos,((Utf8.decode s pos).1:Int))::dK s m' (pos+(Utf8.decode s pos).2)else []from rfl,if_pos h];rfl
theorem XQ(s:ByteArray)(w:World)(hs:s.size<=1000):
 Calls prog 16 #[.string s,.bool false] w fun e w'=>∃v,e=.returned v/\w'.ownsRow w.heap.size 103 3 v (fC s).length (qG ((fC s).map (Fa s)))/\I aq w w':=by
 obtain⟨i0,b_,cE,cI,cH⟩:=A7 Tryz.akc;unfold fC;go_in;go_wp2_with fail;go_loopg [5,6] s.size (fun kk v a wr=>∃(pos m:Nat) (l:List (Nat×Int)) (qs:List BZ),a=.int .i64 pos/\wr.ownsRow w.heap.size 103 3 v qs.length (qG qs)/\Hid (qs=l.map (Fa s))/\Hid (l++dK s m pos=dK s (s.size+1) 0)/\kk=s.size-pos/\kk<m/\qs.length<=pos/\qs.length<=s.size/\pos<=s.size+4/\I aq w wr)
 case atStart=>exact⟨0,s.size+1,[],[],rfl,At _ _ _ _,rfl,rfl,rfl,by omega,by simp,by simp,by omega,I.refl _ _⟩
 case round=>
  obtain⟨pos,m,l,qs,rfl,a8,HQ,HL,rfl,hm,GK,hqs,Jh,hk⟩:=hrel;have aqj:=hk.size;by_cases ar:pos<s.size
  ·have Vy:(pos:Int)<(s.size:Int):=(by omega);have mY:=Ph s pos ar;have P_:=aaE s pos;have iU:Hid (dK s m pos=(pos,((Utf8.decode s pos).1:Int))::dK s (m-1) (pos+(Utf8.decode s pos).2)):=aeO s m pos (by omega) ar;go_wp2_with fail;refine(UH s pos _ ar hs).mono ?_;rintro e w2 ⟨rfl,aG⟩;have HT:Hid (Fa s (pos,((Utf8.decode s pos).1:Int))=(.int .i64 (Utf8.decode s pos).1,.int .i64 pos,.int .i64 (Utf8.decode s pos).2)):=rfl;generalize(Utf8.decode s pos).1=c at iU HT⊢;generalize(Utf8.decode s pos).2=wd at mY P_ iU HT⊢;have xt:=dh a8 aG (fun _ _ hx=>hx);have s2:=aG.size;go_wp2_with (at_builtin;refine Ad _ rfl _ _ 56 rfl w.heap.size 103 i0 _ 3 24 underlying56 b_ cE cI cH rfl (by decide) _ _ _ rfl ((xt.alloc _).alloc _) ⟨w2.heap.size+1,0,none⟩ 1 1 [.int .i64 (c:Int),.int .i64 (pos:Int),.int .i64 (wd:Int)] rfl rfl ?c1 ?c2 ?c3 ?c4 ?c5 ?_)
   case c1=>
    have:=@aoC (w2.alloc (.cells #[.int .i64 (c:Int),.int .i64 (pos:Int),.int .i64 (wd:Int)] 103)) (.int .i64 (c:Int),.int .i64 (pos:Int),.int .i64 (wd:Int));rw[cR]at this;exact this
   case c2=>intro u hu;simp at hu;rcases hu with rfl|rfl|rfl<;>rfl
   case c3=>unfold maxLen;omega
   case c4=>omega
   case c5=>simp;omega
   intro v' w7 bE aX cJ bH
   have b7:ay w7 w2.heap.size #[.int .i64 (c:Int),.int .i64 (pos:Int),.int .i64 (wd:Int)] 103:=by
    have b2:=(ay.new w2 #[.int .i64 (c:Int),.int .i64 (pos:Int),.int .i64 (wd:Int)] 103).alloc (.cells #[.int .i64 (c:Int),.int .i64 (pos:Int),.int .i64 (wd:Int)] 103);exact b2.kept ((I.refl (fun i=>u5.ownBlock=some i) _).dn aX (fun j hj=>Or.inl hj)) (fun hx=>by have:=(cA xt hx).2;omega)
   have k7:I aq w w7:=(((hk.trans aG).alloc _).alloc _).dn aX (fun j hj=>Or.inr (cA xt hj).1)
   have vy:w7.ownsRow w.heap.size 103 3 v' (qs++[((Value.int .i64 (c:Int),Value.int .i64 (pos:Int),Value.int .i64 (wd:Int)):BZ)]).length (qG (qs++[((Value.int .i64 (c:Int),Value.int .i64 (pos:Int),Value.int .i64 (wd:Int)):BZ)])):=by
    rw[aio];simpa[qG]using bE
   clear bE aX cJ bH a8 xt hk aG;have d2:w7.cell? ⟨w2.heap.size,2,none⟩=some (.int .i64 (wd:Int)):=b7.cell 2;go_wp2_with fail;go_roundg (s.size-(pos+wd))
   case measure=>omega
   case rel=>
    refine⟨pos+wd,m-1,l++[(pos,(c:Int))],_,by go_num,vy,?_,?_,rfl,by omega,by simp;omega,by simp;omega,by omega,k7⟩
    ·show _=_
     rw[Cv,Bt,Ej,HT.out,HQ.out]
    ·show _=_
     rw[<-HL.out,iU.out];simp
  ·have H6:Hid (l=dK s (s.size+1) 0):=by
    show _=_
    have:=HL.out;rw[XT s m pos ar,C8]at this;exact this
   obtain⟨ao,cc,hv⟩:=dY a8;rw[hv]at a8⊢;go_wp2_with fail;go_ret;refine⟨_,rfl,?_,hk⟩;rw[<-H6.out,<-HQ.out];have:l.length=qs.length:=by rw[HQ.out];simp
   rw[this];exact a8
def p8(s:ByteArray):Int:=
 match(fC s).find? (fun p=>!oS s p.1)with
 |some p=>p.1
 |none=> -1
theorem ag6{r:List (Nat×Int)}(hl:∀p∈l,(!oS s p.1)=false)(h:l++p::r=fC s)(hp:oS s p.1=false):p8 s=p.1:=by
 unfold p8;rw[<-h,List.find?_append,List.find?_eq_none.2 (fun p hp=>by simpa using hl p hp)];simp[hp]
theorem ag7(hl:∀p∈l,(!oS s p.1)=false)(h:l=fC s):p8 s= -1:=by
 unfold p8;rw[<-h,List.find?_eq_none.2 (fun p hp=>by simpa using hl p hp)]
theorem TM(s:ByteArray)(w:World)(hs:s.size<=1000):
 Calls prog 14 #[.string s] w fun e w'=>e=.returned (.int .i64 (p8 s))/\I aq w w':=by
 go_in
 go_wp2_with fail
 go_loopg [3] s.size (fun kk a wr=>∃(pos m:Nat) (l:List (Nat×Int)),a=.int .i64 pos/\Hid (∀p∈l,(!oS s p.1)=false)/\Hid (l++dK s m pos=dK s (s.size+1) 0)/\kk=s.size-pos/\kk<m/\pos<=s.size+4/\I aq w wr)
 case atStart=>exact⟨0,s.size+1,[],rfl,fun p hp=>by simp at hp,rfl,rfl,by omega,by omega,I.refl _ _⟩
 case round=>
  obtain⟨pos,m,l,rfl,HO,HL,rfl,hm,Jh,hk⟩:=hrel;by_cases ar:pos<s.size
  ·have Vy:(pos:Int)<(s.size:Int):=(by omega);have mY:=Ph s pos ar;have P_:=aaE s pos;have iU:Hid (dK s m pos=(pos,((Utf8.decode s pos).1:Int))::dK s (m-1) (pos+(Utf8.decode s pos).2)):=aeO s m pos (by omega) ar
   cases bC:oS s pos
   ·go_wp2_with fail
    refine(UH s pos _ ar hs).mono ?_;rintro e w2 ⟨rfl,aG⟩;rw[bC];generalize(Utf8.decode s pos).1=c at iU⊢;generalize(Utf8.decode s pos).2=wd at mY P_ iU⊢;go_wp2_with fail;go_ret;refine⟨?_,(hk.trans aG).alloc _⟩;have:=ag6 (p:=(pos,(c:Int))) (r:=dK s (m-1) (pos+wd)) HO.out (iU.out▸HL.out) bC;rw[this];rfl
   ·go_wp2_with fail
    refine(UH s pos _ ar hs).mono ?_;rintro e w2 ⟨rfl,aG⟩;rw[bC];generalize(Utf8.decode s pos).1=c at iU⊢;generalize(Utf8.decode s pos).2=wd at mY P_ iU⊢;go_wp2_with fail;go_roundg (s.size-(pos+wd))
    case measure=>omega
    case rel=>
     refine⟨pos+wd,m-1,l++[(pos,(c:Int))],by go_num,?_,?_,rfl,by omega,by omega,(hk.trans aG).alloc _⟩
     ·intro p hp;rcases A2.1 hp with hp|hp
      ·exact HO.out p hp
      ·simp at hp;subst hp;simp[bC]
     ·show _=_
      rw[<-HL.out,iU.out];simp
  ·go_wp2_with fail
   go_ret
   refine⟨?_,hk⟩;have:=ag7 HO.out (by have:=HL.out;rw[XT s m pos ar,C8]at this;exact this);rw[this];rfl
theorem fY{m:M}{o n:Int}{z:Bool}{i:Int}(h:some (⟨m,o,n,z⟩:Sc)=some c')(h1:0<=o/\o<=i+1)(h2:0<=n/\n<=8)(h3:(m=.low\/m=.high)->n<=2):c'.aV (i+1):=by
 cases h;exact⟨h1.1,h1.2,h2.1,h2.2,h3⟩
theorem NR{c:Sc}{i:Int}(h:nk c r=some c')(h1:0<=c.o/\c.o<=i)(h2:0<=c.n/\c.n<=8):c'.aV (i+1):=by
 unfold nk at h;split at h
 ·exact fY h (by omega) h2 (by simp)
 split at h
 ·exact fY h (by omega) h2 (by simp)
 split at h
 ·split at h
  ·exact fY h (by omega) h2 (by simp)
  ·cases h
 split at h
 ·exact fY h (by omega) h2 (by simp)
 split at h
 ·exact fY h (by omega) h2 (by simp)
 split at h
 ·exact fY h (by omega) h2 (by simp)
 split at h
 ·exact fY h (by omega) h2 (by simp)
 split at h
 ·exact fY h (by omega) h2 (by simp)
 split at h
 ·cases h
 ·exact fY h (by omega) h2 (by simp)
theorem RZ{c:Sc}{i:Int}(h:sw c r=some c')(h1:0<=c.o/\c.o<=i)(h2:0<=c.n/\c.n<=8):c'.aV (i+1):=by
 unfold sw at h;split at h
 ·exact fY h (by omega) h2 (by simp)
 split at h
 ·cases h
 ·exact fY h (by omega) h2 (by simp)
theorem anr{c:Sc}{i:Int}(h:eB c r=some c')(hc:c.aV i):c'.aV (i+1):=by
 obtain⟨m,o,n,z⟩:=c;obtain⟨h1,h2,h3,h4,h5⟩:=hc;simp only at h1 h2 h3 h4 h5;have a1:0<=o/\o<=i:=⟨h1,h2⟩;have a2:0<=n/\n<=8:=⟨h3,h4⟩
 cases m
 case begin=>exact NR h a1 a2
 case more=>exact NR h a1 a2
 case open_=>
  simp only[eB]at h;split at h
  ·exact fY h (by omega) a2 (by simp)
  ·exact NR h a1 a2
 case query=>
  simp only[eB,pN]at h;split at h
  ·exact fY h (by omega) a2 (by simp)
  split at h
  ·exact fY h (by omega) a2 (by simp)
  split at h
  ·exact fY h (by omega) (by omega) (by simp)
  ·cases h
 case colon=>
  simp only[eB,pN]at h;split at h
  ·exact fY h (by omega) a2 (by simp)
  ·cases h
 case name=>
  simp only[eB,pN]at h;split at h
  ·rename_i hx
   simp only[Bi,B7]at hx;exact fY h (by omega) (by omega) (by simp)
  split at h
  ·exact fY h (by omega) a2 (by simp)
  ·cases h
 case escape=>
  simp only[eB]at h;split at h
  ·exact fY h (by omega) a2 (by simp)
  ·cases h
 case low=>
  have h6:=h5 (by simp);simp only[eB,iK]at h;split at h
  ·split at h
   ·cases h
   ·rename_i hx
    simp only[Bo,Ai,Bi,not_or]at hx;exact fY h (by omega) (by omega) (by omega)
  split at h
  ·exact fY h (by omega) (by omega) (by simp)
  split at h
  ·exact fY h (by omega) a2 (by simp)
  ·cases h
 case high=>
  have h6:=h5 (by simp);simp only[eB,iK]at h;split at h
  ·split at h
   ·cases h
   ·rename_i hx
    simp only[Bo,Ai,Bi,not_or]at hx;exact fY h (by omega) (by omega) (by omega)
  split at h
  ·exact fY h (by omega) (by omega) (by simp)
  split at h
  ·exact fY h (by omega) a2 (by simp)
  ·cases h
 case times=>
  simp only[eB]at h;split at h
  ·exact fY h (by omega) a2 (by simp)
  split at h
  ·exact fY h (by omega) a2 (by simp)
  split at h
  ·exact fY h (by omega) a2 (by simp)
  split at h
  ·exact fY h (by omega) (by omega) (by simp)
  ·exact NR h a1 a2
 case lazy=>
  simp only[eB]at h;split at h
  ·exact fY h (by omega) a2 (by simp)
  ·exact NR h a1 a2
 case class_=>
  simp only[eB,gD]at h;split at h
  ·exact fY h (by omega) a2 (by simp)
  split at h
  ·cases h
  ·exact RZ h a1 a2
 case first=>
  simp only[eB,gD]at h;split at h
  ·cases h
  ·exact RZ h a1 a2
 case items=>
  simp only[eB,gD]at h;split at h
  ·exact fY h (by omega) a2 (by simp)
  ·exact RZ h a1 a2
 case one=>
  simp only[eB,gD]at h;split at h
  ·exact fY h (by omega) a2 (by simp)
  split at h
  ·exact fY h (by omega) a2 (by simp)
  ·exact RZ h a1 a2
 case upto=>
  simp only[eB,gD]at h;split at h
  ·exact fY h (by omega) a2 (by simp)
  split at h
  ·cases h
  ·exact fY h (by omega) a2 (by simp)
 case Hu=>
  simp only[eB,gD]at h;split at h
  ·exact fY h (by omega) a2 (by simp)
  ·cases h
 case CL=>
  simp only[eB,gD]at h;split at h
  ·exact fY h (by omega) a2 (by simp)
  split at h
  ·exact fY h (by omega) a2 (by simp)
  ·cases h
def kU:M->Bool
 |.begin|.more|.times|.lazy=>true
 |_=>false
def jU:Sc:=⟨.begin,0,0,false⟩
def jM(n:Int):Sc->List (Nat×Int)->Int
 |c,[]=>if kU c.m&&c.o==0 then-1 else n
 |c,p::l=>match eB c p.2 with
  |some c'=>jM n c' l
  |none=>p.1
theorem abk{n:Int}{c:Sc}(h:eB c p.2=some c'):jM n c (p::l)=jM n c' l:=by
 rw[show jM n c (p::l)=match eB c p.2 with|some c'=>jM n c' l|none=>(p.1:Int)from rfl,h]
theorem abj{n:Int}{c:Sc}(h:eB c p.2=none):jM n c (p::l)=p.1:=by
 rw[show jM n c (p::l)=match eB c p.2 with|some c'=>jM n c' l|none=>(p.1:Int)from rfl,h]
structure qx(w:World)(lo b:Nat)(ao:Option Addr)(l:List (Nat×Int)):Prop where
 isSome:l≠ []->ao=some ⟨b,0,none⟩/\lo<=b/\b<w.heap.size
 cells:∀i,(h:i<l.length)->w.cell? ⟨b,i*3,none⟩=some (.int .i64 l[i].2)/\w.cell? ⟨b,i*3+1,none⟩=some (.int .i64 l[i].1)
theorem qx.kept{S:Nat->Prop}(h:qx w lo b ao l)(k:I S w w')(hs:l≠ []->¬S b):qx w' lo b ao l:=by
 by_cases hl:l=[]
 ·subst hl;exact⟨fun h=>absurd rfl h,fun i h=>by simp at h⟩
 ·obtain⟨h1,h2,h3⟩:=h.isSome hl;have hns:=hs hl;exact⟨fun _=>⟨h1,h2,A3 h3 k.size⟩,fun i hi=>⟨(k.cell (p:=⟨b,i*3,none⟩) h3 hns).trans (h.cells i hi).1,(k.cell (p:=⟨b,i*3+1,none⟩) h3 hns).trans (h.cells i hi).2⟩⟩
theorem qx.of(h:w.ownsRow lo 103 3 v l.length (qG (l.map (Fa s)))):∃b ao cap,v=.slice ao l.length cap/\qx w lo b ao l:=by
 rcases h.2 with⟨rfl,h0⟩|⟨g,cap,aU,rfl,a1,a2,a3,a4,a5,a6⟩
 ·have e:l=[]:=Az.1 h0;subst e;exact⟨0,none,0,rfl,fun h=>absurd rfl h,fun i h=>by simp at h⟩
 ·refine⟨g,_,cap,rfl,fun _=>⟨rfl,a1,(Ah.1 a2).1⟩,fun i hi=>?_⟩;have hf:=aip (l.map (Fa s)) i (by simpa using hi)
  have ki:∀j x,j<l.length*3->(qG (l.map (Fa s)))[j]? =some x->w.cell? ⟨g,j,none⟩=some x:=by
   intro j x hj hx;rw[<-a6,Al hj]at hx;simp only[World.cell?,a2];simpa using hx
  have e:(l.map (Fa s))[i]'(by simpa using hi)=Fa s l[i]:=by simp
  rw[e]at hf;exact⟨ki _ _ (by omega) hf.1,ki _ _ (by omega) hf.2.1⟩
theorem abm(s:ByteArray)(w:World)(hs:s.size<=300)(dA:(fC s).length<=s.size):
 Calls prog 15 #[.string s] w fun e w'=>e=.returned (.int .i64 (jM s.size jU (fC s)))/\I aq w w':=by
 go_in
 go_wp2_with fail
 refine(XQ s w (by omega)).mono ?_;rintro e w1 ⟨v,rfl,a8,aI⟩;obtain⟨b,ao,cap,hv,hG⟩:=qx.of a8;rw[hv];clear a8 hv;generalize td:fC s=l at*;have H9:Hid (fC s=l):=td;clear td;go_wp2_with fail;have hG1:=hG.kept ((I.refl aq w1).alloc (.cells #[.string ⟨#[98,101,103,105,110]⟩,.int .i64 0,.int .i64 0,.bool false] 108)) (fun _ hi=>hi.elim);have az:mP (w1.alloc (.cells #[.string ⟨#[98,101,103,105,110]⟩,.int .i64 0,.int .i64 0,.bool false] 108)) w1.heap.size jU:=ay.new _ _ _;have aG:I aq w (w1.alloc (.cells #[.string ⟨#[98,101,103,105,110]⟩,.int .i64 0,.int .i64 0,.bool false] 108)):=aI.alloc _;have lS:w.heap.size<=w1.heap.size:=aI.size;have gj:l≠ []->b<w1.heap.size:=fun h=>(hG.isSome h).2.2
 go_loopg [5] l.length (fun kk i wr=>∃(j:Nat) (c:Sc),i=.int .i64 j/\j<=l.length/\kk=l.length-j/\mP wr w1.heap.size c/\Hid (c.aV j)/\Hid (jM s.size c (l.drop j)=jM s.size jU l)/\qx wr w.heap.size b ao l/\I aq w wr)
 case atStart=>exact⟨0,jU,rfl,Aw _,rfl,az,by refine⟨?_,?_,?_,?_,?_⟩<;>simp[jU],rfl,hG1,aG⟩
 case round=>
  obtain⟨j,c,rfl,hj,rfl,hS,HI,HF,US,hk⟩:=hrel;clear hG hG1 az aG aI;by_cases ar:j<l.length
  ·have Vy:(j:Int)<(l.length:Int):=(by omega);obtain⟨rfl,b1,b2⟩:=US.isSome (by intro e;subst e;simp at ar);have apY:=gj (by intro e;subst e;simp at ar);have q0:=(US.cells j ar).1;have HD:Hid (l.drop j=l[j]::l.drop (j+1)):=Bq ar;go_wp2_with fail;refine(an8 hS _ j (by omega) HI.out).mono ?_;rintro e w2 ⟨he,aG,oJ⟩;rw[he];clear he;have Ga:=US.kept aG (fun _ hi=>by omega);have qT:I aq w w2:=hk.bY aG (fun i hi he=>by omega)
   cases cS:eB c l[j].2 with
   |none=>
    have q1:=(Ga.cells j ar).2;go_wp2_with fail;go_ret;refine⟨?_,qT⟩;rw[H9.out,<-HF.out,HD.out,abj cS];rfl
   |some c'=>
    have fN:=oJ c' cS;go_wp2_with fail;go_roundg (l.length-(j+1))
    case measure=>omega
    case rel=>
     refine⟨j+1,c',by go_num,by omega,rfl,fN,?_,?_,Ga,qT⟩
     ·have:=anr cS HI.out;show c'.aV _
      simpa using this
     ·show _=_
      rw[<-HF.out,HD.out,abk cS]
  ·have ej:j=l.length:=(by omega);subst ej;have c0:wr.cell? ⟨w1.heap.size,0,none⟩=some (.string c.m.str):=hS.cell 0;have c1:wr.cell? ⟨w1.heap.size,1,none⟩=some (.int .i64 c.o):=hS.cell 1
   have HV:Hid (jM s.size jU l=if kU c.m&&c.o==0 then-1 else(s.size:Int)):=by
    show _=_
    rw[<-HF.out,List.drop_length];rfl
   cases hd:kU c.m
   ·have KC:Hid (jM s.size jU l=(s.size:Int)):=by show _=_;rw[HV.out,hd];rfl
    obtain⟨m,o,n,z⟩:=c
    cases m<;>simp only[kU]at hd<;>first|(cases hd;done)|skip
    all_goals
     simp only[M.str]at c0;go_wp2_with fail;go_ret;exact⟨by rw[H9.out,KC.out];rfl,hk⟩
   ·obtain⟨m,o,n,z⟩:=c
    cases ho:(o==0)
    ·have vx:(o !=0)=true:=by simp at ho;simp[ho]
     have KC:Hid (jM s.size jU l=(s.size:Int)):=by show _=_;rw[HV.out,hd,ho];rfl
     cases m<;>simp only[kU]at hd<;>first|(cases hd;done)|skip
     all_goals
      simp only[M.str]at c0;go_wp2_with fail;go_ret;exact⟨by rw[H9.out,KC.out];rfl,hk⟩
    ·have vx:(o !=0)=false:=by simp at ho;simp[ho]
     have KC:Hid (jM s.size jU l= -1):=by show _=_;rw[HV.out,hd,ho];rfl
     cases m<;>simp only[kU]at hd<;>first|(cases hd;done)|skip
     all_goals
      simp only[M.str]at c0;go_wp2_with fail;go_ret;exact⟨by rw[H9.out,KC.out];rfl,hk⟩
structure TG where
 b:Nat
 bl:Nat
 ao:Option Addr
 cap:Nat
 l:List (Nat×Int)
def jR(o:Option Int):Int:=o.getD (-1)
def tK(st:RS)(nl:List (List UInt8)):Prop:=nl.length=st.aC/\(∀x,x≠ []->st.names.any (fun p=>p.1==x)=nl.any (fun y=>y==x))/\(∀p,p∈st.names->p.1≠ [])/\(st.au.kX=none->∀x i,x≠ []->((x,i) ∈st.names↔∃j,i=j+1/\nl[j]? =some x))
structure bc(w:World)(t:TG)(g:RG)(st:RS)(ax:Int)(vn:Value)(nl:List (List UInt8)):Prop where
 ae:ay w t.b #[.slice t.ao t.l.length t.cap,.int .i64 st.next,.int .i64 ax,vn,.int .i64 (jR st.au.rep),.int .i64 (jR st.au.cls),.int .i64 (jR st.au.kX)] 59
 gl:qx w 0 t.bl t.ao t.l
 ne:t.l≠ []->t.bl≠t.b
 bl:t.l≠ []->t.bl<t.b
 rs:g.rs=t.l.map (·.2)
 ps:∀i,(h:i<t.l.length)->g.ps.getD i 0=t.l[i].1
 len:t.l.length<=300
 next:st.next<=t.l.length
 names:w.ownsRow (t.b+1) 9 1 vn nl.length (nl.map fun x=>.string ⟨x.toArray⟩)
 l8:tK st nl
 aC:st.aC<=st.next
 kO:0<=ax/\ax<=st.next
 pr:∀i,0<=g.ps.getD i 0/\g.ps.getD i 0<=300
 mj:(∀p,st.au.rep=some p->0<=p)/\(∀p,st.au.cls=some p->0<=p)/\(∀p,st.au.kX=some p->0<=p)
theorem bc.nZ{t:TG}(h:bc w t g st ax vn nl):g.rs.length=t.l.length:=by rw[h.rs];simp
theorem bc.see{t:TG}(h:bc w t g st ax vn nl)(ar:st.next<t.l.length):aa g st=t.l[st.next].2:=by
 unfold aa;rw[h.rs];simp[List.getD,Ab ar]
theorem bc.gR{t:TG}(h:bc w t g st ax vn nl):t.b<w.heap.size:=h.ae.lt
def TG.use(t:TG)(vn:Value):Nat->Prop:=fun k=>k=t.b\/(t.l≠ []/\k=t.bl)\/vn.ownBlock=some k
theorem bc.kept{t:TG}{S:Nat->Prop}(h:bc w t g st ax vn nl)(k:I S w w')(hs:∀i,t.use vn i->¬S i):bc w' t g st ax vn nl:=
 {h with
  ae:=h.ae.kept k (hs _ (Or.inl rfl))
  gl:=h.gl.kept k (fun hl=>hs _ (Or.inr (Or.inl ⟨hl,rfl⟩)))
  names:=dh h.names k (fun b hb=>hs _ (Or.inr (Or.inr hb)))}
theorem bc.nil{t:TG}(h:bc w t g st ax vn nl)(k:I aq w w'):bc w' t g st ax vn nl:=h.kept k (fun _ _ hx=>hx)
theorem bc.oZ{t:TG}(h:bc w t g st ax vn nl)(m:Nat)(hm:m<=t.l.length)(hg:st.next<=m):bc (w.setCell ⟨t.b,1,none⟩ (.int .i64 m)) t g {st with next:=m} ax vn nl:=by
 have k:I (fun i=>i=t.b) w (w.setCell ⟨t.b,1,none⟩ (.int .i64 m)):=(I.refl (fun i=>i=t.b) w).setCell (p:=⟨t.b,1,none⟩) (Or.inl rfl) _
 exact{h with
  ae:=h.ae.setCell 1 _
  gl:=h.gl.kept k (fun hl=>h.ne hl)
  names:=dh h.names k (fun b hb he=>by have:=(cA h.names hb).1;omega)
  next:=hm
  l8:=h.l8
  aC:=by have:=h.aC;simp;omega
  kO:=by have:=h.kO;simp;omega
  mj:=h.mj}
theorem dr{t:TG}(i:Nat)(v:Value):I (fun j=>j=t.b) w (w.setCell ⟨t.b,i,none⟩ v):=(I.refl (fun j=>j=t.b) w).setCell (p:=⟨t.b,i,none⟩) (Or.inl rfl) v
theorem agi{t:TG}(h:bc w t g st ax vn nl):
 Calls prog 35 #[.pointer (some ⟨t.b,0,none⟩)] w fun e w'=>e=.returned (.int .i64 (aa g st))/\I aq w w':=by
 have c0:w.cell? ⟨t.b,0,none⟩=some (.slice t.ao t.l.length t.cap):=h.ae.cell 0;have c1:w.cell? ⟨t.b,1,none⟩=some (.int .i64 st.next):=h.ae.cell 1;have hl:=h.len;have oG:=h.nZ;by_cases ar:st.next<t.l.length
 ·have hI:(st.next:Int)<(t.l.length:Int):=by omega
  obtain⟨eu,_,_⟩:=h.gl.isSome (by intro e;rw[e]at ar;simp at ar);rw[eu]at c0;have q0:=(h.gl.cells st.next ar).1;rw[<-h.see ar]at q0;clear h eu;go_in;go_wp2;go_region;all_goals go_wp2
  all_goals go_region
  all_goals go_wp2
  all_goals go_ret
  all_goals exact⟨rfl,(I.refl _ _).drew.drew⟩
 ·have hI:¬(st.next:Int)<(t.l.length:Int):=by omega
  have hs:aa g st= -1:=XU (by omega);rw[hs];clear h hs;go_in;go_wp2;go_region;all_goals go_wp2
  all_goals go_ret
  all_goals exact⟨rfl,(I.refl _ _).drew⟩
theorem agB{t:TG}(h:bc w t g st ax vn nl):
 Calls prog 90 #[.pointer (some ⟨t.b,0,none⟩)] w fun e w'=>e=.returned (.int .i64 (aa g {st with next:=st.next+1}))/\I aq w w':=by
 have c0:w.cell? ⟨t.b,0,none⟩=some (.slice t.ao t.l.length t.cap):=h.ae.cell 0;have c1:w.cell? ⟨t.b,1,none⟩=some (.int .i64 st.next):=h.ae.cell 1;have hl:=h.len;have oG:=h.nZ;have ic:=h.next
 by_cases ar:st.next+1<t.l.length
 ·have hI:(st.next:Int)+1<(t.l.length:Int):=by omega
  obtain⟨eu,_,_⟩:=h.gl.isSome (by intro e;rw[e]at ar;simp at ar);rw[eu]at c0;have q0:=(h.gl.cells (st.next+1) ar).1
  have hs:aa g {st with next:=st.next+1}=t.l[st.next+1].2:=by
   unfold aa;rw[h.rs];simp[List.getD,Ab ar]
  rw[<-hs]at q0;clear h eu hs;go_in;go_wp2;go_region;all_goals go_wp2
  all_goals go_region
  all_goals go_wp2
  all_goals go_ret
  all_goals exact⟨rfl,(I.refl _ _).drew.drew⟩
 ·have hI:¬(st.next:Int)+1<(t.l.length:Int):=by omega
  have hs:aa g {st with next:=st.next+1}= -1:=XU (by simp;omega);rw[hs];clear h hs;go_in;go_wp2;go_region;all_goals go_wp2
  all_goals go_ret
  all_goals exact⟨rfl,(I.refl _ _).drew⟩
theorem ET(g:RG)(st:RS):(mJ g st).au.form≠none:=by
 unfold mJ RS.bG bu.bG
 cases h:st.au.form with
 |none=>simp[bu.get,h,bu.put]
 |some p=>simp[bu.get,h]
theorem jE{l:List UInt8}(h:(di g l st).au.form=none):ak l (aa g st)=true/\st.au.form=none/\di g l st={st with next:=st.next+1}:=by
 unfold di at h⊢
 cases hc:ak l (aa g st)
 ·rw[hc]at h;exact absurd h (ET g st)
 ·rw[hc]at h;exact⟨rfl,h,rfl⟩
theorem Rl{l:List UInt8}(h:(lF g l st).au.form=none):aa g st≠ -1/\ak l (aa g st)=false/\st.au.form=none/\lF g l st={st with next:=st.next+1}:=by
 unfold lF at h⊢;by_cases hc:aa g st= -1\/ak l (aa g st)=true
 ·rw[if_pos hc]at h;exact absurd h (ET g st)
 ·rw[if_neg hc]at h⊢;rw[not_or]at hc;exact⟨hc.1,by simpa using hc.2,h,rfl⟩
theorem Nq{e p:Int}(he:e≠3):(st.bG e p).au.form=st.au.form:=by
 unfold RS.bG bu.bG;simp only;split
 ·rfl
 ·unfold bu.put;repeat' split
  all_goals first|rfl|(exfalso;omega)
theorem E7(g:RG)(l:List UInt8)(st:RS):(bT g l st).au=st.au:=by unfold bT;split<;>rfl
theorem zi(r:Int):ak kF r=tP r:=by
 rw[Av];simp[ak,kF,tP];omega
theorem dI{t:TG}(h:bc w t g st ax vn nl):
 Calls prog 35 #[.pointer (some ⟨t.b,0,none⟩)] w fun e w'=>e=.returned (.int .i64 (aa g st))/\bc w' t g st ax vn nl/\I (fun i=>i=t.b) w w':=
 (agi h).mono fun e w' ⟨he,hk⟩=>⟨he,h.nil hk,hk.mono (fun _ hx=>hx.elim)⟩
theorem ZI{t:TG}(h:bc w t g st ax vn nl):
 Calls prog 90 #[.pointer (some ⟨t.b,0,none⟩)] w fun e w'=>e=.returned (.int .i64 (aa g {st with next:=st.next+1}))/\bc w' t g st ax vn nl/\I (fun i=>i=t.b) w w':=
 (agB h).mono fun e w' ⟨he,hk⟩=>⟨he,h.nil hk,hk.mono (fun _ hx=>hx.elim)⟩
theorem bc.step{t:TG}(h:bc w t g st ax vn nl)(ar:st.next<t.l.length):bc (w.setCell ⟨t.b,1,none⟩ (.int .i64 ((st.next:Int)+1))) t g {st with next:=st.next+1} ax vn nl:=by
 have:=h.oZ (st.next+1) (by omega) (by omega);simpa using this
theorem aeB{t:TG}(h:bc w t g st ax vn nl)(ar:st.next<t.l.length)(aF:aa g st≠92):
 Calls prog 92 #[.pointer (some ⟨t.b,0,none⟩)] w fun e w'=>e=.returned (.int .i64 (aa g st))/\bc w' t g {st with next:=st.next+1} ax vn nl/\I (fun i=>i=t.b) w w':=by
 have hb:(aa g st !=92)=true:=by simp[aF]
 have hl:=h.len;go_in;go_wp2_with fail;refine(dI h).mono ?_;rintro e w1 ⟨rfl,h1,aI⟩;have c1:w1.cell? ⟨t.b,1,none⟩=some (.int .i64 st.next):=h1.ae.cell 1;have f1:=h1.ae.frozen 1;go_wp2_with fail;go_ret;exact⟨rfl,h1.step ar,aI.trans (dr 1 _)⟩
theorem aeC{t:TG}(h:bc w t g st ax vn nl)(ar:st.next+1<t.l.length)(abO:aa g st=92):
 Calls prog 92 #[.pointer (some ⟨t.b,0,none⟩)] w fun e w'=>e=.returned (.int .i64 (lr (aa g {st with next:=st.next+1})))/\bc w' t g {st with next:=st.next+2} ax vn nl/\I (fun i=>i=t.b) w w':=by
 have hb:(aa g st !=92)=false:=by simp[abO]
 have hl:=h.len;clear abO;go_in;go_wp2_with fail;refine(dI h).mono ?_;rintro e w1 ⟨rfl,h1,aI⟩;have c1:w1.cell? ⟨t.b,1,none⟩=some (.int .i64 st.next):=h1.ae.cell 1;have f1:=h1.ae.frozen 1;go_wp2_with fail;have h2:=h1.step (by omega);refine(dI h2).mono ?_;rintro e w3 ⟨rfl,h3,aQ⟩;have c3:w3.cell? ⟨t.b,1,none⟩=some (.int .i64 ((st.next:Int)+1)):=by have:=h3.ae.cell 1;simpa using this
 have f3:=h3.ae.frozen 1;have h4:=h3.oZ (st.next+2) (by omega) (by simp)
 have PB:bc (w3.setCell ⟨t.b,1,none⟩ (.int .i64 ((st.next:Int)+1+1))) t g {st with next:=st.next+2} ax vn nl:=by
  have e:((st.next:Int)+1+1)=((st.next+2:Nat):Int):=by omega
  rw[e];exact h4
 clear c1 f1;generalize hq:aa g {st with next:=st.next+1}=q at*;have HQ:Hid (aa g {st with next:=st.next+1}=q):=hq;clear hq;go_wp2_with fail;all_goals go_ret
 all_goals(have aiM:bc (w3.setCell ⟨t.b,1,none⟩ (.int .i64 ((st.next:Int)+2))) t g {st with next:=st.next+2} ax vn nl:=(by rw[show((st.next:Int)+2)=((st.next:Int)+1+1)from by omega];exact PB))
 all_goals refine⟨?_,aiM,((aI.trans (dr 1 _)).trans aQ).trans (dr 1 _)⟩
 all_goals(rw[HQ.out];simp only[Ai,Dm,ne_eq]at*;simp[lr, *])
theorem Ru{t:TG}(h:bc w t g st ax vn nl)(hf:(aK g st).1.au.form=none)(dM:ak kF (aa g (aK g st).1)=false):
 Calls prog 63 #[.pointer (some ⟨t.b,0,none⟩)] w fun e w'=>e=.returned (.int .i64 (aK g st).2)/\bc w' t g (aK g st).1 ax vn nl/\I (fun i=>i=t.b) w w':=by
 have hl:=h.len;have oG:=h.nZ
 have mY:ak kF (aa g st)=true:=by
  cases hc:ak kF (aa g st)
  ·exfalso
   have e1:ey g st=(mJ g st,0):=by simp[ey,hc]
   have e2:aK g st=(mJ g st,0):=by
    unfold aK;rw[if_neg (by rw[e1];simp),e1]
   rw[e2]at hf;exact ET g st hf
  ·rfl
 have e1:ey g st=({st with next:=st.next+1},aa g st-48):=by simp[ey,mY]
 have ar:=fj mY;have VT:=G0 mY;by_cases qP:0<aa g st-48/\ak kF (aa g {st with next:=st.next+1})=true
 ·have e2:ey g {st with next:=st.next+1}=({st with next:=st.next+2},aa g {st with next:=st.next+1}-48):=by simp[ey,qP.2]
  have e3:aK g st=({st with next:=st.next+2},10*(aa g st-48)+(aa g {st with next:=st.next+1}-48)):=by
   unfold aK;rw[e1,if_pos qP,e2]
  rw[e3]at dM⊢;have lW:=fj qP.2;simp only at lW;have kC:=G0 qP.2;have t1:tP (aa g st)=true:=by rw[<-zi];exact mY
  have t2:tP (aa g {st with next:=st.next+1})=true:=by rw[<-zi];exact qP.2
  have t3:tP (aa g {st with next:=st.next+2})=false:=by rw[<-zi];exact dM
  clear e1 e2 e3 dM mY qP hf;go_in;go_wp2_with fail;refine C4 3 ?_;rw[Bp];go_wp2_with fail;refine(dI h).mono ?_;rintro e w1 ⟨rfl,h1,aI⟩;go_wp2_with fail;refine(FU _ _).mono ?_;rintro e w1 ⟨rfl,rfl⟩;rw[t1];go_wp2_with fail;refine(dI h1).mono ?_;rintro e w2 ⟨rfl,h2,aG⟩;have c1:w2.cell? ⟨t.b,1,none⟩=some (.int .i64 st.next):=h2.ae.cell 1;have f1:=h2.ae.frozen 1;go_wp2_with fail;rw[Bp];have h3:=h2.step (by omega);clear c1 f1;go_wp2_with fail;refine(dI h3).mono ?_;rintro e w4 ⟨rfl,h4,cQ⟩;go_wp2_with fail;refine(FU _ _).mono ?_;rintro e w4 ⟨rfl,rfl⟩;rw[t2];go_wp2_with fail;refine(dI h4).mono ?_;rintro e w5 ⟨rfl,h5,bI⟩;have c1:w5.cell? ⟨t.b,1,none⟩=some (.int .i64 ((st.next:Int)+1)):=by have:=h5.ae.cell 1;simpa using this
  have f1:=h5.ae.frozen 1;go_wp2_with fail;rw[Bp]
  have h6:bc (w5.setCell ⟨t.b,1,none⟩ (.int .i64 ((st.next:Int)+2))) t g {st with next:=st.next+2} ax vn nl:=by
   have:=h5.oZ (st.next+2) (by omega) (by simp);simpa using this
  clear c1 f1;go_wp2_with fail;refine(dI h6).mono ?_;rintro e w7 ⟨rfl,h7,fA⟩;go_wp2_with fail;refine(FU _ _).mono ?_;rintro e w7 ⟨rfl,rfl⟩;rw[t3];go_wp2_with fail;go_ret;refine⟨?_,h7,(((((aI.trans aG).trans (dr 1 _)).trans cQ).trans bI).trans (dr 1 _)).trans fA⟩;exact congrArg (fun x=>Ending.returned (Value.int .i64 x)) (by omega)
 ·have e3:aK g st=({st with next:=st.next+1},aa g st-48):=by
   unfold aK;rw[e1,if_neg qP]
  rw[e3]at dM⊢;have t1:tP (aa g st)=true:=by rw[<-zi];exact mY
  have t2:tP (aa g {st with next:=st.next+1})=false:=by rw[<-zi];exact dM
  clear e1 e3 dM mY qP hf;go_in;go_wp2_with fail;refine C4 2 ?_;rw[Bp];go_wp2_with fail;refine(dI h).mono ?_;rintro e w1 ⟨rfl,h1,aI⟩;go_wp2_with fail;refine(FU _ _).mono ?_;rintro e w1 ⟨rfl,rfl⟩;rw[t1];go_wp2_with fail;refine(dI h1).mono ?_;rintro e w2 ⟨rfl,h2,aG⟩;have c1:w2.cell? ⟨t.b,1,none⟩=some (.int .i64 st.next):=h2.ae.cell 1;have f1:=h2.ae.frozen 1;go_wp2_with fail;rw[Bp];have h3:=h2.step (by omega);clear c1 f1;go_wp2_with fail;refine(dI h3).mono ?_;rintro e w4 ⟨rfl,h4,cQ⟩;go_wp2_with fail;refine(FU _ _).mono ?_;rintro e w4 ⟨rfl,rfl⟩;rw[t2];go_wp2_with fail;go_ret;refine⟨?_,h4,((aI.trans aG).trans (dr 1 _)).trans cQ⟩;exact congrArg (fun x=>Ending.returned (Value.int .i64 x)) (by omega)
def gJ(op:ByteArray)(vs:Value)(nt fd:Bool)(aJ:Value)(bK bB aY:Int)(lz:Bool):Array Value:=
 #[.string op,vs,.bool nt,.bool fd,aJ,.int .i64 bK,.int .i64 bB,.int .i64 aY,.bool lz]
def xN(op:ByteArray)(k:Int):Prop:=
 (k=2/\op=iJ)\/(k=3/\op=iI)\/(k=4/\op=ec)\/((k=0\/k=1)/\(op.toList== [115,101,113])=false/\(op.toList== [97,108,116])=false/\(op.toList== [116,105,109,101,115])=false)
structure g_(w:World)(U:Nat->Prop)(ao:Option Addr)(bs:Nat)(sp:List (Int×Int)):Prop where
 ig:sp≠ []->ao=some ⟨bs,0,none⟩/\U bs
 cell:∀i,(h:i<sp.length)->w.cell? ⟨bs,i*2,none⟩=some (.int .i64 (sp[i]).1)/\w.cell? ⟨bs,i*2+1,none⟩=some (.int .i64 (sp[i]).2)
 cB:sp.length<=2000
inductive eV(w:World)(U:Nat->Prop):Nat->PT->RT->Prop where
 |mk (b:Nat) (op:ByteArray) (sp:List (Int×Int)) (nG:Option Addr) (p_ bs:Nat) (nt fd lz:Bool) (bK bB aY k l h:Int) (ao:Option Addr) (cap bk:Nat) (ts:List PT) (rs:List RT) (P:Nat->Nat)
  (dq:ay w b (gJ op (.slice nG sp.length p_) nt fd (.slice ao ts.length cap) bK bB aY lz) 114) (d_:U b) (bS:xN op k) (pz:k=4->bB=l/\aY=h)
  (hb:ts≠ []->ao=some ⟨bk,0,none⟩/\U bk)
  (hc:∀i,i<ts.length->w.cell? ⟨bk,i,none⟩=some (.pointer (some ⟨P i,0,none⟩)))
  (hl:rs.length=ts.length)
  (hk:∀i,(h:i<ts.length)->(h':i<rs.length)->eV w U (P i) ts[i] rs[i])
  (hr:(-1<=l/\l<=99)/\(-1<=h/\h<=99)/\ts.length<=400/\(k=3->ts≠ []))
  (i_:g_ w U nG bs sp):
  eV w U b (.node k ts l h) (.node op sp nt fd rs bK bB aY lz)
theorem xT{p:Addr}(h:w.cell? p=some v):p.block<w.heap.size:=by
 apply Bz
 intro hn;have e:w.heap[p.block]? =none:=Array.getElem?_eq_none (by omega);simp[World.cell?,e]at h
theorem g_.nil(w:World)(U:Nat->Prop):g_ w U none 0 []:=⟨fun h=>absurd rfl h,fun i h=>by simp at h,by simp⟩
theorem g_.kept{S:Nat->Prop}(h:g_ w U ao bs sp)(k:I S w w')(hs:∀i,U i->¬S i):g_ w' U ao bs sp where
 ig:=h.ig
 cB:=h.cB
 cell i hi:=by
  obtain⟨_,b1⟩:=h.ig (by intro e;subst e;simp at hi);obtain⟨c1,c2⟩:=h.cell i hi;rw[k.cell (p:=⟨bs,i*2,none⟩) (xT c1) (hs bs b1),k.cell (p:=⟨bs,i*2+1,none⟩) (xT c2) (hs bs b1)];exact⟨c1,c2⟩
theorem g_.np(h:g_ w U ao bs sp)(h1:∀i,U i->i<w.heap.size->U' i):g_ w U' ao bs sp where
 ig aF:=by
  obtain⟨a,b1⟩:=h.ig aF;exact⟨a,h1 _ b1 (xT (h.cell 0 (by cases sp with|nil=>exact absurd rfl aF|cons=>simp)).1)⟩
 cell:=h.cell
 cB:=h.cB
theorem eV.kept{S:Nat->Prop}(h:eV w U b T R)(k:I S w w')(hs:∀i,U i->¬S i):eV w' U b T R:=by
 induction h with
 |mk b op sp nG p_ bs nt fd lz bK bB aY kk l hh ao cap bk ts rs P dq d_ bS pz hb hc hl hk hr i_ ih=>
  refine eV.mk b op sp nG p_ bs nt fd lz bK bB aY kk l hh ao cap bk ts rs P (dq.kept k (hs b d_)) d_ bS pz hb (fun i aS=>?_) hl (fun i aS gz=>ih i aS gz) hr (i_.kept k hs);obtain⟨_,b1⟩:=hb (by intro e;subst e;simp at aS);rw[k.cell (p:=⟨bk,i,none⟩) (xT (hc i aS)) (hs bk b1)];exact hc i aS
theorem eV.np(h:eV w U b T R)(h1:∀i,U i->i<w.heap.size->U' i):eV w U' b T R:=by
 induction h with
 |mk b op sp nG p_ bs nt fd lz bK bB aY kk l hh ao cap bk ts rs P dq d_ bS pz hb hc hl hk hr i_ ih=>
  refine eV.mk b op sp nG p_ bs nt fd lz bK bB aY kk l hh ao cap bk ts rs P dq (h1 _ d_ dq.lt) bS pz (fun aF=>?_) hc hl (fun i aS gz=>ih i aS gz) hr (i_.np h1);obtain⟨a,b1⟩:=hb aF;exact⟨a,h1 _ b1 (xT (hc 0 (by cases ts with|nil=>exact absurd rfl aF|cons=>simp)))⟩
theorem eV.gX{op:ByteArray}{nG:Option Addr}{p_:Nat}(dq:ay w b (gJ op (.slice nG sp.length p_) nt fd (.slice none 0 0) 0 0 0 false) 114)(d_:U b)(bS:xN op 0)(i_:g_ w U nG bs sp):eV w U b gX (gB op sp nt fd):=
 eV.mk b op sp nG p_ bs nt fd false 0 0 0 0 0 0 none 0 0 [] [] (fun _=>0) dq d_ bS (by omega) (fun h=>absurd rfl h) (fun i h=>by simp at h) rfl (fun i h=>by simp at h) (by simp) i_
def Fr(lo hi:Nat)(vn:Value):Nat->Prop:=fun i=>lo<=i/\i<hi/\vn.ownBlock≠some i
def gP(w:World)(t:TG)(g:RG)(ax:Int)(vn:Value)(x:RS×PT)(R:RT)(e:Ending)(w':World):Prop:=
 ∃b q_ Hb,e=.returned (.pointer (some ⟨b,0,none⟩))/\bc w' t g x.1 ax q_ Hb/\eV w' (Fr w.heap.size w'.heap.size q_) b x.2 R/\I (fun i=>i=t.b\/vn.ownBlock=some i) w w'/\∀i,q_.ownBlock=some i->vn.ownBlock=some i\/w.heap.size<=i
theorem bc.new{w0:World}{t:TG}{bP:RS}{kO:Int}{vn0:Value}{nl0:List (List UInt8)}(h:bc w t g st ax vn nl)(h0:bc w0 t g bP kO vn0 nl0){S:Nat->Prop}(k:I S w w')(hs:∀i,S i->w0.heap.size<=i)(hv:∀b,vn.ownBlock=some b->¬S b):bc w' t g st ax vn nl:=
 h.kept k (fun i hi hx=>by
  rcases hi with rfl|⟨hl,rfl⟩|hb
  ·have:=h0.gR;have:=hs _ hx;omega
  ·have:=(h0.gl.isSome hl).2.2;have:=hs _ hx;omega
  ·exact hv i hb hx)
theorem Ij(b j:Nat):Addr.add ⟨b,0,none⟩ j=⟨b,j,none⟩:=by
 unfold Addr.add;split
 ·rename_i h;simp
 ·simp
theorem vF(w:World)(cs:Array Value)(t:TypeId)(j:Nat)(u:Value)(h:cs.toList[j]? =some u):(w.alloc (.cells cs t)).cell? (Addr.add ⟨w.heap.size,0,none⟩ j)=some u:=by
 rw[Ij,(ay.new w cs t).cell j];simpa using h
def lQ:List (Int×Int)->List Value
 | []=>[]
 |p::l=>.int .i64 p.1::.int .i64 p.2::lQ l
theorem abd(l:List (Int×Int)):(lQ l).length=l.length*2:=by
 induction l with
 |nil=>rfl
 |cons p l ih=>simp only[lQ,A1,ih];omega
theorem ail(l m:List (Int×Int)):lQ (l++m)=lQ l++lQ m:=by
 induction l with
 |nil=>rfl
 |cons p l ih=>simp only[lQ,Bv,ih]
theorem Uk:∀(l:List (Int×Int)) (i:Nat) (h:i<l.length),(lQ l)[i*2]? =some (.int .i64 (l[i]).1)/\(lQ l)[i*2+1]? =some (.int .i64 (l[i]).2)
 | [],i,h=>by simp at h
 |p::l,0,_=>by simp[lQ]
 |p::l,i+1,h=>by
  have:=Uk l i (by simpa using h);rw[show(i+1)*2=i*2+1+1 from by omega];simpa[lQ]using this
theorem aim(l:List (Int×Int)):∀u∈lQ l,u.oneCell'=true:=by
 induction l with
 |nil=>intro u hu;simp[lQ]at hu
 |cons p l ih=>
  intro u hu;simp only[lQ,Bk]at hu;rcases hu with rfl|rfl|hu
  ·rfl
  ·rfl
  ·exact ih u hu
theorem EE(r:Int)(w:World):
 Calls prog 91 #[.int .i64 r] w fun e w'=>e=.returned (.slice (some ⟨w.heap.size,0,none⟩) (iF r).length (iF r).length)/\(iF r).length<=4/\ay w' w.heap.size (lQ (iF r)).toArray 155/\I aq w w':=by
 have hp:∀a b:Int,(r==a)=true->iF a=iF b->iF r=iF b:=fun a b h e=>by rw[Ai.1 h,e]
 unfold iF;go_in;go_wp2_with fail;all_goals go_ret
 all_goals simp_all[lQ]
 all_goals exact⟨ay.new _ _ _,(I.refl _ _).alloc _⟩
theorem ame{esc:Bool}(h:(je g esc st).1.au.form=none):st.au.form=none:=by
 unfold je at h
 cases esc
 ·exact(Rl h).2.2.1
 ·exact(jE h).2.1
theorem Xq(h:(a_ g st).1.au.form=none):st.au.form=none:=by
 have:=ame (g:=g) (esc:=ak dC (aa g st)) (st:=bT g dC st) h;rw[E7]at this;exact this
theorem Xy{p:Int}{x:RS×Int}(h:(jT g p x).au.form=none):x.1.au.form=none:=by
 unfold jT at h;split at h
 ·split at h
  ·rw[Nq (by omega)]at h;exact Xq (st:={x.1 with next:=x.1.next+1}) h
  ·exact Xq (st:={x.1 with next:=x.1.next+1}) h
 ·exact h
theorem ad5(h:(cK g st).au.form=none):st.au.form=none:=by
 unfold cK at h;split at h
 ·exact h
 ·exact Xq (Xy h)
theorem RI:∀{m:Nat} {st:RS},(fu g m st).au.form=none->st.au.form=none
 |0,_,h=>h
 |m+1,st,h=>by
  unfold fu at h;split at h
  ·exact h
  ·exact ad5 (RI h)
theorem aeo(h:(a_ g st).1.au.form=none):
 (aa g st≠92/\aa g st≠ -1/\ak M7 (aa g st)=false/\a_ g st=({st with next:=st.next+1},aa g st))\/
 (aa g st=92/\ak zR (aa g {st with next:=st.next+1})=true/\a_ g st=({st with next:=st.next+2},lr (aa g {st with next:=st.next+1}))):=by
 have hb:ak dC (aa g st)=(aa g st==92):=by
  unfold ak dC;simp only[Ch,Cn,Br];rw[Av];simp only[Ai];exact⟨fun h=>h.symm,fun h=>h.symm⟩
 unfold a_ at h⊢;rw[hb]at h⊢;by_cases he:aa g st=92
 ·right
  have e1:bT g dC st={st with next:=st.next+1}:=by unfold bT;rw[hb,if_pos (by simp[he])]
  have e2:(aa g st==92)=true:=by simp[he]
  rw[e1,e2]at h⊢;unfold je at h⊢;simp only[if_true]at h⊢;obtain⟨h1,h2,h3⟩:=jE h;exact⟨he,h1,by rw[h3]⟩
 ·left
  have e1:bT g dC st=st:=by unfold bT;rw[hb,if_neg (by simp[he])]
  have e2:(aa g st==92)=false:=by simp[he]
  rw[e1,e2]at h⊢;unfold je at h⊢;simp only[Ag,if_false]at h⊢;obtain⟨h1,h2,h3,h4⟩:=Rl h;exact⟨he,h1,h2,by rw[h4]⟩
theorem aeD{t:TG}(h:bc w t g st ax vn nl)(hf:(a_ g st).1.au.form=none):
 Calls prog 92 #[.pointer (some ⟨t.b,0,none⟩)] w fun e w'=>e=.returned (.int .i64 (a_ g st).2)/\bc w' t g (a_ g st).1 ax vn nl/\I (fun i=>i=t.b) w w':=by
 have oG:=h.nZ;rcases aeo hf with⟨h1,h2,h3,h4⟩|⟨h1,h2,h4⟩
 ·rw[h4];exact aeB h (by have:=gI h2;omega) h1
 ·rw[h4];have:=fj h2;exact aeC h (by simp only at this;omega) h1
theorem Tryz.akg:(prog.info? 155).map (fun i=>(i.zero,i.size,i.bytes))=some (some (.agg #[.int .i64 0,.int .i64 0]),2,16):=by kernel_rfl
theorem QI(b:UInt8)(r:Int):ak [b] r=(r==(b.toNat:Int)):=by
 unfold ak;simp only[Ch,Cn,Br];rw[Av];simp only[Ai];exact⟨fun h=>h.symm,fun h=>h.symm⟩
theorem bc.anL{t:TG}(h:bc w t g st ax vn nl)(p:Int)(hp:0<=p)(hn:st.au.cls=none):bc (w.setCell ⟨t.b,5,none⟩ (.int .i64 p)) t g (st.bG 5 p) ax vn nl:=by
 have e:st.bG 5 p={st with au:={st.au with cls:=some p}}:=by simp[RS.bG,bu.bG,bu.get,hn,bu.put]
 have k:I (fun i=>i=t.b) w (w.setCell ⟨t.b,5,none⟩ (.int .i64 p)):=dr 5 _;rw[e]
 exact{h with
  ae:=h.ae.setCell 5 _
  gl:=h.gl.kept k (fun hl=>h.ne hl)
  names:=dh h.names k (fun b hb he=>by have:=(cA h.names hb).1;omega)
  l8:=h.l8
  aC:=h.aC
  kO:=h.kO
  mj:=⟨h.mj.1,fun q hq=>by simp at hq;omega,h.mj.2.2⟩}
theorem bc.akt{t:TG}(h:bc w t g st ax vn nl)(p:Int)(hn:st.au.cls≠none):bc w t g (st.bG 5 p) ax vn nl:=by
 have e:st.bG 5 p=st:=by
  cases hc:st.au.cls with
  |none=>exact absurd hc hn
  |some q=>simp[RS.bG,bu.bG,bu.get,hc]
 rw[e];exact h
structure sF(w:World)(nb:Nat)(vs:Value)(nt fd:Bool)(sp:List (Int×Int)):Prop where
 ae:ay w nb (gJ eR vs nt fd (.slice none 0 0) 0 0 0 false) 114
 aN:w.ownsRow (nb+1) 155 2 vs sp.length (lQ sp)
theorem sF.kept{S:Nat->Prop}(h:sF w nb vs nt fd sp)(kk:I S w w')(hs:∀i,S i->i<nb):sF w' nb vs nt fd sp:=
 ⟨h.ae.kept kk (fun hx=>by have:=hs _ hx;omega),dh h.aN kk (fun b hb he=>by have:=(cA h.aN hb).1;have:=hs _ he;omega)⟩
theorem sF.push{w1:World}{v':Value}{new:List (Int×Int)}(h:sF w nb vs nt fd sp)(hv:∀b,vs.ownBlock=some b->nb+1<=b)(k1:I aq w w1)(a8:w'.ownsRow (nb+1) 155 2 v' (sp.length+new.length) (lQ sp++lQ new))(hg:w1.grownBy w' vs.ownBlock):
 sF (w'.setCell ⟨nb,1,none⟩ v') nb v' nt fd (sp++new):=by
 have kk:I (fun i=>vs.ownBlock=some i) w w':=(k1.mono (fun _ hx=>hx.elim)).dn hg (fun j hj=>Or.inl hj);have k2:I (fun i=>i=nb) w' (w'.setCell ⟨nb,1,none⟩ v'):=(I.refl (fun i=>i=nb) w').setCell (p:=⟨nb,1,none⟩) (Or.inl rfl) v';refine⟨(h.ae.kept kk (fun hx=>by have:=hv _ hx;omega)).setCell 1 v',?_⟩;rw[ail,Ao];exact dh a8 k2 (fun b hb he=>by have:=(cA a8 hb).1;omega)
theorem sF.node(h:sF w nb vs nt fd sp)(hU:∀i,nb<=i->i<w.heap.size->U i)(hf:sp.length<=2000):eV w U nb gX (gB eR sp nt fd):=by
 have hb:=h.ae;rcases h.aN.2 with⟨rfl,h0⟩|⟨g,cap,aU,rfl,a1,a2,a3,a4,a5,a6⟩
 ·obtain rfl:sp=[]:=Az.1 h0;exact eV.gX (sp:=[]) hb (hU _ (Aa _) hb.lt) (Or.inr (Or.inr (Or.inr ⟨Or.inl rfl,by rw[A0];decide,by rw[A0];decide,by rw[A0];decide⟩))) (g_.nil _ _)
 ·have hg:g<w.heap.size:=(Ah.1 a2).1
  have hc:∀j u,(lQ sp)[j]? =some u->w.cell? ⟨g,j,none⟩=some u:=by
   intro j u hj
   have ar:j<sp.length*2:=by
    have:=(Af.1 hj).1;rw[abd]at this;exact this
   rw[<-a6,Al ar]at hj;simp only[World.cell?,a2];simpa using hj
  refine eV.gX (bs:=g) hb (hU _ (Aa _) hb.lt) (Or.inr (Or.inr (Or.inr ⟨Or.inl rfl,by rw[A0];decide,by rw[A0];decide,by rw[A0];decide⟩))) ⟨fun _=>⟨rfl,hU _ (by omega) hg⟩,fun i hi=>?_,hf⟩;obtain⟨q1,q2⟩:=Uk sp i hi;exact⟨hc _ _ q1,hc _ _ q2⟩
theorem g_.yC(hB:ay w b (lQ sp).toArray 155)(hU:U b)(hf:sp.length<=2000):g_ w U (some ⟨b,0,none⟩) b sp where
 ig _:=⟨rfl,hU⟩
 cell i hi:=by
  obtain⟨q1,q2⟩:=Uk sp i hi;rw[hB.cell,hB.cell];exact⟨by simpa using q1,by simpa using q2⟩
 cB:=hf
theorem bc.ak_{t:TG}(h:bc w t g st ax vn nl)(hb:vn.ownBlock=some b):t.b<b/\b<w.heap.size:=by
 have:=cA h.names hb;omega
theorem Ra(r:Int):ak fQ r=(r==93):=QI 93 r
theorem Q_(r:Int):ak qV r=(r==45):=QI 45 r
theorem M6(r:Int):ak dC r=(r==92):=QI 92 r
theorem Q9(r:Int):ak ij r=(r==94):=QI 94 r
theorem al4(h:(cK g st).au.form=none):aa g st≠ -1/\ak fQ (aa g st)=false:=by
 unfold cK at h;split at h
 ·rename_i hc
  have:=hc.1;rw[M6]at this;have e:=Ai.1 this;rw[e];exact⟨by omega,by decide⟩
 ·rcases aeo (Xy h)with⟨h1,h2,h3,_⟩|⟨h1,_,_⟩
  ·refine⟨h2,?_⟩;rw[Ra]
   cases hx:(aa g st==93)
   ·rfl
   ·have e:=Ai.1 hx;rw[e]at h3;revert h3;decide
  ·rw[h1];exact⟨by omega,by decide⟩
theorem aeb(h1:aa g st≠ -1)(h2:ak fQ (aa g st)=false):fu g (m+1) st=fu g m (cK g st):=by
 rw[show fu g (m+1) st=if aa g st= -1\/ak fQ (aa g st)=true then st else fu g m (cK g st)from rfl,if_neg (by simp[h1,h2])]
theorem alE{o:Option Int}(h:o=none):jR o= -1:=by rw[h];rfl
theorem amT(g:RG)(m:Nat)(st:RS)(aA:List (Int×Int))(h:aa g st= -1\/ak fQ (aa g st)=true):oV g m st aA=aA:=by
 cases m with
 |zero=>rfl
 |succ m=>unfold oV;rw[if_pos h]
theorem amU{aA:List (Int×Int)}(h1:aa g st≠ -1)(h2:ak fQ (aa g st)=false):oV g (m+1) st aA=oV g m (cK g st) (aA++qY g st):=by
 rw[show oV g (m+1) st aA=if aa g st= -1\/ak fQ (aa g st)=true then aA else oV g m (cK g st) (aA++qY g st)from rfl,if_neg (by simp[h1,h2])]
theorem amQ(h:¬(ak dC (aa g st)=true/\ak fc (aa g {st with next:=st.next+1})=true))(hd:(aa g (a_ g st).1==45)=false):qY g st=[((a_ g st).2,(a_ g st).2)]:=by
 unfold qY;rw[if_neg h,if_neg (by rw[Q_,hd];simp)]
theorem amS{y:RS×Int}(h:¬(ak dC (aa g st)=true/\ak fc (aa g {st with next:=st.next+1})=true))(hd:ak qV (aa g (a_ g st).1)=true)(hy:a_ g {(a_ g st).1 with next:=(a_ g st).1.next+1}=y):qY g st=[((a_ g st).2,y.2)]:=by
 unfold qY;rw[if_neg h,if_pos hd,hy]
theorem amR(h:ak dC (aa g st)=true)(h2:ak fc (aa g {st with next:=st.next+1})=true):qY g st=iF (aa g {st with next:=st.next+1}):=by
 unfold qY;rw[if_pos ⟨h,h2⟩]
structure wm(w:World)(xb bl:Nat)(ao:Option Addr)(cap:Nat)(x:TX):Prop where
 ae:ay w xb #[.slice ao x.l.length cap,.int .i64 x.len] 64
 gl:qx w 0 bl ao x.l
 cB:x.l.length<=200
 rr:∀p∈x.l,0<=p.2/\p.2<=1200000
theorem wm.kept{S:Nat->Prop}(h:wm w xb bl ao cap x)(k:I S w w')(h1:¬S xb)(h2:x.l≠ []->¬S bl):wm w' xb bl ao cap x:=
 ⟨h.ae.kept k h1,h.gl.kept k h2,h.cB,h.rr⟩
theorem TX.anl(x:TX)(i:Nat)(h:i<x.l.length):∃p∈x.l,x.dd i=p.2:=⟨x.l[i],Ay h,by unfold TX.dd;simp[h]⟩
theorem afR(r:Int)(w:World):Calls prog 94 #[.int .i64 r] w fun e w'=>e=.returned (.bool (n9 r))/\w'=w:=by
 unfold n9;by_cases a1:97<=r<;>by_cases a2:r<=122<;>by_cases a3:65<=r<;>by_cases a4:r<=90
 all_goals
  go_in
  go_wp2_with fail
  go_ret
  first
  |exact⟨rfl,rfl⟩
  |(refine⟨?_,rfl⟩;simp[a1,a2,a3,a4])
theorem afV(r:Int)(w:World)(hr:0<=r/\r<=1200000):Calls prog 95 #[.int .i64 r] w fun e w'=>e=.returned (.int .i64 (oU r))/\w'=w:=by
 unfold oU;by_cases a1:97<=r
 all_goals
  go_in
  go_wp2_with fail
  go_ret
  first
  |exact⟨rfl,rfl⟩
  |(refine⟨?_,rfl⟩;simp[a1])
theorem agO(h:wm w xb bl ao cap x)(i:Nat):
 Calls prog 21 #[.pointer (some ⟨xb,0,none⟩),.int .i64 i] w fun e w'=>e=.returned (.int .i64 (x.eX i))/\I aq w w':=by
 have c0:w.cell? ⟨xb,0,none⟩=some (.slice ao x.l.length cap):=h.ae.cell 0;have c1:w.cell? ⟨xb,1,none⟩=some (.int .i64 x.len):=h.ae.cell 1;by_cases ar:i<x.l.length
 ·have hI:(i:Int)<(x.l.length:Int):=by omega
  obtain⟨eu,_,_⟩:=h.gl.isSome (by intro e;rw[e]at ar;simp at ar);rw[eu]at c0;have q1:=(h.gl.cells i ar).2;have HE:Hid (x.eX i=(x.l[i].1:Int)):=by show _=_;unfold TX.eX;simp[ar]
  clear eu;go_in;go_wp2_with fail;go_ret;exact⟨by rw[HE.out];rfl,I.refl _ _⟩
 ·have hI:¬(i:Int)<(x.l.length:Int):=by omega
  have HE:Hid (x.eX i=(x.len:Int)):=by show _=_;unfold TX.eX;simp[ar]
  go_in
  go_wp2_with fail
  go_ret
  exact⟨by rw[HE.out];rfl,I.refl _ _⟩
structure fL(w:World)(ao:Option Addr)(gb:Nat)(gs:List Int):Prop where
 ig:gs≠ []->ao=some ⟨gb,0,none⟩/\gb<w.heap.size
 cell:∀i,(h:i<gs.length)->w.cell? ⟨gb,i,none⟩=some (.int .i64 gs[i])
 ty:gs≠ []->∃aU,ay w gb aU 3
theorem fL.kept{S:Nat->Prop}(h:fL w ao gb gs)(k:I S w w')(hs:gs≠ []->¬S gb):fL w' ao gb gs where
 ig aF:=⟨(h.ig aF).1,A3 (h.ig aF).2 k.size⟩
 cell i hi:=by
  have aF:gs≠ []:=by intro e;subst e;simp at hi
  rw[k.cell (p:=⟨gb,i,none⟩) (h.ig aF).2 (hs aF)];exact h.cell i hi
 ty aF:=by
  obtain⟨aU,hB⟩:=h.ty aF;exact⟨aU,hB.kept k (hs aF)⟩
theorem fL.nil(w:World):fL w none 0 []:=⟨fun h=>absurd rfl h,fun i h=>by simp at h,fun h=>absurd rfl h⟩
theorem fL.of{base:Nat}(h:w.ownsRow base 3 1 v gs.length (gs.map (Value.int .i64))):∃ao cap gb,v=.slice ao gs.length cap/\fL w ao gb gs/\(gs≠ []->base<=gb):=by
 rcases h.2 with⟨rfl,h0⟩|⟨g,cap,aU,rfl,a1,a2,a3,a4,a5,a6⟩
 ·obtain rfl:gs=[]:=Az.1 h0;exact⟨none,0,0,rfl,fL.nil w,fun h=>absurd rfl h⟩
 ·refine⟨_,cap,g,rfl,⟨fun _=>⟨rfl,(Ah.1 a2).1⟩,fun i hi=>?_,fun _=>⟨aU,a2⟩⟩,fun _=>a1⟩;have hx:(gs.map (Value.int .i64))[i]? =some (.int .i64 gs[i]):=by simp[hi]
  rw[<-a6,Al (by omega)]at hx;simp only[World.cell?,a2];simpa using hx
theorem Wo(h:g_ w U ao bs sp)(r:Int):
 Calls prog 93 #[.slice ao sp.length cap,.int .i64 r] w fun e w'=>e=.returned (.bool (bM sp r))/\w'=w:=by
 have hf:=h.cB;go_in;go_wp2_with fail;go_loopg [5] sp.length (fun kk v wr=>∃k:Nat,v=.int .i64 k/\k<=sp.length/\Hid (bM (sp.take k) r=false)/\kk=sp.length-k/\wr=w)
 case atStart=>exact⟨0,rfl,Aw _,by show _=_;simp[bM],rfl,rfl⟩
 case round=>
  obtain⟨k,rfl,hk,HN,rfl,rfl⟩:=hrel;by_cases ar:k<sp.length
  ·obtain⟨c1,c2⟩:=h.cell k ar;obtain⟨eu,_⟩:=h.ig (by intro e;subst e;simp at ar);subst eu;have hI:(k:Int)<(sp.length:Int):=(by omega);have HT:Hid (sp.take (k+1)=sp.take k++[sp[k]]):=Cb ar;have HM:Hid (sp[k] ∈sp):=Ay ar;generalize sp[k]=p at*;by_cases a1:p.1<=r
   ·by_cases a2:r<=p.2
    ·have HH:Hid (bM sp r=true):=by show _=_;exact Cx.2 ⟨p,HM.out,by simp[a1,a2]⟩
     go_wp2_with fail
     go_ret
     exact⟨by rw[HH.out];rfl,rfl⟩
    ·go_wp2_with fail
     go_roundg (sp.length-(k+1))
     case measure=>omega
     case rel=>exact⟨k+1,by go_num,by omega,by show _=_;rw[HT.out,bM,Cl,show(List.take k sp).any (fun p=>decide (p.1<=r)&&decide (r<=p.2))=false from HN.out];simp[a2],rfl,rfl⟩
   ·go_wp2_with fail
    go_roundg (sp.length-(k+1))
    case measure=>omega
    case rel=>exact⟨k+1,by go_num,by omega,by show _=_;rw[HT.out,bM,Cl,show(List.take k sp).any (fun p=>decide (p.1<=r)&&decide (r<=p.2))=false from HN.out];simp;omega,rfl,rfl⟩
  ·have dL:k=sp.length:=(by omega);subst dL;have HF:Hid (bM sp r=false):=by have:=HN.out;rwa[Ce]at this
   go_wp2_with fail
   go_ret
   exact⟨by rw[HF.out];rfl,rfl⟩
theorem af2(h:eV w U b T n)(r:Int)(hr:0<=r/\r<=1200000):
 Calls prog 66 #[.pointer (some ⟨b,0,none⟩),.int .i64 r] w fun e w'=>e=.returned (.bool (q8 n r))/\I aq w w':=by
 cases h with
 |mk b op sp nG p_ bs nt fd lz bK bB aY kk l hh ao cap bk ts rs P dq d_ bS pz hb hc hl hk mB i_=>
  have c1:w.cell? ⟨b,1,none⟩=some (.slice nG sp.length p_):=dq.cell 1;have c2:w.cell? ⟨b,2,none⟩=some (.bool nt):=dq.cell 2;have c3:w.cell? ⟨b,3,none⟩=some (.bool fd):=dq.cell 3;have HT:Hid (q8 (.node op sp nt fd rs bK bB aY lz) r=((bM sp r||(fd&&n9 r&&bM sp (oU r))) !=nt)):=rfl;clear dq hc hk hl hb bS pz d_ mB;go_in;go_wp2_with fail;refine(Wo i_ r).mono ?_;rintro e w ⟨rfl,rfl⟩
  cases fd
  ·go_wp2_with fail
   go_ret
   exact⟨by rw[HT.out];cases bM sp r<;>cases nt<;>rfl,I.refl _ _⟩
  ·go_wp2_with fail
   refine(afR r _).mono ?_;rintro e w ⟨rfl,rfl⟩
   cases hL:n9 r
   ·go_wp2_with fail
    go_ret
    exact⟨by rw[HT.out,hL];cases bM sp r<;>cases nt<;>rfl,I.refl _ _⟩
   ·have ajK:=fun m=>i_.kept ((I.refl aq w).drewN m) (fun _ _ h=>h)
    cases hi:bM sp r
    all_goals
     go_wp2_with fail
     go_quiet ((first|(go_at_call 95;go_must (exact Dl (afV _ _ hr)))|(go_at_call 93;go_must (exact Dl (Wo (ajK _) _)))))
     go_wp2_with fail
     go_ret
     exact⟨by rw[HT.out,hL,hi];cases bM sp (oU r)<;>cases nt<;>rfl,(I.refl _ _).drewN _⟩
theorem afz(h:wm w xb bl ao cap x)(i:Int):
 Calls prog 96 #[.pointer (some ⟨xb,0,none⟩),.int .i64 i] w fun e w'=>e=.returned (.bool (x.jY i))/\I aq w w':=by
 have c0:w.cell? ⟨xb,0,none⟩=some (.slice ao x.l.length cap):=h.ae.cell 0;have xc:=h.ae.lt;by_cases h0:i<0
 ·have HW:Hid (x.jY i=false):=by show _=_;unfold TX.jY;rw[show decide (0<=i)=false from by simp;omega];rfl
  go_in
  go_wp2_with fail
  go_ret
  exact⟨by rw[HW.out];rfl,I.refl _ _⟩
 ·by_cases h1:i<(x.l.length:Int)
  ·obtain⟨k,rfl⟩:∃k:Nat,i=k:=⟨i.toNat,by omega⟩
   have ar:k<x.l.length:=(by omega);obtain⟨eu,_,gj⟩:=h.gl.isSome (by intro e;rw[e]at ar;simp at ar);have q1:=(h.gl.cells k ar).1;rw[eu]at c0
   have HW:Hid (x.jY k=bM (iF 119) (x.l[k].2)):=by
    show _=_
    unfold TX.jY TX.dd;simp[ar]
   generalize x.l[k].2=r at*
   have hLE:(iF 119).length<=2000:=(by decide);obtain⟨L,tX⟩:∃L,L=iF 119:=⟨_,rfl⟩
   rw[<-tX]at HW hLE
   have lA:∀w1:World,Calls prog 91 #[.int .i64 119] w1 fun e w'=>e=.returned (.slice (some ⟨w1.heap.size,0,none⟩) L.length L.length)/\g_ w' (fun _=>True) (some ⟨w1.heap.size,0,none⟩) w1.heap.size L/\I aq w1 w':=fun w1=>by
    rw[tX];exact(EE 119 w1).mono fun e w' ⟨h1,h2,h3,h4⟩=>⟨h1,g_.yC h3 trivial (by decide),h4⟩
   clear tX;have CK:∀w',I aq w w'->w'.cell? ⟨xb,0,none⟩=some (.slice (some ⟨bl,0,none⟩) x.l.length cap)/\w'.cell? ⟨bl,k*3,none⟩=some (.int .i64 r):=(fun w' hk=>⟨by rw[hk.cell (p:=⟨xb,0,none⟩) xc (fun h=>h)];exact c0,by rw[hk.cell (p:=⟨bl,k*3,none⟩) gj (fun h=>h)];exact q1⟩);go_in
   go_wp2_with fail
   go_region_with (first|(go_at_call 91;refine(lA _).mono ?_;rintro e w1 ⟨rfl,i_,aI⟩;have aG:I aq w w1:=(by first|exact aI|exact(I.refl aq w).drew.trans aI);have aQ:=aG.drew;have mr:=CK _ aG;obtain⟨d0,d1⟩:=mr)|(go_at_call 93;refine(Wo (by assumption) _).mono ?_;rintro e w2 ⟨rfl,rfl⟩))
   all_goals go_wp2_with fail
   all_goals go_ret
   all_goals exact⟨by rw[HW.out];rfl,by first|exact aG|exact aQ⟩
  ·have HW:Hid (x.jY i=false):=by show _=_;unfold TX.jY;rw[show decide (i<(x.l.length:Int))=false from by simp;omega];simp
   go_in
   go_wp2_with fail
   go_ret
   exact⟨by rw[HW.out];rfl,I.refl _ _⟩
theorem akm(h:wm w xb bl ao cap x)(op:ByteArray)(i:Nat)(bS:op=pM\/op=oX\/op=od\/op=oW)(hi:i<=x.l.length):
 Calls prog 68 #[.pointer (some ⟨xb,0,none⟩),.string op,.int .i64 i] w fun e w'=>e=.returned (.bool (x.is op i))/\I aq w w':=by
 have hf:=h.cB;go_in;go_wp2_with fail;refine(afz h _).mono ?_;rintro e w1 ⟨rfl,aI⟩;go_wp2_with fail;refine(afz (h.kept aI (fun h=>h) (fun _ h=>h)) _).mono ?_;rintro e w2 ⟨rfl,aG⟩;have k2:=aI.trans aG;have h2:=h.kept k2 (fun h=>h) (fun _ h=>h);have c0:w2.cell? ⟨xb,0,none⟩=some (.slice ao x.l.length cap):=h2.ae.cell 0;rcases bS with rfl|rfl|rfl|rfl
 ·have e1:(pM.toList== [94])=true:=by rw[A0];decide
  have HX:Hid (x.is pM i=((i:Int)==0)):=by show _=_;unfold TX.is;rw[if_pos rfl,Av];simp
  go_wp2_with fail
  go_ret
  exact⟨by rw[HX.out];rfl,k2⟩
 ·have e1:(oX.toList== [94])=false:=by rw[A0];decide
  have e2:(oX.toList== [36])=true:=by rw[A0];decide
  have HX:Hid (x.is oX i=((i:Int)==(x.l.length:Int))):=by show _=_;unfold TX.is;rw[if_neg (by decide),if_pos rfl,Av];simp;omega
  go_wp2_with fail
  go_ret
  exact⟨by rw[HX.out];rfl,k2⟩
 ·have e1:(od.toList== [94])=false:=by rw[A0];decide
  have e2:(od.toList== [36])=false:=by rw[A0];decide
  have e3:(od.toList== [98])=true:=by rw[A0];decide
  have HX:Hid (x.is od i=(x.jY ((i:Int)-1) !=x.jY i)):=by show _=_;unfold TX.is;rw[if_neg (by decide),if_neg (by decide),if_pos rfl]
  go_wp2_with fail
  go_ret
  exact⟨by rw[HX.out];cases x.jY ((i:Int)-1)<;>cases x.jY i<;>rfl,k2⟩
 ·have e1:(oW.toList== [94])=false:=by rw[A0];decide
  have e2:(oW.toList== [36])=false:=by rw[A0];decide
  have e3:(oW.toList== [98])=false:=by rw[A0];decide
  have HX:Hid (x.is oW i= !(x.jY ((i:Int)-1) !=x.jY i)):=by show _=_;unfold TX.is;rw[if_neg (by decide),if_neg (by decide),if_neg (by decide)]
  go_wp2_with fail
  go_ret
  exact⟨by rw[HX.out];cases x.jY ((i:Int)-1)<;>cases x.jY i<;>rfl,k2⟩
def FG(ts:List Nat)(i:Nat):Nat:=(ts.takeWhile (fun t=>t==i)).length
def jW(ts:List Nat):List Int:=ts.reverse.map (fun t:Nat=>(t:Int))
theorem uN(ts:List Nat):(jW ts).length=ts.length:=by simp[jW]
theorem aoT(ts:List Nat)(k:Nat)(h:k<ts.length):(jW ts)[ts.length-1-k]'(by rw[uN];omega)=(ts[k]:Int):=by
 unfold jW;rw[List.getElem_map,List.getElem_reverse];congr 2;omega
theorem aab{n:Nat}(hn:n<=ts.length)(h:∀k,(hk:k<n)->ts[k]=i)(he:∀hl:n<ts.length,ts[n]≠i):FG ts i=n:=by
 unfold FG;induction ts generalizing n with
 |nil=>simp at hn;simp[hn]
 |cons t ts ih=>
  cases n with
  |zero=>
   have:=he (by simp);simp at this;rw[D3];simp[this]
  |succ n=>
   have h0:=h 0 (by omega);simp at h0;subst h0;rw[D3];simp only[En,if_true,A1];rw[ih (n:=n) (by simpa using hn) (fun k hk=>by have:=h (k+1) (by omega);simpa using this) (fun hl=>by have:=he (by simpa using hl);simpa using this)]
theorem aac{tb:Nat}(h:fL w ao tb (jW ts))(i:Nat)(hl:ts.length<=100000):
 Calls prog 37 #[.slice ao ts.length cap,.int .i64 i] w fun e w'=>e=.returned (.int .i64 (FG ts i))/\w'=w:=by
 go_in
 go_wp2_with fail
 go_loopg [5,6] ts.length (fun kk v5 v6 wr=>∃n:Nat,v5=.int .i64 n/\n<=ts.length/\((n<ts.length/\∃m:Nat,m+n+1=ts.length/\v6=.int .i64 m)\/(n=ts.length/\v6=.int .i64 (-1)))/\Hid (∀k,(hk:k<ts.length)->k<n->ts[k]=i)/\kk=ts.length-n/\wr=w)
 case atStart=>
  refine⟨0,rfl,Aw _,?_,fun k _ h=>by omega,rfl,rfl⟩;by_cases h0:0<ts.length
  ·exact Or.inl ⟨h0,ts.length-1,by omega,by first|rfl|(simp;omega)⟩
  ·have h00:ts.length=0:=(by omega);exact Or.inr ⟨by omega,by rw[h00];rfl⟩
 case round=>
  obtain⟨n,rfl,hn,hv,HA,rfl,rfl⟩:=hrel;rcases hv with⟨ar,m,hm,rfl⟩|⟨rfl,rfl⟩
  ·have aF:jW ts≠ []:=by intro e;have:=uN ts;rw[e]at this;simp at this;omega
   obtain⟨eu,_⟩:=h.ig aF;subst eu;have cm:=h.cell m (by rw[uN];omega)
   have hg:(jW ts)[m]'(by rw[uN];omega)=(ts[n]:Int):=by
    have:=aoT ts n ar;rw[<-this];congr 1;omega
   rw[hg]at cm;have hmI:(m:Int)<(ts.length:Int):=(by omega);have wU:(0:Int)<=m:=(by omega);by_cases he:ts[n]=i
   ·have Vi:((ts[n]:Int)==(i:Int))=true:=by rw[he];simp
    have HA2:Hid (∀k,(hk:k<ts.length)->k<n+1->ts[k]=i):=fun k hk aI=>by
     by_cases lU:k=n
     ·subst lU;exact he
     ·exact HA.out k hk (by omega)
    clear hg;generalize(ts[n]:Int)=tv at*;go_wp2_with fail;go_roundg (ts.length-(n+1))
    case measure=>omega
    case rel=>
     refine⟨n+1,by go_num,by omega,?_,HA2,rfl,rfl⟩;by_cases yk:n+1<ts.length
     ·exact Or.inl ⟨yk,m-1,by omega,by simp;omega⟩
     ·have ajr:m=0:=(by omega);subst ajr;exact Or.inr ⟨by omega,rfl⟩
   ·have Vi:((ts[n]:Int)==(i:Int))=false:=by simp;omega
    have HB:Hid (FG ts i=n):=aab hn (fun k hk=>HA.out k (by omega) hk) (fun _=>he);clear hg;generalize(ts[n]:Int)=tv at*;go_wp2_with fail;go_ret;exact⟨by rw[HB.out];rfl,rfl⟩
  ·have HB:Hid (FG ts i=ts.length):=aab (Aa _) (fun k hk=>HA.out k hk hk) (fun h=>absurd h (by omega));go_wp2_with fail;go_ret;exact⟨by rw[HB.out];rfl,rfl⟩
theorem Wr(l:List Int):∀u∈l.map (Value.int .i64),u.oneCell'=true:=by
 intro u hu;obtain⟨x,_,rfl⟩:=Bh.1 hu;rfl
theorem Rs(h:fL w ao gb gs)(k:Nat)(at_:Int)(hk:k<gs.length)(hl:gs.length<=10000)(hc:gs.length<=cap):
 Calls prog 64 #[.slice ao gs.length cap,.int .i64 k,.int .i64 at_] w fun e w'=>∃gi fV,e=.returned (.slice (some ⟨gi,0,none⟩) gs.length fV)/\gs.length<=fV/\w.heap.size<=gi/\fL w' (some ⟨gi,0,none⟩) gi (gs.set k at_)/\I aq w w':=by
 obtain⟨i0,b_,cE,cI,cH⟩:=A7 Tryz.zL;have aF:gs≠ []:=by intro e;subst e;simp at hk
 obtain⟨eu,kj⟩:=h.ig aF;subst eu;have Hi:=At w w.heap.size 3 1
 have Jc:∀j u,(gs.map (Value.int .i64))[j]? =some u->w.cell? (Addr.add ⟨gb,0,none⟩ j)=some u:=fun j u hj=>by
  rw[Ij];obtain⟨vo,ko⟩:=Af.1 hj;rw[h.cell j (by simpa using vo)];simp at ko;rw[ko]
 have hkI:(k:Int)<(gs.length:Int):=by omega
 go_in
 go_wp2_with (at_builtin;refine Ad _ rfl _ _ 65 rfl w.heap.size 3 i0 _ 1 8 underlying65 b_ cE cI cH rfl (by decide) _ _ _ rfl Hi ⟨gb,0,none⟩ gs.length cap (gs.map (Value.int .i64)) rfl (by simp) Jc (Wr gs) ?c3 ?c4 ?c5 ?_)
 case c3=>unfold maxLen;omega
 case c4=>omega
 case c5=>omega
 intro v' w1 a8 aX cJ bH;rcases a8.2 with⟨_,h0⟩|⟨g,xS,aU,hv,a1,a2,a3,a4,a5,a6⟩
 ·omega
 ·have hB:ay w1 g aU 3:=a2;rw[hv]
  have ki:∀j,(hj:j<gs.length)->aU[j]? =some (.int .i64 gs[j]):=fun j hj=>by
   have hx:(gs.map (Value.int .i64))[j]? =some (.int .i64 gs[j]):=(by simp[hj]);rw[<-a6,Al (by omega)]at hx;simpa using hx
  have ck:w1.cell? ⟨g,k,none⟩=some (.int .i64 gs[k]):=by rw[hB.cell k];exact ki k hk
  have fk:=hB.frozen k;have kk:I aq w w1:=(I.refl aq w).dn aX (fun j hj=>by simp[Value.ownBlock]at hj);have k2:I aq w (w1.setCell ⟨g,k,none⟩ (.int .i64 at_)):=kk.setCell (p:=⟨g,k,none⟩) (Or.inr a1) _;have fJ:=hB.setCell k (.int .i64 at_)
  have dS:fL (w1.setCell ⟨g,k,none⟩ (.int .i64 at_)) (some ⟨g,0,none⟩) g (gs.set k at_):=⟨fun _=>⟨rfl,fJ.lt⟩,(fun j hj=>by
   have DC:j<gs.length:=(by simpa using hj);rw[fJ.cell j,Dw];by_cases Mg:k=j
   ·subst Mg;rw[if_pos rfl,if_pos (by rw[a5];omega)];simp
   ·rw[if_neg Mg,ki j DC,Eu Mg]),fun _=>⟨_,fJ⟩⟩
  clear a8 aX cJ bH a6 a2 ki Jc;go_wp2_with fail;go_ret;exact⟨g,xS,rfl,a3,a1,dS,k2⟩
mutual
def RT.ok(G:Nat):RT->Prop
 |.node op sp nt fd ks bK bB aY lz=>RT.de G ks/\
  ((op=eR)\/(op=pM\/op=oX\/op=od\/op=oW)\/(op=iJ)\/(op=iI/\ks≠ [])\/(op=fi/\ks.length=1/\1<=bK/\bK<=G)\/(op=gW/\ks.length=1)\/(op=ec/\ks.length=1/\0<=bB/\bB<=99/\ -1<=aY/\aY<=99))
def RT.de(G:Nat):List RT->Prop
 | []=>True
 |k::ks=>RT.ok G k/\RT.de G ks
end
mutual
def RT.wt:RT->Nat
 |.node op sp nt fd ks bK bB aY lz=>if op=ec then(bB.toNat+(if aY<0 then 2 else aY.toNat))*(RT.lG ks+2)+1 else RT.lG ks+3
def RT.lG:List RT->Nat
 | []=>0
 |k::ks=>RT.wt k+RT.lG ks
end
mutual
def RT.dp:RT->Nat
 |.node op sp nt fd ks bK bB aY lz=>RT.uZ ks+1
def RT.uZ:List RT->Nat
 | []=>0
 |k::ks=>max (RT.dp k) (RT.uZ ks)
end
theorem adB:∀{ks:List RT},RT.de G ks->∀k∈ks,RT.ok G k
 | [],_,k,h=>by simp at h
 |a::ks,h,k,hk=>by
  rw[RT.de]at h;rcases Bk.1 hk with rfl|hk
  ·exact h.1
  ·exact adB h.2 k hk
theorem Sq:∀{ks:List RT},∀k∈ks,RT.wt k<=RT.lG ks
 | [],k,h=>by simp at h
 |a::ks,k,hk=>by
  rw[RT.lG];rcases Bk.1 hk with rfl|hk
  ·omega
  ·have:=Sq k hk;omega
theorem aaL:∀{ks:List RT},∀k∈ks,RT.dp k<=RT.uZ ks
 | [],k,h=>by simp at h
 |a::ks,k,hk=>by
  rw[RT.uZ];rcases Bk.1 hk with rfl|hk
  ·omega
  ·have:=aaL k hk;omega
theorem RT.aly(h:n.ok G):RT.de G n.aJ:=by
 cases n with
 |node op sp nt fd ks bK bB aY lz=>rw[RT.ok]at h;exact h.1
theorem RT.Ub(n:RT):n.dp=RT.uZ n.aJ+1:=by
 cases n with
 |node op sp nt fd ks bK bB aY lz=>rw[RT.dp];rfl
def CI.ok(G:Nat)(c:CI):Prop:=match c.n with
 |none=>1<=c.bK/\c.bK<=G/\c.bR=false
 |some n=>n.ok G/\(c.bR=true->n.op=ec/\c.bB=0/\c.aY= -1)/\(n.op=ec->0<=c.bB/\c.bB<=99/\ -1<=c.aY/\c.aY<=99)
def mg(G:Nat)(S:List CI):Prop:=∀c∈S,c.ok G
def tc:List CI->Nat
 | []=>0
 |c::S=>(if c.bR then 1 else 0)+tc S
def CI.dp(c:CI):Nat:=match c.n with
 |none=>0
 |some n=>n.dp
def Deep(D:Nat):List CI->Prop
 | []=>True
 |c::S=>c.dp+tc S<=D/\Deep D S
theorem afh(A S:List CI):tc (A++S)=tc A+tc S:=by
 induction A with
 |nil=>simp[tc]
 |cons c A ih=>simp only[Bv,tc,ih];omega
theorem afi(ks:List RT):tc (ks.map bo)=0:=by
 induction ks with
 |nil=>rfl
 |cons k ks ih=>simp only[Bt,tc,ih,bo];simp
theorem aaF(hS:Deep D S):∀(ks:List RT),(∀k∈ks,k.dp+tc S<=D)->Deep D (ks.map bo++S)
 | [],_=>hS
 |k::ks,h=>by
  refine⟨?_,aaF hS ks (fun k hk=>h k (Ar _ hk))⟩;show(bo k).dp+tc (ks.map bo++S)<=D
  rw[afh,afi];have:=h k Aq;simp only[CI.dp,bo];omega
theorem NG(h:k.ok G):(bo k).ok G:=by
 refine⟨h,fun e=>by simp[bo]at e,fun e=>?_⟩
 cases k with
 |node op sp nt fd ks bK bB aY lz=>
  rw[RT.ok]at h;simp only[RT.op]at e;subst e;rcases h.2 with q|q|q|q|q|q|q
  ·exact absurd q (by decide)
  ·exact absurd q (by decide)
  ·exact absurd q (by decide)
  ·exact absurd q.1 (by decide)
  ·exact absurd q.1 (by decide)
  ·exact absurd q.1 (by decide)
  ·exact q.2.2
theorem RT.z8(h:n.ok G):(n.op=eR)\/(n.op=pM\/n.op=oX\/n.op=od\/n.op=oW)\/(n.op=iJ)\/(n.op=iI/\n.aJ≠ [])\/(n.op=fi/\n.aJ.length=1/\1<=n.bK/\n.bK<=G)\/(n.op=gW/\n.aJ.length=1)\/(n.op=ec/\n.aJ.length=1):=by
 cases n with
 |node op sp nt fd ks bK bB aY lz=>
  rw[RT.ok]at h;rcases h.2 with q|q|q|q|q|q|q
  ·exact Or.inl q
  ·exact Or.inr (Or.inl q)
  ·exact Or.inr (Or.inr (Or.inl q))
  ·exact Or.inr (Or.inr (Or.inr (Or.inl q)))
  ·exact Or.inr (Or.inr (Or.inr (Or.inr (Or.inl q))))
  ·exact Or.inr (Or.inr (Or.inr (Or.inr (Or.inr (Or.inl q)))))
  ·exact Or.inr (Or.inr (Or.inr (Or.inr (Or.inr (Or.inr ⟨q.1,q.2.1⟩)))))
def CI.wt(c:CI)(Lx:Bool):Nat:=match c.n with
 |none=>1
 |some n=>if n.op=ec then(if c.bR then(if Lx then 1 else RT.lG n.aJ+3)else(c.bB.toNat+(if c.aY<0 then 2 else c.aY.toNat))*(RT.lG n.aJ+2)+1)else n.wt
def wS(i:Nat):List CI->List Nat->Nat
 | [],_=>0
 |c::S,ts=>if c.bR then c.wt (ts.head?==some i)+wS i S ts.tail else c.wt false+wS i S ts
theorem RT.apz(h:n.op=ec):n.wt=(n.bB.toNat+(if n.aY<0 then 2 else n.aY.toNat))*(RT.lG n.aJ+2)+1:=by
 cases n with
 |node op sp nt fd ks bK bB aY lz=>rw[RT.wt];exact if_pos h
theorem RT.afF(h:n.op≠ec):n.wt=RT.lG n.aJ+3:=by
 cases n with
 |node op sp nt fd ks bK bB aY lz=>rw[RT.wt];exact if_neg h
theorem NH(n:RT)(b:Bool):(bo n).wt b=n.wt:=by
 show(if n.op=ec then(if false=true then(if b then 1 else RT.lG n.aJ+3)else(n.bB.toNat+(if n.aY<0 then 2 else n.aY.toNat))*(RT.lG n.aJ+2)+1)else n.wt)=n.wt
 by_cases h:n.op=ec
 ·rw[if_pos h,RT.apz h];simp
 ·rw[if_neg h]
theorem afr(i:Nat)(S:List CI)(ts:List Nat):∀ks:List RT,wS i (ks.map bo++S) ts=RT.lG ks+wS i S ts
 | []=>by simp[RT.lG]
 |k::ks=>by
  have ih:=afr i S ts ks;simp only[Bt,Bv];rw[show wS i (bo k::(ks.map bo++S)) ts=(bo k).wt false+wS i (ks.map bo++S) ts from rfl,ih,NH,RT.lG];omega
def oo(i:Nat)(ts:List Nat):Prop:=(∀t∈ts,t<=i)/\ts.Pairwise (fun a b=>b<=a)
theorem oo.push(h:oo i ts):oo i (i::ts):=⟨fun t ht=>by
 rcases Bk.1 ht with rfl|ht
 ·exact Aa _
 ·exact h.1 t ht,Cw.2 ⟨fun t ht=>h.1 t ht,h.2⟩⟩
theorem oo.tail(h:oo i ts):oo i ts.tail:=by
 cases ts with
 |nil=>exact h
 |cons t ts=>exact⟨fun u hu=>h.1 u (Ar _ hu),(Cw.1 h.2).2⟩
theorem oo.next(h:oo i ts):oo (i+1) ts:=⟨fun t ht=>by have:=h.1 t ht;omega,h.2⟩
def tN(ts:List Nat)(i:Nat):Nat:=(ts.takeWhile (fun t=>t==i)).length
theorem aaa{t:Nat}(h:oo i (t::ts))(aF:t≠i):∀u∈t::ts,u<i:=by
 intro u hu;have h1:=h.1 t Aq;rcases Bk.1 hu with rfl|hu
 ·omega
 ·have:=(Cw.1 h.2).1 u hu;omega
theorem ZW:∀{ts us:List Nat},ts.length=us.length->(∀t∈ts,t<i)->(∀u∈us,u<i)->oh i ts us
 | [],[],_,_,_=>trivial
 |t::ts,u::us,h,h1,h2=>by
  have a:=h1 t Aq;have b:=h2 u Aq;exact⟨by omega,by omega,by constructor<;>intro e<;>omega,ZW (by simpa using h) (fun t ht=>h1 t (Ar _ ht)) (fun u hu=>h2 u (Ar _ hu))⟩
 | [],_::_,h,_,_=>by simp at h
 |_::_,[],h,_,_=>by simp at h
theorem Tx{i:Nat}:∀{ts us:List Nat},ts.length=us.length->oo i ts->oo i us->tN ts i=tN us i->oh i ts us
 | [],[],_,_,_,_=>trivial
 |t::ts,u::us,h,h1,h2,e=>by
  unfold tN at e;rw[D3,D3]at e;by_cases ht:t=i
  ·by_cases hu:u=i
   ·subst ht;subst hu;simp only[En,if_true,A1,Nat.add_right_cancel_iff]at e;exact(Tx (by simpa using h) h1.tail h2.tail e).push
   ·rw[if_pos (by simp[ht]),if_neg (by simp[hu])]at e;simp at e
  ·by_cases hu:u=i
   ·rw[if_neg (by simp[ht]),if_pos (by simp[hu])]at e;simp at e
   ·exact ZW h (aaa h1 ht) (aaa h2 hu)
 | [],_::_,h,_,_,_=>by simp at h
 |_::_,[],h,_,_,_=>by simp at h
def AZ(x:TX)(S:List CI)(i m:Nat):Prop:=∀gs ts,oo i ts->ts.length=tc S->tN ts i=m->cV x S i gs ts none
theorem AZ.of(h:cV x S i gs ts none)(uq:oo i ts)(hl:ts.length=tc S):AZ x S i (tN ts i):=
 fun dc gY h1 h2 h3=>h.af9 (Tx (by omega) uq h1 h3.symm)
theorem Nc(h:n.op=iJ):cF n c S=[n.aJ.map bo++S]:=by unfold cF;rw[if_pos h]
theorem Ha(h:n.op=iI):cF n c S=n.aJ.map (fun k=>bo k::S):=by
 unfold cF;rw[if_neg (by rw[h];decide),if_pos h]
theorem Nb(h:n.op=fi):cF n c S=(n.aJ.take 1).map (fun k=>bo k::mT n.bK::S):=by
 unfold cF;rw[if_neg (by rw[h];decide),if_neg (by rw[h];decide),if_pos h]
theorem Na(h:n.op=gW):cF n c S=(n.aJ.take 1).map (fun k=>bo k::S):=by
 unfold cF;rw[if_neg (by rw[h];decide),if_neg (by rw[h];decide),if_neg (by rw[h];decide),if_pos h]
theorem yy(h:n.op=ec):cF n c S=(n.aJ.take 1).map (fun k=>bo k::dN n c::S):=by
 unfold cF;rw[if_neg (by rw[h];decide),if_neg (by rw[h];decide),if_neg (by rw[h];decide),if_neg (by rw[h];decide),if_pos h]
theorem xn(h:n.op=eR\/n.op=pM\/n.op=oX\/n.op=od\/n.op=oW):cF n c S=[]:=by
 unfold cF;rw[if_neg,if_neg,if_neg,if_neg,if_neg];all_goals(intro e;rw[e]at h;revert h;decide)
theorem anf(hn:c.n=some n)(hc:c.ok G)(ht:n.op=ec):(dN n c).ok G:=by
 unfold CI.ok at hc;rw[hn]at hc;obtain⟨h1,h2,h3⟩:=hc;obtain⟨a1,a2,a3,a4⟩:=h3 ht;unfold dN;split
 ·refine⟨h1,fun e=>by simp at e,fun _=>?_⟩;simp only;refine⟨by omega,by omega,?_,?_⟩<;>split<;>omega
 ·split
  ·refine⟨h1,fun e=>by simp at e,fun _=>?_⟩;simp only;exact⟨by omega,by omega,by omega,by omega⟩
  ·split
   ·exact⟨h1,fun _=>⟨ht,rfl,rfl⟩,fun _=>by simp⟩
   ·unfold CI.ok;rw[hn];exact⟨h1,h2,h3⟩
theorem XG(hn:c.n=some n):(dN n c).n=some n:=by
 unfold dN;repeat' split
 all_goals first|rfl|exact hn
theorem XH:(dN n c).bR=decide (c.bB<=0/\c.aY<=0):=by
 unfold dN;split
 ·rename_i h;simp;omega
 ·split
  ·rename_i h h2;simp;omega
  ·rename_i h h2
   split
   ·simp;omega
   ·rename_i h3
    simp only[Bool.not_eq_false]at h3;rw[h3];simp;omega
theorem mg.cons(hc:c.ok G)(hS:mg G S):mg G (c::S):=fun d hd=>by
 rcases Bk.1 hd with rfl|hd
 ·exact hc
 ·exact hS d hd
theorem mg.amE(hS:mg G S)(ks:List RT)(h:∀k∈ks,k.ok G):mg G (ks.map bo++S):=fun d hd=>by
 rcases A2.1 hd with hd|hd
 ·obtain⟨k,hk,rfl⟩:=Bh.1 hd;exact NG (h k hk)
 ·exact hS d hd
theorem zT(hn:c.n=some n)(hc:c.ok G)(hS:mg G S)(hd:Deep D (c::S)):∀Z∈cF n c S,mg G Z/\Deep D Z:=by
 have rO:=hc;unfold CI.ok at rO;rw[hn]at rO;have dt:=rO.1;have hk:=adB (RT.aly dt);have Vg:n.dp+tc S<=D:=by have:=hd.1;unfold CI.dp at this;rw[hn]at this;exact this
 rw[RT.Ub]at Vg;have jA:∀k∈n.aJ,k.dp+1+tc S<=D:=fun k hk=>by have:=aaL k hk;omega
 have V6:∀k∈n.aJ.take 1,k∈n.aJ:=fun k hk=>B9 hk
 intro Z hZ;rcases(RT.z8 dt)with q|q|q|q|q|q|q
 ·rw[xn (Or.inl q)]at hZ;simp at hZ
 ·rw[xn (Or.inr q)]at hZ;simp at hZ
 ·rw[Nc q]at hZ;simp only[Bj]at hZ;subst hZ;exact⟨hS.amE _ hk,aaF hd.2 _ (fun k hk=>by have:=jA k hk;omega)⟩
 ·rw[Ha q.1]at hZ;obtain⟨k,iY,rfl⟩:=Bh.1 hZ;exact⟨hS.cons (NG (hk k iY)),by have:=jA k iY;simp only[CI.dp,bo];omega,hd.2⟩
 ·rw[Nb q.1]at hZ;obtain⟨k,iY,rfl⟩:=Bh.1 hZ;have iY:=V6 k iY;refine⟨(hS.cons (c:=mT n.bK) ⟨q.2.2.1,q.2.2.2,rfl⟩).cons (NG (hk k iY)),?_,?_,hd.2⟩
  ·have:=jA k iY;simp only[CI.dp,bo,tc,mT];simp;omega
  ·have:=jA k iY;simp only[CI.dp,mT];omega
 ·rw[Na q.1]at hZ;obtain⟨k,iY,rfl⟩:=Bh.1 hZ;have iY:=V6 k iY;exact⟨hS.cons (NG (hk k iY)),by have:=jA k iY;simp only[CI.dp,bo];omega,hd.2⟩
 ·rw[yy q.1]at hZ;obtain⟨k,iY,rfl⟩:=Bh.1 hZ;have iY:=V6 k iY;refine⟨(hS.cons (anf hn hc q.1)).cons (NG (hk k iY)),?_,?_,hd.2⟩
  ·have:=jA k iY;simp only[CI.dp,bo,tc];split<;>omega
  ·unfold CI.dp;rw[XG hn];show n.dp+tc S<=D
   rw[RT.Ub];exact Vg
theorem ac8(dt:n.ok G):∀Z∈cF n c S,tc Z=(if n.op=ec/\c.bB<=0/\c.aY<=0 then 1 else 0)+tc S:=by
 intro Z hZ;rcases(RT.z8 dt)with q|q|q|q|q|q|q
 ·rw[xn (Or.inl q)]at hZ;simp at hZ
 ·rw[xn (Or.inr q)]at hZ;simp at hZ
 ·rw[Nc q]at hZ;simp only[Bj]at hZ;subst hZ;rw[afh,afi,if_neg (by rw[q];exact fun h=>absurd h.1 (by decide))]
 ·rw[Ha q.1]at hZ;obtain⟨k,iY,rfl⟩:=Bh.1 hZ;rw[if_neg (by rw[q.1];exact fun h=>absurd h.1 (by decide))];simp[tc,bo]
 ·rw[Nb q.1]at hZ;obtain⟨k,iY,rfl⟩:=Bh.1 hZ;rw[if_neg (by rw[q.1];exact fun h=>absurd h.1 (by decide))];simp[tc,bo,mT]
 ·rw[Na q.1]at hZ;obtain⟨k,iY,rfl⟩:=Bh.1 hZ;rw[if_neg (by rw[q.1];exact fun h=>absurd h.1 (by decide))];simp[tc,bo]
 ·rw[yy q.1]at hZ;obtain⟨k,iY,rfl⟩:=Bh.1 hZ;simp only[tc,bo,XH,q.1,true_and];simp
theorem CI.afG(c:CI)(b:Bool):1<=c.wt b:=by
 unfold CI.wt
 cases c.n with
 |none=>exact Aa _
 |some n=>
  simp only;split
  ·split
   ·split<;>omega
   ·omega
  ·rename_i h;rw[RT.afF h];omega
theorem Sn:wS i S (if c.bR then ts.tail else ts)<wS i (c::S) ts:=by
 rw[show wS i (c::S) ts=if c.bR then c.wt (ts.head?==some i)+wS i S ts.tail else c.wt false+wS i S ts from rfl]
 cases hc:c.bR
 ·simp only[Ag,if_false];have:=c.afG false;omega
 ·simp only[if_true];have:=c.afG (ts.head?==some i);omega
theorem apA(h:n.aJ.length=1)(hk:k∈n.aJ.take 1):RT.lG n.aJ=k.wt:=by
 match wT:n.aJ,h with
 | [a],_=>
   rw[wT]at hk;simp only[Dn,List.take_zero,Bj]at hk;subst hk;simp[RT.lG]
theorem WH(hn:c.n=some n)(hc:c.ok G)(ht:n.op≠ec):∀Z∈cF n c S,wS i Z ts<wS i (c::S) ts:=by
 unfold CI.ok at hc;rw[hn]at hc;have dt:=hc.1
 have ajQ:c.bR=false:=by
  cases h:c.bR
  ·rfl
  ·exact absurd (hc.2.1 h).1 ht
 have hw:wS i (c::S) ts=RT.lG n.aJ+3+wS i S ts:=by
  rw[show wS i (c::S) ts=if c.bR then c.wt (ts.head?==some i)+wS i S ts.tail else c.wt false+wS i S ts from rfl,ajQ];simp only[Ag,if_false];unfold CI.wt;rw[hn];simp only;rw[if_neg ht,RT.afF ht]
 rw[hw];intro Z hZ;rcases(RT.z8 dt)with q|q|q|q|q|q|q
 ·rw[xn (Or.inl q)]at hZ;simp at hZ
 ·rw[xn (Or.inr q)]at hZ;simp at hZ
 ·rw[Nc q]at hZ;simp only[Bj]at hZ;subst hZ;rw[afr];omega
 ·rw[Ha q.1]at hZ;obtain⟨k,iY,rfl⟩:=Bh.1 hZ;have:=Sq k iY;show(bo k).wt false+wS i S ts<_
  rw[NH];omega
 ·rw[Nb q.1]at hZ;obtain⟨k,iY,rfl⟩:=Bh.1 hZ;have:=Sq k (B9 iY);show(bo k).wt false+(1+wS i S ts)<_
  rw[NH];omega
 ·rw[Na q.1]at hZ;obtain⟨k,iY,rfl⟩:=Bh.1 hZ;have:=Sq k (B9 iY);show(bo k).wt false+wS i S ts<_
  rw[NH];omega
 ·exact absurd q.1 ht
theorem ac7(hn:c.n=some n)(hc:c.ok G)(ht:n.op=ec)(hh:¬(c.bR=true/\ts.head?=some i))(hm:0<c.bB\/c.aY≠0):
 ∀Z∈cF n c S,wS i Z (if c.bB<=0/\c.aY<0 then i::(if c.bR then ts.tail else ts)else(if c.bR then ts.tail else ts))<wS i (c::S) ts:=by
 have LX:=hc;unfold CI.ok at hc;rw[hn]at hc;obtain⟨dt,h2,h3⟩:=hc;obtain⟨a1,a2,a3,a4⟩:=h3 ht
 have nT:n.aJ.length=1:=by
  rcases(RT.z8 dt)with q|q|q|q|q|q|q
  ·rw[q]at ht;exact absurd ht (by decide)
  ·rw[ht]at q;exact absurd q (by decide)
  ·rw[q]at ht;exact absurd ht (by decide)
  ·rw[q.1]at ht;exact absurd ht (by decide)
  ·exact q.2.1
  ·exact q.2
  ·exact q.2
 intro Z hZ;rw[yy ht]at hZ;obtain⟨k,iY,rfl⟩:=Bh.1 hZ;have hk:=apA nT iY;generalize fP:(if c.bR then ts.tail else ts)=to0
 have hL:wS i (c::S) ts=c.wt (if c.bR then ts.head?==some i else false)+wS i S to0:=by
  rw[show wS i (c::S) ts=if c.bR then c.wt (ts.head?==some i)+wS i S ts.tail else c.wt false+wS i S ts from rfl,<-fP]
  cases c.bR<;>simp
 have vj:(if c.bR then ts.head?==some i else false)=false:=by
  cases h:c.bR
  ·simp
  ·simp only[if_true]
   cases hb:(ts.head?==some i)
   ·rfl
   ·exact absurd ⟨h,Ai.1 hb⟩ hh
 rw[vj]at hL;rw[hL];rw[show wS i (bo k::dN n c::S) (if c.bB<=0/\c.aY<0 then i::to0 else to0)=(bo k).wt false+wS i (dN n c::S) (if c.bB<=0/\c.aY<0 then i::to0 else to0)from rfl,NH,<-hk]
 have nQ:c.wt false=if c.bR then RT.lG n.aJ+3 else(c.bB.toNat+(if c.aY<0 then 2 else c.aY.toNat))*(RT.lG n.aJ+2)+1:=by
  unfold CI.wt;rw[hn];simp only;rw[if_pos ht];simp
 rw[nQ];by_cases cS:c.bB<=0/\c.aY<0
 ·rw[if_pos cS];have oN:(dN n c).bR=true:=by rw[XH];simp;omega
  have hr:wS i (dN n c::S) (i::to0)=1+wS i S to0:=by
   rw[show wS i (dN n c::S) (i::to0)=if(dN n c).bR then(dN n c).wt ((i::to0).head?==some i)+wS i S to0 else(dN n c).wt false+wS i S (i::to0)from rfl,oN];simp only[if_true]
   have:(dN n c).wt ((i::to0).head?==some i)=1:=by
    unfold CI.wt;rw[XG hn];simp[ht,oN]
   rw[this]
  rw[hr]
  cases c.bR
  ·simp only[Ag,if_false];rw[if_pos cS.2];have:2*(RT.lG n.aJ+2)<=(c.bB.toNat+2)*(RT.lG n.aJ+2):=Bb _ (by omega);omega
  ·simp only[if_true];omega
 ·rw[if_neg cS];have oN:(dN n c).bR=false:=by rw[XH];simp;omega
  have hcf:c.bR=false:=by
   cases h:c.bR
   ·rfl
   ·obtain⟨_,e1,e2⟩:=h2 h;exact absurd ⟨by omega,by omega⟩ cS
  have hr:wS i (dN n c::S) to0=(dN n c).wt false+wS i S to0:=by
   rw[show wS i (dN n c::S) to0=if(dN n c).bR then(dN n c).wt (to0.head?==some i)+wS i S to0.tail else(dN n c).wt false+wS i S to0 from rfl,oN];simp
  rw[hr,hcf];simp only[Ag,if_false]
  have hw:∀(A B:Int),(⟨some n,A,B,0,false⟩:CI).wt false=(A.toNat+(if B<0 then 2 else B.toNat))*(RT.lG n.aJ+2)+1:=fun A B=>by
   unfold CI.wt;simp[ht]
  unfold dN;by_cases hl:0<c.bB
  ·rw[if_pos hl,hw]
   have e:(c.bB-1).toNat+(if(if 0<c.aY then c.aY-1 else c.aY)<0 then 2 else(if 0<c.aY then c.aY-1 else c.aY).toNat)+1<=c.bB.toNat+(if c.aY<0 then 2 else c.aY.toNat):=by
    by_cases h0:0<c.aY
    ·rw[if_pos h0,if_neg (by omega),if_neg (by omega)];omega
    ·rw[if_neg h0];split<;>omega
   have:=Bb (RT.lG n.aJ+2) e;rw[Ci]at this;omega
  ·rw[if_neg hl,if_pos (by omega),hw]
   have e:(0:Int).toNat+(if c.aY-1<0 then 2 else(c.aY-1).toNat)+1<=c.bB.toNat+(if c.aY<0 then 2 else c.aY.toNat):=by
    rw[if_neg (by omega),if_neg (by omega)];omega
   have:=Bb (RT.lG n.aJ+2) e;rw[Ci]at this;omega
end Go.Proofs.YtmbpfhlnifdhgaaGreatDoor
