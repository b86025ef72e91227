/- The program's se -/
import Derived.Test.YtpdnofhackjfdaaGreatDoorP04
import Derived.Test.YtpdnofhackjfdaaGreatDoorP02
set_option linter.all false
set_option maxRecDepth 100000
set_option maxHeartbeats 2000000
namespace Go.Proofs.YtpdnofhackjfdaaGreatDoor
open Go.Proofs.Tryz
open Go.RowKit Go.Maps
variable {C:CT} {cs:List CT} {ts:List PT} {xs:List Value} {b base cap e hi lo n size:Nat} {S:Nat->Prop} {o:Obj} {T:PT} {l:bF} {t:TypeId} {v v':Value} {W w w' w1:World}
theorem No(w:World)(l:bF)(hl:l.length<=100000):(w.alloc (.cells (dd l).toArray 219)).ownsRow w.heap.size 219 2 (.slice (some ⟨w.heap.size,0,none⟩) l.length l.length) l.length (dd l):=
 ⟨zV l,Or.inr ⟨w.heap.size,l.length,(dd l).toArray,rfl,Ab _,aq.new w _ _,Ab _,by unfold maxLen;omega,by simp[zV],by simp[By,zV]⟩⟩
theorem RA(r:Int)(w:World):Calls prog 122 #[.int .i32 r] w fun e w'=>∃v,e=.returned v/\w'.ownsRow w.heap.size 219 2 v (lY r).length (dd (lY r))/\aa af w w':=by
 unfold lY;by_cases h1:r=100
 ·rw[if_pos h1];subst h1;go_in;go_wp2;go_ret;exact⟨_,rfl,No w [(48,57)] (by simp),(aa.refl _ _).alloc _⟩
 ·rw[if_neg h1];by_cases h2:r=119
  ·rw[if_pos h2];subst h2;go_in;go_wp2;go_ret;exact⟨_,rfl,No w [(48,57),(65,90),(95,95),(97,122)] (by simp),(aa.refl _ _).alloc _⟩
  ·rw[if_neg h2];have e1:(r==100)=false:=(by simp[h1]);have e2:(r==119)=false:=(by simp[h2]);clear h1 h2;go_in;go_wp2;go_ret;exact⟨_,rfl,No w [(9,10),(13,13),(32,32)] (by simp),(aa.refl _ _).alloc _⟩
theorem aaw(r:Int)(w:World):Calls prog 135 #[.int .i32 r] w fun e w'=>e=.returned (.int .i64 (sF r))/\w'=w:=by
 go_in
 go_wp2
 all_goals go_ret
 all_goals refine⟨?_,rfl⟩
 all_goals(simp only[Gi,beq_eq_false_iff_ne,ne_eq]at*;simp[sF, *])
theorem aoV(r:Int)(w:World)(h:65<=r/\r<=90):Calls prog 167 #[.int .i32 r] w fun e w'=>e=.returned (.int .i32 (r+32))/\w'=w:=by
 have h1:r<=127:=by omega
 have h2:65<=r:=h.1;have h3:r<=90:=h.2;go_in;go_wp2;all_goals go_ret
 all_goals exact⟨rfl,rfl⟩
theorem wN(h:w.ownsRow base 219 2 v l.length (dd l))(az:l≠ []):∃g cap,v=.slice (some ⟨g,0,none⟩) l.length cap/\base<=g/\g<w.heap.size/\fV w g l/\l.length<=cap:=by
 rcases h.2 with⟨_,h0⟩|⟨g,cap,aM,rfl,a1,a2,a3,a4,a5,a6⟩
 ·exact absurd (Ax.1 h0) az
 ·refine⟨g,cap,rfl,a1,(Am.1 a2).1,fun i hi=>?_,a3⟩;have hf:=LI l i hi
  have rD:∀j x,j<l.length*2->(dd l)[j]? =some x->w.cell? ⟨g,j,none⟩=some x:=by
   intro j x hj hx;rw[<-a6,Aw hj]at hx;simp only[World.cell?,a2];simpa using hx
  exact⟨rD _ _ (by omega) hf.1,rD _ _ (by omega) hf.2⟩
theorem aae(h:fV w b l):∀j u,(dd l)[j]? =some u->w.cell? (Addr.add ⟨b,0,none⟩ j)=some u:=by
 intro j u hj
 have e:Addr.add ⟨b,0,none⟩ j=⟨b,j,none⟩:=by
  unfold Addr.add;split
  ·rename_i hz;simp
  ·simp
 have aw:j<l.length*2:=by rw[<-zV];exact(Ag.1 hj).1
 have hi:j/2<l.length:=by omega
 have hc:=h (j/2) hi;have hf:=LI l (j/2) hi;rw[e];rcases Eo j with h0|h0
 ·have e2:j=j/2*2:=by omega
  rw[show(dd l)[j]? =(dd l)[j/2*2]? by congr 1,hf.1]at hj;rw[show w.cell? ⟨b,j,none⟩=w.cell? ⟨b,j/2*2,none⟩ by congr 2,hc.1];exact hj
 ·have e2:j=j/2*2+1:=by omega
  rw[show(dd l)[j]? =(dd l)[j/2*2+1]? by congr 1,hf.2]at hj;rw[show w.cell? ⟨b,j,none⟩=w.cell? ⟨b,j/2*2+1,none⟩ by congr 2,hc.2];exact hj
theorem agV(hc:fV w b l)(hl:l.length<=100000)(hb:b<w.heap.size):
 Calls prog 187 #[.slice (some ⟨b,0,none⟩) l.length cap] w fun e w'=>∃v,e=.returned v/\w'.ownsRow w.heap.size 219 2 v l.length (dd l)/\aa af w w':=by
 obtain⟨i0,cS,dm,dp,c_⟩:=Bp Tryz.Js;have nI:=hc.kept ((aa.refl af w).alloc (.cells (dd []).toArray 219)) hb (fun hx=>hx);have q22:∀(W:World) (n c:Nat),(binOp .eql 60 (.slice (some ⟨b,0,none⟩) n c) (.slice none 0 0)).run prog W=.ok (.bool false) W:=fun W n c=>Lib.run_eql_slice_nil W _ _ (some ⟨b,0,none⟩) n c 0 0 underlying60
 go_in
 go_wp2_with (at_builtin;refine Ap _ rfl _ _ 60 rfl w.heap.size 219 i0 _ 2 8 underlying60 cS dm dp c_ rfl (by decide) _ 0 [] rfl (No w [] (by simp)) ⟨b,0,none⟩ l.length cap (dd l) rfl (zV l) (aae nI) (aaN l) ?c3 ?c4 ?c5 ?_)
 case c3=>unfold maxLen;omega
 case c4=>omega
 case c5=>simp
 intro v' w7 bH b_ dS cB;go_wp2_with fail;go_ret;refine⟨v',rfl,by simpa using bH,?_⟩;refine((aa.refl af w).alloc _).bZ ((aa.refl (fun i=>i=w.heap.size) _).eQ b_ (fun k hk=>Or.inl ?_)) (fun i hi he=>by omega);simp[Value.ownBlock]at hk;exact hk.symm
theorem Q_(h:w.ownsRow base e size v n xs):∃ao cap,v=.slice ao n cap:=by
 rcases h.2 with⟨rfl,h0⟩|⟨g,cap,aM,rfl,_⟩
 ·exact⟨none,0,by rw[h0]⟩
 ·exact⟨_,cap,rfl⟩
theorem uA(h:w.ownsRow base e size v n xs)(hb:v.ownBlock=some b):base<=b/\b<w.heap.size:=by
 rcases h.2 with⟨rfl,_⟩|⟨g,cap,aM,rfl,h1,h2,_⟩
 ·simp[Value.ownBlock]at hb
 ·simp[Value.ownBlock]at hb
  subst hb;exact⟨h1,(Am.1 h2).1⟩
theorem Hj{x:Int×Int}(bt:w'.ownsRow base 219 2 v' (l.length+1) (dd l++[.int .i32 x.1,.int .i32 x.2])):w'.ownsRow base 219 2 v' (l++[x]).length (dd (l++[x])):=by
 rw[LH,Aj];exact bt
theorem aco(h:w1.ownsRow base 219 2 v n xs)(hb:w.heap.size<=base)(k:aa af w w1)(hg:(w1.alloc o).grownBy w' v.ownBlock):aa af w w':=by
 have k2:aa (fun i=>w.heap.size<=i) w1 w':=((aa.refl _ w1).alloc o).eQ hg (fun i hi=>Or.inl (by have:=(uA h hi).1;omega));exact k.bZ k2 (fun i hi he=>by omega)
theorem agf(bt:w1.ownsRow base 219 2 v n xs)(cs:Array Value)(t:TypeId)(hg:((w1.alloc (.cells cs t)).alloc o).grownBy w' v.ownBlock):aq w' w1.heap.size cs t:=by
 have hb:aq ((w1.alloc (.cells cs t)).alloc o) w1.heap.size cs t:=(aq.new w1 cs t).alloc o;exact(hg.block _ hb.lt (fun e=>by have:=(uA bt e.symm).2;omega)).trans hb
theorem al7{ao:Option Addr}(mj:l≠ []->ao=some ⟨b,0,none⟩)(hc:fV w b l)(hr:dz l)(hl:l.length<=90000)(hb:l≠ []->b<w.heap.size):
 Calls prog 170 #[.slice ao l.length cap] w fun e w'=>∃v,e=.returned v/\w'.ownsRow w.heap.size 219 2 v (xy l).length (dd (xy l))/\aa af w w':=by
 obtain⟨i0,cS,dm,dp,c_⟩:=Bp Tryz.Js;unfold xy;go_in;go_wp2_with fail;go_loopg [3,4,9] l.length (fun kk v nx i wr=>∃j:Nat,j<=l.length/\i=.int .i64 j/\nx=.int .i32 ((l.take j).foldl gh ([],0)).2/\kk=l.length-j/\wr.ownsRow w.heap.size 219 2 v ((l.take j).foldl gh ([],0)).1.length (dd ((l.take j).foldl gh ([],0)).1)/\aa af w wr)
 case atStart=>exact⟨0,Ao _,rfl,by simp,rfl,A6 _ _ _ _,aa.refl _ _⟩
 case round=>
  obtain⟨j,hj,rfl,rfl,rfl,bt,hk⟩:=hrel;obtain⟨rl1,rl2,rl3⟩:=adk (l.take j) (fun s hs=>hr s (Cf hs));have Qh:(l.take j).length<=l.length:=by simp;omega
  have Jb:=hk.size;by_cases aw:j<l.length
  ·have az:l≠ []:=by intro e;subst e;simp at aw
   have jV:=hb az;have q0:wr.cell? ⟨b,j*2,none⟩=some (.int .i32 (l[j]).1):=(hk.cell (p:=⟨b,j*2,none⟩) jV (fun hx=>hx)).trans (hc j aw).1;have q1:wr.cell? ⟨b,j*2+1,none⟩=some (.int .i32 (l[j]).2):=(hk.cell (p:=⟨b,j*2+1,none⟩) jV (fun hx=>hx)).trans (hc j aw).2;have hrj:=hr l[j] (A5 aw);have nZ:Hid ((l.take (j+1)).foldl gh ([],0)=gh ((l.take j).foldl gh ([],0)) l[j]):=al3 l j aw;have hao':=mj az;subst hao';clear hc hr mj hb;generalize(l.take j).foldl gh ([],0)=X at*;obtain⟨x1,x2⟩:=X;simp only at*;generalize l[j]=s at*;obtain⟨s1,s2⟩:=s;simp only at*;by_cases Mb:x2<s1
   ·have bC:Hid ((l.take (j+1)).foldl gh ([],0)=(x1++[(x2,s1-1)],s2+1)):=by show _=_;rw[nZ.o];simp[gh,Mb]
    clear nZ;go_wp2_with (at_builtin;refine Ap _ rfl _ _ 61 rfl w.heap.size 219 i0 _ 2 8 underlying61 cS dm dp c_ rfl (by decide) _ x1.length _ rfl ((bt.alloc _).alloc _) ⟨wr.heap.size+1,0,none⟩ 1 1 [.int .i32 x2,.int .i32 (s1-1)] rfl rfl ?c1 ?c2 ?c3 ?c4 ?c5 ?_)
    case c1=>intro j' u h;have:=uy (wr.alloc (.cells #[.int .i32 s1,.int .i32 s2] 219)) #[.int .i32 x2,.int .i32 (s1-1)] 219 j' u h;rwa[Fm]at this
    case c2=>intro u hu;simp at hu;rcases hu with rfl|rfl<;>rfl
    case c3=>unfold maxLen;omega
    case c4=>omega
    case c5=>simp;omega
    intro v' w7 bH b_ dS cB;have gP:=aco (bt.alloc (.cells #[.int .i32 s1,.int .i32 s2] 219)) (Ab _) (hk.alloc _) b_;have qz:=agf bt #[.int .i32 s1,.int .i32 s2] 219 b_;have hx:w7.cell? ⟨wr.heap.size,1,none⟩=some (.int .i32 s2):=qz.cell 1;have Gz:=Hj (x:=(x2,s1-1)) bH;clear bH b_ cB dS bt;go_wp2_with fail;go_roundg (l.length-(j+1))
    case measure=>omega
    case rel=>exact⟨j+1,by omega,by go_num,by rw[bC.o],rfl,by rw[bC.o];exact Gz,gP⟩
   ·have bC:Hid ((l.take (j+1)).foldl gh ([],0)=(x1,s2+1)):=by show _=_;rw[nZ.o];simp[gh,Mb]
    clear nZ;have qz:=aq.new wr #[.int .i32 s1,.int .i32 s2] 219;have ML:(wr.alloc (.cells #[.int .i32 s1,.int .i32 s2] 219)).cell? ⟨wr.heap.size,0,none⟩=some (.int .i32 s1):=qz.cell 0;have hx:(wr.alloc (.cells #[.int .i32 s1,.int .i32 s2] 219)).cell? ⟨wr.heap.size,1,none⟩=some (.int .i32 s2):=qz.cell 1;go_wp2_with fail;go_roundg (l.length-(j+1))
    case measure=>omega
    case rel=>exact⟨j+1,by omega,by go_num,by rw[bC.o],rfl,by rw[bC.o];exact bt.alloc _,hk.alloc _⟩
  ·have ej:j=l.length:=(by omega);subst ej;rw[Cn]at*;clear hc hr mj hb;generalize hX:l.foldl gh ([],0)=X at*;obtain⟨x1,x2⟩:=X;have HX:Hid (l.foldl gh ([],0)=(x1,x2)):=hX;clear hX;simp only at*;by_cases Mb:x2<=1114111
   ·go_wp2_with (at_builtin;refine Ap _ rfl _ _ 61 rfl w.heap.size 219 i0 _ 2 8 underlying61 cS dm dp c_ rfl (by decide) _ x1.length _ rfl (bt.alloc _) ⟨wr.heap.size,0,none⟩ 1 1 [.int .i32 x2,.int .i32 1114111] rfl rfl ?c1 ?c2 ?c3 ?c4 ?c5 ?_)
    case c1=>intro j' u h;exact uy wr #[.int .i32 x2,.int .i32 1114111] 219 j' u h
    case c2=>intro u hu;simp at hu;rcases hu with rfl|rfl<;>rfl
    case c3=>unfold maxLen;omega
    case c4=>omega
    case c5=>simp;omega
    intro v' w7 bH b_ dS cB;have gP:=aco bt (Ab _) hk b_;have Gz:=Hj (x:=(x2,1114111)) bH;clear bH b_ cB dS bt;go_wp2_with fail;go_ret;refine⟨_,rfl,?_,gP⟩;rw[HX.o,show yR (x1,x2)=x1++[(x2,1114111)]from if_pos Mb];exact Gz
   ·go_wp2_with fail
    go_ret
    refine⟨_,rfl,?_,hk⟩;rw[HX.o,show yR (x1,x2)=x1 from if_neg (by simpa using Mb)];exact bt
theorem CM{base':Nat}(h:w.ownsRow base e size v n xs)(hb:base'<=base):w.ownsRow base' e size v n xs:=by
 obtain⟨h1,h2⟩:=h;refine⟨h1,?_⟩;rcases h2 with h2|⟨g,cap,aM,rfl,a1,r⟩
 ·exact Or.inl h2
 ·exact Or.inr ⟨g,cap,aM,rfl,by omega,r⟩
theorem WH(h:w.ownsRow base e size v n xs)(k:aa S w w')(hs:∀b,v.ownBlock=some b->¬S b):w'.ownsRow base e size v n xs:=by
 obtain⟨h1,h2⟩:=h;refine⟨h1,?_⟩;rcases h2 with h2|⟨g,cap,aM,rfl,a1,a2,r⟩
 ·exact Or.inl h2
 ·exact Or.inr ⟨g,cap,aM,rfl,a1,(k.block g (Am.1 a2).1 (hs g rfl)).trans a2,r⟩
theorem ahX(a:bF)(p:Int×Int)(m:Int):(dd (a++[p])).set (a.length*2+1) (.int .i32 m)=dd (a++[(p.1,m)]):=by
 rw[LH,LH];have h:(dd a).length=a.length*2:=zV a;rw[Em _ _ (by omega),h,show a.length*2+1-a.length*2=1 by omega];rfl
theorem adl{g:Nat}{a:bF}{p:Int×Int}(m:Int)(h:w.ownsRow base 219 2 (.slice (some ⟨g,0,none⟩) (a.length+1) cap) (a.length+1) (dd (a++[p]))):
 (w.setCell ⟨g,a.length*2+1,none⟩ (.int .i32 m)).ownsRow base 219 2 (.slice (some ⟨g,0,none⟩) (a.length+1) cap) (a.length+1) (dd (a++[(p.1,m)]))/\w.frozen? ⟨g,a.length*2+1,none⟩=false:=by
 rcases h.2 with⟨he,_⟩|⟨g',Lo,aM,he,a1,a2,a3,a4,a5,a6⟩
 ·cases he
 ·cases he;refine⟨⟨by rw[zV];simp,Or.inr ⟨g,cap,aM.setIfInBounds (a.length*2+1) (.int .i32 m),rfl,a1,?_,a3,a4,by simpa using a5,?_⟩⟩,by simp[World.frozen?,a2]⟩
  ·exact aq.setCell (show aq w g aM _ from a2) _ _
  ·rw[Array.toList_setIfInBounds,<-ahX,<-a6,List.take_set]
theorem MV(h:w1.ownsRow base 219 2 v n xs)(hb:w.heap.size<=base)(k:aa af w w1)(kW:aa af w1 W)(hg:W.grownBy w' v.ownBlock):aa af w w':=by
 have k2:aa (fun i=>w.heap.size<=i) w1 w':=(kW.mono (fun _ hx=>hx.elim)).eQ hg (fun i hi=>Or.inl (by have:=(uA h hi).1;omega));exact k.bZ k2 (fun i hi he=>by omega)
theorem apc(ao:Option Addr)(n c:Nat)(w:World):Calls prog 146 #[.slice ao n c] w fun e w'=>e=.returned (.func (.func 173) #[] #[.pointer (some ⟨w.heap.size,0,none⟩)])/\w'=w.alloc (.cells #[.slice ao n c] 60):=by
 go_in
 go_wp2
 go_ret
 exact⟨rfl,rfl⟩
theorem Wu(hc:fV w b l)(hr:dz l)(hl:l.length<=80000)(az:l≠ [])(hb:b<w.heap.size):
 Calls prog 121 #[.slice (some ⟨b,0,none⟩) l.length cap] w fun e w'=>∃l' v,l'.Perm l/\l'.Pairwise (fun a b=>a.1<=b.1)/\e=.returned v/\w'.ownsRow w.heap.size 219 2 v (kY l').length (dd (kY l'))/\aa af w w':=by
 obtain⟨i0,cS,dm,dp,c_⟩:=Bp Tryz.Js;go_in;go_wp2_with fail;refine(apc _ _ _ w).mono ?_;rintro e w1 ⟨rfl,rfl⟩;have nI:=hc.kept ((aa.refl af w).alloc (.cells #[.slice (some ⟨b,0,none⟩) l.length cap] 60)) hb (fun hx=>hx);have vD:aa af w (w.alloc (.cells #[.slice (some ⟨b,0,none⟩) l.length cap] 60)):=(aa.refl af w).alloc _;have qz:=(aq.new w #[.slice (some ⟨b,0,none⟩) l.length cap] 60).cell 0;go_wp2_with fail;refine(aog w.heap.size b cap l (by omega) az _ (by simp) (by simp;omega) qz nI).mono ?_;rintro e w2 ⟨l',gb,rz,rfl,hp,hs,h_,Gl,tY,aN⟩;have abD:=vD.trans aN;have gg:=abD.size;rw[Fm]at Gl;have kD:dz l':=fun s h=>hr s (hp.mem_iff.1 h)
 have Qi:l'.length<=80000:=by have:=hp.length_eq;omega
 clear nI vD qz aN;go_wp2_with fail;go_loopg [4,13] l'.length (fun kk v i wr=>∃j:Nat,j<=l'.length/\i=.int .i64 j/\kk=l'.length-j/\wr.ownsRow w2.heap.size 219 2 v (kY (l'.take j)).length (dd (kY (l'.take j)))/\aa af w2 wr)
 case atStart=>exact⟨0,Ao _,rfl,rfl,A6 _ _ _ _,aa.refl _ _⟩
 case round=>
  obtain⟨j,hj,rfl,rfl,bt,hk⟩:=hrel;obtain⟨rl1,rl2⟩:=QT (l'.take j) (fun s hs=>kD s (Cf hs));have Qh:(l'.take j).length<=l'.length:=by simp;omega
  have Jb:=hk.size;by_cases aw:j<l'.length
  ·have q0:wr.cell? ⟨gb,j*2,none⟩=some (.int .i32 (l'[j]).1):=(hk.cell (p:=⟨gb,j*2,none⟩) tY (fun hx=>hx)).trans (h_ j aw).1;have q1:wr.cell? ⟨gb,j*2+1,none⟩=some (.int .i32 (l'[j]).2):=(hk.cell (p:=⟨gb,j*2+1,none⟩) tY (fun hx=>hx)).trans (h_ j aw).2;have hrj:=kD l'[j] (A5 aw);have nZ:Hid (kY (l'.take (j+1))=pV (kY (l'.take j)) l'[j]):=ak4 l' j aw;have HS:Hid (fV w2 gb l'/\dz l'/\l'.Perm l/\l'.Pairwise (fun a b=>a.1<=b.1)):=⟨h_,kD,hp,hs⟩;clear hc hr h_ kD hp hs;generalize kY (l'.take j)=X at*;generalize l'[j]=s at*;obtain⟨s1,s2⟩:=s;simp only at*;have qz:=aq.new wr #[.int .i32 s1,.int .i32 s2] 219;have x0:(wr.alloc (.cells #[.int .i32 s1,.int .i32 s2] 219)).cell? ⟨wr.heap.size,0,none⟩=some (.int .i32 s1):=qz.cell 0;have x1:(wr.alloc (.cells #[.int .i32 s1,.int .i32 s2] 219)).cell? ⟨wr.heap.size,1,none⟩=some (.int .i32 s2):=qz.cell 1;rcases RC X with rfl|⟨a,p,rfl⟩
   ·have bC:Hid (kY (l'.take (j+1))=[(s1,s2)]):=nZ.o;clear nZ;obtain⟨ao,c3,kX⟩:=Q_ bt;rw[kX]at bt⊢;clear kX;go_wp2_with fail;go_region;all_goals go_wp2_with (at_builtin;refine Ap _ rfl _ _ 61 rfl w2.heap.size 219 i0 _ 2 8 underlying61 cS dm dp c_ rfl (by decide) _ ([]:bF).length _ rfl ((bt.alloc (.cells #[.int .i32 s1,.int .i32 s2] 219)).alloc (.cells #[.int .i32 s1,.int .i32 s2] 219)) ⟨wr.heap.size+1,0,none⟩ 1 1 [.int .i32 s1,.int .i32 s2] rfl rfl ?c1 ?c2 ?c3 ?c4 ?c5 ?_)
    case c1=>intro j' u h;have:=uy (wr.alloc (.cells #[.int .i32 s1,.int .i32 s2] 219)) #[.int .i32 s1,.int .i32 s2] 219 j' u h;rwa[Fm]at this
    case c2=>intro u hu;simp at hu;rcases hu with rfl|rfl<;>rfl
    case c3=>unfold maxLen;first|omega|(simp;done)|(simp;omega)
    case c4=>first|omega|(simp;done)|(simp;omega)
    case c5=>simp;omega
    intro v' w7 bH b_ dS cB;have gP:=MV bt (Ab _) hk ((((aa.refl af wr).alloc (.cells #[.int .i32 s1,.int .i32 s2] 219)).alloc (.cells #[.int .i32 s1,.int .i32 s2] 219)).drew) b_;have Gz:=Hj (x:=(s1,s2)) bH;clear bH b_ cB dS bt;go_wp2_with fail;go_roundg (l'.length-(j+1))
    case measure=>omega
    case rel=>exact⟨j+1,by omega,by go_num,rfl,by rw[bC.o];exact Gz,gP⟩
   ·obtain⟨g,gc,kX,hg3,hg4,jx,yq⟩:=wN bt (by simp);have Qg:(a++[p]).length=a.length+1:=(by simp);rw[Qg]at kX bt;subst kX;have p1:=(jx a.length (by simp)).2;have ep:(a++[p])[a.length]'(by simp)=p:=(by simp);rw[ep]at p1;have p1':(wr.alloc (.cells #[.int .i32 s1,.int .i32 s2] 219)).cell? ⟨g,a.length*2+1,none⟩=some (.int .i32 p.2):=(((aa.refl af wr).alloc _).cell (p:=⟨g,a.length*2+1,none⟩) hg4 (fun hx=>hx)).trans p1;clear jx p1;rw[Qg]at rl2;by_cases hm:s1<=p.2
    ·have bC:Hid (kY (l'.take (j+1))=a++[(p.1,max p.2 s2)]):=by show _=_;rw[nZ.o,Nc,if_pos hm]
     clear nZ;have BD:=adl (max p.2 s2) (bt.alloc (.cells #[.int .i32 s1,.int .i32 s2] 219));have f1:=BD.2;have ajG:=((adl (max p.2 s2) bt).1).alloc (.cells #[.int .i32 s1,.int .i32 s2] 219);clear BD;go_wp2_with fail;go_region;all_goals go_wp2_with fail
     go_region
     all_goals go_wp2_with fail
     go_roundg (l'.length-(j+1))
     case measure=>omega
     case rel=>
      refine⟨j+1,by omega,by go_num,rfl,by rw[bC.o,Aj];exact ajG,?_⟩;exact((hk.bZ ((aa.refl (fun i=>i=g) wr).setCell (p:=⟨g,a.length*2+1,none⟩) (Or.inl rfl) (.int .i32 (max p.2 s2))) (fun i hi he=>by omega)).alloc _).drew.drew
    ·have bC:Hid (kY (l'.take (j+1))=a++[p]++[(s1,s2)]):=by show _=_;rw[nZ.o,Nc,if_neg hm]
     clear nZ;go_wp2_with fail;go_region;all_goals go_wp2_with (at_builtin;refine Ap _ rfl _ _ 61 rfl w2.heap.size 219 i0 _ 2 8 underlying61 cS dm dp c_ rfl (by decide) _ (a.length+1) _ rfl ((bt.alloc (.cells #[.int .i32 s1,.int .i32 s2] 219)).alloc (.cells #[.int .i32 s1,.int .i32 s2] 219)) ⟨wr.heap.size+1,0,none⟩ 1 1 [.int .i32 s1,.int .i32 s2] rfl rfl ?c1 ?c2 ?c3 ?c4 ?c5 ?_)
     case c1=>intro j' u h;have:=uy (wr.alloc (.cells #[.int .i32 s1,.int .i32 s2] 219)) #[.int .i32 s1,.int .i32 s2] 219 j' u h;rwa[Fm]at this
     case c2=>intro u hu;simp at hu;rcases hu with rfl|rfl<;>rfl
     case c3=>unfold maxLen;first|omega|(simp;done)|(simp;omega)
     case c4=>first|omega|(simp;done)|(simp;omega)
     case c5=>simp;omega
     intro v' w7 bH b_ dS cB;have gP:=MV bt (Ab _) hk ((((aa.refl af wr).alloc (.cells #[.int .i32 s1,.int .i32 s2] 219)).alloc (.cells #[.int .i32 s1,.int .i32 s2] 219)).drew) b_;rw[<-Qg]at bH;have Gz:=Hj (x:=(s1,s2)) bH;clear bH b_ cB dS bt;go_wp2_with fail;go_roundg (l'.length-(j+1))
     case measure=>omega
     case rel=>exact⟨j+1,by omega,by go_num,rfl,by rw[bC.o];exact Gz,gP⟩
  ·have ej:j=l'.length:=(by omega);subst ej;rw[Cn]at*;clear hc hr;go_wp2_with fail;go_ret;exact⟨l',_,hp,hs,rfl,CM bt gg,abD.trans hk⟩
theorem af9(hc:fV w b l)(hr:dz l)(hl:l.length<=20000)(az:l≠ [])(hb:b<w.heap.size):
 Calls prog 169 #[.slice (some ⟨b,0,none⟩) l.length cap] w fun e w'=>∃v,e=.returned v/\w'.ownsRow w.heap.size 219 2 v (pK l).length (dd (pK l))/\aa af w w':=by
 obtain⟨i0,cS,dm,dp,c_⟩:=Bp Tryz.Js;unfold pK;go_in;go_wp2_with fail;refine(agV (cap:=cap) hc (by omega) hb).mono ?_;rintro e w1 ⟨v1,rfl,mx,aU⟩;go_wp2_with fail;go_loopg [3,12] l.length (fun kk v i wr=>∃j:Nat,j<=l.length/\i=.int .i64 j/\kk=l.length-j/\wr.ownsRow w.heap.size 219 2 v ((l.take j).foldl im l).length (dd ((l.take j).foldl im l))/\aa af w wr)
 case atStart=>exact⟨0,Ao _,rfl,rfl,mx,aU⟩
 case round=>
  obtain⟨j,hj,rfl,rfl,bt,hk⟩:=hrel;have cT:=(Tw (l.take j) l (fun s hs=>hr s (Cf hs)) hr).2;have Qh:(l.take j).length<=l.length:=by simp;omega
  have Jb:=hk.size;clear mx aU;by_cases aw:j<l.length
  ·have q0:wr.cell? ⟨b,j*2,none⟩=some (.int .i32 (l[j]).1):=(hk.cell (p:=⟨b,j*2,none⟩) hb (fun hx=>hx)).trans (hc j aw).1;have q1:wr.cell? ⟨b,j*2+1,none⟩=some (.int .i32 (l[j]).2):=(hk.cell (p:=⟨b,j*2+1,none⟩) hb (fun hx=>hx)).trans (hc j aw).2;have hrj:=hr l[j] (A5 aw);have nZ:Hid ((l.take (j+1)).foldl im l=im ((l.take j).foldl im l) l[j]):=agc l l j aw;have HS:Hid (fV w b l/\dz l):=⟨hc,hr⟩;clear hc hr;generalize(l.take j).foldl im l=X at*;generalize l[j]=s at*;obtain⟨s1,s2⟩:=s;simp only at*;have qz:=aq.new wr #[.int .i32 s1,.int .i32 s2] 219;have x0:(wr.alloc (.cells #[.int .i32 s1,.int .i32 s2] 219)).cell? ⟨wr.heap.size,0,none⟩=some (.int .i32 s1):=qz.cell 0;have x1:(wr.alloc (.cells #[.int .i32 s1,.int .i32 s2] 219)).cell? ⟨wr.heap.size,1,none⟩=some (.int .i32 s2):=qz.cell 1;by_cases BE:max s1 97<=min s2 122
   ·have HX:Hid (lZ X (s1,s2)=X++[(max s1 97+ -32,min s2 122+ -32)]):=by show _=_;simp[lZ,BE,Int.sub_eq_add_neg]
    go_wp2_with (at_builtin;refine Ap _ rfl _ _ 60 rfl w.heap.size 219 i0 _ 2 8 underlying60 cS dm dp c_ rfl (by decide) _ X.length _ rfl (((bt.alloc (.cells #[.int .i32 s1,.int .i32 s2] 219)).alloc (.cells #[.int .i32 (max s1 97),.int .i32 (min s2 122)] 219)).alloc (.cells #[.int .i32 (max s1 97+ -32),.int .i32 (min s2 122+ -32)] 219)) ⟨wr.heap.size+1+1,0,none⟩ 1 1 [.int .i32 (max s1 97+ -32),.int .i32 (min s2 122+ -32)] rfl rfl ?c1 ?c2 ?c3 ?c4 ?c5 ?_)
    case c1=>intro j' u h;have:=uy ((wr.alloc (.cells #[.int .i32 s1,.int .i32 s2] 219)).alloc (.cells #[.int .i32 (max s1 97),.int .i32 (min s2 122)] 219)) #[.int .i32 (max s1 97+ -32),.int .i32 (min s2 122+ -32)] 219 j' u h;simpa using this
    case c2=>first|exact⟨rfl,rfl⟩|(intro u hu;simp at hu;rcases hu with rfl|rfl<;>rfl)
    case c3=>unfold maxLen;omega
    case c4=>omega
    case c5=>first|omega|(simp;omega)
    intro v7 w7 bH b_ dS cB;have gP:=MV bt (Ab _) hk ((((aa.refl af wr).alloc (.cells #[.int .i32 s1,.int .i32 s2] 219)).alloc (.cells #[.int .i32 (max s1 97),.int .i32 (min s2 122)] 219)).alloc _) b_;have yo:aq w7 wr.heap.size #[.int .i32 s1,.int .i32 s2] 219:=(b_.block _ (by simp;omega) (fun e=>by have:=(uA bt e.symm).2;omega)).trans (((qz.alloc (.cells #[.int .i32 (max s1 97),.int .i32 (min s2 122)] 219)).alloc _));have mr:=Hj (x:=(max s1 97+ -32,min s2 122+ -32)) bH;rw[<-HX.o]at mr;have hl7:=(Xo X (s1,s2)).2;generalize hX7:lZ X (s1,s2)=X7 at*;have Y5:Hid (lZ X (s1,s2)=X7):=hX7;clear hX7;have y0:w7.cell? ⟨wr.heap.size,0,none⟩=some (.int .i32 s1):=yo.cell 0;have y1:w7.cell? ⟨wr.heap.size,1,none⟩=some (.int .i32 s2):=yo.cell 1;have Jj:=gP.size;clear bH b_ cB dS bt x0 x1 qz hk;by_cases dN:max s1 65<=min s2 90
    ·have HY:Hid (qx X7 (s1,s2)=X7++[(max s1 65+32,min s2 90+32)]):=by show _=_;simp[qx,dN]
     go_wp2_with (at_builtin;refine Ap _ rfl _ _ 60 rfl w.heap.size 219 i0 _ 2 8 underlying60 cS dm dp c_ rfl (by decide) _ X7.length _ rfl ((mr.alloc (.cells #[.int .i32 (max s1 65),.int .i32 (min s2 90)] 219)).alloc (.cells #[.int .i32 (max s1 65+32),.int .i32 (min s2 90+32)] 219)) ⟨w7.heap.size+1,0,none⟩ 1 1 [.int .i32 (max s1 65+32),.int .i32 (min s2 90+32)] rfl rfl ?c1 ?c2 ?c3 ?c4 ?c5 ?_)
     case c1=>intro j' u h;have:=uy ((w7).alloc (.cells #[.int .i32 (max s1 65),.int .i32 (min s2 90)] 219)) #[.int .i32 (max s1 65+32),.int .i32 (min s2 90+32)] 219 j' u h;simpa using this
     case c2=>first|exact⟨rfl,rfl⟩|(intro u hu;simp at hu;rcases hu with rfl|rfl<;>rfl)
     case c3=>unfold maxLen;omega
     case c4=>omega
     case c5=>first|omega|(simp;omega)
     intro v8 w8 bH b_ dS cB;have Gv:=MV (mr) (Ab _) (gP) (((aa.refl af _).alloc (.cells #[.int .i32 (max s1 65),.int .i32 (min s2 90)] 219)).alloc _) b_;have MA:=Hj (x:=(max s1 65+32,min s2 90+32)) bH;rw[<-HY.o]at MA;clear bH b_ cB dS;go_wp2_with fail;go_roundg (l.length-(j+1))
     case measure=>omega
     case rel=>exact⟨j+1,by omega,by go_num,rfl,by rw[nZ.o,im,Y5.o];exact MA,Gv⟩
    ·have HY:Hid (qx X7 (s1,s2)=X7):=by show _=_;simp[qx,dN]
     go_wp2_with fail
     go_roundg (l.length-(j+1))
     case measure=>omega
     case rel=>exact⟨j+1,by omega,by go_num,rfl,by rw[nZ.o,im,Y5.o,HY.o];exact mr.alloc _,(gP).alloc _⟩
   ·have HX:Hid (lZ X (s1,s2)=X):=by show _=_;simp[lZ,BE]
    have mr:=(bt.alloc (.cells #[.int .i32 s1,.int .i32 s2] 219)).alloc (.cells #[.int .i32 (max s1 97),.int .i32 (min s2 122)] 219);have gP:=(hk.alloc (.cells #[.int .i32 s1,.int .i32 s2] 219)).alloc (.cells #[.int .i32 (max s1 97),.int .i32 (min s2 122)] 219);by_cases dN:max s1 65<=min s2 90
    ·have HY:Hid (qx X (s1,s2)=X++[(max s1 65+32,min s2 90+32)]):=by show _=_;simp[qx,dN]
     go_wp2_with (at_builtin;refine Ap _ rfl _ _ 60 rfl w.heap.size 219 i0 _ 2 8 underlying60 cS dm dp c_ rfl (by decide) _ X.length _ rfl ((mr.alloc (.cells #[.int .i32 (max s1 65),.int .i32 (min s2 90)] 219)).alloc (.cells #[.int .i32 (max s1 65+32),.int .i32 (min s2 90+32)] 219)) ⟨wr.heap.size+1+1+1,0,none⟩ 1 1 [.int .i32 (max s1 65+32),.int .i32 (min s2 90+32)] rfl rfl ?c1 ?c2 ?c3 ?c4 ?c5 ?_)
     try(case c1=>intro j' u h;have:=uy (((wr.alloc (.cells #[.int .i32 s1,.int .i32 s2] 219)).alloc (.cells #[.int .i32 (max s1 97),.int .i32 (min s2 122)] 219)).alloc (.cells #[.int .i32 (max s1 65),.int .i32 (min s2 90)] 219)) #[.int .i32 (max s1 65+32),.int .i32 (min s2 90+32)] 219 j' u h;simpa using this)
     case c2=>first|exact⟨rfl,rfl⟩|(intro u hu;simp at hu;rcases hu with rfl|rfl<;>rfl)
     case c3=>unfold maxLen;omega
     case c4=>omega
     case c5=>first|omega|(simp;omega)
     intro v8 w8 bH b_ dS cB;have Gv:=MV (mr) (Ab _) (gP) (((aa.refl af _).alloc (.cells #[.int .i32 (max s1 65),.int .i32 (min s2 90)] 219)).alloc _) b_;have MA:=Hj (x:=(max s1 65+32,min s2 90+32)) bH;rw[<-HY.o]at MA;clear bH b_ cB dS;go_wp2_with fail;go_roundg (l.length-(j+1))
     case measure=>omega
     case rel=>exact⟨j+1,by omega,by go_num,rfl,by rw[nZ.o,im,HX.o];exact MA,Gv⟩
    ·have HY:Hid (qx X (s1,s2)=X):=by show _=_;simp[qx,dN]
     go_wp2_with fail
     go_roundg (l.length-(j+1))
     case measure=>omega
     case rel=>exact⟨j+1,by omega,by go_num,rfl,by rw[nZ.o,im,HX.o,HY.o];exact mr.alloc _,(gP).alloc _⟩
  ·have ej:j=l.length:=(by omega);subst ej;rw[Cn]at*;clear hc hr;go_wp2_with fail;go_ret;exact⟨_,rfl,bt,hk⟩
theorem dE(h:w.ownsRow base e size v n xs)(hb:v.ownBlock=some b):base<=b/\b<w.heap.size:=uA h hb
theorem bY(h:w.ownsRow base e size v n xs)(k:aa S w w')(hs:∀b,v.ownBlock=some b->¬S b):w'.ownsRow base e size v n xs:=WH h k hs
theorem cK(h:w.ownsRow base e size v n xs):∃ao c,v=.slice ao n c:=Q_ h
structure Nv where
 k:Int
 pa:Option Addr
 pn:Nat
 pc:Nat
 sa:Option Addr
 sn:Nat
 sc:Nat
 ed:Int
 gr:Int
 lo:Int
 hi:Int
 lz:Bool
def Nv.cells(q:Nv):Array Value:=#[.int .i64 q.k,.slice q.pa q.pn q.pc,.slice q.sa q.sn q.sc,.int .i64 q.ed,.int .i64 q.gr,.int .i64 q.lo,.int .i64 q.hi,.bool q.lz]
def Nv.val(q:Nv):Value:=.agg q.cells
def bB:Nv:=⟨0,none,0,0,none,0,0,0,0,0,0,false⟩
def uB(sa:Option Addr)(sn sc:Nat):Nv:=⟨0,none,0,0,sa,sn,sc,0,0,0,0,false⟩
def zQ(e:Int):Nv:=⟨1,none,0,0,none,0,0,e,0,0,0,false⟩
inductive cI(w:World)(lo hi:Nat):Nv->PT->CT->Prop where
 |mk (q:Nv) (tk:Int) (b bs:Nat) (ts:List PT) (cs:List CT) (V:Nat->Nv) (S sp:bF) (fo nt:Bool)
  (hn:q.pn=ts.length/\cs.length=ts.length/\q.sn=S.length)
  (hb:ts≠ []->q.pa=some ⟨b,0,none⟩/\lo<=b/\b<hi)
  (hc:∀i,i<ts.length->∀j,j<8->w.cell? ⟨b,i*8+j,none⟩=(V i).cells[j]?)
  (hk:∀i,(h:i<ts.length)->(h':i<cs.length)->cI w lo hi (V i) ts[i] cs[i])
  (hs:S≠ []->q.sa=some ⟨bs,0,none⟩/\lo<=bs/\bs<hi)
  (oC:fV w bs S)
  (hr:(-1<=q.lo/\q.lo<=99)/\(-1<=q.hi/\q.hi<=99)/\ts.length<=400/\(0<=q.gr/\q.gr<=300)/\(0<=q.ed/\q.ed<=3)/\dz S/\S.length<=6000)
  (ph:(q.k=0/\tk=0/\uV S sp fo nt)\/(q.k=1/\tk=0)\/(q.k=2/\tk=1)\/(q.k=3/\tk=2)\/(q.k=4/\tk=3/\ts≠ [])\/(q.k=5/\tk=4)):
  cI w lo hi q (.node tk ts q.lo q.hi) (.node q.k sp fo nt q.ed q.gr q.lo q.hi q.lz cs)
theorem fV.nil(w:World)(b:Nat):fV w b []:=fun i h=>by simp at h
theorem cI.kept{q:Nv}(h:cI w lo hi q T C)(k:aa S w w')(hs:∀i,lo<=i->i<hi->¬S i)(hle:hi<=w.heap.size):cI w' lo hi q T C:=by
 induction h with
 |mk q tk b bs ts cs V Sp sp fo nt hn hb hc hk cU oC hr ph ih=>
  refine cI.mk q tk b bs ts cs V Sp sp fo nt hn hb (fun i hi' j hj=>?_) (fun i h1 h2=>ih i h1 h2) cU (fun i hi'=>?_) hr ph
  ·have az:ts≠ []:=by intro e;subst e;simp at hi'
   obtain⟨_,b1,b2⟩:=hb az;exact(k.cell (p:=⟨b,i*8+j,none⟩) (by show b<_;omega) (hs b b1 b2)).trans (hc i hi' j hj)
  ·have az:Sp≠ []:=by intro e;subst e;simp at hi'
   obtain⟨_,b1,b2⟩:=cU az;exact⟨(k.cell (p:=⟨bs,i*2,none⟩) (by show bs<_;omega) (hs bs b1 b2)).trans (oC i hi').1,(k.cell (p:=⟨bs,i*2+1,none⟩) (by show bs<_;omega) (hs bs b1 b2)).trans (oC i hi').2⟩
theorem cI.Hy{lo' hi':Nat}{q:Nv}(h:cI w lo hi q T C)(h1:lo'<=lo)(h2:hi<=hi'):cI w lo' hi' q T C:=by
 induction h with
 |mk q tk b bs ts cs V Sp sp fo nt hn hb hc hk cU oC hr ph ih=>
  exact cI.mk q tk b bs ts cs V Sp sp fo nt hn (fun az=>by obtain⟨a,b1,b2⟩:=hb az;exact⟨a,by omega,by omega⟩) hc (fun i a1 a2=>ih i a1 a2) (fun az=>by obtain⟨a,b1,b2⟩:=cU az;exact⟨a,by omega,by omega⟩) oC hr ph
theorem cI.eE(w:World)(lo hi:Nat)(e:Int)(he:0<=e/\e<=3):cI w lo hi (zQ e) gG (u9 e):=
 cI.mk (zQ e) 0 0 0 [] [] (fun _=>bB) [] [] false false ⟨rfl,rfl,rfl⟩ (fun h=>absurd rfl h) (fun i h=>by simp at h) (fun i h=>by simp at h) (fun h=>absurd rfl h) (fV.nil _ _)
  ⟨by simp[zQ],by simp[zQ],by simp,by simp[zQ],he,fun s h=>by simp at h,by simp⟩ (Or.inr (Or.inl ⟨rfl,rfl⟩))
theorem cI.akE{S sp:bF}{fo nt:Bool}(h:w.ownsRow lo 219 2 v S.length (dd S))(hS:uV S sp fo nt)(hr:dz sp)(hl:sp.length<=1900):
 ∃sa sc,v=.slice sa S.length sc/\cI w lo w.heap.size (uB sa S.length sc) gG (kj sp fo nt):=by
 have Qz:=hS.anN hr;by_cases az:S=[]
 ·obtain⟨sa,sc,rfl⟩:=Q_ h
  refine⟨sa,sc,rfl,cI.mk (uB sa S.length sc) 0 0 0 [] [] (fun _=>bB) S sp fo nt ⟨rfl,rfl,rfl⟩ (fun h=>absurd rfl h) (fun i h=>by simp at h) (fun i h=>by simp at h) (fun h=>absurd az h) (by rw[az];exact fV.nil _ _)
   ⟨by simp[uB],by simp[uB],by simp,by simp[uB],by simp[uB],Qz.1,by omega⟩ (Or.inl ⟨rfl,rfl,hS⟩)⟩
 ·obtain⟨g,sc,rfl,h1,h2,h3,_⟩:=wN h az
  exact⟨some ⟨g,0,none⟩,sc,rfl,cI.mk (uB (some ⟨g,0,none⟩) S.length sc) 0 0 g [] [] (fun _=>bB) S sp fo nt ⟨rfl,rfl,rfl⟩ (fun h=>absurd rfl h) (fun i h=>by simp at h) (fun i h=>by simp at h) (fun _=>⟨rfl,h1,h2⟩) h3
   ⟨by simp[uB],by simp[uB],by simp,by simp[uB],by simp[uB],Qz.1,by omega⟩ (Or.inl ⟨rfl,rfl,hS⟩)⟩
def vg:List Nv->List Value
 | []=>[]
 |q::qs=>q.cells.toList++vg qs
theorem Nv.EE(q:Nv):q.cells.toList.length=8:=rfl
theorem ahZ(a b:List Nv):vg (a++b)=vg a++vg b:=by
 induction a with
 |nil=>rfl
 |cons q qs ih=>simp[vg,ih]
theorem ah1(qs:List Nv)(i:Nat)(h:i<qs.length)(j:Nat)(hj:j<8):(vg qs)[i*8+j]? =(qs[i]).cells[j]? :=by
 induction qs generalizing i with
 |nil=>simp at h
 |cons q qs ih=>
  cases i with
  |zero=>
   simp only[vg,Ai];rw[A9 (by rw[Nv.EE];omega),show 0*8+j=j by omega];simp
  |succ i=>
   have:=ih i (by simpa using h);simp only[vg,Ah];rw[Cl (by rw[Nv.EE];omega),Nv.EE,show(i+1)*8+j-8=i*8+j by omega];exact this
theorem Nv.one(q:Nv):∀u∈q.cells.toList,u.oneCell'=true:=by
 intro u hu;simp[Nv.cells]at hu;rcases hu with rfl|rfl|rfl|rfl|rfl|rfl|rfl|rfl<;>rfl
structure np(w:World)(base:Nat)(v:Value)(qs:List Nv)(ts:List PT)(cs:List CT):Prop where
 au:w.ownsRow base 64 8 v ts.length (vg qs)
 len:qs.length=ts.length
 II:cs.length=ts.length
 bJ:ts.length<=400
 QO:∀i,(h:i<ts.length)->(h':i<qs.length)->(z_:i<cs.length)->∃lo hi,base<=lo/\hi<=w.heap.size/\cI w lo hi qs[i] ts[i] cs[i]/\∀b,v.ownBlock=some b->¬(lo<=b/\b<hi)
theorem np.nil(w:World)(base:Nat):np w base (.slice none 0 0) [] [] []:=⟨A6 _ _ _ _,rfl,rfl,by simp,fun i h=>by simp at h⟩
theorem np.kept{qs:List Nv}(h:np w base v qs ts cs)(k:aa S w w')(hs:∀i,S i->i<base):np w' base v qs ts cs where
 au:=WH h.au k (fun b hb hx=>by have:=uA h.au hb;have:=hs b hx;omega)
 len:=h.len
 II:=h.II
 bJ:=h.bJ
 QO i h1 h2 h3:=by
  obtain⟨lo,lu,a1,a2,a3,a4⟩:=h.QO i h1 h2 h3;exact⟨lo,lu,a1,Bb a2 k.size,a3.kept k (fun j hj _ hx=>by have:=hs j hx;omega) a2,a4⟩
theorem np.qU{qs:List Nv}{q:Nv}(h:np w base v qs ts cs)
 (hq:cI w lo hi q T C)(mW:base<=lo)(hvl:∀b,v.ownBlock=some b->b<lo)(lM:hi<=w.heap.size)
 (k1:aa af w w1)(bt:w'.ownsRow base 64 8 v' (ts.length+1) (vg qs++q.cells.toList))(hg:w1.grownBy w' v.ownBlock)(cB:v'.ownBlock=v.ownBlock\/v'.ownBlock=some w1.heap.size)(dw:ts.length+1<=400):np w' base v' (qs++[q]) (ts++[T]) (cs++[C]):=by
 have kk:aa (fun i=>v.ownBlock=some i) w w':=(k1.mono (fun _ hx=>hx.elim)).eQ hg (fun j hj=>Or.inl hj);have aP:w.heap.size<=w1.heap.size:=k1.size;have fy:=h.II;have Qy:=h.len;refine⟨by rw[ahZ];simpa[vg]using bt,by simp[h.len],by simp[h.II],by simpa using dw,fun i oy lu Qa=>?_⟩;by_cases aw:i<ts.length
 ·obtain⟨lo2,ai4,a1,a2,a3,a4⟩:=h.QO i aw (by omega) (by omega);refine⟨lo2,ai4,a1,Bb a2 kk.size,?_,fun b hb=>?_⟩
  ·have e1:(qs++[q])[i]=qs[i]'(by omega):=Cp _;have e2:(ts++[T])[i]=ts[i]:=Cp _;have e3:(cs++[C])[i]=cs[i]'(by omega):=Cp _;rw[e1,e2,e3];exact a3.kept kk (fun j rG lN hx=>a4 j hx ⟨rG,lN⟩) a2
  ·rcases cB with hl|hl
   ·exact a4 b (hl▸hb)
   ·rw[hl]at hb;cases hb;omega
 ·have hi':i=ts.length:=by simp at oy;omega
  subst hi';refine⟨lo,hi,mW,Bb lM kk.size,?_,fun b hb=>?_⟩
  ·have e1:(qs++[q])[ts.length]=q:=(by simp[<-h.len]);have e2:(ts++[T])[ts.length]=T:=(by simp);have e3:(cs++[C])[ts.length]=C:=(by simp[<-h.II]);rw[e1,e2,e3];exact hq.kept kk (fun j rG _ hx=>by have:=hvl j hx;omega) lM
  ·rcases cB with hl|hl
   ·have:=hvl b (hl▸hb);omega
   ·rw[hl]at hb;cases hb;omega
def jB(k:Int)(pa:Option Addr)(pn pc:Nat):Nv:=⟨k,pa,pn,pc,none,0,0,0,0,0,0,false⟩
theorem np.node{qs:List Nv}(h:np w base v qs ts cs)(k tk:Int)(hk:(k=3/\tk=2)\/(k=4/\tk=3/\ts≠ [])):
 ∃pa pc,v=.slice pa ts.length pc/\cI w base w.heap.size (jB k pa ts.length pc) (.node tk ts 0 0) (.node k [] false false 0 0 0 0 false cs):=by
 have fy:=h.II;have Qy:=h.len
 have cP:∀i,(h1:i<ts.length)->(h2:i<cs.length)->cI w base w.heap.size (qs.getD i bB) ts[i] cs[i]:=by
  intro i h1 h2;have lu:i<qs.length:=by omega
  obtain⟨lo,Qa,a1,a2,a3,_⟩:=h.QO i h1 lu h2;have e:qs.getD i bB=qs[i]:=by simp[List.getD,Ae lu]
  rw[e];exact a3.Hy a1 a2
 have ph:((jB k none 0 0).k=0/\tk=0/\uV [] [] false false)\/(k=1/\tk=0)\/(k=2/\tk=1)\/(k=3/\tk=2)\/(k=4/\tk=3/\ts≠ [])\/(k=5/\tk=4):=by
  rcases hk with hk|hk
  ·exact Or.inr (Or.inr (Or.inr (Or.inl hk)))
  ·exact Or.inr (Or.inr (Or.inr (Or.inr (Or.inl hk))))
 rcases h.au.2 with⟨rfl,hn⟩|⟨g,cap,aM,rfl,a1,a2,a3,a4,a5,a6⟩
 ·have e:ts=[]:=Ax.1 hn;subst e
  refine⟨none,0,rfl,cI.mk (jB k none 0 0) tk 0 0 [] cs (fun _=>bB) [] [] false false ⟨rfl,fy,rfl⟩ (fun h=>absurd rfl h) (fun i h=>by simp at h) (fun i h=>by simp at h) (fun h=>absurd rfl h) (fV.nil _ _)
   ⟨by simp[jB],by simp[jB],by simp,by simp[jB],by simp[jB],fun s h=>by simp at h,by simp⟩ ph⟩
 ·refine⟨_,cap,rfl,cI.mk (jB k (some ⟨g,0,none⟩) ts.length cap) tk g 0 ts cs (fun i=>qs.getD i bB) [] [] false false ⟨rfl,fy,rfl⟩ (fun _=>⟨rfl,a1,(Am.1 a2).1⟩) (fun i hi j hj=>?_) cP (fun h=>absurd rfl h) (fV.nil _ _)
   ⟨by simp[jB],by simp[jB],h.bJ,by simp[jB],by simp[jB],fun s h=>by simp at h,by simp⟩ ph⟩
  have lu:i<qs.length:=by omega
  have e:qs.getD i bB=qs[i]:=by simp[List.getD,Ae lu]
  have hf:=ah1 qs i lu j hj;rw[e,<-hf,<-a6,Aw (by omega)];simp only[World.cell?,a2];simp
def oM(k:Int)(b cap:Nat)(gr lo hi:Int)(lz:Bool):Nv:=⟨k,some ⟨b,0,none⟩,1,cap,none,0,0,0,gr,lo,hi,lz⟩
theorem cI.wrap{Wi cS:Nat}{q:Nv}{k tk gr l h:Int}{lz:Bool}(hp:cI w lo hi q T C)(lM:hi<=w.heap.size)(kk:aa S w W)(hS:∀i,S i->i<lo\/hi<=i)
 (hb:aq W b q.cells 64)(mW:Wi<=lo)(ai3:hi<=cS)(vw:Wi<=b/\b<cS)(hr:(-1<=l/\l<=99)/\(-1<=h/\h<=99)/\(0<=gr/\gr<=300))(hk:(k=2/\tk=1)\/(k=5/\tk=4)):
 cI W Wi cS (oM k b cap gr l h lz) (.node tk [T] l h) (.node k [] false false 0 gr l h lz [C]):=by
 refine cI.mk (oM k b cap gr l h lz) tk b 0 [T] [C] (fun _=>q) [] [] false false ⟨rfl,rfl,rfl⟩ (fun _=>⟨rfl,vw.1,vw.2⟩) (fun i hi' j hj=>?_) (fun i h1 h2=>?_) (fun h=>absurd rfl h) (fV.nil _ _)
  ⟨hr.1,hr.2.1,by simp,hr.2.2,by simp[oM],fun s h=>by simp at h,by simp⟩ ?_
 ·have e:i=0:=by simp at hi';omega
  subst e;rw[hb.cell (0*8+j),show 0*8+j=j by omega]
 ·have e:i=0:=by simp at h1;omega
  subst e;exact(hp.kept kk (fun j h1 h2 hx=>by rcases hS j hx with h3|h3<;>omega) lM).Hy mW ai3
 ·rcases hk with hk|hk
  ·exact Or.inr (Or.inr (Or.inl hk))
  ·exact Or.inr (Or.inr (Or.inr (Or.inr (Or.inr hk))))
def ga(w:World)(b:Nat)(q:Nv):World:=
 (((((((w.setCell ⟨b,0,none⟩ (.int .i64 q.k)).setCell ⟨b,1,none⟩ (.slice q.pa q.pn q.pc)).setCell ⟨b,2,none⟩ (.slice q.sa q.sn q.sc)).setCell ⟨b,3,none⟩ (.int .i64 q.ed)).setCell ⟨b,4,none⟩ (.int .i64 q.gr)).setCell ⟨b,5,none⟩ (.int .i64 q.lo)).setCell ⟨b,6,none⟩ (.int .i64 q.hi)).setCell ⟨b,7,none⟩ (.bool q.lz)
theorem JO(w:World)(b:Nat)(q:Nv):aa (fun i=>i=b) w (ga w b q):=
 ((((((((aa.refl (fun i=>i=b) w).setCell (p:=⟨b,0,none⟩) (Or.inl rfl) _).setCell (p:=⟨b,1,none⟩) (Or.inl rfl) _).setCell (p:=⟨b,2,none⟩) (Or.inl rfl) _).setCell (p:=⟨b,3,none⟩) (Or.inl rfl) _).setCell (p:=⟨b,4,none⟩) (Or.inl rfl) _).setCell (p:=⟨b,5,none⟩) (Or.inl rfl) _).setCell (p:=⟨b,6,none⟩) (Or.inl rfl) _).setCell (p:=⟨b,7,none⟩) (Or.inl rfl) _
theorem Nt(w:World)(b:Nat)(q:Nv):(ga w b q).heap.size=w.heap.size:=by simp[ga,World.setCell]
theorem vV{p:Nv}(h:aq w b p.cells t)(q:Nv):aq (ga w b q) b q.cells t:=by
 have h8:=(((((((h.setCell 0 (.int .i64 q.k)).setCell 1 (.slice q.pa q.pn q.pc)).setCell 2 (.slice q.sa q.sn q.sc)).setCell 3 (.int .i64 q.ed)).setCell 4 (.int .i64 q.gr)).setCell 5 (.int .i64 q.lo)).setCell 6 (.int .i64 q.hi)).setCell 7 (.bool q.lz);have e:(((((((p.cells.setIfInBounds 0 (.int .i64 q.k)).setIfInBounds 1 (.slice q.pa q.pn q.pc)).setIfInBounds 2 (.slice q.sa q.sn q.sc)).setIfInBounds 3 (.int .i64 q.ed)).setIfInBounds 4 (.int .i64 q.gr)).setIfInBounds 5 (.int .i64 q.lo)).setIfInBounds 6 (.int .i64 q.hi)).setIfInBounds 7 (.bool q.lz)=q.cells:=by simp[Nv.cells]
 rw[e]at h8;exact h8
theorem aq.gZ{q:Nv}(h:aq w b q.cells t):
 w.cell? ⟨b,0,none⟩=some (.int .i64 q.k)/\w.cell? ⟨b,1,none⟩=some (.slice q.pa q.pn q.pc)/\w.cell? ⟨b,2,none⟩=some (.slice q.sa q.sn q.sc)/\w.cell? ⟨b,3,none⟩=some (.int .i64 q.ed)/\w.cell? ⟨b,4,none⟩=some (.int .i64 q.gr)/\w.cell? ⟨b,5,none⟩=some (.int .i64 q.lo)/\w.cell? ⟨b,6,none⟩=some (.int .i64 q.hi)/\w.cell? ⟨b,7,none⟩=some (.bool q.lz):=
 ⟨h.cell 0,h.cell 1,h.cell 2,h.cell 3,h.cell 4,h.cell 5,h.cell 6,h.cell 7⟩
theorem aq.nU{cs:Array Value}(h:aq w b cs t):
 w.frozen? ⟨b,0,none⟩=false/\w.frozen? ⟨b,1,none⟩=false/\w.frozen? ⟨b,2,none⟩=false/\w.frozen? ⟨b,3,none⟩=false/\w.frozen? ⟨b,4,none⟩=false/\w.frozen? ⟨b,5,none⟩=false/\w.frozen? ⟨b,6,none⟩=false/\w.frozen? ⟨b,7,none⟩=false:=
 ⟨h.frozen 0,h.frozen 1,h.frozen 2,h.frozen 3,h.frozen 4,h.frozen 5,h.frozen 6,h.frozen 7⟩
theorem vQ{f:Func}{Q:Ending->World->Prop}{a:Act}{i:Nat}{q:Nv}(mw:f.results=#[ResultVar.cell i 64])(sZ:a.tmps.getD i undef=.pointer (some ⟨b,0,none⟩))(hd:a.defers=[])
 (hb:aq W b q.cells 64)(hQ:Q (.returned q.val) W):bodyPost prog f Q Exit.ret a W:=by
 obtain⟨r0,r1,r2,r3,r4,r5,r6,r7⟩:=hb.gZ;have gg:a.tmps[i]?.getD undef=.pointer (some ⟨b,0,none⟩):=by simpa using sZ
 exact Bi (v:=q.val) (by simp[results,mw,go_sem,gg,r0,r1,r2,r3,r4,r5,r6,r7,Nv.val,Nv.cells]) hd hQ
theorem ac9(q:Nv)(j:Nat)(u:Value)(h:q.cells.toList[j]? =some u):(w.alloc (.cells q.cells 64)).cell? (Addr.add ⟨w.heap.size,0,none⟩ j)=some u:=uy w q.cells 64 j u h
