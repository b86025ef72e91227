/- The program's se -/
import Derived.Test.YtpdnofhackjfdaaGreatDoorP04
import Derived.Test.YtpdnofhackjfdaaGreatDoorP02
set_option linter.all false
set_option maxRecDepth 100000
set_option maxHeartbeats 2000000
namespace Go.Proofs.YtpdnofhackjfdaaGreatDoor
open Go.Proofs.Tryz
open Go.RowKit Go.Maps
variable {C:CT} {cs:List CT} {ts:List PT} {xs:List Value} {b base cap e hi lo n size:Nat} {S:Nat->Prop} {o:Obj} {T:PT} {l:bI} {t:TypeId} {v v':Value} {W w w' w1:World}
theorem Oq(w:World)(l:bI)(hl:l.length<=100000):(w.alloc (.cells (dj l).toArray 219)).ownsRow w.heap.size 219 2 (.slice (some ⟨w.heap.size,0,none⟩) l.length l.length) l.length (dj l):=
 ⟨BF l,Or.inr ⟨w.heap.size,l.length,(dj l).toArray,rfl,Ab _,au.new w _ _,Ab _,by unfold maxLen;omega,by simp[BF],by simp[Bz,BF]⟩⟩
theorem SL(r:Int)(w:World):Calls prog 122 #[.int .i32 r] w fun e w'=>∃v,e=.returned v/\w'.ownsRow w.heap.size 219 2 v (mi r).length (dj (mi r))/\aa ai w w':=by
 unfold mi;by_cases h1:r=100
 ·rw[if_pos h1];subst h1;go_in;go_wp2;go_ret;exact⟨_,rfl,Oq w [(48,57)] (by simp),(aa.refl _ _).alloc _⟩
 ·rw[if_neg h1];by_cases h2:r=119
  ·rw[if_pos h2];subst h2;go_in;go_wp2;go_ret;exact⟨_,rfl,Oq w [(48,57),(65,90),(95,95),(97,122)] (by simp),(aa.refl _ _).alloc _⟩
  ·rw[if_neg h2];have e1:(r==100)=false:=(by simp[h1]);have e2:(r==119)=false:=(by simp[h2]);clear h1 h2;go_in;go_wp2;go_ret;exact⟨_,rfl,Oq w [(9,10),(13,13),(32,32)] (by simp),(aa.refl _ _).alloc _⟩
theorem abf(r:Int)(w:World):Calls prog 135 #[.int .i32 r] w fun e w'=>e=.returned (GW (sY r))/\w'=w:=by
 go_in
 go_wp2
 all_goals go_ret
 all_goals refine⟨?_,rfl⟩
 all_goals(simp only[Gj,beq_eq_false_iff_ne,ne_eq]at*;simp[sY, *])
theorem apy(r:Int)(w:World)(h:65<=r/\r<=90):Calls prog 167 #[.int .i32 r] w fun e w'=>e=.returned (.int .i32 (r+32))/\w'=w:=by
 have h1:r<=127:=by omega
 have h2:65<=r:=h.1;have h3:r<=90:=h.2;go_in;go_wp2;all_goals go_ret
 all_goals exact⟨rfl,rfl⟩
theorem xx(h:w.ownsRow base 219 2 v l.length (dj l))(aB:l≠ []):∃g cap,v=.slice (some ⟨g,0,none⟩) l.length cap/\base<=g/\g<w.heap.size/\gj w g l/\l.length<=cap:=by
 rcases h.2 with⟨_,h0⟩|⟨g,cap,aO,rfl,a1,a2,a3,a4,a5,a6⟩
 ·exact absurd (Aw.1 h0) aB
 ·refine⟨g,cap,rfl,a1,(Am.1 a2).1,fun i hi=>?_,a3⟩;have hf:=Mw l i hi
  have oD:∀j x,j<l.length*2->(dj l)[j]? =some x->w.cell? ⟨g,j,none⟩=some x:=by
   intro j x hj hx;rw[<-a6,Av hj]at hx;simp only[World.cell?,a2];simpa using hx
  exact⟨oD _ _ (by omega) hf.1,oD _ _ (by omega) hf.2⟩
theorem aaZ(h:gj w b l):∀j u,(dj l)[j]? =some u->w.cell? (Addr.add ⟨b,0,none⟩ j)=some u:=by
 intro j u hj
 have e:Addr.add ⟨b,0,none⟩ j=⟨b,j,none⟩:=by
  unfold Addr.add;split
  ·rename_i hz;simp
  ·simp
 have az:j<l.length*2:=by rw[<-BF];exact(Ai.1 hj).1
 have hi:j/2<l.length:=by omega
 have hc:=h (j/2) hi;have hf:=Mw l (j/2) hi;rw[e];rcases Er j with h0|h0
 ·have e2:j=j/2*2:=by omega
  rw[show(dj l)[j]? =(dj l)[j/2*2]? by congr 1,hf.1]at hj;rw[show w.cell? ⟨b,j,none⟩=w.cell? ⟨b,j/2*2,none⟩ by congr 2,hc.1];exact hj
 ·have e2:j=j/2*2+1:=by omega
  rw[show(dj l)[j]? =(dj l)[j/2*2+1]? by congr 1,hf.2]at hj;rw[show w.cell? ⟨b,j,none⟩=w.cell? ⟨b,j/2*2+1,none⟩ by congr 2,hc.2];exact hj
theorem ahI(hc:gj w b l)(hl:l.length<=100000)(hb:b<w.heap.size):
 Calls prog 187 #[.slice (some ⟨b,0,none⟩) l.length cap] w fun e w'=>∃v,e=.returned v/\w'.ownsRow w.heap.size 219 2 v l.length (dj l)/\aa ai w w':=by
 obtain⟨i0,cW,dm,du,de⟩:=Bo Tryz.J7;have nR:=hc.kept ((aa.refl ai w).alloc (.cells (dj []).toArray 219)) hb (fun hx=>hx);have q22:∀(W:World) (n c:Nat),(binOp .eql 60 (.slice (some ⟨b,0,none⟩) n c) (.slice none 0 0)).run prog W=.ok (.bool false) W:=fun W n c=>Lib.run_eql_slice_nil W _ _ (some ⟨b,0,none⟩) n c 0 0 underlying60
 go_in
 go_wp2_with (at_builtin;refine Ao _ rfl _ _ 60 rfl w.heap.size 219 i0 _ 2 8 underlying60 cW dm du de rfl (by decide) _ 0 [] rfl (Oq w [] (by simp)) ⟨b,0,none⟩ l.length cap (dj l) rfl (BF l) (aaZ nR) (abC l) ?c3 ?c4 ?c5 ?_)
 case c3=>unfold maxLen;omega
 case c4=>omega
 case c5=>simp
 intro v' w7 bL cy eF cI;go_wp2_with fail;go_ret;refine⟨v',rfl,by simpa using bL,?_⟩;refine((aa.refl ai w).alloc _).b_ ((aa.refl (fun i=>i=w.heap.size) _).eP cy (fun k hk=>Or.inl ?_)) (fun i hi he=>by omega);simp[Value.ownBlock]at hk;exact hk.symm
theorem Sg(h:w.ownsRow base e size v n xs):∃ao cap,v=.slice ao n cap:=by
 rcases h.2 with⟨rfl,h0⟩|⟨g,cap,aO,rfl,_⟩
 ·exact⟨none,0,by rw[h0]⟩
 ·exact⟨_,cap,rfl⟩
theorem uV(h:w.ownsRow base e size v n xs)(hb:v.ownBlock=some b):base<=b/\b<w.heap.size:=by
 rcases h.2 with⟨rfl,_⟩|⟨g,cap,aO,rfl,h1,h2,_⟩
 ·simp[Value.ownBlock]at hb
 ·simp[Value.ownBlock]at hb
  subst hb;exact⟨h1,(Am.1 h2).1⟩
theorem Iy{x:Int×Int}(bC:w'.ownsRow base 219 2 v' (l.length+1) (dj l++[.int .i32 x.1,.int .i32 x.2])):w'.ownsRow base 219 2 v' (l++[x]).length (dj (l++[x])):=by
 rw[Mv,Aj];exact bC
theorem ac7(h:w1.ownsRow base 219 2 v n xs)(hb:w.heap.size<=base)(k:aa ai w w1)(hg:(w1.alloc o).grownBy w' v.ownBlock):aa ai w w':=by
 have k2:aa (fun i=>w.heap.size<=i) w1 w':=((aa.refl _ w1).alloc o).eP hg (fun i hi=>Or.inl (by have:=(uV h hi).1;omega));exact k.b_ k2 (fun i hi he=>by omega)
theorem ag5(bC:w1.ownsRow base 219 2 v n xs)(cs:Array Value)(t:TypeId)(hg:((w1.alloc (.cells cs t)).alloc o).grownBy w' v.ownBlock):au w' w1.heap.size cs t:=by
 have hb:au ((w1.alloc (.cells cs t)).alloc o) w1.heap.size cs t:=(au.new w1 cs t).alloc o;exact(hg.block _ hb.lt (fun e=>by have:=(uV bC e.symm).2;omega)).trans hb
theorem amA{ao:Option Addr}(mA:l≠ []->ao=some ⟨b,0,none⟩)(hc:gj w b l)(hr:dH l)(hl:l.length<=90000)(hb:l≠ []->b<w.heap.size):
 Calls prog 170 #[.slice ao l.length cap] w fun e w'=>∃v,e=.returned v/\w'.ownsRow w.heap.size 219 2 v (yc l).length (dj (yc l))/\aa ai w w':=by
 obtain⟨i0,cW,dm,du,de⟩:=Bo Tryz.J7;unfold yc;go_in;go_wp2_with fail;go_loopg [3,4,9] l.length (fun kk v nx i wr=>∃j:Nat,j<=l.length/\i=GW j/\nx=.int .i32 ((l.take j).foldl gB ([],0)).2/\kk=l.length-j/\wr.ownsRow w.heap.size 219 2 v ((l.take j).foldl gB ([],0)).1.length (dj ((l.take j).foldl gB ([],0)).1)/\aa ai w wr)
 case atStart=>exact⟨0,Al _,rfl,by simp,rfl,A8 _ _ _ _,aa.refl _ _⟩
 case round=>
  obtain⟨j,hj,rfl,rfl,rfl,bC,hk⟩:=hrel;obtain⟨rl1,rl2,rl3⟩:=ad1 (l.take j) (fun s hs=>hr s (Cs hs));have Rm:(l.take j).length<=l.length:=by simp;omega
  have Hj:=hk.size;by_cases az:j<l.length
  ·have aB:l≠ []:=by intro e;subst e;simp at az
   have kZ:=hb aB;have q0:wr.cell? ⟨b,j*2,none⟩=some (.int .i32 (l[j]).1):=(hk.cell (p:=⟨b,j*2,none⟩) kZ (fun hx=>hx)).trans (hc j az).1;have q1:wr.cell? ⟨b,j*2+1,none⟩=some (.int .i32 (l[j]).2):=(hk.cell (p:=⟨b,j*2+1,none⟩) kZ (fun hx=>hx)).trans (hc j az).2;have hrj:=hr l[j] (A6 az);have oh:Hid ((l.take (j+1)).foldl gB ([],0)=gB ((l.take j).foldl gB ([],0)) l[j]):=amw l j az;have hao':=mA aB;subst hao';clear hc hr mA hb;generalize(l.take j).foldl gB ([],0)=X at*;obtain⟨x1,x2⟩:=X;simp only at*;generalize l[j]=s at*;obtain⟨s1,s2⟩:=s;simp only at*;by_cases MY:x2<s1
   ·have bD:Hid ((l.take (j+1)).foldl gB ([],0)=(x1++[(x2,s1-1)],s2+1)):=by show _=_;rw[oh.o];simp[gB,MY]
    clear oh;go_wp2_with (at_builtin;refine Ao _ rfl _ _ 61 rfl w.heap.size 219 i0 _ 2 8 underlying61 cW dm du de rfl (by decide) _ x1.length _ rfl ((bC.alloc _).alloc _) ⟨wr.heap.size+1,0,none⟩ 1 1 [.int .i32 x2,.int .i32 (s1-1)] rfl rfl ?c1 ?c2 ?c3 ?c4 ?c5 ?_)
    case c1=>intro j' u h;have:=uT (wr.alloc (.cells #[.int .i32 s1,.int .i32 s2] 219)) #[.int .i32 x2,.int .i32 (s1-1)] 219 j' u h;rwa[Fm]at this
    case c2=>intro u hu;simp at hu;rcases hu with rfl|rfl<;>rfl
    case c3=>unfold maxLen;omega
    case c4=>omega
    case c5=>simp;omega
    intro v' w7 bL cy eF cI;have iP:=ac7 (bC.alloc (.cells #[.int .i32 s1,.int .i32 s2] 219)) (Ab _) (hk.alloc _) cy;have qR:=ag5 bC #[.int .i32 s1,.int .i32 s2] 219 cy;have hx:w7.cell? ⟨wr.heap.size,1,none⟩=some (.int .i32 s2):=qR.cell 1;have Hu:=Iy (x:=(x2,s1-1)) bL;clear bL cy cI eF bC;go_wp2_with fail;go_roundg (l.length-(j+1))
    case measure=>omega
    case rel=>exact⟨j+1,by omega,by go_num,by rw[bD.o],rfl,by rw[bD.o];exact Hu,iP⟩
   ·have bD:Hid ((l.take (j+1)).foldl gB ([],0)=(x1,s2+1)):=by show _=_;rw[oh.o];simp[gB,MY]
    clear oh;have qR:=au.new wr #[.int .i32 s1,.int .i32 s2] 219;have NJ:(wr.alloc (.cells #[.int .i32 s1,.int .i32 s2] 219)).cell? ⟨wr.heap.size,0,none⟩=some (.int .i32 s1):=qR.cell 0;have hx:(wr.alloc (.cells #[.int .i32 s1,.int .i32 s2] 219)).cell? ⟨wr.heap.size,1,none⟩=some (.int .i32 s2):=qR.cell 1;go_wp2_with fail;go_roundg (l.length-(j+1))
    case measure=>omega
    case rel=>exact⟨j+1,by omega,by go_num,by rw[bD.o],rfl,by rw[bD.o];exact bC.alloc _,hk.alloc _⟩
  ·have ej:j=l.length:=(by omega);subst ej;rw[Bj]at*;clear hc hr mA hb;generalize hX:l.foldl gB ([],0)=X at*;obtain⟨x1,x2⟩:=X;have HX:Hid (l.foldl gB ([],0)=(x1,x2)):=hX;clear hX;simp only at*;by_cases MY:x2<=1114111
   ·go_wp2_with (at_builtin;refine Ao _ rfl _ _ 61 rfl w.heap.size 219 i0 _ 2 8 underlying61 cW dm du de rfl (by decide) _ x1.length _ rfl (bC.alloc _) ⟨wr.heap.size,0,none⟩ 1 1 [.int .i32 x2,.int .i32 1114111] rfl rfl ?c1 ?c2 ?c3 ?c4 ?c5 ?_)
    case c1=>intro j' u h;exact uT wr #[.int .i32 x2,.int .i32 1114111] 219 j' u h
    case c2=>intro u hu;simp at hu;rcases hu with rfl|rfl<;>rfl
    case c3=>unfold maxLen;omega
    case c4=>omega
    case c5=>simp;omega
    intro v' w7 bL cy eF cI;have iP:=ac7 bC (Ab _) hk cy;have Hu:=Iy (x:=(x2,1114111)) bL;clear bL cy cI eF bC;go_wp2_with fail;go_ret;refine⟨_,rfl,?_,iP⟩;rw[HX.o,show zH (x1,x2)=x1++[(x2,1114111)]from if_pos MY];exact Hu
   ·go_wp2_with fail
    go_ret
    refine⟨_,rfl,?_,hk⟩;rw[HX.o,show zH (x1,x2)=x1 from if_neg (by simpa using MY)];exact bC
theorem DR{base':Nat}(h:w.ownsRow base e size v n xs)(hb:base'<=base):w.ownsRow base' e size v n xs:=by
 obtain⟨h1,h2⟩:=h;refine⟨h1,?_⟩;rcases h2 with h2|⟨g,cap,aO,rfl,a1,r⟩
 ·exact Or.inl h2
 ·exact Or.inr ⟨g,cap,aO,rfl,by omega,r⟩
theorem X0(h:w.ownsRow base e size v n xs)(k:aa S w w')(hs:∀b,v.ownBlock=some b->¬S b):w'.ownsRow base e size v n xs:=by
 obtain⟨h1,h2⟩:=h;refine⟨h1,?_⟩;rcases h2 with h2|⟨g,cap,aO,rfl,a1,a2,r⟩
 ·exact Or.inl h2
 ·exact Or.inr ⟨g,cap,aO,rfl,a1,(k.block g (Am.1 a2).1 (hs g rfl)).trans a2,r⟩
theorem aiD(a:bI)(p:Int×Int)(m:Int):(dj (a++[p])).set (a.length*2+1) (.int .i32 m)=dj (a++[(p.1,m)]):=by
 rw[Mv,Mv];have h:(dj a).length=a.length*2:=BF a;rw[Em _ _ (by omega),h,show a.length*2+1-a.length*2=1 by omega];rfl
theorem ad2{g:Nat}{a:bI}{p:Int×Int}(m:Int)(h:w.ownsRow base 219 2 (.slice (some ⟨g,0,none⟩) (a.length+1) cap) (a.length+1) (dj (a++[p]))):
 (w.setCell ⟨g,a.length*2+1,none⟩ (.int .i32 m)).ownsRow base 219 2 (.slice (some ⟨g,0,none⟩) (a.length+1) cap) (a.length+1) (dj (a++[(p.1,m)]))/\w.frozen? ⟨g,a.length*2+1,none⟩=false:=by
 rcases h.2 with⟨he,_⟩|⟨g',Mf,aO,he,a1,a2,a3,a4,a5,a6⟩
 ·cases he
 ·cases he;refine⟨⟨by rw[BF];simp,Or.inr ⟨g,cap,aO.setIfInBounds (a.length*2+1) (.int .i32 m),rfl,a1,?_,a3,a4,by simpa using a5,?_⟩⟩,by simp[World.frozen?,a2]⟩
  ·exact au.setCell (show au w g aO _ from a2) _ _
  ·rw[Array.toList_setIfInBounds,<-aiD,<-a6,List.take_set]
theorem NV(h:w1.ownsRow base 219 2 v n xs)(hb:w.heap.size<=base)(k:aa ai w w1)(kW:aa ai w1 W)(hg:W.grownBy w' v.ownBlock):aa ai w w':=by
 have k2:aa (fun i=>w.heap.size<=i) w1 w':=(kW.mono (fun _ hx=>hx.elim)).eP hg (fun i hi=>Or.inl (by have:=(uV h hi).1;omega));exact k.b_ k2 (fun i hi he=>by omega)
theorem apK(ao:Option Addr)(n c:Nat)(w:World):Calls prog 146 #[.slice ao n c] w fun e w'=>e=.returned (.func (.func 173) #[] #[BT w.heap.size 0])/\w'=w.alloc (.cells #[.slice ao n c] 60):=by
 go_in
 go_wp2
 go_ret
 exact⟨rfl,rfl⟩
theorem XO(hc:gj w b l)(hr:dH l)(hl:l.length<=80000)(aB:l≠ [])(hb:b<w.heap.size):
 Calls prog 121 #[.slice (some ⟨b,0,none⟩) l.length cap] w fun e w'=>∃l' v,l'.Perm l/\l'.Pairwise (fun a b=>a.1<=b.1)/\e=.returned v/\w'.ownsRow w.heap.size 219 2 v (lk l').length (dj (lk l'))/\aa ai w w':=by
 obtain⟨i0,cW,dm,du,de⟩:=Bo Tryz.J7;go_in;go_wp2_with fail;refine(apK _ _ _ w).mono ?_;rintro e w1 ⟨rfl,rfl⟩;have nR:=hc.kept ((aa.refl ai w).alloc (.cells #[.slice (some ⟨b,0,none⟩) l.length cap] 60)) hb (fun hx=>hx);have wi:aa ai w (w.alloc (.cells #[.slice (some ⟨b,0,none⟩) l.length cap] 60)):=(aa.refl ai w).alloc _;have qR:=(au.new w #[.slice (some ⟨b,0,none⟩) l.length cap] 60).cell 0;go_wp2_with fail;refine(aoQ w.heap.size b cap l (by omega) aB _ (by simp) (by simp;omega) qR nR).mono ?_;rintro e w2 ⟨l',gb,rT,rfl,hp,hs,gV,zg,qS,aS⟩;have acn:=wi.trans aS;have gg:=acn.size;rw[Fm]at zg;have kF:dH l':=fun s h=>hr s (hp.mem_iff.1 h)
 have Hk:l'.length<=80000:=by have:=hp.length_eq;omega
 clear nR wi qR aS;go_wp2_with fail;go_loopg [4,13] l'.length (fun kk v i wr=>∃j:Nat,j<=l'.length/\i=GW j/\kk=l'.length-j/\wr.ownsRow w2.heap.size 219 2 v (lk (l'.take j)).length (dj (lk (l'.take j)))/\aa ai w2 wr)
 case atStart=>exact⟨0,Al _,rfl,rfl,A8 _ _ _ _,aa.refl _ _⟩
 case round=>
  obtain⟨j,hj,rfl,rfl,bC,hk⟩:=hrel;obtain⟨rl1,rl2⟩:=R7 (l'.take j) (fun s hs=>kF s (Cs hs));have Rm:(l'.take j).length<=l'.length:=by simp;omega
  have Hj:=hk.size;by_cases az:j<l'.length
  ·have q0:wr.cell? ⟨gb,j*2,none⟩=some (.int .i32 (l'[j]).1):=(hk.cell (p:=⟨gb,j*2,none⟩) qS (fun hx=>hx)).trans (gV j az).1;have q1:wr.cell? ⟨gb,j*2+1,none⟩=some (.int .i32 (l'[j]).2):=(hk.cell (p:=⟨gb,j*2+1,none⟩) qS (fun hx=>hx)).trans (gV j az).2;have hrj:=kF l'[j] (A6 az);have oh:Hid (lk (l'.take (j+1))=qo (lk (l'.take j)) l'[j]):=alD l' j az;have HS:Hid (gj w2 gb l'/\dH l'/\l'.Perm l/\l'.Pairwise (fun a b=>a.1<=b.1)):=⟨gV,kF,hp,hs⟩;clear hc hr gV kF hp hs;generalize lk (l'.take j)=X at*;generalize l'[j]=s at*;obtain⟨s1,s2⟩:=s;simp only at*;have qR:=au.new wr #[.int .i32 s1,.int .i32 s2] 219;have x0:(wr.alloc (.cells #[.int .i32 s1,.int .i32 s2] 219)).cell? ⟨wr.heap.size,0,none⟩=some (.int .i32 s1):=qR.cell 0;have x1:(wr.alloc (.cells #[.int .i32 s1,.int .i32 s2] 219)).cell? ⟨wr.heap.size,1,none⟩=some (.int .i32 s2):=qR.cell 1;rcases SO X with rfl|⟨a,p,rfl⟩
   ·have bD:Hid (lk (l'.take (j+1))=[(s1,s2)]):=oh.o;clear oh;obtain⟨ao,c3,lj⟩:=Sg bC;rw[lj]at bC⊢;clear lj;go_wp2_with fail;go_region;all_goals go_wp2_with (at_builtin;refine Ao _ rfl _ _ 61 rfl w2.heap.size 219 i0 _ 2 8 underlying61 cW dm du de rfl (by decide) _ ([]:bI).length _ rfl ((bC.alloc (.cells #[.int .i32 s1,.int .i32 s2] 219)).alloc (.cells #[.int .i32 s1,.int .i32 s2] 219)) ⟨wr.heap.size+1,0,none⟩ 1 1 [.int .i32 s1,.int .i32 s2] rfl rfl ?c1 ?c2 ?c3 ?c4 ?c5 ?_)
    case c1=>intro j' u h;have:=uT (wr.alloc (.cells #[.int .i32 s1,.int .i32 s2] 219)) #[.int .i32 s1,.int .i32 s2] 219 j' u h;rwa[Fm]at this
    case c2=>intro u hu;simp at hu;rcases hu with rfl|rfl<;>rfl
    case c3=>unfold maxLen;first|omega|(simp;done)|(simp;omega)
    case c4=>first|omega|(simp;done)|(simp;omega)
    case c5=>simp;omega
    intro v' w7 bL cy eF cI;have iP:=NV bC (Ab _) hk ((((aa.refl ai wr).alloc (.cells #[.int .i32 s1,.int .i32 s2] 219)).alloc (.cells #[.int .i32 s1,.int .i32 s2] 219)).drew) cy;have Hu:=Iy (x:=(s1,s2)) bL;clear bL cy cI eF bC;go_wp2_with fail;go_roundg (l'.length-(j+1))
    case measure=>omega
    case rel=>exact⟨j+1,by omega,by go_num,rfl,by rw[bD.o];exact Hu,iP⟩
   ·obtain⟨g,gc,lj,hg3,hg4,jD,y_⟩:=xx bC (by simp);have Rl:(a++[p]).length=a.length+1:=(by simp);rw[Rl]at lj bC;subst lj;have p1:=(jD a.length (by simp)).2;have ep:(a++[p])[a.length]'(by simp)=p:=(by simp);rw[ep]at p1;have p1':(wr.alloc (.cells #[.int .i32 s1,.int .i32 s2] 219)).cell? ⟨g,a.length*2+1,none⟩=some (.int .i32 p.2):=(((aa.refl ai wr).alloc _).cell (p:=⟨g,a.length*2+1,none⟩) hg4 (fun hx=>hx)).trans p1;clear jD p1;rw[Rl]at rl2;by_cases hm:s1<=p.2
    ·have bD:Hid (lk (l'.take (j+1))=a++[(p.1,max p.2 s2)]):=by show _=_;rw[oh.o,Of,if_pos hm]
     clear oh;have CU:=ad2 (max p.2 s2) (bC.alloc (.cells #[.int .i32 s1,.int .i32 s2] 219));have f1:=CU.2;have akh:=((ad2 (max p.2 s2) bC).1).alloc (.cells #[.int .i32 s1,.int .i32 s2] 219);clear CU;go_wp2_with fail;go_region;all_goals go_wp2_with fail
     go_region
     all_goals go_wp2_with fail
     go_roundg (l'.length-(j+1))
     case measure=>omega
     case rel=>
      refine⟨j+1,by omega,by go_num,rfl,by rw[bD.o,Aj];exact akh,?_⟩;exact((hk.b_ ((aa.refl (fun i=>i=g) wr).setCell (p:=⟨g,a.length*2+1,none⟩) (Or.inl rfl) (.int .i32 (max p.2 s2))) (fun i hi he=>by omega)).alloc _).drew.drew
    ·have bD:Hid (lk (l'.take (j+1))=a++[p]++[(s1,s2)]):=by show _=_;rw[oh.o,Of,if_neg hm]
     clear oh;go_wp2_with fail;go_region;all_goals go_wp2_with (at_builtin;refine Ao _ rfl _ _ 61 rfl w2.heap.size 219 i0 _ 2 8 underlying61 cW dm du de rfl (by decide) _ (a.length+1) _ rfl ((bC.alloc (.cells #[.int .i32 s1,.int .i32 s2] 219)).alloc (.cells #[.int .i32 s1,.int .i32 s2] 219)) ⟨wr.heap.size+1,0,none⟩ 1 1 [.int .i32 s1,.int .i32 s2] rfl rfl ?c1 ?c2 ?c3 ?c4 ?c5 ?_)
     case c1=>intro j' u h;have:=uT (wr.alloc (.cells #[.int .i32 s1,.int .i32 s2] 219)) #[.int .i32 s1,.int .i32 s2] 219 j' u h;rwa[Fm]at this
     case c2=>intro u hu;simp at hu;rcases hu with rfl|rfl<;>rfl
     case c3=>unfold maxLen;first|omega|(simp;done)|(simp;omega)
     case c4=>first|omega|(simp;done)|(simp;omega)
     case c5=>simp;omega
     intro v' w7 bL cy eF cI;have iP:=NV bC (Ab _) hk ((((aa.refl ai wr).alloc (.cells #[.int .i32 s1,.int .i32 s2] 219)).alloc (.cells #[.int .i32 s1,.int .i32 s2] 219)).drew) cy;rw[<-Rl]at bL;have Hu:=Iy (x:=(s1,s2)) bL;clear bL cy cI eF bC;go_wp2_with fail;go_roundg (l'.length-(j+1))
     case measure=>omega
     case rel=>exact⟨j+1,by omega,by go_num,rfl,by rw[bD.o];exact Hu,iP⟩
  ·have ej:j=l'.length:=(by omega);subst ej;rw[Bj]at*;clear hc hr;go_wp2_with fail;go_ret;exact⟨l',_,hp,hs,rfl,DR bC gg,acn.trans hk⟩
theorem agY(hc:gj w b l)(hr:dH l)(hl:l.length<=20000)(aB:l≠ [])(hb:b<w.heap.size):
 Calls prog 169 #[.slice (some ⟨b,0,none⟩) l.length cap] w fun e w'=>∃v,e=.returned v/\w'.ownsRow w.heap.size 219 2 v (pZ l).length (dj (pZ l))/\aa ai w w':=by
 obtain⟨i0,cW,dm,du,de⟩:=Bo Tryz.J7;unfold pZ;go_in;go_wp2_with fail;refine(ahI (cap:=cap) hc (by omega) hb).mono ?_;rintro e w1 ⟨v1,rfl,mI,aU⟩;go_wp2_with fail;go_loopg [3,12] l.length (fun kk v i wr=>∃j:Nat,j<=l.length/\i=GW j/\kk=l.length-j/\wr.ownsRow w.heap.size 219 2 v ((l.take j).foldl iC l).length (dj ((l.take j).foldl iC l))/\aa ai w wr)
 case atStart=>exact⟨0,Al _,rfl,rfl,mI,aU⟩
 case round=>
  obtain⟨j,hj,rfl,rfl,bC,hk⟩:=hrel;have dc:=(UK (l.take j) l (fun s hs=>hr s (Cs hs)) hr).2;have Rm:(l.take j).length<=l.length:=by simp;omega
  have Hj:=hk.size;clear mI aU;by_cases az:j<l.length
  ·have q0:wr.cell? ⟨b,j*2,none⟩=some (.int .i32 (l[j]).1):=(hk.cell (p:=⟨b,j*2,none⟩) hb (fun hx=>hx)).trans (hc j az).1;have q1:wr.cell? ⟨b,j*2+1,none⟩=some (.int .i32 (l[j]).2):=(hk.cell (p:=⟨b,j*2+1,none⟩) hb (fun hx=>hx)).trans (hc j az).2;have hrj:=hr l[j] (A6 az);have oh:Hid ((l.take (j+1)).foldl iC l=iC ((l.take j).foldl iC l) l[j]):=ag2 l l j az;have HS:Hid (gj w b l/\dH l):=⟨hc,hr⟩;clear hc hr;generalize(l.take j).foldl iC l=X at*;generalize l[j]=s at*;obtain⟨s1,s2⟩:=s;simp only at*;have qR:=au.new wr #[.int .i32 s1,.int .i32 s2] 219;have x0:(wr.alloc (.cells #[.int .i32 s1,.int .i32 s2] 219)).cell? ⟨wr.heap.size,0,none⟩=some (.int .i32 s1):=qR.cell 0;have x1:(wr.alloc (.cells #[.int .i32 s1,.int .i32 s2] 219)).cell? ⟨wr.heap.size,1,none⟩=some (.int .i32 s2):=qR.cell 1;by_cases CV:max s1 97<=min s2 122
   ·have HX:Hid (mj X (s1,s2)=X++[(max s1 97+ -32,min s2 122+ -32)]):=by show _=_;simp[mj,CV,Int.sub_eq_add_neg]
    go_wp2_with (at_builtin;refine Ao _ rfl _ _ 60 rfl w.heap.size 219 i0 _ 2 8 underlying60 cW dm du de rfl (by decide) _ X.length _ rfl (((bC.alloc (.cells #[.int .i32 s1,.int .i32 s2] 219)).alloc (.cells #[.int .i32 (max s1 97),.int .i32 (min s2 122)] 219)).alloc (.cells #[.int .i32 (max s1 97+ -32),.int .i32 (min s2 122+ -32)] 219)) ⟨wr.heap.size+1+1,0,none⟩ 1 1 [.int .i32 (max s1 97+ -32),.int .i32 (min s2 122+ -32)] rfl rfl ?c1 ?c2 ?c3 ?c4 ?c5 ?_)
    case c1=>intro j' u h;have:=uT ((wr.alloc (.cells #[.int .i32 s1,.int .i32 s2] 219)).alloc (.cells #[.int .i32 (max s1 97),.int .i32 (min s2 122)] 219)) #[.int .i32 (max s1 97+ -32),.int .i32 (min s2 122+ -32)] 219 j' u h;simpa using this
    case c2=>first|exact⟨rfl,rfl⟩|(intro u hu;simp at hu;rcases hu with rfl|rfl<;>rfl)
    case c3=>unfold maxLen;omega
    case c4=>omega
    case c5=>first|omega|(simp;omega)
    intro v7 w7 bL cy eF cI;have iP:=NV bC (Ab _) hk ((((aa.refl ai wr).alloc (.cells #[.int .i32 s1,.int .i32 s2] 219)).alloc (.cells #[.int .i32 (max s1 97),.int .i32 (min s2 122)] 219)).alloc _) cy;have y8:au w7 wr.heap.size #[.int .i32 s1,.int .i32 s2] 219:=(cy.block _ (by simp;omega) (fun e=>by have:=(uV bC e.symm).2;omega)).trans (((qR.alloc (.cells #[.int .i32 (max s1 97),.int .i32 (min s2 122)] 219)).alloc _));have j0:=Iy (x:=(max s1 97+ -32,min s2 122+ -32)) bL;rw[<-HX.o]at j0;have hl7:=(YA X (s1,s2)).2;generalize hX7:mj X (s1,s2)=X7 at*;have HX7:Hid (mj X (s1,s2)=X7):=hX7;clear hX7;have y0:w7.cell? ⟨wr.heap.size,0,none⟩=some (.int .i32 s1):=y8.cell 0;have y1:w7.cell? ⟨wr.heap.size,1,none⟩=some (.int .i32 s2):=y8.cell 1;have JW:=iP.size;clear bL cy cI eF bC x0 x1 qR hk;by_cases dM:max s1 65<=min s2 90
    ·have HY:Hid (qP X7 (s1,s2)=X7++[(max s1 65+32,min s2 90+32)]):=by show _=_;simp[qP,dM]
     go_wp2_with (at_builtin;refine Ao _ rfl _ _ 60 rfl w.heap.size 219 i0 _ 2 8 underlying60 cW dm du de rfl (by decide) _ X7.length _ rfl ((j0.alloc (.cells #[.int .i32 (max s1 65),.int .i32 (min s2 90)] 219)).alloc (.cells #[.int .i32 (max s1 65+32),.int .i32 (min s2 90+32)] 219)) ⟨w7.heap.size+1,0,none⟩ 1 1 [.int .i32 (max s1 65+32),.int .i32 (min s2 90+32)] rfl rfl ?c1 ?c2 ?c3 ?c4 ?c5 ?_)
     case c1=>intro j' u h;have:=uT ((w7).alloc (.cells #[.int .i32 (max s1 65),.int .i32 (min s2 90)] 219)) #[.int .i32 (max s1 65+32),.int .i32 (min s2 90+32)] 219 j' u h;simpa using this
     case c2=>first|exact⟨rfl,rfl⟩|(intro u hu;simp at hu;rcases hu with rfl|rfl<;>rfl)
     case c3=>unfold maxLen;omega
     case c4=>omega
     case c5=>first|omega|(simp;omega)
     intro v8 w8 bL cy eF cI;have Hi:=NV (j0) (Ab _) (iP) (((aa.refl ai _).alloc (.cells #[.int .i32 (max s1 65),.int .i32 (min s2 90)] 219)).alloc _) cy;have Nx:=Iy (x:=(max s1 65+32,min s2 90+32)) bL;rw[<-HY.o]at Nx;clear bL cy cI eF;go_wp2_with fail;go_roundg (l.length-(j+1))
     case measure=>omega
     case rel=>exact⟨j+1,by omega,by go_num,rfl,by rw[oh.o,iC,HX7.o];exact Nx,Hi⟩
    ·have HY:Hid (qP X7 (s1,s2)=X7):=by show _=_;simp[qP,dM]
     go_wp2_with fail
     go_roundg (l.length-(j+1))
     case measure=>omega
     case rel=>exact⟨j+1,by omega,by go_num,rfl,by rw[oh.o,iC,HX7.o,HY.o];exact j0.alloc _,(iP).alloc _⟩
   ·have HX:Hid (mj X (s1,s2)=X):=by show _=_;simp[mj,CV]
    have j0:=(bC.alloc (.cells #[.int .i32 s1,.int .i32 s2] 219)).alloc (.cells #[.int .i32 (max s1 97),.int .i32 (min s2 122)] 219);have iP:=(hk.alloc (.cells #[.int .i32 s1,.int .i32 s2] 219)).alloc (.cells #[.int .i32 (max s1 97),.int .i32 (min s2 122)] 219);by_cases dM:max s1 65<=min s2 90
    ·have HY:Hid (qP X (s1,s2)=X++[(max s1 65+32,min s2 90+32)]):=by show _=_;simp[qP,dM]
     go_wp2_with (at_builtin;refine Ao _ rfl _ _ 60 rfl w.heap.size 219 i0 _ 2 8 underlying60 cW dm du de rfl (by decide) _ X.length _ rfl ((j0.alloc (.cells #[.int .i32 (max s1 65),.int .i32 (min s2 90)] 219)).alloc (.cells #[.int .i32 (max s1 65+32),.int .i32 (min s2 90+32)] 219)) ⟨wr.heap.size+1+1+1,0,none⟩ 1 1 [.int .i32 (max s1 65+32),.int .i32 (min s2 90+32)] rfl rfl ?c1 ?c2 ?c3 ?c4 ?c5 ?_)
     try(case c1=>intro j' u h;have:=uT (((wr.alloc (.cells #[.int .i32 s1,.int .i32 s2] 219)).alloc (.cells #[.int .i32 (max s1 97),.int .i32 (min s2 122)] 219)).alloc (.cells #[.int .i32 (max s1 65),.int .i32 (min s2 90)] 219)) #[.int .i32 (max s1 65+32),.int .i32 (min s2 90+32)] 219 j' u h;simpa using this)
     case c2=>first|exact⟨rfl,rfl⟩|(intro u hu;simp at hu;rcases hu with rfl|rfl<;>rfl)
     case c3=>unfold maxLen;omega
     case c4=>omega
     case c5=>first|omega|(simp;omega)
     intro v8 w8 bL cy eF cI;have Hi:=NV (j0) (Ab _) (iP) (((aa.refl ai _).alloc (.cells #[.int .i32 (max s1 65),.int .i32 (min s2 90)] 219)).alloc _) cy;have Nx:=Iy (x:=(max s1 65+32,min s2 90+32)) bL;rw[<-HY.o]at Nx;clear bL cy cI eF;go_wp2_with fail;go_roundg (l.length-(j+1))
     case measure=>omega
     case rel=>exact⟨j+1,by omega,by go_num,rfl,by rw[oh.o,iC,HX.o];exact Nx,Hi⟩
    ·have HY:Hid (qP X (s1,s2)=X):=by show _=_;simp[qP,dM]
     go_wp2_with fail
     go_roundg (l.length-(j+1))
     case measure=>omega
     case rel=>exact⟨j+1,by omega,by go_num,rfl,by rw[oh.o,iC,HX.o,HY.o];exact j0.alloc _,(iP).alloc _⟩
  ·have ej:j=l.length:=(by omega);subst ej;rw[Bj]at*;clear hc hr;go_wp2_with fail;go_ret;exact⟨_,rfl,bC,hk⟩
theorem dw(h:w.ownsRow base e size v n xs)(hb:v.ownBlock=some b):base<=b/\b<w.heap.size:=uV h hb
theorem bU(h:w.ownsRow base e size v n xs)(k:aa S w w')(hs:∀b,v.ownBlock=some b->¬S b):w'.ownsRow base e size v n xs:=X0 h k hs
theorem cw(h:w.ownsRow base e size v n xs):∃ao c,v=.slice ao n c:=Sg h
structure Nv where
 k:Int
 pa:Option Addr
 pn:Nat
 pc:Nat
 sa:Option Addr
 sn:Nat
 sc:Nat
 ed:Int
 gr:Int
 lo:Int
 hi:Int
 lz:Bool
def Nv.cells(q:Nv):Array Value:=#[GW q.k,.slice q.pa q.pn q.pc,.slice q.sa q.sn q.sc,GW q.ed,GW q.gr,GW q.lo,GW q.hi,.bool q.lz]
def Nv.val(q:Nv):Value:=.agg q.cells
def bG:Nv:=⟨0,none,0,0,none,0,0,0,0,0,0,false⟩
def uW(sa:Option Addr)(sn sc:Nat):Nv:=⟨0,none,0,0,sa,sn,sc,0,0,0,0,false⟩
def A_(e:Int):Nv:=⟨1,none,0,0,none,0,0,e,0,0,0,false⟩
inductive cJ(w:World)(lo hi:Nat):Nv->PT->CT->Prop where
 |mk (q:Nv) (tk:Int) (b bs:Nat) (ts:List PT) (cs:List CT) (V:Nat->Nv) (S sp:bI) (fo nt:Bool)
  (hn:q.pn=ts.length/\cs.length=ts.length/\q.sn=S.length)
  (hb:ts≠ []->q.pa=some ⟨b,0,none⟩/\lo<=b/\b<hi)
  (hc:∀i,i<ts.length->∀j,j<8->w.cell? ⟨b,i*8+j,none⟩=(V i).cells[j]?)
  (hk:∀i,(h:i<ts.length)->(h':i<cs.length)->cJ w lo hi (V i) ts[i] cs[i])
  (hs:S≠ []->q.sa=some ⟨bs,0,none⟩/\lo<=bs/\bs<hi)
  (oJ:gj w bs S)
  (hr:(-1<=q.lo/\q.lo<=99)/\(-1<=q.hi/\q.hi<=99)/\ts.length<=400/\(0<=q.gr/\q.gr<=300)/\(0<=q.ed/\q.ed<=3)/\dH S/\S.length<=6000)
  (pC:(q.k=0/\tk=0/\vA S sp fo nt)\/(q.k=1/\tk=0)\/(q.k=2/\tk=1)\/(q.k=3/\tk=2)\/(q.k=4/\tk=3/\ts≠ [])\/(q.k=5/\tk=4)):
  cJ w lo hi q (.node tk ts q.lo q.hi) (.node q.k sp fo nt q.ed q.gr q.lo q.hi q.lz cs)
theorem gj.nil(w:World)(b:Nat):gj w b []:=fun i h=>by simp at h
theorem cJ.kept{q:Nv}(h:cJ w lo hi q T C)(k:aa S w w')(hs:∀i,lo<=i->i<hi->¬S i)(hle:hi<=w.heap.size):cJ w' lo hi q T C:=by
 induction h with
 |mk q tk b bs ts cs V Sp sp fo nt hn hb hc hk cZ oJ hr pC ih=>
  refine cJ.mk q tk b bs ts cs V Sp sp fo nt hn hb (fun i hi' j hj=>?_) (fun i h1 h2=>ih i h1 h2) cZ (fun i hi'=>?_) hr pC
  ·have aB:ts≠ []:=by intro e;subst e;simp at hi'
   obtain⟨_,b1,b2⟩:=hb aB;exact(k.cell (p:=⟨b,i*8+j,none⟩) (by show b<_;omega) (hs b b1 b2)).trans (hc i hi' j hj)
  ·have aB:Sp≠ []:=by intro e;subst e;simp at hi'
   obtain⟨_,b1,b2⟩:=cZ aB;exact⟨(k.cell (p:=⟨bs,i*2,none⟩) (by show bs<_;omega) (hs bs b1 b2)).trans (oJ i hi').1,(k.cell (p:=⟨bs,i*2+1,none⟩) (by show bs<_;omega) (hs bs b1 b2)).trans (oJ i hi').2⟩
theorem cJ.IN{lo' hi':Nat}{q:Nv}(h:cJ w lo hi q T C)(h1:lo'<=lo)(h2:hi<=hi'):cJ w lo' hi' q T C:=by
 induction h with
 |mk q tk b bs ts cs V Sp sp fo nt hn hb hc hk cZ oJ hr pC ih=>
  exact cJ.mk q tk b bs ts cs V Sp sp fo nt hn (fun aB=>by obtain⟨a,b1,b2⟩:=hb aB;exact⟨a,by omega,by omega⟩) hc (fun i a1 a2=>ih i a1 a2) (fun aB=>by obtain⟨a,b1,b2⟩:=cZ aB;exact⟨a,by omega,by omega⟩) oJ hr pC
theorem cJ.eM(w:World)(lo hi:Nat)(e:Int)(he:0<=e/\e<=3):cJ w lo hi (A_ e) np (vH e):=
 cJ.mk (A_ e) 0 0 0 [] [] (fun _=>bG) [] [] false false ⟨rfl,rfl,rfl⟩ (fun h=>absurd rfl h) (fun i h=>by simp at h) (fun i h=>by simp at h) (fun h=>absurd rfl h) (gj.nil _ _)
  ⟨by simp[A_],by simp[A_],by simp,by simp[A_],he,fun s h=>by simp at h,by simp⟩ (Or.inr (Or.inl ⟨rfl,rfl⟩))
theorem cJ.alj{S sp:bI}{fo nt:Bool}(h:w.ownsRow lo 219 2 v S.length (dj S))(hS:vA S sp fo nt)(hr:dH sp)(hl:sp.length<=1900):
 ∃sa sc,v=.slice sa S.length sc/\cJ w lo w.heap.size (uW sa S.length sc) np (mx sp fo nt):=by
 have RF:=hS.aoh hr;by_cases aB:S=[]
 ·obtain⟨sa,sc,rfl⟩:=Sg h
  refine⟨sa,sc,rfl,cJ.mk (uW sa S.length sc) 0 0 0 [] [] (fun _=>bG) S sp fo nt ⟨rfl,rfl,rfl⟩ (fun h=>absurd rfl h) (fun i h=>by simp at h) (fun i h=>by simp at h) (fun h=>absurd aB h) (by rw[aB];exact gj.nil _ _)
   ⟨by simp[uW],by simp[uW],by simp,by simp[uW],by simp[uW],RF.1,by omega⟩ (Or.inl ⟨rfl,rfl,hS⟩)⟩
 ·obtain⟨g,sc,rfl,h1,h2,h3,_⟩:=xx h aB
  exact⟨some ⟨g,0,none⟩,sc,rfl,cJ.mk (uW (some ⟨g,0,none⟩) S.length sc) 0 0 g [] [] (fun _=>bG) S sp fo nt ⟨rfl,rfl,rfl⟩ (fun h=>absurd rfl h) (fun i h=>by simp at h) (fun i h=>by simp at h) (fun _=>⟨rfl,h1,h2⟩) h3
   ⟨by simp[uW],by simp[uW],by simp,by simp[uW],by simp[uW],RF.1,by omega⟩ (Or.inl ⟨rfl,rfl,hS⟩)⟩
def vO:List Nv->List Value
 | []=>[]
 |q::qs=>q.cells.toList++vO qs
theorem Nv.F_(q:Nv):q.cells.toList.length=8:=rfl
theorem aiF(a b:List Nv):vO (a++b)=vO a++vO b:=by
 induction a with
 |nil=>rfl
 |cons q qs ih=>simp[vO,ih]
theorem aiG(qs:List Nv)(i:Nat)(h:i<qs.length)(j:Nat)(hj:j<8):(vO qs)[i*8+j]? =(qs[i]).cells[j]? :=by
 induction qs generalizing i with
 |nil=>simp at h
 |cons q qs ih=>
  cases i with
  |zero=>
   simp only[vO,Ah];rw[Ay (by rw[Nv.F_];omega),show 0*8+j=j by omega];simp
  |succ i=>
   have:=ih i (by simpa using h);simp only[vO,Ag];rw[Br (by rw[Nv.F_];omega),Nv.F_,show(i+1)*8+j-8=i*8+j by omega];exact this
theorem Nv.one(q:Nv):∀u∈q.cells.toList,u.oneCell'=true:=by
 intro u hu;simp[Nv.cells]at hu;rcases hu with rfl|rfl|rfl|rfl|rfl|rfl|rfl|rfl<;>rfl
structure nD(w:World)(base:Nat)(v:Value)(qs:List Nv)(ts:List PT)(cs:List CT):Prop where
 ay:w.ownsRow base 64 8 v ts.length (vO qs)
 len:qs.length=ts.length
 Jj:cs.length=ts.length
 bN:ts.length<=400
 RU:∀i,(h:i<ts.length)->(h':i<qs.length)->(BP:i<cs.length)->∃lo hi,base<=lo/\hi<=w.heap.size/\cJ w lo hi qs[i] ts[i] cs[i]/\∀b,v.ownBlock=some b->¬(lo<=b/\b<hi)
theorem nD.nil(w:World)(base:Nat):nD w base (.slice none 0 0) [] [] []:=⟨A8 _ _ _ _,rfl,rfl,by simp,fun i h=>by simp at h⟩
theorem nD.kept{qs:List Nv}(h:nD w base v qs ts cs)(k:aa S w w')(hs:∀i,S i->i<base):nD w' base v qs ts cs where
 ay:=X0 h.ay k (fun b hb hx=>by have:=uV h.ay hb;have:=hs b hx;omega)
 len:=h.len
 Jj:=h.Jj
 bN:=h.bN
 RU i h1 h2 h3:=by
  obtain⟨lo,lH,a1,a2,a3,a4⟩:=h.RU i h1 h2 h3;exact⟨lo,lH,a1,Bh a2 k.size,a3.kept k (fun j hj _ hx=>by have:=hs j hx;omega) a2,a4⟩
theorem nD.rE{qs:List Nv}{q:Nv}(h:nD w base v qs ts cs)
 (hq:cJ w lo hi q T C)(nc:base<=lo)(hvl:∀b,v.ownBlock=some b->b<lo)(lX:hi<=w.heap.size)
 (k1:aa ai w w1)(bC:w'.ownsRow base 64 8 v' (ts.length+1) (vO qs++q.cells.toList))(hg:w1.grownBy w' v.ownBlock)(cI:v'.ownBlock=v.ownBlock\/v'.ownBlock=some w1.heap.size)(dy:ts.length+1<=400):nD w' base v' (qs++[q]) (ts++[T]) (cs++[C]):=by
 have kk:aa (fun i=>v.ownBlock=some i) w w':=(k1.mono (fun _ hx=>hx.elim)).eP hg (fun j hj=>Or.inl hj);have aW:w.heap.size<=w1.heap.size:=k1.size;have fC:=h.Jj;have RE:=h.len;refine⟨by rw[aiF];simpa[vO]using bC,by simp[h.len],by simp[h.Jj],by simpa using dy,fun i oE lH Rf=>?_⟩;by_cases az:i<ts.length
 ·obtain⟨lo2,ajG,a1,a2,a3,a4⟩:=h.RU i az (by omega) (by omega);refine⟨lo2,ajG,a1,Bh a2 kk.size,?_,fun b hb=>?_⟩
  ·have e1:(qs++[q])[i]=qs[i]'(by omega):=C1 _;have e2:(ts++[T])[i]=ts[i]:=C1 _;have e3:(cs++[C])[i]=cs[i]'(by omega):=C1 _;rw[e1,e2,e3];exact a3.kept kk (fun j r_ lY hx=>a4 j hx ⟨r_,lY⟩) a2
  ·rcases cI with hl|hl
   ·exact a4 b (hl▸hb)
   ·rw[hl]at hb;cases hb;omega
 ·have hi':i=ts.length:=by simp at oE;omega
  subst hi';refine⟨lo,hi,nc,Bh lX kk.size,?_,fun b hb=>?_⟩
  ·have e1:(qs++[q])[ts.length]=q:=(by simp[<-h.len]);have e2:(ts++[T])[ts.length]=T:=(by simp);have e3:(cs++[C])[ts.length]=C:=(by simp[<-h.Jj]);rw[e1,e2,e3];exact hq.kept kk (fun j r_ _ hx=>by have:=hvl j hx;omega) lX
  ·rcases cI with hl|hl
   ·have:=hvl b (hl▸hb);omega
   ·rw[hl]at hb;cases hb;omega
def jG(k:Int)(pa:Option Addr)(pn pc:Nat):Nv:=⟨k,pa,pn,pc,none,0,0,0,0,0,0,false⟩
theorem nD.node{qs:List Nv}(h:nD w base v qs ts cs)(k tk:Int)(hk:(k=3/\tk=2)\/(k=4/\tk=3/\ts≠ [])):
 ∃pa pc,v=.slice pa ts.length pc/\cJ w base w.heap.size (jG k pa ts.length pc) (.node tk ts 0 0) (.node k [] false false 0 0 0 0 false cs):=by
 have fC:=h.Jj;have RE:=h.len
 have cU:∀i,(h1:i<ts.length)->(h2:i<cs.length)->cJ w base w.heap.size (qs.getD i bG) ts[i] cs[i]:=by
  intro i h1 h2;have lH:i<qs.length:=by omega
  obtain⟨lo,Rf,a1,a2,a3,_⟩:=h.RU i h1 lH h2;have e:qs.getD i bG=qs[i]:=by simp[List.getD,Ae lH]
  rw[e];exact a3.IN a1 a2
 have pC:((jG k none 0 0).k=0/\tk=0/\vA [] [] false false)\/(k=1/\tk=0)\/(k=2/\tk=1)\/(k=3/\tk=2)\/(k=4/\tk=3/\ts≠ [])\/(k=5/\tk=4):=by
  rcases hk with hk|hk
  ·exact Or.inr (Or.inr (Or.inr (Or.inl hk)))
  ·exact Or.inr (Or.inr (Or.inr (Or.inr (Or.inl hk))))
 rcases h.ay.2 with⟨rfl,hn⟩|⟨g,cap,aO,rfl,a1,a2,a3,a4,a5,a6⟩
 ·have e:ts=[]:=Aw.1 hn;subst e
  refine⟨none,0,rfl,cJ.mk (jG k none 0 0) tk 0 0 [] cs (fun _=>bG) [] [] false false ⟨rfl,fC,rfl⟩ (fun h=>absurd rfl h) (fun i h=>by simp at h) (fun i h=>by simp at h) (fun h=>absurd rfl h) (gj.nil _ _)
   ⟨by simp[jG],by simp[jG],by simp,by simp[jG],by simp[jG],fun s h=>by simp at h,by simp⟩ pC⟩
 ·refine⟨_,cap,rfl,cJ.mk (jG k (some ⟨g,0,none⟩) ts.length cap) tk g 0 ts cs (fun i=>qs.getD i bG) [] [] false false ⟨rfl,fC,rfl⟩ (fun _=>⟨rfl,a1,(Am.1 a2).1⟩) (fun i hi j hj=>?_) cU (fun h=>absurd rfl h) (gj.nil _ _)
   ⟨by simp[jG],by simp[jG],h.bN,by simp[jG],by simp[jG],fun s h=>by simp at h,by simp⟩ pC⟩
  have lH:i<qs.length:=by omega
  have e:qs.getD i bG=qs[i]:=by simp[List.getD,Ae lH]
  have hf:=aiG qs i lH j hj;rw[e,<-hf,<-a6,Av (by omega)];simp only[World.cell?,a2];simp
def oT(k:Int)(b cap:Nat)(gr lo hi:Int)(lz:Bool):Nv:=⟨k,some ⟨b,0,none⟩,1,cap,none,0,0,0,gr,lo,hi,lz⟩
theorem cJ.wrap{XD cW:Nat}{q:Nv}{k tk gr l h:Int}{lz:Bool}(hp:cJ w lo hi q T C)(lX:hi<=w.heap.size)(kk:aa S w W)(hS:∀i,S i->i<lo\/hi<=i)
 (hb:au W b q.cells 64)(nc:XD<=lo)(ajF:hi<=cW)(vW:XD<=b/\b<cW)(hr:(-1<=l/\l<=99)/\(-1<=h/\h<=99)/\(0<=gr/\gr<=300))(hk:(k=2/\tk=1)\/(k=5/\tk=4)):
 cJ W XD cW (oT k b cap gr l h lz) (.node tk [T] l h) (.node k [] false false 0 gr l h lz [C]):=by
 refine cJ.mk (oT k b cap gr l h lz) tk b 0 [T] [C] (fun _=>q) [] [] false false ⟨rfl,rfl,rfl⟩ (fun _=>⟨rfl,vW.1,vW.2⟩) (fun i hi' j hj=>?_) (fun i h1 h2=>?_) (fun h=>absurd rfl h) (gj.nil _ _)
  ⟨hr.1,hr.2.1,by simp,hr.2.2,by simp[oT],fun s h=>by simp at h,by simp⟩ ?_
 ·have e:i=0:=by simp at hi';omega
  subst e;rw[hb.cell (0*8+j),show 0*8+j=j by omega]
 ·have e:i=0:=by simp at h1;omega
  subst e;exact(hp.kept kk (fun j h1 h2 hx=>by rcases hS j hx with h3|h3<;>omega) lX).IN nc ajF
 ·rcases hk with hk|hk
  ·exact Or.inr (Or.inr (Or.inl hk))
  ·exact Or.inr (Or.inr (Or.inr (Or.inr (Or.inr hk))))
def gy(w:World)(b:Nat)(q:Nv):World:=
 (((((((w.setCell ⟨b,0,none⟩ (GW q.k)).setCell ⟨b,1,none⟩ (.slice q.pa q.pn q.pc)).setCell ⟨b,2,none⟩ (.slice q.sa q.sn q.sc)).setCell ⟨b,3,none⟩ (GW q.ed)).setCell ⟨b,4,none⟩ (GW q.gr)).setCell ⟨b,5,none⟩ (GW q.lo)).setCell ⟨b,6,none⟩ (GW q.hi)).setCell ⟨b,7,none⟩ (.bool q.lz)
theorem Kp(w:World)(b:Nat)(q:Nv):aa (fun i=>i=b) w (gy w b q):=
 ((((((((aa.refl (fun i=>i=b) w).setCell (p:=⟨b,0,none⟩) (Or.inl rfl) _).setCell (p:=⟨b,1,none⟩) (Or.inl rfl) _).setCell (p:=⟨b,2,none⟩) (Or.inl rfl) _).setCell (p:=⟨b,3,none⟩) (Or.inl rfl) _).setCell (p:=⟨b,4,none⟩) (Or.inl rfl) _).setCell (p:=⟨b,5,none⟩) (Or.inl rfl) _).setCell (p:=⟨b,6,none⟩) (Or.inl rfl) _).setCell (p:=⟨b,7,none⟩) (Or.inl rfl) _
theorem Ox(w:World)(b:Nat)(q:Nv):(gy w b q).heap.size=w.heap.size:=by simp[gy,World.setCell]
theorem wN{p:Nv}(h:au w b p.cells t)(q:Nv):au (gy w b q) b q.cells t:=by
 have h8:=(((((((h.setCell 0 (GW q.k)).setCell 1 (.slice q.pa q.pn q.pc)).setCell 2 (.slice q.sa q.sn q.sc)).setCell 3 (GW q.ed)).setCell 4 (GW q.gr)).setCell 5 (GW q.lo)).setCell 6 (GW q.hi)).setCell 7 (.bool q.lz);have e:(((((((p.cells.setIfInBounds 0 (GW q.k)).setIfInBounds 1 (.slice q.pa q.pn q.pc)).setIfInBounds 2 (.slice q.sa q.sn q.sc)).setIfInBounds 3 (GW q.ed)).setIfInBounds 4 (GW q.gr)).setIfInBounds 5 (GW q.lo)).setIfInBounds 6 (GW q.hi)).setIfInBounds 7 (.bool q.lz)=q.cells:=by simp[Nv.cells]
 rw[e]at h8;exact h8
theorem au.iq{q:Nv}(h:au w b q.cells t):
 w.cell? ⟨b,0,none⟩=some (GW q.k)/\w.cell? ⟨b,1,none⟩=some (.slice q.pa q.pn q.pc)/\w.cell? ⟨b,2,none⟩=some (.slice q.sa q.sn q.sc)/\w.cell? ⟨b,3,none⟩=some (GW q.ed)/\w.cell? ⟨b,4,none⟩=some (GW q.gr)/\w.cell? ⟨b,5,none⟩=some (GW q.lo)/\w.cell? ⟨b,6,none⟩=some (GW q.hi)/\w.cell? ⟨b,7,none⟩=some (.bool q.lz):=
 ⟨h.cell 0,h.cell 1,h.cell 2,h.cell 3,h.cell 4,h.cell 5,h.cell 6,h.cell 7⟩
theorem au.nZ{cs:Array Value}(h:au w b cs t):
 w.frozen? ⟨b,0,none⟩=false/\w.frozen? ⟨b,1,none⟩=false/\w.frozen? ⟨b,2,none⟩=false/\w.frozen? ⟨b,3,none⟩=false/\w.frozen? ⟨b,4,none⟩=false/\w.frozen? ⟨b,5,none⟩=false/\w.frozen? ⟨b,6,none⟩=false/\w.frozen? ⟨b,7,none⟩=false:=
 ⟨h.frozen 0,h.frozen 1,h.frozen 2,h.frozen 3,h.frozen 4,h.frozen 5,h.frozen 6,h.frozen 7⟩
theorem wJ{f:Func}{Q:Ending->World->Prop}{a:Act}{i:Nat}{q:Nv}(mH:f.results=#[ResultVar.cell i 64])(tz:a.tmps.getD i undef=BT b 0)(hd:a.defers=[])
 (hb:au W b q.cells 64)(hQ:Q (.returned q.val) W):bodyPost prog f Q Exit.ret a W:=by
 obtain⟨r0,r1,r2,r3,r4,r5,r6,r7⟩:=hb.iq;have gg:a.tmps[i]?.getD undef=BT b 0:=by simpa using tz
 exact Bm (v:=q.val) (by simp[results,mH,go_sem,gg,r0,r1,r2,r3,r4,r5,r6,r7,Nv.val,Nv.cells]) hd hQ
theorem adU(q:Nv)(j:Nat)(u:Value)(h:q.cells.toList[j]? =some u):(w.alloc (.cells q.cells 64)).cell? (Addr.add ⟨w.heap.size,0,none⟩ j)=some u:=uT w q.cells 64 j u h
