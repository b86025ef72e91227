/- Events in memory that are compared; Check; the law Cuts -/
import Derived.Test.YtpdnofhackjfdaaGreatDoorP45
set_option linter.all false
set_option maxRecDepth 100000
set_option maxHeartbeats 4000000
namespace Go.Proofs.YtpdnofhackjfdaaGreatDoor
open Go.Proofs.Tryz
open Go.RowKit Go.Maps
variable {X p:ByteArray} {E:List Ev} {v va vb:Value} {w w':World}
def e0:Ev:=⟨0,0,[]⟩
def qd(w:World)(v:Value)(X:ByteArray)(E:List Ev):Prop:=∃GV,Hn w v E.length (fun k=>aN X (E.getD k e0).a) (fun k=>aN X (E.getD k e0).b) GV (fun k=>(E.getD k e0).gs) (fun k=>X.extract (bd X (E.getD k e0).a) (bd X (E.getD k e0).b))
theorem qd.kept(h:qd w v X E)(k:aa af w w'):qd w' v X E:=by
 obtain⟨GV,h⟩:=h;exact⟨GV,h.kept k⟩
theorem qd.nil(w:World)(X:ByteArray):qd w (.slice none 0 0) X []:=⟨fun _=>.slice none 0 0,Or.inl ⟨rfl,none,0,rfl⟩,fun k hk=>by simp at hk⟩
theorem qd.sh(ha:qd w va X E)(hb:qd w vb X E)(hn:E.length<=100000000):Calls prog 11 #[va,vb,.bool true] w fun e w'=>e=.returned (.bool true)/\aa af w w':=by
 obtain⟨GV,ha⟩:=ha;obtain⟨R9,hb⟩:=hb;exact anm true ha hb hn (fun _ _ _=>rfl)
theorem aaR(X:ByteArray):∀(l:List (Ev×Value)) (i:Nat) (h:i<l.length) (j:Nat) (hj:j<4),(gN X l)[i*4+j]? =(sI X l[i].1 l[i].2)[j]?
 | [],i,h,_,_=>by simp at h
 |p::l,0,h,j,hj=>by
  show(sI X p.1 p.2++gN X l)[0*4+j]? =_
  rw[Eu,Ba,A6 (by show j<4;exact hj)];rfl
 |p::l,i+1,h,j,hj=>by
  show(sI X p.1 p.2++gN X l)[(i+1)*4+j]? =_
  rw[Bt (by show 4<=_;omega),show(i+1)*4+j-(sI X p.1 p.2).length=i*4+j by show(i+1)*4+j-4=_;omega];exact aaR X l i (by simpa using h) j hj
theorem eW.sI{O:Nat->Prop}{l:List (Ev×Value)}(h:eW w O v X l)(hb:∀p∈l,p.1.gs.length<=1000000):qd w v X (l.map (·.1)):=by
 have gd:∀k,(hk:k<l.length)->(l.map (·.1)).getD k e0=(l[k]).1:=fun k hk=>by simp[Af,Ae hk]
 refine⟨fun k=>(l.getD k (e0,.slice none 0 0)).2,?_,fun k hk=>?_⟩
 ·rw[Co];rcases h.cell with⟨e,e'⟩|⟨g,cap,e,hc,pH⟩
  ·exact Or.inl ⟨by rw[e'];rfl,none,0,e⟩
  ·refine Or.inr ⟨g,cap,e,?_,fun k hk=>?_⟩
   ·exact(dw h.row (by rw[e];rfl)).2
   ·have key:∀j,j<4->∀u,(Go.Proofs.YtpdnofhackjfdaaGreatDoor.sI X l[k].1 l[k].2)[j]? =some u->w.cell? ⟨g,k*4+j,none⟩=some u:=fun j hj u hu=>by
     have:=pH (k*4+j) u (by rw[aaR X l k hk j hj];exact hu);rw[Tc,Ba]at this;exact this
    have g2:(l.getD k (e0,.slice none 0 0)).2=(l[k]).2:=(by simp[Af,Ae hk]);simp only[gd k hk,g2];exact⟨key 0 (by omega) _ rfl,key 1 (by omega) _ rfl,key 2 (by omega) _ rfl,key 3 (by omega) _ rfl⟩
 ·rw[Co]at hk;have g2:(l.getD k (e0,.slice none 0 0)).2=(l[k]).2:=by simp[Af,Ae hk]
  simp only[gd k hk,g2];refine⟨?_,hb _ (A5 hk)⟩;rcases h.fE _ (A5 hk)with⟨e,e'⟩|⟨gb,e,_,hB⟩
  ·exact Or.inl ⟨e,e'⟩
  ·exact Or.inr ⟨gb,_,e,hB⟩
theorem sm.sI{base N2:Nat}{s:ByteArray}{l:List (Ev×Nat)}(h:sm w base v s N2 l)(hN:∀p∈l,p.1.gs.length=N2)(hb:N2<=1000000):qd w v s (l.map (·.1)):=by
 have gd:∀k,(hk:k<l.length)->(l.map (·.1)).getD k e0=(l[k]).1:=fun k hk=>by simp[Af,Ae hk]
 refine⟨fun k=>.slice (some ⟨(l.getD k (e0,0)).2,0,none⟩) N2 N2,?_,fun k hk=>?_⟩
 ·rw[Co];by_cases az:l=[]
  ·subst az;obtain⟨o,c,rfl⟩:=cA h.row;exact Or.inl ⟨rfl,o,c,rfl⟩
  ·obtain⟨g,c,rfl,h1,h2,h3,h4⟩:=h.get az;refine Or.inr ⟨g,c,rfl,h2,fun k hk=>?_⟩;have g2:(l.getD k (e0,0)).2=(l[k]).2:=(by simp[Af,Ae hk]);simp only[gd k hk,g2];exact h4 k hk
 ·rw[Co]at hk;have g2:(l.getD k (e0,0)).2=(l[k]).2:=by simp[Af,Ae hk]
  simp only[gd k hk,g2];have hl:=hN _ (A5 hk);exact⟨Or.inr ⟨_,N2,by rw[hl],(h.fE _ (A5 hk)).2⟩,by omega⟩
def tr(w:World)(p X:ByteArray)(v:Value):Prop:=qd w v X (if fN p=0 then rq p X else [])
theorem tr.kept(h:tr w p X v)(k:aa af w w'):tr w' p X v:=qd.kept h k
theorem aeM{e:Ending}(h:ZD w p X e w'):aa af w w'/\(fN p=0->JW p X)/\∃v,e=.returned (.tuple #[v,.int .i64 (fN p)])/\tr w' p X v:=by
 obtain⟨k,⟨az,he⟩|⟨h0,v,aP,O,he,hE,hl,hg⟩⟩:=h
 ·exact⟨k,fun h=>absurd h az,_,he,by unfold tr;rw[if_neg az];exact qd.nil _ _⟩
 ·refine⟨k,fun _=>hg,v,by rw[h0];exact he,?_⟩;unfold tr;rw[if_pos h0,<-hl];refine hE.sI (fun q hq=>?_);have:=hg.1 q.1 (by rw[<-hl];exact Bf.2 ⟨q,hq,rfl⟩);have:=hg.2.1;omega
def Ho(w:World)(p X:ByteArray)(v:Value):Prop:=(fN p≠0/\v=.slice none 0 0)\/(fN p=0/\∃base l,sm w base v X (2*gG p) l/\l.map (·.1)=rq p X)
theorem Ho.kept(h:Ho w p X v)(k:aa af w w'):Ho w' p X v:=by
 rcases h with h|⟨h0,base,l,hE,hl⟩
 ·exact Or.inl h
 ·exact Or.inr ⟨h0,base,l,hE.kept k (fun _ _ h=>h),hl⟩
theorem Ho.ans(h:Ho w p X v)(hg:fN p=0->JW p X):tr w p X v:=by
 rcases h with⟨az,rfl⟩|⟨h0,base,l,hE,hl⟩
 ·unfold tr;rw[if_neg az];exact qd.nil _ _
 ·have hg:=hg h0;unfold tr;rw[if_pos h0,<-hl];refine hE.sI (fun q hq=>hg.1 q.1 (by rw[<-hl];exact Bf.2 ⟨q,hq,rfl⟩)) ?_;have:=hg.2.1;omega
theorem ahJ(p X:ByteArray)(w:World)(hp:p.size<=maxLen)(hX:X.size<=10000000)(hT:ik w):Calls prog 7 #[.string p,.string X] w fun e w'=>aa af w w'/\∃v,e=.returned (.tuple #[v,.int .i64 (fN p)])/\Ho w' p X v:=by
 refine(aaV p X w hp hX hT).mono ?_;rintro e w' ⟨k,⟨az,he⟩|⟨h0,v,l,he,hE,hl⟩⟩
 ·exact⟨k,_,he,Or.inl ⟨az,rfl⟩⟩
 ·exact⟨k,v,by rw[h0];exact he,Or.inr ⟨h0,_,l,hE,hl⟩⟩
theorem tr.sh(ha:tr w p X va)(hb:tr w p X vb)(hg:fN p=0->JW p X):Calls prog 11 #[va,vb,.bool true] w fun e w'=>e=.returned (.bool true)/\aa af w w':=by
 refine qd.sh ha hb ?_;split
 ·rename_i h;exact(hg h).2.2
 ·simp
theorem agL(p:ByteArray)(w:World)(hp:p.size<=maxLen):Calls prog 10 #[.string p] w fun e w'=>aa af w w'/\∃q:Int,e=.returned (.tuple #[.int .i64 (fN p),.int .i64 q]):=by
 by_cases hl:300<p.size
 ·have e1:fN p=1:=if_pos hl;have F:=ab (WH p w hl hp);have HE:=ab e1;clear e1;go_in;go_wp2_with fail;refine(F.out).mono ?_;rintro e w1 ⟨rfl,k1⟩;have K1:=ab k1;clear k1 F;simp only[nL,fU];go_wp2_with fail;go_ret2;exact⟨K1.out.alloc _,_,by rw[HE.out];rfl⟩
 ·have qz:p.size<=300:=by omega
  have F:=ab (WI p w qz);go_in;go_wp2_with fail;refine(F.out).mono ?_;rintro e w1 ⟨g,q,x,y,st,jv,mh,rfl,k1,bt,df⟩;obtain⟨a1,a2,a3⟩:=XB jv mh;have w_:(pick (jR g p)).1=fN p:=by unfold fN;rw[if_neg hl,a3]
  rw[w_];generalize(pick (jR g p)).2=pl;obtain⟨pe,qW⟩:∃pe,Hid (fN p=pe):=⟨_,(rfl:_=_)⟩
  rw[qW.out];have K1:=ab k1;clear k1 F w_ a1 a2 a3 jv mh bt df;simp only[nL,fU];go_wp2_with fail;go_ret2;exact⟨K1.out.alloc _,pl,by rw[qW.out];rfl⟩
theorem adb(a b:Int):th (qO a 3:Int) (2+(qO b 40:Int)) 0=true:=by
 have l1:=Nd a (n:=3) (by decide);have l2:=Nd b (n:=40) (by decide);unfold th;simp;omega
theorem ahe(p X:ByteArray)(w:World)(hp:p.size<=maxLen)(hX:X.size<=10000000)(hT:ik w){sv:Value}{zs:List Int}(hR:If w sv zs)(hz:zs.length<=10000000)(a b:Int)(ha: -9223372036854775808<=a/\a<=9223372036854775807)(hb: -9223372036854775808<=b/\b<=9223372036854775807):
 Calls prog 3 #[.string p,.string X,sv,.int .i64 a,.int .i64 b] w fun e w'=>e=.returned (.bool true)/\aa af w w':=by
 have HT:=ab hT;have HR:=ab hR;have F1:=ab (akg w hT);have ra: -9223372036854775808<=wrap64 (a+1)/\wrap64 (a+1)<=9223372036854775807:=by unfold wrap64;omega
 have rb: -9223372036854775808<=wrap64 (b+7)/\wrap64 (b+7)<=9223372036854775807:=by unfold wrap64;omega
 clear hT hR;go_in;go_wp2_with fail;refine(F1.out).mono ?_;rintro e w1 ⟨rfl,k1⟩;have K1:=ab k1;have F2:=ab (ahJ p X w1 hp hX (HT.out.iU k1));clear F1 k1;go_wp2_with fail;refine(F2.out).mono ?_;rintro e w2 ⟨k2,va,rfl,hva⟩;have K2:=ab (K1.out.trans k2);have HA:=ab hva;have F3:=ab (adi w2 a b ha hb);clear F2 k2 hva K1;go_wp2_with fail;refine(F3.out).mono ?_;rintro e w3 ⟨rfl,k3⟩;have K3:=ab (K2.out.trans k3);have XX:=ab (HA.out.kept k3);have F4:=ab (aeU p X w3 hp hX (HT.out.iU K3.out) _ _ (adb a b) (HR.out.kept K3.out) hz);clear F3 k3 HA K2;generalize qO a 3=x1 at*;generalize qO b 40=x2 at*;go_wp2_with fail;refine(F4.out).mono ?_;intro e w4 hs;obtain⟨k4,HG,vb,rfl,Qp⟩:=aeM hs;have HG:=ab HG;have K4:=ab (K3.out.trans k4);have XY:=ab (XX.out.kept k4);have i_:=ab Qp;have F5:=ab (adi w4 (wrap64 (a+1)) (wrap64 (b+7)) ra rb);clear F4 hs k4 Qp XX K3;go_wp2_with fail;refine(F5.out).mono ?_;rintro e w5 ⟨rfl,k5⟩;have K5:=ab (K4.out.trans k5);have XZ:=ab (XY.out.kept k5);have xO:=ab (i_.out.kept k5);have F6:=ab (aeU p X w5 hp hX (HT.out.iU K5.out) _ _ (adb (wrap64 (a+1)) (wrap64 (b+7))) (zs:=[]) (Or.inl ⟨rfl,rfl⟩) (Am _));clear F5 k5 XY i_ K4;generalize qO (wrap64 (a+1)) 3=x3 at*;generalize qO (wrap64 (b+7)) 40=x4 at*;go_wp2_with fail;refine(F6.out).mono ?_;intro e w6 hs;obtain⟨k6,_,vc,rfl,hvc⟩:=aeM hs;have K6:=ab (K5.out.trans k6);have X0:=ab (XZ.out.kept k6);have X9:=ab (xO.out.kept k6);have CJ:=ab hvc;have F7:=ab (agL p w6 hp);clear F6 hs k6 hvc XZ xO K5;go_wp2_with fail;refine(F7.out).mono ?_;rintro e w7 ⟨k7,q,rfl⟩;have K7:=ab (K6.out.trans k7);have Sb:=ab ((X0.out.kept k7).ans HG.out);have X_:=ab (X9.out.kept k7);have JZ:=ab (CJ.out.kept k7);have F8:=ab (Sb.out.sh X_.out HG.out);clear F7 k7 X0 X9 CJ K6;go_wp2_with fail;refine(F8.out).mono ?_;rintro e w8 ⟨rfl,k8⟩;have K8:=ab (K7.out.trans k8);have F9:=ab ((Sb.out.kept k8).sh (JZ.out.kept k8) HG.out);clear F8 k8 Sb X_ JZ K7;go_wp2_with fail;refine(F9.out).mono ?_;rintro e w9 ⟨rfl,k9⟩;have K9:=ab (K8.out.trans k9);clear F9 k9 K8 HG HT HR;have hee:(fN p==fN p)=true:=by simp
 go_wp2_with fail
 go_ret
 exact⟨rfl,K9.out⟩
end Go.Proofs.YtpdnofhackjfdaaGreatDoor
