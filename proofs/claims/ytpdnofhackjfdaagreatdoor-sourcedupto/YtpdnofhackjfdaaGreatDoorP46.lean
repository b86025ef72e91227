/- Package trawl's  -/
import Derived.Test.YtpdnofhackjfdaaGreatDoorP45
set_option linter.all false
set_option maxRecDepth 100000
set_option maxHeartbeats 16000000
namespace Go.Proofs.YtpdnofhackjfdaaGreatDoor
open Go.Proofs.Tryz
open Go.RowKit Go.Maps
variable {X p:ByteArray} {cN j kN most:Int} {P:List ByteArray} {E:List Ev} {xs ys:List Int} {l:List Pc} {B m n rb:Nat} {TX:Nat->ByteArray} {A:Nat->Int} {GS:Nat->List Int} {O:Nat->Prop} {GV:Nat->Value} {pv v va vb:Value} {w w':World}
def RnF(l:List Pc)(P:List ByteArray)(kN cN most r cd:Int)(j:Nat)(aG:List (Ev×Value))(rest:List Ev):Prop:=
 (r=0/\kN=1/\rest=[]/\j=min (P.length+1) l.length/\(most<0\/(aG.length:Int)<most))\/(r=11/\(aG.length:Int)=most)\/(r=12/\kN=2/\cd=cN/\j=min (P.length+1) l.length)
theorem afL(h:most<0\/(n:Int)<most)(aB:¬((n+zW most n m:Nat):Int)=most):zW most n m=m/\(most<0\/((n+m:Nat):Int)<most):=by
 unfold zW at*;split at aB
 ·rename_i hx;rw[if_pos hx];exact⟨rfl,Or.inl hx⟩
 ·rename_i hx;rw[if_neg hx];omega
def PW(w:World)(tb rb xb:Nat)(P:List ByteArray)(R0:List Ev)(pv:Value)(l:List Pc)(kN cN most:Int)(e:Ending)(w':World):Prop:=∃(r cd:Int) (j:Nat) (v':Value) (ado:List (Ev×Value)) (O':Nat->Prop) (rest:List Ev),e=.returned (GW r)/\Un w tb rb xb (db P) R0 rest pv most cd j v' ado O' w'/\RnF l P kN cN most r cd j ado rest
theorem apu{w0 w1:World}{sb fb tb xb:Nat}{g:FM}{fix:Nat->Prop}{R0:List Ev}{s0:cx}{c0:FC}{pK O0:Nat->Prop}{v0:Value}{adp:List (Ev×Value)}(hg:g.Ok)(hI:mW w w0 sb fb tb rb xb g P fix R0 pv most 0 0 s0 c0 pK O0 v0 adp w1)(hP:pf w B pv l)(hl:tY l P kN cN)(hn:l.length<=10000000)(hR:R0.length<=20000000)(hm:most≠0)(hr: -9223372036854775808<=most/\most<=9223372036854775807):
 Calls prog 36 #[BT tb 0,BT sb 0,BT rb 0] w1 (PW w tb rb xb P R0 pv l kN cN most):=by
 have c3:w1.cell? (GB tb 3)=some (GW most):=hI.bt.cell 3;have hz:(most==0)=false:=by simp[hm]
 have dD:=ab hI;have HG:=ab hg;have HP:=ab hP;have HL:=ab hl;have HR:=ab hR;have hle:=hl.le;clear hI hg hP hl hR hm;go_in;go_wp2_with fail;go_loopg [7,8] (P.length+1) (fun kk v7 v8 wr=>∃(i:Nat) (s:cx) (c:FC) (ay O:Nat->Prop) (v:Value) (aG:List (Ev×Value)),kk=P.length+1-i/\i<=P.length/\Hid (mW w w0 sb fb tb rb xb g P fix R0 pv most i i s c ay O v aG wr))
 case atStart=>exact⟨0,s0,c0,pK,O0,v0,adp,rfl,Al _,dD⟩
 case round=>
  clear dD;obtain⟨i,s,c,ay,O,v,aG,eE,hi,HI⟩:=hrel;have HK:=ab eE;clear eE;have F1:=ab (apx HI.o.br (HP.o.kept HI.o.sm.kept (fun _ _ hx=>hx)) (by omega) (by omega));obtain⟨a1,a2,a3⟩:=HL.o.at hi;generalize l.getD i pN=q at*;obtain⟨d,k,cc⟩:=q;simp only at a1 a2 a3;have A1:=ab a1;have A2:=ab a2;have A3:=ab a3;clear a1 a2 a3;go_wp2_with fail;refine(F1.o).mono ?_;rintro e wa ⟨rfl,hb,k1⟩;have Li:=ab (HI.o.anN k1 hb);clear F1 HI k1 hb;have V9:∀W,(convert 9 42 (.string d)).run prog W=.ok (.slice (some (GB W.heap.size 0)) d.size (grownCap W d.size 0 5)) (Lib.bytesWorld W 5 d):=fun W=>ahW W d
  have ka:aa ai wa (wa.alloc (.cells #[.string d,GW k,GW cc] 51)):=(aa.refl ai wa).alloc _;have PB:=au.new wa #[.string d,GW k,GW cc] 51;have kb:=ahf (wa.alloc (.cells #[.string d,GW k,GW cc] 51)) 5 d;have HB:=ab (Li.o.new (ka.trans kb));have Px:=ab (PB.kept kb (fun hx=>hx));have p0:(wa.alloc (.cells #[.string d,GW k,GW cc] 51)).cell? (GB wa.heap.size 0)=some (.string d):=PB.cell 0
  have BA:jI (Lib.bytesWorld (wa.alloc (.cells #[.string d,GW k,GW cc] 51)) 5 d) (.slice (some ⟨wa.heap.size+1,0,none⟩) d.size (grownCap (wa.alloc (.cells #[.string d,GW k,GW cc] 51)) d.size 0 5)) ((db P).extract s.bu (s.bu+d.size)):=by
   rw[HB.o.bu,<-A1.o,<-show(wa.alloc (.cells #[.string d,GW k,GW cc] 51)).heap.size=wa.heap.size+1 by simp];exact ahe _ 5 d (grownCap_ge _ d.size 0 5)
  have F2:=ab (aoI (n:=d.size) (J:=fun _=>True) HG.o HB.o.sm.at_ HB.o.sm.fO (by rw[HB.o.bu];exact A2.o) BA (ai1 g _) trivial HB.o.sm.wn)
  have Hq:¬FO fb c ay wa.heap.size:=fun hf=>by
   obtain⟨A,hM,_⟩:=Li.o.sm.at_.at_.mem;have:=hM.lt (Or.inl hf);omega
  have hnt:wa.heap.size≠tb:=fun e=>by have:=Li.o.bt.lt;omega
  have mF:¬O wa.heap.size:=fun ho=>by have:=Li.o.sm.c_.lt _ ho;omega
  clear kb ka PB Li BA;go_wp2_with fail;generalize Lib.bytesWorld (wa.alloc (.cells #[.string d,GW k,GW cc] 51)) 5 d=wf at*;refine(F2.o).mono ?_;rintro e w2 ⟨v2,dh,s2,c2,amC,O2,rfl,hF⟩;obtain⟨a2,yO,rfl⟩:=cw hF.c_.row;obtain⟨f1,f2,f3,f4,f5,f6,f7,f8,_,_,_⟩:=HB.o.U5 hF
  have dc:aG.length+dh.length<=20000000:=by
   have h1:=congrArg List.length f8;have h2:=HR.o;simp only[Aj,Cn]at h1;omega
  have F3:=ab (afI f1 f3 hF.c_ HB.o.ao.1 f4 HB.o.bN hr (by omega));have Z8:=ab (Px.o.kept hF.dt.kept Hq);have HF:=ab hF;clear F2 V9 p0 hF f1 f2 f3 f4 f5 f6 f7 f8 Px;go_wp2_with fail;refine(F3.o).mono ?_;rintro e w3 ⟨v3,O3,k3,bm,hA,rfl⟩;have Py:=ab (Z8.o.kept hA.kept (fun hx=>hx.elim hnt mF));clear F3 Z8;by_cases hq:((aG.length+k3:Nat):Int)=most
  ·rw[if_pos hq];obtain⟨rest,hX⟩:=HB.o.stop HF.o hA;have CN:k3<=dh.length:=by rw[bm];exact YS _ _ _
   have aA:Hid (PW w tb rb xb P R0 pv l kN cN most (.returned (GW 11)) w3):=⟨11,0,_,v3,_,O3,rest,rfl,hX,Or.inr (Or.inl ⟨rfl,by rw[Aj,Cv];omega⟩)⟩;clear hX hA hq bm HF HB;go_wp2_with fail;go_ret;exact aA.o
  ·rw[if_neg hq];obtain⟨ht,zo⟩:=afL HB.o.bN (by rw[<-bm];exact hq);rw[ht]at bm;subst bm;rw[Bj]at hA;have Rw:most<0\/((aG++dh).length:Int)<most:=by rw[Aj];exact zo
   have p1:w3.cell? (GB wa.heap.size 1)=some (GW k):=Py.o.cell 1;have p2:w3.cell? (GB wa.heap.size 2)=some (GW cc):=Py.o.cell 2;rcases A3.o with⟨b1,b2,b3⟩|⟨b1,b2,b3,b4⟩
   ·have fq:=ab (HB.o.on HF.o hA (by rw[HB.o.bu];exact b3) Rw);subst b2;clear hA hq ht zo Rw HF HB Py A1 A2 A3;go_wp2_with fail;go_roundg (P.length+1-(i+1))
    case measure=>rw[HK.o];omega
    case rel=>
     refine⟨i+1,s2,c2,amC,O3,v3,aG++dh,rfl,by omega,?_⟩;have:=fq.o;rwa[show min (i+1) l.length=i+1 by omega]at this
   ·have fq:=ab (HB.o.on (i':=P.length) HF.o hA (by rw[HB.o.bu,Bj];exact b4) Rw);have Wd:s2.bu=(db P).size:=by have:=fq.o.bu;rwa[Bj]at this
    subst b1 b2 b3;clear hA hq ht zo Rw HF HB Py A1 A2 A3;rcases HL.o.kind with aU|aU
    ·have qB:=ab aU;subst aU;have F4:=ab (aoH HG.o fq.o.sm.at_ fq.o.sm.fO Wd);go_wp2_with fail;refine(F4.o).mono ?_;rintro e w4 ⟨v4,adq,rfl,hC⟩;obtain⟨a4,cv4,rfl⟩:=cw hC.c_.row;obtain⟨f1,f2,f3,f4,f5,f6,_⟩:=fq.o.afm hC
     have aqS:(aG++dh).length+adq.length<=20000000:=by
      have h1:=congrArg List.length f6;have h2:=HR.o;simp only[Aj,Cn]at h1⊢;omega
     have F5:=ab (afI f1 f3 hC.c_ fq.o.ao.1 f4 fq.o.bN hr (by omega));have HC:=ab hC;clear F4 hC f1 f2 f3 f4 f5 f6 p1 p2;go_wp2_with fail;refine(F5.o).mono ?_;rintro e w5 ⟨v5,O5,k5,cS,MF,rfl⟩;have hX:=fq.o.end_ HC.o MF;have ajQ:k5<=adq.length:=by rw[cS];exact YS _ _ _
     have aA:Hid (PW w tb rb xb P R0 pv l 1 cc most (.returned (GW (if(((aG++dh).length+k5:Nat):Int)=most then 11 else 0))) w5):=by
      refine⟨_,0,_,v5,_,O5,_,rfl,hX,?_⟩;by_cases RD:(((aG++dh).length+k5:Nat):Int)=most
      ·rw[if_pos RD];exact Or.inr (Or.inl ⟨rfl,by rw[Aj,Cv,En ajQ];exact RD⟩)
      ·rw[if_neg RD];obtain⟨ht,zo⟩:=afL fq.o.bN (by rw[<-cS];exact RD);rw[ht]at cS;refine Or.inl ⟨rfl,rfl,by rw[cS,List.drop_length];rfl,rfl,?_⟩;rw[cS,Bj,Aj];exact zo
     clear F5 hX MF HC;generalize(if(((aG++dh).length+k5:Nat):Int)=most then(11:Int)else 0)=r5 at aA⊢;go_wp2_with fail;go_ret;exact aA.o
    ·subst aU;have t2:w3.cell? (GB tb 2)=some (GW 0):=fq.o.bt.cell 2;have g2:w3.frozen? (GB tb 2)=false:=fq.o.bt.frozen 2
     have aA:Hid (PW w tb rb xb P R0 pv l 2 cc most (.returned (GW 12)) (w3.setCell (GB tb 2) (GW cc))):=by
      have hw:=fq.o.sm.sz.1;have ha:=fq.o.aw;refine⟨12,cc,_,v3,_,O3,_,rfl,⟨fq.o.sm.kept.setCell (p:=(GB tb 2)) (Or.inr (show w.heap.size<=tb by omega)) _,fq.o.bt.setCell 2 _,fq.o.br.qw (p:=(GB tb 2)) (fun e=>ha.2.2.1 e.symm) _,fq.o.sm.c_.kept ((aa.refl (fun i=>i=tb) w3).setCell (p:=(GB tb 2)) (Or.inl rfl) _) (fun i hi hx=>?_),fq.o.sm.rest,fq.o.bx.qw (p:=(GB tb 2)) fq.o.ax.1.2.1 _,fun x hx=>by have:=(fq.o.sm.ap x hx).2.2;omega,fq.o.ao.2⟩,Or.inr (Or.inr ⟨rfl,rfl,rfl,rfl⟩)⟩;have xS:i=tb:=hx;subst xS;exact fq.o.ao.1 hi
     clear fq;go_wp2_with fail;go_ret;exact aA.o
theorem aiY(hb:au w rb #[pv,GW j] 87):Calls prog 35 #[BT rb 0] w fun e w'=>e=.returned (GW j)/\w'=w.setCell (GB rb 0) (.slice none 0 0):=by
 have b0:w.cell? (GB rb 0)=some pv:=hb.cell 0;have f0:w.frozen? (GB rb 0)=false:=hb.frozen 0;have b1:(w.setCell (GB rb 0) (.slice none 0 0)).cell? (GB rb 1)=some (GW j):=(hb.setCell 0 _).cell 1;clear hb;go_in;go_wp2_with fail;go_ret;exact⟨rfl,rfl⟩
theorem aoe{rp tl:Nat}{x y:Int}(h1:au w rp #[BT rb 0] 85)(h2:au w tl #[v,GW x,GW y] 53)(hb:au w rb #[pv,GW j] 87)(aB:tl≠rb):
 CallsD prog 34 #[BT rp 0,BT tl 0] .returning w fun e u' w'=>u'=.returning/\e=.returned (.tuple #[])/\w'=(w.setCell (GB rb 0) (.slice none 0 0)).setCell (GB tl 1) (GW j):=by
 have c0:w.cell? (GB rp 0)=some (BT rb 0):=h1.cell 0;have F:=ab (aiY hb);have T:=h2.qw (p:=(GB rb 0)) aB (.slice none 0 0);have c1:(w.setCell (GB rb 0) (.slice none 0 0)).cell? (GB tl 1)=some (GW x):=T.cell 1;have f1:(w.setCell (GB rb 0) (.slice none 0 0)).frozen? (GB tl 1)=false:=T.frozen 1;clear h1 h2 hb T;refine callsD_of_wp func34 rfl ?_;simp only[ntmps34];go_wp2_with fail;refine(F.o).mono ?_;rintro e w1 ⟨rfl,oM⟩;subst oM;clear F;go_wp2_with fail;exact⟨rfl,_,by simp[results,results34,go_sem],rfl,rfl⟩
def aaq(w:World)(p:ByteArray)(l:List Pc)(P:List ByteArray)(kN cN most:Int)(e:Ending)(w':World):Prop:=
 aa ai w w'/\((jH p≠0/\e=.returned (.tuple #[.agg #[.slice none 0 0,GW 0,GW 0],GW (jH p)]))\/
  (jH p=0/\∃(r cd:Int) (j:Nat) (v:Value) (aG:List (Ev×Value)) (O:Nat->Prop) (rest:List Ev),e=.returned (.tuple #[.agg #[v,GW (j:Int),GW cd],GW r])/\dY w' O v (db P) aG/\lV p (db P)=aG.map (·.1)++rest/\RnF l P kN cN most r cd j aG rest/\KX p (db P)))
theorem SE(p:ByteArray)(w:World)(hp:p.size<=maxLen)(hT:iM w)(hX:(db P).size<=10000000)(hP:pf w B pv l)(hl:tY l P kN cN)(hn:l.length<=10000000)(hm:most≠0)(hr: -9223372036854775808<=most/\most<=9223372036854775807):
 Calls prog 18 #[.string p,.agg #[GW 0,GW 9,GW 0],pv,GW most] w (aaq w p l P kN cN most):=by
 have WA:∀(fn:Fn) (first cap:Array Value) (w:World),(Instr.makeFunc fn first cap).run prog w=.ok (.func fn first cap) w:=fun _ _ _ _=>rfl
 obtain⟨pa,pc,NC⟩:=cw hP;subst NC;have k0:aa ai w ((w.alloc (.cells #[GW 0,GW 9,GW 0] 30)).alloc (.cells #[.slice none 0 0,GW 0,GW 0] 53)):=((aa.refl ai w).alloc _).alloc _;have F:=ab (amo p (db P) _ hp hX (hT.iR k0) 0 9 0 (by decide));have TL:Hid (au ((w.alloc (.cells #[GW 0,GW 9,GW 0] 30)).alloc (.cells #[.slice none 0 0,GW 0,GW 0] 53)) (w.heap.size+1) #[.slice none 0 0,GW 0,GW 0] 53):=au.ry _ _ _ _ (by simp);have aW:((w.alloc (.cells #[GW 0,GW 9,GW 0] 30)).alloc (.cells #[.slice none 0 0,GW 0,GW 0] 53)).heap.size=w.heap.size+2:=by simp
 have HP:=ab hP;have HL:=ab hl;have K0:=ab k0;clear hP hl k0 hT;go_enter_defers func18,ntmps18;go_wp2_with fail;generalize((w.alloc (.cells #[GW 0,GW 9,GW 0] 30)).alloc (.cells #[.slice none 0 0,GW 0,GW 0] 53))=wz at*;refine(F.o).mono ?_;rintro e w1 ⟨k1,⟨aB,rfl⟩|⟨he,sb,fb,g,c,ay,fix,rfl,hS,MN,hw,hO⟩⟩
 ·obtain⟨pe,qD⟩:∃pe,Hid (jH p=pe):=⟨_,(rfl:_=_)⟩
  rw[qD.o]at aB⊢;have WC:(pe !=0)=true:=by simpa using aB
  have HE:=ab aB;have T1:=TL.o.kept k1 (fun hx=>hx);have K1:=ab (K0.o.trans k1);have d0:w1.cell? ⟨w.heap.size+1,0,none⟩=some (.slice none 0 0):=T1.cell 0;have d1:w1.cell? ⟨w.heap.size+1,1,none⟩=some (GW 0):=T1.cell 1;have d2:w1.cell? ⟨w.heap.size+1,2,none⟩=some (GW 0):=T1.cell 2;have g0:w1.frozen? ⟨w.heap.size+1,0,none⟩=false:=T1.frozen 0;have g1:w1.frozen? ⟨w.heap.size+1,1,none⟩=false:=T1.frozen 1;have g2:w1.frozen? ⟨w.heap.size+1,2,none⟩=false:=T1.frozen 2;have EW:=ab T1;have Z:=((T1.setCell 0 (.slice none 0 0)).setCell 1 (GW 0)).setCell 2 (GW 0);have r0:(((w1.setCell ⟨w.heap.size+1,0,none⟩ (.slice none 0 0)).setCell ⟨w.heap.size+1,1,none⟩ (GW 0)).setCell ⟨w.heap.size+1,2,none⟩ (GW 0)).cell? ⟨w.heap.size+1,0,none⟩=some (.slice none 0 0):=Z.cell 0;have r1:(((w1.setCell ⟨w.heap.size+1,0,none⟩ (.slice none 0 0)).setCell ⟨w.heap.size+1,1,none⟩ (GW 0)).setCell ⟨w.heap.size+1,2,none⟩ (GW 0)).cell? ⟨w.heap.size+1,1,none⟩=some (GW 0):=Z.cell 1;have r2:(((w1.setCell ⟨w.heap.size+1,0,none⟩ (.slice none 0 0)).setCell ⟨w.heap.size+1,1,none⟩ (GW 0)).setCell ⟨w.heap.size+1,2,none⟩ (GW 0)).cell? ⟨w.heap.size+1,2,none⟩=some (GW 0):=Z.cell 2;have KF:=ab (((K1.o.setCell (p:=⟨w.heap.size+1,0,none⟩) (Or.inr (Gk _)) (.slice none 0 0)).setCell (p:=⟨w.heap.size+1,1,none⟩) (Or.inr (Gk _)) (GW 0)).setCell (p:=⟨w.heap.size+1,2,none⟩) (Or.inr (Gk _)) (GW 0));clear F k1 aB T1 Z;go_wp2_with fail;generalize(((w1.setCell ⟨w.heap.size+1,0,none⟩ (.slice none 0 0)).setCell ⟨w.heap.size+1,1,none⟩ (GW 0)).setCell ⟨w.heap.size+1,2,none⟩ (GW 0))=W2 at*;simp only[bodyPostD,Leaves];exact⟨.tuple #[.agg #[.slice none 0 0,GW 0,GW 0],GW pe],by simp[results,results18,go_sem,r0,r1,r2],KF.o,Or.inl ⟨by rw[qD.o];exact HE.o,by rw[qD.o]⟩⟩
 ·have az:∀i,FO fb c ay i\/fix i\/g.cP i->i<w1.heap.size:=fun i hi=>by obtain⟨A,hM,_⟩:=hS.at_.mem;exact hM.lt hi
  have xO:=hS.aq.lt;have k2:aa ai w1 ((((w1.alloc (.cells #[.slice pa l.length pc,GW 0] 87)).alloc (.cells #[BT w1.heap.size 0] 85)).alloc (.cells #[.slice none 0 0,GW 0,GW 0,GW most] 89))):=(((aa.refl ai w1).alloc _).alloc _).alloc _;have RB:au ((((w1.alloc (.cells #[.slice pa l.length pc,GW 0] 87)).alloc (.cells #[BT w1.heap.size 0] 85)).alloc (.cells #[.slice none 0 0,GW 0,GW 0,GW most] 89))) w1.heap.size #[.slice pa l.length pc,GW 0] 87:=((au.new w1 _ _).alloc _).alloc _;have XB:au ((((w1.alloc (.cells #[.slice pa l.length pc,GW 0] 87)).alloc (.cells #[BT w1.heap.size 0] 85)).alloc (.cells #[.slice none 0 0,GW 0,GW 0,GW most] 89))) (w1.heap.size+1) #[BT w1.heap.size 0] 85:=(au.ry _ _ _ _ (by simp)).alloc _;have TB:au ((((w1.alloc (.cells #[.slice pa l.length pc,GW 0] 87)).alloc (.cells #[BT w1.heap.size 0] 85)).alloc (.cells #[.slice none 0 0,GW 0,GW 0,GW most] 89))) (w1.heap.size+1+1) #[.slice none 0 0,GW 0,GW 0,GW most] 89:=au.ry _ _ _ _ (by simp)
  have HI:mW wz w1 sb fb (w1.heap.size+1+1) w1.heap.size (w1.heap.size+1) g P fix (lV p (db P)) (.slice pa l.length pc) most 0 0 cx.new c ay ai (.slice none 0 0) [] ((((w1.alloc (.cells #[.slice pa l.length pc,GW 0] 87)).alloc (.cells #[BT w1.heap.size 0] 85)).alloc (.cells #[.slice none 0 0,GW 0,GW 0,GW most] 89))):=by
   refine⟨qG.new ⟨hS,dY.nil w1 _,fun i hx=>hx.elim,hO,k1,(SD MN).symm,fun _=>rfl,hw,fun i hi=>az i (Or.inr hi),⟨k1.size,Ab _⟩,trivial⟩ k2,TB,RB,⟨by omega,by omega,by omega,by omega,by omega⟩,⟨fun h=>h,fun h=>h⟩,⟨fun hf=>?_,fun hf=>?_⟩,rfl,by simp;omega,XB,⟨by omega,by omega,by omega,by omega⟩,fun h=>h,fun hf=>?_⟩;all_goals have:=az _ (Or.inl hf);omega
  have hR0:(lV p (db P)).length<=20000000:=by
   have h1:(lV p (db P)).length<=(aJ (db P)).length+1:=by rw[<-SD MN];exact Yj _ _ _ _ _
   have h2:=OD (db P);omega
  have F2:=ab (apu MN.ok HI (HP.o.kept K0.o (fun _ _ h=>h)) HL.o hn hR0 hm hr);have HGS:=ab (MN.gs hX);have HE:=ab he;have HTL:=TL;have x0:((((w1.alloc (.cells #[.slice pa l.length pc,GW 0] 87)).alloc (.cells #[BT w1.heap.size 0] 85)).alloc (.cells #[.slice none 0 0,GW 0,GW 0,GW most] 89))).cell? ⟨w1.heap.size+1,0,none⟩=some (BT w1.heap.size 0):=XB.cell 0;have du:=k1.size;clear F k1 hS MN hw hO RB TB XB HI hR0 k2 he az;go_wp2_with fail;generalize((((w1.alloc (.cells #[.slice pa l.length pc,GW 0] 87)).alloc (.cells #[BT w1.heap.size 0] 85)).alloc (.cells #[.slice none 0 0,GW 0,GW 0,GW most] 89)))=w2 at*;refine(F2.o).mono ?_;rintro e w3 ⟨r,cd,j,v,aG,O,rest,rfl,te,hF⟩;obtain⟨ov,cv,rfl⟩:=cw te.c_.row;have t0:w3.cell? ⟨w1.heap.size+1+1,0,none⟩=some (.slice ov aG.length cv):=te.bt.cell 0;have t1:w3.cell? ⟨w1.heap.size+1+1,1,none⟩=some (GW 0):=te.bt.cell 1;have t2:w3.cell? ⟨w1.heap.size+1+1,2,none⟩=some (GW cd):=te.bt.cell 2;have T1:=TL.o.kept te.kept (fun hx=>hx);have d0:w3.cell? ⟨w.heap.size+1,0,none⟩=some (.slice none 0 0):=T1.cell 0;have d1:w3.cell? ⟨w.heap.size+1,1,none⟩=some (GW 0):=T1.cell 1;have d2:w3.cell? ⟨w.heap.size+1,2,none⟩=some (GW 0):=T1.cell 2;have g0:w3.frozen? ⟨w.heap.size+1,0,none⟩=false:=T1.frozen 0;have g1:w3.frozen? ⟨w.heap.size+1,1,none⟩=false:=T1.frozen 1;have g2:w3.frozen? ⟨w.heap.size+1,2,none⟩=false:=T1.frozen 2;have Z:au (((w3.setCell ⟨w.heap.size+1,0,none⟩ (.slice ov aG.length cv)).setCell ⟨w.heap.size+1,1,none⟩ (GW 0)).setCell ⟨w.heap.size+1,2,none⟩ (GW cd)) (w.heap.size+1) #[.slice ov aG.length cv,GW 0,GW cd] 53:=((T1.setCell 0 (.slice ov aG.length cv)).setCell 1 (GW 0)).setCell 2 (GW cd);have k4:aa (fun i=>i=w.heap.size+1) w3 (((w3.setCell ⟨w.heap.size+1,0,none⟩ (.slice ov aG.length cv)).setCell ⟨w.heap.size+1,1,none⟩ (GW 0)).setCell ⟨w.heap.size+1,2,none⟩ (GW cd)):=(((aa.refl (fun i=>i=w.heap.size+1) w3).setCell (p:=⟨w.heap.size+1,0,none⟩) (Or.inl rfl) _).setCell (p:=⟨w.heap.size+1,1,none⟩) (Or.inl rfl) _).setCell (p:=⟨w.heap.size+1,2,none⟩) (Or.inl rfl) _;have F3:=ab (aoe (te.bx.kept k4 (show¬w1.heap.size+1=w.heap.size+1 by omega)) Z (te.br.kept k4 (show¬w1.heap.size=w.heap.size+1 by omega)) (show w.heap.size+1≠w1.heap.size by omega));have Z5:=(Z.qw (p:=(GB w1.heap.size 0)) (show w.heap.size+1≠w1.heap.size by omega) (.slice none 0 0)).setCell 1 (GW (j:Int));have r0:(((((w3.setCell ⟨w.heap.size+1,0,none⟩ (.slice ov aG.length cv)).setCell ⟨w.heap.size+1,1,none⟩ (GW 0)).setCell ⟨w.heap.size+1,2,none⟩ (GW cd)).setCell (GB w1.heap.size 0) (.slice none 0 0)).setCell ⟨w.heap.size+1,1,none⟩ (GW (j:Int))).cell? ⟨w.heap.size+1,0,none⟩=some (.slice ov aG.length cv):=Z5.cell 0;have r1:(((((w3.setCell ⟨w.heap.size+1,0,none⟩ (.slice ov aG.length cv)).setCell ⟨w.heap.size+1,1,none⟩ (GW 0)).setCell ⟨w.heap.size+1,2,none⟩ (GW cd)).setCell (GB w1.heap.size 0) (.slice none 0 0)).setCell ⟨w.heap.size+1,1,none⟩ (GW (j:Int))).cell? ⟨w.heap.size+1,1,none⟩=some (GW (j:Int)):=Z5.cell 1;have r2:(((((w3.setCell ⟨w.heap.size+1,0,none⟩ (.slice ov aG.length cv)).setCell ⟨w.heap.size+1,1,none⟩ (GW 0)).setCell ⟨w.heap.size+1,2,none⟩ (GW cd)).setCell (GB w1.heap.size 0) (.slice none 0 0)).setCell ⟨w.heap.size+1,1,none⟩ (GW (j:Int))).cell? ⟨w.heap.size+1,2,none⟩=some (GW cd):=Z5.cell 2;have k5:aa (fun i=>i=w.heap.size+1\/i=w1.heap.size) w3 (((((w3.setCell ⟨w.heap.size+1,0,none⟩ (.slice ov aG.length cv)).setCell ⟨w.heap.size+1,1,none⟩ (GW 0)).setCell ⟨w.heap.size+1,2,none⟩ (GW cd)).setCell (GB w1.heap.size 0) (.slice none 0 0)).setCell ⟨w.heap.size+1,1,none⟩ (GW (j:Int))):=((k4.mono (S':=fun i=>i=w.heap.size+1\/i=w1.heap.size) (fun i hi=>Or.inl hi)).setCell (p:=(GB w1.heap.size 0)) (Or.inl (Or.inr rfl)) _).setCell (p:=⟨w.heap.size+1,1,none⟩) (Or.inl (Or.inl rfl)) _
  have aA:Hid (aaq w p l P kN cN most (.returned (.tuple #[.agg #[.slice ov aG.length cv,GW (j:Int),GW cd],GW r])) (((((w3.setCell ⟨w.heap.size+1,0,none⟩ (.slice ov aG.length cv)).setCell ⟨w.heap.size+1,1,none⟩ (GW 0)).setCell ⟨w.heap.size+1,2,none⟩ (GW cd)).setCell (GB w1.heap.size 0) (.slice none 0 0)).setCell ⟨w.heap.size+1,1,none⟩ (GW (j:Int)))):=by
   refine⟨(K0.o.trans te.kept).b_ k5 (fun i hi hx=>by omega),Or.inr ⟨HE.o,r,cd,j,_,aG,O,rest,rfl,te.c_.kept k5 (fun i hi hx=>?_),te.rest,hF,HGS.o⟩⟩;rcases hx with hx|hx
   ·have:=te.ao.1 i hi;omega
   ·subst hx;exact te.ao.2 hi
  clear F2 T1 Z Z5 k4 k5 te hF x0;go_wp2_with fail;refine leaves_cons (f:=34) (args:=#[.pointer (some ⟨w1.heap.size+1,0,none⟩),.pointer (some ⟨w.heap.size+1,0,none⟩)]) (by simp) (by simp[go_sem]) ?_;refine(F3.o).mono ?_;rintro e u' w5 ⟨rfl,rfl,rfl⟩;simp[Leaves,settle,results,results18,go_sem,r0,r1,r2];exact aA.o
def I5(w:World)(v:Value)(xs:List Int):Prop:=(v=.slice none 0 0/\xs=[])\/∃g c,v=.slice (some (GB g 0)) xs.length c/\au w g (cQ xs).toArray 3
theorem I5.kept(h:I5 w v xs)(k:aa ai w w'):I5 w' v xs:=by
 rcases h with h|⟨g,c,h1,h2⟩
 ·exact Or.inl h
 ·exact Or.inr ⟨g,c,h1,h2.kept k (fun h=>h)⟩
theorem aoi{ga gb ca cb:Nat}(ha:au w ga (cQ xs).toArray 3)(hb:au w gb (cQ ys).toArray 3)(hx:xs.length=n)(hy:ys.length=n)(hn:n<=1000000):
 Calls prog 20 #[.slice (some (GB ga 0)) n ca,.slice (some (GB gb 0)) n cb] w fun e w'=>e=.returned (.bool (decide (xs=ys)))/\∃m,w'=w.drewN m:=by
 have HA:=ab ha;have HB:=ab hb;have HX:=ab hx;have HY:=ab hy;clear ha hb hx hy;go_enter func20,ntmps20;go_wp2_with fail;go_loopg [5] n (fun kk i wr=>∃j:Nat,i=GW j/\j<=n/\kk=n-j/\Hid (xs.take j=ys.take j)/\∃m,wr=w.drewN m)
 case atStart=>exact⟨0,rfl,Al _,rfl,rfl,0,rfl⟩
 case round=>
  obtain⟨j,rfl,hj,rfl,HT,m,rfl⟩:=hrel;by_cases az:j<n
  ·have d1:w.cell? (GB ga j)=some (GW (xs.getD j 0)):=RP HA.o j (by rw[HX.o];exact az);have d2:w.cell? (GB gb j)=some (GW (ys.getD j 0)):=RP HB.o j (by rw[HY.o];exact az);obtain⟨x,E_⟩:∃x,Hid (xs.getD j 0=x):=⟨_,(rfl:_=_)⟩
   obtain⟨y,FA⟩:∃y,Hid (ys.getD j 0=y):=⟨_,(rfl:_=_)⟩
   rw[E_.o]at d1;rw[FA.o]at d2;by_cases e:x=y
   ·subst e;go_wp2_with fail;go_big_quiet (fail);go_wp2_with fail;go_roundg (n-(j+1))
    case measure=>omega
    case rel=>exact⟨j+1,by simp,by omega,rfl,afK HT.o (by rw[HX.o];exact az) (by rw[HY.o];exact az) (E_.o.trans FA.o.symm),m+nq,by first|rfl|rw[World.drewN_drewN]⟩
   ·have aB:(x !=y)=true:=(by simpa using e);have HE:=ab e;clear e;go_wp2_with fail;go_big_quiet (fail);go_wp2_with fail;go_ret;exact⟨by rw[Bg];(try rfl);rintro rfl;exact HE.o (E_.o.symm.trans FA.o),m+nq,by first|rfl|rw[World.drewN_drewN]⟩
  ·have mD:j=n:=(by omega);subst mD;go_wp2_with fail;go_ret;have h1:=HT.o;rw[Bz (by rw[HX.o];exact Ab _),Bz (by rw[HY.o];exact Ab _)]at h1;exact⟨by rw[C2 h1]<;>rfl,m,rfl⟩
theorem aom(oa ob:Option Addr)(n m ca cb:Nat)(w:World)(h:n≠m)(hn:n<=1000000)(hm:m<=1000000):Calls prog 20 #[.slice oa n ca,.slice ob m cb] w fun e w'=>e=.returned (.bool false)/\w'=w:=by
 have hb:((n:Int) != (m:Int))=true:=by simp;omega
 go_enter func20,ntmps20
 go_wp2_with fail
 go_ret
 exact⟨rfl,rfl⟩
theorem aop(oa ob:Option Addr)(ca cb:Nat)(w:World):Calls prog 20 #[.slice oa 0 ca,.slice ob 0 cb] w fun e w'=>e=.returned (.bool true)/\w'=w:=by
 go_enter func20,ntmps20
 go_wp2_with fail
 go_loopg [5] 0 (fun kk i wr=>kk=0/\i=GW 0/\wr=w)
 case atStart=>exact⟨rfl,rfl,rfl⟩
 case round=>
  obtain⟨rfl,rfl,rfl⟩:=hrel;go_wp2_with fail;go_ret;exact⟨rfl,rfl⟩
theorem aoj(ha:I5 w va xs)(hb:I5 w vb ys)(hn:xs.length<=1000000)(hm:ys.length<=1000000):Calls prog 20 #[va,vb] w fun e w'=>e=.returned (.bool (decide (xs=ys)))/\∃m,w'=w.drewN m:=by
 have key:∀(oa ob:Option Addr) (ca cb:Nat),va=.slice oa xs.length ca->vb=.slice ob ys.length cb->xs.length≠ys.length\/(xs=[]/\ys=[])->Calls prog 20 #[va,vb] w fun e w'=>e=.returned (.bool (decide (xs=ys)))/\∃m,w'=w.drewN m:=by
  rintro oa ob ca cb rfl rfl (h|⟨rfl,rfl⟩)
  ·refine(aom oa ob _ _ ca cb w h hn hm).mono ?_;rintro e w' ⟨rfl,rfl⟩;exact⟨by rw[Bg (fun e=>h (congrArg List.length e))],0,rfl⟩
  ·refine(aop oa ob ca cb w).mono ?_;rintro e w' ⟨rfl,rfl⟩;exact⟨rfl,0,rfl⟩
 rcases ha with⟨rfl,rfl⟩|⟨g,c,rfl,h2⟩<;>rcases hb with⟨rfl,rfl⟩|⟨g',c',rfl,h4⟩
 ·exact key none none 0 0 rfl rfl (Or.inr ⟨rfl,rfl⟩)
 ·by_cases h:ys=[]
  ·exact key none (some (GB g' 0)) 0 c' rfl rfl (Or.inr ⟨rfl,h⟩)
  ·exact key none (some (GB g' 0)) 0 c' rfl rfl (Or.inl (fun e=>h (Aw.1 e.symm)))
 ·by_cases h:xs=[]
  ·exact key (some (GB g 0)) none c 0 rfl rfl (Or.inr ⟨h,rfl⟩)
  ·exact key (some (GB g 0)) none c 0 rfl rfl (Or.inl (fun e=>h (Aw.1 e)))
 ·by_cases h:xs.length=ys.length
  ·have F:=aoi (ca:=c) (cb:=c') (n:=xs.length) h2 h4 rfl h.symm hn;rw[<-h];exact F
  ·exact key (some (GB g 0)) (some (GB g' 0)) c c' rfl rfl (Or.inl h)
structure IR(w:World)(v:Value)(n:Nat)(A B:Nat->Int)(GV:Nat->Value)(GS:Nat->List Int)(TX:Nat->ByteArray):Prop where
 val:(n=0/\∃o c,v=.slice o 0 c)\/∃g c,v=.slice (some (GB g 0)) n c/\g<w.heap.size/\
  (∀k,k<n->w.cell? ⟨g,k*4,none⟩=some (GW (A k))/\w.cell? ⟨g,k*4+1,none⟩=some (GW (B k))/\w.cell? ⟨g,k*4+2,none⟩=some (GV k)/\w.cell? ⟨g,k*4+3,none⟩=some (.string (TX k)))
 gv:∀k,k<n->I5 w (GV k) (GS k)/\(GS k).length<=1000000
theorem IR.kept{B:Nat->Int}(h:IR w v n A B GV GS TX)(k:aa ai w w'):IR w' v n A B GV GS TX:=by
 refine⟨?_,fun i hi=>⟨(h.gv i hi).1.kept k,(h.gv i hi).2⟩⟩;rcases h.val with h|⟨g,c,h1,h2,h3⟩
 ·exact Or.inl h
 ·have kc:∀i,w'.cell? (GB g i)=w.cell? (GB g i):=fun i=>k.cell (p:=(GB g i)) h2 (fun h=>h)
  exact Or.inr ⟨g,c,h1,Ar h2 k.size,fun i hi=>⟨(kc _).trans (h3 i hi).1,(kc _).trans (h3 i hi).2.1,(kc _).trans (h3 i hi).2.2.1,(kc _).trans (h3 i hi).2.2.2⟩⟩
theorem aoq{B:Nat->Int}{TD:Nat->Value}{Pb:Nat->List Int}(gr:Bool)(ha:IR w va n A B GV GS TX)(hb:IR w vb n A B TD Pb TX)(hn:n<=100000000)(hg:gr=true->∀k,k<n->GS k=Pb k):
 Calls prog 11 #[va,vb,.bool gr] w fun e w'=>e=.returned (.bool true)/\aa ai w w':=by
 have H1:=ab ha;have H2:=ab hb;have HG:=ab hg;by_cases h0:n=0
 ·subst h0
  obtain⟨oa,ca,rfl⟩:∃o c,va=.slice o 0 c:=by
   rcases ha.val with⟨_,h⟩|⟨g,c,h,_⟩
   ·exact h
   ·exact⟨_,_,h⟩
  obtain⟨ob,cb,rfl⟩:∃o c,vb=.slice o 0 c:=by
   rcases hb.val with⟨_,h⟩|⟨g,c,h,_⟩
   ·exact h
   ·exact⟨_,_,h⟩
  clear ha hb hg H1 H2 HG hn;go_enter func11,ntmps11;go_wp2_with fail;go_loopg [7] 0 (fun kk i wr=>kk=0/\i=GW 0/\wr=w)
  case atStart=>exact⟨rfl,rfl,rfl⟩
  case round=>
   obtain⟨rfl,rfl,rfl⟩:=hrel;go_wp2_with fail;go_ret;exact⟨rfl,aa.refl _ _⟩
 ·obtain⟨g,c,rfl,az,_⟩:=ha.val.resolve_left (fun h=>h0 h.1);obtain⟨g',c',rfl,Wy,_⟩:=hb.val.resolve_left (fun h=>h0 h.1);clear ha hb hg az Wy;go_enter func11,ntmps11;go_wp2_with fail;go_loopg [7] n (fun kk i wr=>∃j:Nat,i=GW j/\j<=n/\kk=n-j/\Hid (aa ai w wr))
  case atStart=>exact⟨0,rfl,Al _,rfl,aa.refl _ _⟩
  case round=>
   obtain⟨j,rfl,hj,rfl,K⟩:=hrel;by_cases mD:j<n
   ·have E1:=H1.o.kept K.o;have E2:=H2.o.kept K.o;obtain⟨g1,c1,e1,_,f1⟩:=E1.val.resolve_left (fun h=>h0 h.1);obtain⟨g2,c2,e2,_,f2⟩:=E2.val.resolve_left (fun h=>h0 h.1);simp only[A9,Bd,Addr.mk.injEq,true_and,and_true]at e1 e2;obtain⟨rfl,rfl⟩:=e1;obtain⟨rfl,rfl⟩:=e2;obtain⟨a0,a1,a2,a3⟩:=f1 j mD;obtain⟨b0,b1,b2,b3⟩:=f2 j mD;have G1:=ab (E1.gv j mD);have G2:=ab (E2.gv j mD);have HGj:Hid (gr=true->GS j=Pb j):=(fun h=>HG.o h j mD);clear f1 f2 E1 E2;generalize A j=xa at*;generalize B j=xb at*;generalize GV j=gv at*;generalize TD j=gv' at*;generalize GS j=gs at*;generalize Pb j=dA at*;generalize TX j=tx at*;go_wp2_with fail;go_big_quiet (fail);clear a0 a1 a3 b0 b1 b3;replace a2:(wr.drewN nq).cell? ⟨g,j*4+2,none⟩=some gv:=a2;replace b2:(wr.drewN nq).cell? ⟨g',j*4+2,none⟩=some gv':=b2;have K1:Hid (aa ai w (wr.drewN nq)):=K.o.drewN nq
    have F:Hid (∀n,Calls prog 20 #[gv,gv'] ((wr.drewN nq).drewN n) fun e w'=>e=.returned (.bool (decide (gs=dA)))/\∃m,w'=(wr.drewN nq).drewN m):=fun n=>by
     have kk:aa ai wr ((wr.drewN nq).drewN n):=((aa.refl ai wr).drewN nq).drewN n;refine(aoj (G1.o.1.kept kk) (G2.o.1.kept kk) G1.o.2 G2.o.2).mono ?_;rintro e w' ⟨rfl,m,rfl⟩;exact⟨rfl,n+m,by rw[World.drewN_drewN]⟩
    clear G1 G2;obtain⟨eq,ZG⟩:∃eq,Hid (decide (gs=dA)=eq):=⟨_,(rfl:_=_)⟩
    rw[ZG.o]at F;clear K;generalize wr.drewN nq=wr2 at*;clear nq;go_wp2_with fail;go_big_quiet (first|(go_at_call 20;exact F.o _))
    have ajp:gr=false\/eq=true:=by
     cases gr
     ·exact Or.inl rfl
     ·right
      rw[<-ZG.o];exact C2 (HGj.o rfl)
    rcases ajp with rfl|rfl
    ·go_wp2_with fail
     go_roundg (n-(j+1))
     case measure=>omega
     case rel=>exact⟨j+1,by go_num,by omega,rfl,K1.o.drewN _⟩
    ·cases gr
     all_goals
      go_wp2_with fail
      go_roundg (n-(j+1))
      case measure=>omega
      case rel=>exact⟨j+1,by go_num,by omega,rfl,K1.o.drewN _⟩
   ·go_wp2_with fail
    go_ret
    exact⟨rfl,K.o⟩
def e0:Ev:=⟨0,0,[]⟩
def mQ(w:World)(v:Value)(X:ByteArray)(E:List Ev):Prop:=∃GV,IR w v E.length (fun k=>aR X (E.getD k e0).a) (fun k=>aR X (E.getD k e0).b) GV (fun k=>(E.getD k e0).gs) (fun k=>X.extract (bd X (E.getD k e0).a) (bd X (E.getD k e0).b))
theorem mQ.kept(h:mQ w v X E)(k:aa ai w w'):mQ w' v X E:=by
 obtain⟨GV,h⟩:=h;exact⟨GV,h.kept k⟩
theorem mQ.nil(w:World)(X:ByteArray):mQ w (.slice none 0 0) X []:=⟨fun _=>.slice none 0 0,Or.inl ⟨rfl,none,0,rfl⟩,fun k hk=>by simp at hk⟩
theorem mQ.qu(ha:mQ w va X E)(hb:mQ w vb X E)(hn:E.length<=100000000):Calls prog 11 #[va,vb,.bool true] w fun e w'=>e=.returned (.bool true)/\aa ai w w':=by
 obtain⟨GV,ha⟩:=ha;obtain⟨TD,hb⟩:=hb;exact aoq true ha hb hn (fun _ _ _=>rfl)
theorem abx(X:ByteArray):∀(l:List (Ev×Value)) (i:Nat) (h:i<l.length) (j:Nat) (hj:j<4),(iD X l)[i*4+j]? =(pw X l[i].1 l[i].2)[j]?
 | [],i,h,_,_=>by simp at h
 |p::l,0,h,j,hj=>by
  show(pw X p.1 p.2++iD X l)[0*4+j]? =_
  rw[Eo,Ba,Ay (by show j<4;exact hj)];rfl
 |p::l,i+1,h,j,hj=>by
  show(pw X p.1 p.2++iD X l)[(i+1)*4+j]? =_
  rw[Br (by show 4<=_;omega),show(i+1)*4+j-(pw X p.1 p.2).length=i*4+j by show(i+1)*4+j-4=_;omega];exact abx X l i (by simpa using h) j hj
theorem dY.pw{l:List (Ev×Value)}(h:dY w O v X l)(hb:∀p∈l,p.1.gs.length<=1000000):mQ w v X (l.map (·.1)):=by
 have gd:∀k,(hk:k<l.length)->(l.map (·.1)).getD k e0=(l[k]).1:=fun k hk=>by simp[Af,Ae hk]
 refine⟨fun k=>(l.getD k (e0,.slice none 0 0)).2,?_,fun k hk=>?_⟩
 ·rw[Cn];rcases h.cell with⟨e,e'⟩|⟨g,cap,e,hc,oD⟩
  ·exact Or.inl ⟨by rw[e'];rfl,none,0,e⟩
  ·refine Or.inr ⟨g,cap,e,?_,fun k hk=>?_⟩
   ·exact(dw h.row (by rw[e];rfl)).2
   ·have key:∀j,j<4->∀u,(Go.Proofs.YtpdnofhackjfdaaGreatDoor.pw X l[k].1 l[k].2)[j]? =some u->w.cell? ⟨g,k*4+j,none⟩=some u:=fun j hj u hu=>by
     have:=oD (k*4+j) u (by rw[abx X l k hk j hj];exact hu);rw[Jc,Ba]at this;exact this
    have g2:(l.getD k (e0,.slice none 0 0)).2=(l[k]).2:=(by simp[Af,Ae hk]);simp only[gd k hk,g2];exact⟨key 0 (by omega) _ rfl,key 1 (by omega) _ rfl,key 2 (by omega) _ rfl,key 3 (by omega) _ rfl⟩
 ·rw[Cn]at hk;have g2:(l.getD k (e0,.slice none 0 0)).2=(l[k]).2:=by simp[Af,Ae hk]
  simp only[gd k hk,g2];refine⟨?_,hb _ (A6 hk)⟩;rcases h.fA _ (A6 hk)with⟨e,e'⟩|⟨gb,e,_,hB⟩
  ·exact Or.inl ⟨e,e'⟩
  ·exact Or.inr ⟨gb,_,e,hB⟩
theorem rH.pw{base N2:Nat}{s:ByteArray}{l:List (Ev×Nat)}(h:rH w base v s N2 l)(hN:∀p∈l,p.1.gs.length=N2)(hb:N2<=1000000):mQ w v s (l.map (·.1)):=by
 have gd:∀k,(hk:k<l.length)->(l.map (·.1)).getD k e0=(l[k]).1:=fun k hk=>by simp[Af,Ae hk]
 refine⟨fun k=>.slice (some ⟨(l.getD k (e0,0)).2,0,none⟩) N2 N2,?_,fun k hk=>?_⟩
 ·rw[Cn];by_cases aB:l=[]
  ·subst aB;obtain⟨o,c,rfl⟩:=cw h.row;exact Or.inl ⟨rfl,o,c,rfl⟩
  ·obtain⟨g,c,rfl,h1,h2,h3,h4⟩:=h.get aB;refine Or.inr ⟨g,c,rfl,h2,fun k hk=>?_⟩;have g2:(l.getD k (e0,0)).2=(l[k]).2:=(by simp[Af,Ae hk]);simp only[gd k hk,g2];exact h4 k hk
 ·rw[Cn]at hk;have g2:(l.getD k (e0,0)).2=(l[k]).2:=by simp[Af,Ae hk]
  simp only[gd k hk,g2];have hl:=hN _ (A6 hk);exact⟨Or.inr ⟨_,N2,by rw[hl],(h.fA _ (A6 hk)).2⟩,by omega⟩
theorem abw(s:ByteArray)(N2:Nat):∀(l:List (Ev×Nat)) (k:Nat),ug s N2 (l.take k)=(ug s N2 l).take (k*4)
 | [],k=>by simp[ug]
 |p::l,0=>by simp[ug]
 |p::l,k+1=>by
  rw[C5];show vM s N2 p.1 p.2++ug s N2 (l.take k)=(vM s N2 p.1 p.2++ug s N2 l).take ((k+1)*4)
  rw[abw s N2 l k,show(k+1)*4=(vM s N2 p.1 p.2).length+k*4 by show _=4+k*4;omega,List.take_length_add_append]
def wZ(w:World)(B:Nat)(p X:ByteArray)(v:Value):Prop:=∃l,rH w B v X (2*gM p) l/\l.map (·.1)=lV p X
theorem wZ.kept{K:Nat->Prop}(h:wZ w B p X v)(k:aa K w w')(hK:∀i,B<=i->¬K i):wZ w' B p X v:=by
 obtain⟨l,h1,h2⟩:=h;exact⟨l,h1.kept k hK,h2⟩
theorem wZ.take{o:Option Addr}{c:Nat}(h:wZ w B p X (.slice o m c))(hm:(lV p X).length=m)(hg:KX p X){k:Nat}(hk:k<=m):k<=c/\(∀W,(Instr.slice 24 (.slice o m c) none (some (GW (k:Int))) none).run prog W=.ok (.slice o k c) W)/\mQ w (.slice o k c) X ((lV p X).take k):=by
 obtain⟨l,h1,h2⟩:=h;have hl:l.length=m:=by rw[<-hm,<-h2,Cn]
 have hr:=h1.row;rw[hl]at hr;obtain⟨a0,a1,a2⟩:=ae0 hr hk;refine⟨a0,a1,?_⟩;have hE:rH w B (.slice o k c) X (2*gM p) (l.take k):=⟨by rw[Cv,En (by omega),abw];exact a2,fun q hq=>h1.fA q (Cs hq)⟩;rw[<-h2,<-List.map_take];refine hE.pw (fun q hq=>hg.1 q.1 (by rw[<-h2];exact Be.2 ⟨q,Cs hq,rfl⟩)) ?_;have:=hg.2.1;omega
theorem wZ.all(h:wZ w B p X v)(hg:KX p X):mQ w v X (lV p X):=by
 obtain⟨l,h1,h2⟩:=h;rw[<-h2];refine h1.pw (fun q hq=>hg.1 q.1 (by rw[<-h2];exact Be.2 ⟨q,hq,rfl⟩)) ?_;have:=hg.2.1;omega
theorem wZ.slice(h:wZ w B p X v):∃o c,v=.slice o (lV p X).length c:=by
 obtain⟨l,h1,h2⟩:=h;obtain⟨o,c,e⟩:=cw h1.row;exact⟨o,c,by rw[<-h2,Cn];exact e⟩
theorem YU{aG:List (Ev×Value)}{rest:List Ev}(h:dY w O v X aG)(hr:lV p X=aG.map (·.1)++rest)(hg:KX p X):mQ w v X ((lV p X).take aG.length)/\aG.length<=(lV p X).length:=by
 have e:(lV p X).take aG.length=aG.map (·.1):=by rw[hr];exact List.take_left' (by simp)
 refine⟨?_,by rw[hr];simp⟩;rw[e];refine h.pw (fun q hq=>?_);have:=hg.1 q.1 (by rw[hr];exact List.mem_append_left _ (Be.2 ⟨q,hq,rfl⟩));have:=hg.2.1;omega
theorem Tryz.akF:(prog.info? 51).map (fun i=>(i.zero,i.size,i.bytes))=some (some (.agg #[.string ⟨#[]⟩,GW 0,GW 0]),3,32):=by kernel_rfl
def zL(d:ByteArray):Pc:=⟨d,0,0⟩
theorem aeF(l m:List Pc):sF (l++m)=sF l++sF m:=by unfold sF;simp
