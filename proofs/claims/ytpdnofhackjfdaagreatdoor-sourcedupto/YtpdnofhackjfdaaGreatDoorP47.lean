/- The walk of Sour -/
import Derived.Test.YtpdnofhackjfdaaGreatDoorP46
set_option linter.all false
set_option maxRecDepth 100000
set_option maxHeartbeats 16000000
namespace Go.Proofs.YtpdnofhackjfdaaGreatDoor
open Go.Proofs.Tryz
open Go.RowKit Go.Maps
def PY(b:Nat)(v:Value)(W:World):Prop:=W.cell? (GB b 0)=some v/\True
theorem aoT(p:ByteArray)(w:World)(hp:p.size<=maxLen)(VN:iM w){sv:Value}{P:List ByteArray}(hS:LW w sv P)(hX:(db P).size<=10000000)(hn:P.length<=5000000)(most code:Int)(fD: -9223372036854775808<=most/\most<=9223372036854775807)(CI: -9223372036854775808<=code/\code<=9223372036854775807):
 Calls prog 5 #[.string p,sv,GW most,GW code] w fun e w'=>e=.returned (.bool true)/\aa ai w w':=by
 obtain⟨ip,hip,hzp,JY,JF⟩:=Bo Tryz.akF
 obtain⟨sa,sc,pH⟩:∃sa sc,sv=.slice sa P.length sc:=by
  rcases hS with⟨e1,e2⟩|⟨a,c,e1,_⟩
  ·exact⟨none,0,by rw[e1,e2];rfl⟩
  ·exact⟨_,_,e1⟩
 subst pH;have HS:=ab hS;have LD:=ab VN;have F1:=ab (ak_ w VN);clear hS VN;go_in;go_wp2_with fail;refine(F1.o).mono ?_;rintro e w1 ⟨rfl,k1⟩;have K1:=ab k1;clear F1 k1;go_wp2_with fail;go_loopg [10,11,12] P.length (fun kk v10 v11 v12 wr=>∃(i:Nat) (ao:Option Addr) (c:Nat),kk=P.length-i/\i<=P.length/\v10=.string (db (P.take i))/\v11=.slice ao i c/\v12=GW (i:Int)/\Hid (pf wr w.heap.size (.slice ao i c) ((P.take i).map zL))/\Hid (aa ai w wr))
 case atStart=>exact⟨0,none,0,rfl,Al _,rfl,rfl,rfl,A8 _ _ _ _,K1⟩
 case round=>
  clear K1;obtain⟨i,ao,c,eE,hi,rfl,rfl,rfl,HP,HK⟩:=hrel;have pW:=ab eE;clear eE;by_cases az:i<P.length
  ·have Wy:(i:Int)<(P.length:Int):=by omega
   obtain⟨a,oD,rfl⟩:∃a:Addr,wr.cell? (a.add i)=some (.string P[i])/\sa=some a:=by
    rcases HS.o.kept HK.o with⟨e1,e2⟩|⟨a,cc,e1,e2⟩
    ·rw[e2]at az;simp at az
    ·exact⟨a,e2 i az,by simp only[A9]at e1;exact e1.1⟩
   have akl:=ab (aaY P i az);have aW:(db (P.take i)).size+P[i].size<=10000000:=by have:=aaX P i az;have:=congrArg ByteArray.size this;rw[Dc,Dc]at this;omega
   have HT:Hid (P.take (i+1)=P.take i++[P[i]]):=Ck az;generalize P[i]=d at*;generalize db (P.take i)=T at*;have Hj:=HK.o.size;have hPl:((P.take i).map zL).length=i:=by simp;omega
   obtain⟨L,HL⟩:∃L,Hid (sF ((P.take i).map zL)=L):=⟨_,(rfl:_=_)⟩
   have EU:Hid (wr.ownsRow w.heap.size 51 3 (.slice ao i c) i L):=by have:=HP.o;unfold pf at this;rwa[hPl,HL.o]at this
   go_wp2_with (at_builtin;refine Ao _ rfl _ _ 49 rfl w.heap.size 51 ip _ 3 32 underlying49 hip hzp JY JF rfl (by decide) _ _ _ rfl (EU.o.alloc _) (GB wr.heap.size 0) 1 1 (zL d).cells rfl rfl ?c1 ?c2 ?c3 ?c4 ?c5 ?_)
   case c1=>
    intro q u hq;have h:=(au.new wr #[.string d,GW 0,GW 0] 51).cell q;have e:(Addr.mk wr.heap.size 0 none).add q=(GB wr.heap.size q):=(by rw[Jc,Ba]);rw[e,h];simpa[Pc.cells,zL]using hq
   case c2=>
    intro u hu;unfold Pc.cells zL at hu;simp at hu;rcases hu with rfl|rfl<;>rfl
   case c3=>unfold maxLen;omega
   case c4=>omega
   case c5=>simp;omega
   intro v7 w7 j0 wh Hr yZ;obtain⟨yM,c7,rfl⟩:=cw j0
   have aA:Hid (pf w7 w.heap.size (.slice yM (i+1) c7) ((P.take (i+1)).map zL)/\aa ai w w7):=by
    have k7:aa (fun j=>(Value.slice ao i c).ownBlock=some j) wr w7:=(((aa.refl ai wr).alloc _).mono (fun i hx=>hx.elim)).eP wh (fun j hj=>Or.inl hj);refine⟨?_,HK.o.wI k7 (fun i hi=>(dw EU.o hi).1)⟩;unfold pf;rw[HT.o,Ca,Aj,hPl,aeF,HL.o];exact j0
   clear j0 wh Hr yZ EU HP HK;go_wp2_with fail;go_roundg (P.length-(i+1))
   case measure=>rw[pW.o];omega
   case rel=>exact⟨i+1,yM,c7,rfl,by omega,by rw[akl.o],rfl,by go_num,aA.o.1,aA.o.2⟩
  ·obtain rfl:i=P.length:=by omega
   have Wy:¬((P.length:Int)<(P.length:Int)):=(by omega);rw[Bj];have yz:Hid (pf wr w.heap.size (.slice ao P.length c) (P.map zL)):=by have:=HP.o;rwa[Bj]at this
   clear HP pW az;have k2:aa ai w (wr.alloc (.cells #[GW 0,GW 9,GW 0] 30)):=HK.o.alloc _;have OB:=ab (au.new wr #[GW 0,GW 9,GW 0] 30);have vh:=ab (yz.o.kept ((aa.refl ai wr).alloc (.cells #[GW 0,GW 9,GW 0] 30)) (fun _ _ h=>h));have F2:=ab (abB p (db P) _ hp hX (LD.o.iR k2));have K2:=ab k2;have gg:wr.heap.size<=(wr.alloc (.cells #[GW 0,GW 9,GW 0] 30)).heap.size:=(by simp);have xO:∀b,(Value.slice ao P.length c).ownBlock=some b->b<wr.heap.size:=(fun b hb=>(dw yz.o hb).2);clear yz k2 HK
   go_wp2_with fail
   generalize(wr.alloc (.cells #[GW 0,GW 9,GW 0] 30))=w2 at*
   refine(F2.o).mono ?_;clear F2;rintro e w3 ⟨k3,⟨aB,rfl⟩|⟨h0,va,l,rfl,hE,hl⟩⟩
   ·have K3:=ab (K2.o.trans k3);have yI:=ab (OB.o.kept k3 (fun h=>h));have Lx:=ab (vh.o.kept k3 (fun _ _ h=>h));have F3:=ab (SE p w3 hp (LD.o.iR K3.o) hX Lx.o (tY.plain P) (most:= -1) (by simp;omega) (by decide) (by decide));obtain⟨pe,qD⟩:∃pe,Hid (jH p=pe):=⟨_,(rfl:_=_)⟩
    rw[qD.o]at aB⊢;have Lt:=ab aB;have o0:w3.cell? (GB wr.heap.size 0)=some (GW 0):=yI.o.cell 0;have o1:w3.cell? (GB wr.heap.size 1)=some (GW 9):=yI.o.cell 1;have o2:w3.cell? (GB wr.heap.size 2)=some (GW 0):=yI.o.cell 2;have q1:(pe==0)=false:=(by simp[aB]);have q2:(pe !=pe)=false:=(by simp);have q3:(pe !=0)=true:=(by simp[aB]);clear aB k3 OB K2 vh;go_wp2_with fail;refine(F3.o).mono ?_;rintro e w4 ⟨k4,⟨aB,rfl⟩|⟨h0,_⟩⟩;rotate_left
    ·exact absurd h0 (by rw[qD.o];exact Lt.o)
    rw[qD.o];have K4:=ab ((K3.o.trans k4).alloc (.cells #[.slice none 0 0,GW 0,GW 0] 53));have F4:=ab (mQ.qu (mQ.nil (w4.alloc (.cells #[.slice none 0 0,GW 0,GW 0] 53)) (db P)) (mQ.nil _ (db P)) (Al _));clear F3 k4 aB K3 o0 o1 o2;go_wp2_with fail;refine(F4.o).mono ?_;rintro e w5 ⟨rfl,k5⟩;have K5:=ab (K4.o.trans k5);clear F4 k5 K4;go_wp2_with fail;go_ret;exact⟨rfl,K5.o⟩
   ·have K3:=ab (K2.o.trans k3);have yI:=ab (OB.o.kept k3 (fun h=>h));have Lx:=ab (vh.o.kept k3 (fun _ _ h=>h));have EG:Hid (wZ w3 w2.heap.size p (db P) va):=⟨l,hE,hl⟩;have F3:=ab (SE p w3 hp (LD.o.iR K3.o) hX Lx.o (tY.plain P) (most:= -1) (by simp;omega) (by decide) (by decide));obtain⟨oa,ca,rfl⟩:=EG.o.slice;obtain⟨m,HM⟩:∃m,Hid ((lV p (db P)).length=m):=⟨_,(rfl:_=_)⟩
    rw[HM.o]at EG⊢;have o0:w3.cell? (GB wr.heap.size 0)=some (GW 0):=yI.o.cell 0;have o1:w3.cell? (GB wr.heap.size 1)=some (GW 9):=yI.o.cell 1;have o2:w3.cell? (GB wr.heap.size 2)=some (GW 0):=yI.o.cell 2;clear k3 OB K2 vh hE hl;go_wp2_with fail;refine(F3.o).mono ?_;clear F3 o0 o1 o2;rintro e w4 ⟨k4,⟨aB,_⟩|⟨_,r,cd,j,v,aG,O,rest,rfl,hV,hr,hF,hG⟩⟩
    ·exact absurd h0 aB
    obtain⟨rfl,hj,rfl⟩:r=0/\j=P.length/\rest=[]:=by
     rcases hF with⟨a1,_,a2,a3,_⟩|⟨_,a2⟩|⟨_,a2,_⟩
     ·exact⟨a1,by simpa using a3,a2⟩
     ·omega
     ·omega
    rw[hj];clear hj;have Hl:aG.length=m:=by have:=congrArg List.length hr;simpa[HM.o]using this.symm
    have HV4:Hid (mQ w4 v (db P) (lV p (db P))):=by
     have h1:=(YU hV hr hG).1;rwa[Hl,<-HM.o,Bj]at h1
    have HG:=ab hG;have HLM:=ab Hl;clear Hl;obtain⟨ov,cv,rfl⟩:=cw hV.row;have kA:aa ai w3 (w4.alloc (.cells #[.slice ov aG.length cv,GW (P.length:Int),GW cd] 53)):=k4.alloc _;have K4:=ab (K3.o.trans kA);have OB4:=ab (yI.o.kept kA (fun h=>h));have Z6:=ab (Lx.o.kept kA (fun _ _ h=>h));have TT:=ab (EG.o.kept kA (fun _ _ h=>h));have AB:=ab (au.new w4 #[.slice ov aG.length cv,GW (P.length:Int),GW cd] 53);have F4:=ab (mQ.qu (HV4.o.kept ((aa.refl ai w4).alloc (.cells #[.slice ov aG.length cv,GW (P.length:Int),GW cd] 53))) (TT.o.all hG) hG.2.2);have hm8:m<=100000000:=by have:=hG.2.2;rw[HM.o]at this;exact this
    clear k4 kA hV hr hF hG K3 yI Lx EG HV4;go_wp2_with fail;generalize(w4.alloc (.cells #[.slice ov aG.length cv,GW (P.length:Int),GW cd] 53))=w5 at*;refine(F4.o).mono ?_;rintro e w6 ⟨rfl,k6⟩;have K6:=ab (K4.o.trans k6);have FJ:=ab (OB4.o.kept k6 (fun h=>h));have vm:=ab (Z6.o.kept k6 (fun _ _ h=>h));have Pm:=ab (TT.o.kept k6 (fun _ _ h=>h));have a1:w6.cell? (GB w4.heap.size 1)=some (GW (P.length:Int)):=(AB.o.kept k6 (fun h=>h)).cell 1;have q1:((P.length:Int) != (P.length:Int))=false:=(by simp);clear F4 k6 K4 OB4 Z6 TT AB;by_cases hm0:0<m
    case' pos=>
     have Nj:(0:Int)<(m:Int):=(by omega);have F5:=ab (anq most m w6 hm0 (by omega) fD.1 fD.2);have hk:=anp most (n:=m) hm0;go_wp2_with fail;refine(F5.o).mono ?_;rintro e w7 ⟨rfl,hw7⟩;subst hw7;clear F5 a1;generalize Ou most m=k at*;have F6:=ab (SE p w7 hp (LD.o.iR K6.o) hX vm.o (tY.plain P) (most:=1+(k:Int)) (by simp;omega) (by omega) (by omega));have o0:w7.cell? (GB wr.heap.size 0)=some (GW 0):=FJ.o.cell 0;have o1:w7.cell? (GB wr.heap.size 1)=some (GW 9):=FJ.o.cell 1;have o2:w7.cell? (GB wr.heap.size 2)=some (GW 0):=FJ.o.cell 2;go_wp2_with fail;refine(F6.o).mono ?_;clear F6 o0 o1 o2;rintro e w8 ⟨k8,⟨aB,_⟩|⟨_,r2,Mg,j2,v2,dh,O2,art,rfl,hV2,qZ,MI,_⟩⟩
     ·exact absurd h0 aB
     obtain⟨rfl,uB⟩:r2=11/\dh.length=1+k:=by
      have dc:=congrArg List.length qZ;rw[HM.o]at dc;simp at dc;rcases MI with⟨_,_,b2,_,b4⟩|⟨b1,b2⟩|⟨_,b2,_⟩
      ·rw[b2]at dc;simp at dc;omega
      ·exact⟨b1,by omega⟩
      ·omega
     have LF:=(YU hV2 qZ HG.o).1;rw[uB]at LF;have LF:=ab LF;have EK:=ab uB;clear uB;obtain⟨wL,yO,rfl⟩:=cw hV2.row;have kA:aa ai w7 (w8.alloc (.cells #[.slice wL dh.length yO,GW (j2:Int),GW Mg] 53)):=k8.alloc _;have K8:=ab (K6.o.trans kA);have OB8:=ab (FJ.o.kept kA (fun h=>h));have Ly:=ab (vm.o.kept kA (fun _ _ h=>h));have TU:=ab (Pm.o.kept kA (fun _ _ h=>h));have AB:=ab (au.new w8 #[.slice wL dh.length yO,GW (j2:Int),GW Mg] 53);obtain⟨Wr,_,MH⟩:=TU.o.take HM.o HG.o (k:=1+k) (by omega);have F7:=(ab fun(W:World) (kW:aa ai (w8.alloc (.cells #[.slice wL dh.length yO,GW (j2:Int),GW Mg] 53)) W)=>mQ.qu ((LF.o.kept ((aa.refl ai w8).alloc _)).kept kW) (MH.kept kW) (by have:=HG.o.2.2;simp;omega));have SN:Hid (∀W,aa ai (w8.alloc (.cells #[.slice wL dh.length yO,GW (j2:Int),GW Mg] 53)) W->PY w8.heap.size (.slice wL dh.length yO) W):=(fun W kW=>⟨(AB.o.kept kW (fun h=>h)).cell 0,trivial⟩);clear k8 kA hV2 qZ MI K6 FJ vm Pm LF AB MH;go_wp2_with fail;generalize(w8.alloc (.cells #[.slice wL dh.length yO,GW (j2:Int),GW Mg] 53))=wa at*;refine gD (S:=PY w8.heap.size (.slice wL dh.length yO)) 6 (by kernel_rfl) rfl rfl rfl (by kernel_rfl) (by kernel_rfl) ?_;have ak:=SN.o wa.drew (aa.refl _ _).drew;refine aj 0 104 (BT w8.heap.size 0) ak ?_;refine aj 1 105 (.slice wL dh.length yO) ak ?_;refine aj 2 106 (.slice oa m ca) ak ?_;refine aj 3 107 (GW (1+(k:Int))) ak ?_;refine mP 4 108 (.slice oa (1+k) ca) rfl rfl (by kernel_rfl) (by kernel_rfl) (by kernel_rfl) (fun _ _ _ h=>h) (Or.inl ⟨by rfl,fun W _=>by go_simp;rw[if_pos (by omega),show(1+(k:Int)).toNat=1+k by omega]⟩) ak ?_;simp only[Act.put,Aa,Ad,Ac];refine bR 5 fun K hK=>?_
     go_simp;refine(F7.o _ (aa.refl _ _).drew).mono ?_;rintro e w9 ⟨rfl,k9⟩;dsimp only;have KA:=ab (((aa.refl ai wa).drew).trans k9);refine hK.o _ _ (SN.o _ KA.o) (fun _=>?_);have K9:=ab (K8.o.trans KA.o);have Uk:=ab (OB8.o.kept KA.o (fun h=>h));have vn:=ab (Ly.o.kept KA.o (fun _ _ h=>h));have TV:=ab (TU.o.kept KA.o (fun _ _ h=>h));clear hK K F7 SN ak K8 OB8 Ly TU KA k9;refine At (by kernel_rfl) ?_ _;unfold eo;simp only[Ak,Ag,Ah];go_simp
    case' neg=>
     have Nj:¬(0:Int)<(m:Int):=(by omega);have K9:=K6;have Uk:=FJ;have vn:=vm;have TV:=Pm;clear K6 FJ vm Pm;obtain⟨w9,hw9⟩:∃w9,w9=w6:=⟨_,rfl⟩
     subst hw9
    all_goals
     obtain⟨L,HL⟩:∃L,Hid (sF (P.map zL)=L):=⟨_,(rfl:_=_)⟩
     have EU:Hid (w9.ownsRow w.heap.size 51 3 (.slice ao P.length c) P.length L):=by have:=vn.o;unfold pf at this;rwa[Cn,HL.o]at this
     go_wp2_with (at_builtin;refine Ao _ rfl _ _ 49 rfl w.heap.size 51 ip _ 3 32 underlying49 hip hzp JY JF rfl (by decide) _ _ _ rfl (EU.o.alloc _) (GB w9.heap.size 0) 2 2 (sF [⟨⟨#[]⟩,2,code⟩,⟨⟨#[122,122]⟩,0,0⟩]) rfl rfl ?c1 ?c2 ?c3 ?c4 ?c5 ?_)
     case c1=>
      intro q u hq;have h:=(au.new w9 #[.string ⟨#[]⟩,GW 2,GW code,.string ⟨#[122,122]⟩,GW 0,GW 0] 51).cell q;have e:(Addr.mk w9.heap.size 0 none).add q=(GB w9.heap.size q):=(by rw[Jc,Ba]);rw[e,h];simpa[Pc.cells,sF]using hq
     case c2=>
      intro u hu;simp[Pc.cells,sF]at hu;rcases hu with rfl|rfl|rfl|rfl|rfl<;>rfl
     case c3=>unfold maxLen;omega
     case c4=>omega
     case c5=>have:=K9.o.size;simp;omega
     intro v7 wc j0 wh Hr yZ;obtain⟨yM,c7,rfl⟩:=cw j0;have k7:aa (fun j=>(Value.slice ao P.length c).ownBlock=some j) w9 wc:=(((aa.refl ai w9).alloc _).mono (fun i hx=>hx.elim)).eP wh (fun j hj=>Or.inl hj);have KC:Hid (aa ai w wc):=K9.o.wI k7 (fun i hi=>(dw EU.o hi).1)
     have tV:Hid (pf wc w.heap.size (.slice yM (P.length+2) c7) ((P.map fun d=>⟨d,0,0⟩)++[⟨⟨#[]⟩,2,code⟩,⟨⟨#[122,122]⟩,0,0⟩])):=by
      show wc.ownsRow _ _ _ _ _ _
      rw[Aj,Cn,aeF,show sF (P.map fun d=>(⟨d,0,0⟩:Pc))=L from HL.o];exact j0
     have PM:=ab (Uk.o.kept k7 (fun h=>by have:=xO _ h;omega));have ZH:=ab (TV.o.kept k7 (fun i hi h=>by have:=xO _ h;have:=gg;omega));clear j0 wh Hr yZ k7 K9 Uk vn TV EU;have F8:=ab (SE p wc hp (LD.o.iR KC.o) hX tV.o (tY.ahc P code _) (most:= -1) (by simp;omega) (by decide) (by decide));have o0:wc.cell? (GB wr.heap.size 0)=some (GW 0):=PM.o.cell 0;have o1:wc.cell? (GB wr.heap.size 1)=some (GW 9):=PM.o.cell 1;have o2:wc.cell? (GB wr.heap.size 2)=some (GW 0):=PM.o.cell 2;go_wp2_with fail;refine(F8.o).mono ?_;clear F8 o0 o1 o2;rintro e wd ⟨kd,⟨aB,_⟩|⟨_,r3,cd3,j3,v3,pI,O3,aru,rfl,VO,hr3,hF3,_⟩⟩
     ·exact absurd h0 aB
     obtain⟨rfl,CH,zh⟩:r3=12/\cd3=code/\j3=P.length+1:=by
      rcases hF3 with⟨_,b2,_⟩|⟨_,b2⟩|⟨b1,_,b3,b4⟩
      ·omega
      ·omega
      ·exact⟨b1,b3,by simp at b4;omega⟩
     rw[CH,zh];clear CH zh;obtain⟨J,HJ⟩:∃J:Int,Hid (((P.length+1:Nat):Int)=J):=⟨_,(rfl:_=_)⟩
     rw[HJ.o];have q3:(J != (P.length:Int)+2-1)=false:=by have:=HJ.o;simp;omega
     obtain⟨hV4,hle⟩:=YU VO hr3 HG.o;obtain⟨sC,sW,rfl⟩:=cw VO.row;have kA:aa ai wc (wd.alloc (.cells #[.slice sC pI.length sW,GW J,GW code] 53)):=kd.alloc _;have KD:=ab (KC.o.trans kA);have HFD:=ab (ZH.o.kept kA (fun _ _ h=>h));have AB:=ab (au.new wd #[.slice sC pI.length sW,GW J,GW code] 53);rw[HM.o]at hle;obtain⟨Wr,_,MH⟩:=HFD.o.take HM.o HG.o (k:=pI.length) hle;have F9:=(ab fun(W:World) (kW:aa ai (wd.alloc (.cells #[.slice sC pI.length sW,GW J,GW code] 53)) W)=>mQ.qu ((hV4.kept ((aa.refl ai wd).alloc _)).kept kW) (MH.kept kW) (by have:=HG.o.2.2;simp;omega));have SN:Hid (∀W,aa ai (wd.alloc (.cells #[.slice sC pI.length sW,GW J,GW code] 53)) W->PY wd.heap.size (.slice sC pI.length sW) W):=(fun W kW=>⟨(AB.o.kept kW (fun h=>h)).cell 0,trivial⟩);have d0:(wd.alloc (.cells #[.slice sC pI.length sW,GW J,GW code] 53)).cell? (GB wd.heap.size 0)=some (.slice sC pI.length sW):=AB.o.cell 0;have d1:(wd.alloc (.cells #[.slice sC pI.length sW,GW J,GW code] 53)).cell? (GB wd.heap.size 1)=some (GW J):=AB.o.cell 1;have d2:(wd.alloc (.cells #[.slice sC pI.length sW,GW J,GW code] 53)).cell? (GB wd.heap.size 2)=some (GW code):=AB.o.cell 2;have q2:(code !=code)=false:=(by simp);have aqP:¬((m:Int)<(pI.length:Int)):=(by omega);clear kd kA VO hr3 hF3 KC PM tV ZH AB MH hV4;go_wp2_with fail;generalize(wd.alloc (.cells #[.slice sC pI.length sW,GW J,GW code] 53))=we at*;refine gD (S:=PY wd.heap.size (.slice sC pI.length sW)) 8 (by kernel_rfl) rfl rfl rfl (by kernel_rfl) (by kernel_rfl) ?_;have ak:=SN.o we.drew (aa.refl _ _).drew;refine aj 0 153 (BT wd.heap.size 0) ak ?_;refine aj 1 154 (.slice sC pI.length sW) ak ?_;refine aj 2 155 (.slice oa m ca) ak ?_;refine aj 3 156 (BT wd.heap.size 0) ak ?_;refine aj 4 157 (.slice sC pI.length sW) ak ?_;refine aj 5 158 (GW (pI.length:Int)) ak ?_;refine aj 6 159 (.slice oa pI.length ca) ak ?_;simp only[Act.put,Aa,Ad,Ac];refine bR 7 fun K hK=>?_
     go_simp;refine(F9.o _ (aa.refl _ _).drew).mono ?_;rintro e wg ⟨rfl,kg⟩;dsimp only;have KG:=ab (((aa.refl ai we).drew).trans kg);refine hK.o _ _ (SN.o _ KG.o) (fun _=>?_);have KH:=ab (KD.o.trans KG.o);clear hK K F9 SN ak KD KG kg;refine At (by kernel_rfl) ?_ _;unfold eo;simp only[Ak,Ag,Ah];go_simp;go_wp2_with fail;go_ret;exact⟨rfl,KH.o⟩
