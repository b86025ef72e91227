/- The reference's tree -/
import Derived.Test.YtmbpfhlnifdhgaaGreatDoorP08
set_option linter.unusedVariables false
set_option linter.unusedSimpArgs false
set_option maxRecDepth 100000
set_option maxHeartbeats 8000000
namespace Go.Proofs.YtmbpfhlnifdhgaaGreatDoor
open Go.Proofs.Tryz
open Go.RowKit
theorem ahv{w:World}{t:TG}{g:RG}{st:RS}{ax:Int}{vn:Value}{nl:List (List UInt8)}(hT:bc w t g st ax vn nl)(ar:st.next<t.l.length)(hf:(iT g {st with next:=st.next+1}).au.form=none):
 Calls prog 89 #[.pointer (some ⟨t.b,0,none⟩)] w fun e w'=>gP w t g ax vn (iT g {st with next:=st.next+1},gX) (xx g ax {st with next:=st.next+1}) e w':=by
 have hl:=hT.len;have oG:=hT.nZ;obtain⟨i0,b_,cE,cI,cH⟩:=A7 Tryz.akg;have ap4:=hT.kO;have fK:∀b,vn.ownBlock=some b->b<w.heap.size:=fun b hb=>(hT.ak_ hb).2
 have oM:=hT.gR;have c1:w.cell? ⟨t.b,1,none⟩=some (.int .i64 st.next):=hT.ae.cell 1;have f1:=hT.ae.frozen 1;have c2:w.cell? ⟨t.b,2,none⟩=some (.int .i64 ax):=hT.ae.cell 2;go_in;go_wp2_with fail;have PG:iT g {st with next:=st.next+1}=di g fQ (fu g (g.rs.length+1) (cK g (bT g ij {st with next:=st.next+1}))):=rfl;have Qb:(cK g (bT g ij {st with next:=st.next+1})).au.form=none:=RI (jE (by rw[<-PG];exact hf)).2.1;obtain⟨Vp,Vq⟩:=al4 Qb;have H3:Hid (di g fQ (fu g (g.rs.length+2) (bT g ij {st with next:=st.next+1}))=iT g {st with next:=st.next+1}):=by show _=_;rw[PG,aeb Vp Vq]
 have h1:bc ((w.setCell ⟨t.b,1,none⟩ (.int .i64 ((st.next:Int)+1))).alloc (.cells (gJ eR (.slice none 0 0) false (decide (0<ax)) (.slice none 0 0) 0 0 0 false) 114)) t g {st with next:=st.next+1} ax vn nl:=(hT.step ar).nil ((I.refl _ _).alloc _)
 have sp1:sF ((w.setCell ⟨t.b,1,none⟩ (.int .i64 ((st.next:Int)+1))).alloc (.cells (gJ eR (.slice none 0 0) false (decide (0<ax)) (.slice none 0 0) 0 0 0 false) 114)) w.heap.size (.slice none 0 0) false (decide (0<ax)) []:=by
  refine⟨?_,At _ _ _ _⟩;have:=ay.new (w.setCell ⟨t.b,1,none⟩ (.int .i64 ((st.next:Int)+1))) (gJ eR (.slice none 0 0) false (decide (0<ax)) (.slice none 0 0) 0 0 0 false) 114;have e:(w.setCell ⟨t.b,1,none⟩ (.int .i64 ((st.next:Int)+1))).heap.size=w.heap.size:=by simp[World.setCell]
  rw[e]at this;exact this
 have k1:I (fun i=>i=t.b) w ((w.setCell ⟨t.b,1,none⟩ (.int .i64 ((st.next:Int)+1))).alloc (.cells (gJ eR (.slice none 0 0) false (decide (0<ax)) (.slice none 0 0) 0 0 0 false) 114)):=(dr (w:=w) 1 (.int .i64 ((st.next:Int)+1))).alloc _;clear PG Qb c1 f1 c2;refine(dI h1).mono ?_;rintro e wS ⟨rfl,hS,Vt⟩;have JY:=sp1.kept Vt (fun i hi=>by omega);have QW:=k1.trans Vt;clear h1 sp1 k1 Vt
 cases Gj:(aa g {st with next:=st.next+1}==94)
 case' false=>
  have et:bT g ij {st with next:=st.next+1}={st with next:=st.next+1}:=by unfold bT;rw[if_neg (by rw[Q9,Gj];simp)]
  rw[et]at H3;obtain⟨SP,zt⟩:∃SP,SP=oV g (g.rs.length+2) (bT g ij {st with next:=st.next+1}) []:=⟨_,rfl⟩
  have OD:Hid (xx g ax {st with next:=st.next+1}=gB eR SP false (decide (0<ax))):=by show _=_;unfold xx;rw[<-zt,Q9,Gj]
  rw[et]at zt;obtain⟨bF,te⟩:∃bF,bF={st with next:=st.next+1}:=⟨_,rfl⟩
  have fN:=hS;have vW:=H3;have EW:=JY;have kS:=QW;have sZ:bF.next=st.next+1:=by rw[te]
  have Te:Hid (oV g (g.rs.length+2) bF []=SP):=by show _=_;rw[zt,te]
  clear zt;rw[<-te]at fN;rw[show di g fQ (fu g (g.rs.length+2) {st with next:=st.next+1})=di g fQ (fu g (g.rs.length+2) bF)from by rw[te]]at vW;clear hS H3 JY QW et Vp Vq te;go_wp2_with fail;obtain⟨nt,oH⟩:∃nt,false=nt:=⟨_,rfl⟩
  rw[oH]at OD;have EW:=(show sF _ w.heap.size (.slice none 0 0) nt (decide (0<ax)) []from by rw[<-oH];exact EW);clear oH Gj
 case' true=>
  have et:bT g ij {st with next:=st.next+1}={st with next:=st.next+2}:=by unfold bT;rw[if_pos (by rw[Q9,Gj])]
  rw[et]at H3;obtain⟨SP,zt⟩:∃SP,SP=oV g (g.rs.length+2) (bT g ij {st with next:=st.next+1}) []:=⟨_,rfl⟩
  have OD:Hid (xx g ax {st with next:=st.next+1}=gB eR SP true (decide (0<ax))):=by show _=_;unfold xx;rw[<-zt,Q9,Gj]
  rw[et]at zt;have nT:st.next+1<t.l.length:=by have:=gI (g:=g) (st:={st with next:=st.next+1}) (by rw[Ai.1 Gj];omega);simp at this;omega
  have cn:wS.cell? ⟨w.heap.size,2,none⟩=some (.bool false):=JY.ae.cell 2;have fn:=JY.ae.frozen 2;have c1:wS.cell? ⟨t.b,1,none⟩=some (.int .i64 ((st.next:Int)+1)):=by have:=hS.ae.cell 1;simpa using this
  have f1:=hS.ae.frozen 1;obtain⟨bF,te⟩:∃bF,bF={st with next:=st.next+2}:=⟨_,rfl⟩
  have kn:I (fun i=>i=w.heap.size) wS (wS.setCell ⟨w.heap.size,2,none⟩ (.bool true)):=(I.refl (fun i=>i=w.heap.size) wS).setCell (p:=⟨w.heap.size,2,none⟩) (Or.inl rfl) _;have IP:=hS.new hT kn (fun i hi=>by omega) (fun b hb hx=>by have:=fK b hb;omega)
  have fN:bc ((wS.setCell ⟨w.heap.size,2,none⟩ (.bool true)).setCell ⟨t.b,1,none⟩ (.int .i64 ((st.next:Int)+2))) t g {st with next:=st.next+2} ax vn nl:=by
   have:=IP.oZ (st.next+2) (by omega) (by simp);simpa using this
  have vW:=H3
  have EW:sF ((wS.setCell ⟨w.heap.size,2,none⟩ (.bool true)).setCell ⟨t.b,1,none⟩ (.int .i64 ((st.next:Int)+2))) w.heap.size (.slice none 0 0) true (decide (0<ax)) []:=by
   have q:sF (wS.setCell ⟨w.heap.size,2,none⟩ (.bool true)) w.heap.size (.slice none 0 0) true (decide (0<ax)) []:=⟨JY.ae.setCell 2 _,At _ _ _ _⟩;exact q.kept (dr (t:=t) 1 _) (fun i hi=>by omega)
  have kS:I (fun i=>i=t.b) w ((wS.setCell ⟨w.heap.size,2,none⟩ (.bool true)).setCell ⟨t.b,1,none⟩ (.int .i64 ((st.next:Int)+2))):=(QW.bY kn (fun i hi he=>by omega)).trans (dr 1 _);have sZ:bF.next=st.next+2:=by rw[te]
  have Te:Hid (oV g (g.rs.length+2) bF []=SP):=by show _=_;rw[zt,te]
  clear zt;go_wp2_with fail;rw[<-te]at fN;rw[show di g fQ (fu g (g.rs.length+2) {st with next:=st.next+2})=di g fQ (fu g (g.rs.length+2) bF)from by rw[te]]at vW;clear hS H3 JY QW et Vp Vq te IP cn fn c1 f1;obtain⟨nt,oH⟩:∃nt,true=nt:=⟨_,rfl⟩
  rw[oH]at OD;have EW:=(show sF _ w.heap.size (.slice none 0 0) nt (decide (0<ax)) []from by rw[<-oH];exact EW);clear oH Gj
 all_goals
  go_loopg [4] (g.rs.length-bF.next) (fun kk _ wr=>∃(bj:RS) (m:Nat) (vs:Value) (sp:List (Int×Int)),bc wr t g bj ax vn nl/\sF wr w.heap.size vs nt (decide (0<ax)) sp/\Hid (oV g m bj sp=SP)/\Hid (di g fQ (fu g m bj)=iT g {st with next:=st.next+1})/\kk=g.rs.length-bj.next/\kk<m/\sp.length<=4*bj.next/\I (fun i=>i=t.b) w wr/\w.heap.size+1<=wr.heap.size)
  case atStart=>exact⟨bF,g.rs.length+2,_,[],fN,EW,Te,vW,rfl,by omega,by simp,kS,EW.ae.lt⟩
  case round=>
   obtain⟨bj,m,vs,sp,hr,i_,HR,HP,rfl,hm,cQ,hk,bm⟩:=hrel;clear fN EW kS vW Te;have yq:=hr.len;have hle:=(hr.next);have Vn:(di g fQ (fu g m bj)).au.form=none:=by rw[HP.out];exact hf
   obtain⟨q1,q2,q3⟩:=jE Vn;by_cases ve:aa g bj=93
   ·have aiY:(aa g bj !=93)=false:=by simp[ve]
    have HE:Hid (iT g {st with next:=st.next+1}={bj with next:=bj.next+1}):=by
     show _=_
     have e1:=Xk g m bj (Or.inr (by rw[Ra,ve];rfl));rw[e1]at q3;rw[<-HP.out,e1,q3]
    have HRE:Hid (sp=SP):=by show _=_;rw[<-HR.out,amT g m bj sp (Or.inr (by rw[Ra,ve];rfl))]
    have Gx:=gI (g:=g) (st:=bj) (by rw[ve];omega);clear q1 q2 q3 Vn ve HP;go_wp2_with fail;refine(dI hr).mono ?_;rintro e w3 ⟨rfl,h3,aQ⟩;have c1:w3.cell? ⟨t.b,1,none⟩=some (.int .i64 bj.next):=h3.ae.cell 1;have f1:=h3.ae.frozen 1;go_wp2_with fail;go_ret;have sp3:=(i_.kept (aQ.trans (dr (w:=w3) 1 (.int .i64 ((bj.next:Int)+1)))) (fun i hi=>by omega));have s3:=(aQ.trans (dr (w:=w3) (t:=t) 1 (.int .i64 ((bj.next:Int)+1)))).size;rw[OD.out,<-HRE.out];refine⟨w.heap.size,vn,nl,rfl,?_,sp3.node (fun i hi ar=>⟨hi,ar,fun hb=>by have:=fK _ hb;omega⟩) (by omega),((hk.trans aQ).trans (dr 1 _)).mono (fun i hi=>Or.inl hi),fun i hi=>Or.inl hi⟩;show bc _ t g (iT g {st with next:=st.next+1}) ax vn nl
    rw[HE.out];exact h3.step (by omega)
   ·have aiY:(aa g bj !=93)=true:=(by simp[ve]);have V1:ak fQ (aa g bj)=false:=by rw[Ra];simp[ve]
    have Ja:aa g bj≠ -1:=by
     intro e;rw[Xk g m bj (Or.inl e),e]at q1;revert q1;decide
    have Gx:=gI Ja;obtain⟨m',rfl⟩:∃m',m=m'+1:=⟨m-1,by omega⟩
    have e4:=aeb (m:=m') Ja V1;have hfi:(cK g bj).au.form=none:=RI (m:=m') (by rw[<-e4];exact q2);have qz:Hid (di g fQ (fu g m' (cK g bj))=iT g {st with next:=st.next+1}):=by show _=_;rw[<-e4];exact HP.out
    have kt:=JJ g bj (by omega);have sZ:=kt.2.2 Gx;have Qn:bj.next<t.l.length:=(by omega);have y5:Hid (oV g m' (cK g bj) (sp++qY g bj)=SP):=by show _=_;rw[<-amU Ja V1];exact HR.out
    clear q1 q2 q3 Vn ve HP e4 V1 HR;have kT:∀b,vs.ownBlock=some b->w.heap.size+1<=b:=(fun b hb=>(cA i_.aN hb).1);go_wp2_with fail
    refine(dI hr).mono ?_;rintro e w3 ⟨rfl,h3,aQ⟩;go_wp2_with fail;refine(ZI h3).mono ?_;rintro e w4 ⟨rfl,h4,cQ⟩;go_wp2_with fail;refine(dI h4).mono ?_;rintro e w5 ⟨rfl,h5,bI⟩;have k5:=(aQ.trans cQ).trans bI;clear h3 h4 aQ cQ bI;by_cases mq:aa g bj=92
    case' pos=>
     have LS:(aa g bj==92)=true:=by simp[mq]
     cases oK:ak fc (aa g {bj with next:=bj.next+1})
     case true=>
      have EI:Hid (cK g bj={bj with next:=bj.next+2}):=by show _=_;unfold cK;rw[if_pos ⟨by rw[M6];exact LS,oK⟩]
      clear mq;have hl4:=fj oK;simp only at hl4;go_wp2_with fail;refine(kK _ fc _ _ (by rfl) (by decide)).mono ?_;rintro e w5 ⟨rfl,rfl⟩;rw[oK];go_wp2_with fail;refine(EE _ _).mono ?_;rintro e w6 ⟨rfl,GC,hB6,bU⟩;have HI:Hid (qY g bj=iF (aa g {bj with next:=bj.next+1})):=amR (by rw[M6];exact LS) oK;generalize iF (aa g {bj with next:=bj.next+1})=L at*;have Jc:∀j u,(lQ L)[j]? =some u->w6.cell? (Addr.add ⟨w5.heap.size,0,none⟩ j)=some u:=fun j u hj=>by rw[Ij,hB6.cell j];simpa using hj
      have R_:=(i_.kept k5 (fun i hi=>by omega)).kept bU (fun i hi=>hi.elim);have h6:=h5.nil bU;have adN:=R_.aN;have s6:=bU.size;have s5:=k5.size;have e1:w6.cell? ⟨w.heap.size,1,none⟩=some vs:=R_.ae.cell 1;go_wp2_with (at_builtin;refine Ad _ rfl _ _ 111 rfl (w.heap.size+1) 155 i0 _ 2 16 underlying111 b_ cE cI cH rfl (by decide) _ _ _ rfl adN ⟨w5.heap.size,0,none⟩ L.length L.length (lQ L) rfl (abd L) Jc (aim L) (by unfold maxLen;omega) (by omega) (by omega) ?_);intro v' w7 bE aX cJ bH;have sp7:=R_.push kT (I.refl aq w6) bE aX;have iS:I (fun i=>vs.ownBlock=some i) w6 w7:=(I.refl _ _).dn aX (fun j hj=>Or.inl hj);have b7:=R_.ae.kept iS (fun hx=>by have:=kT _ hx;omega);have h7:=h6.new hT iS (fun i hi=>by have:=kT i hi;omega) (fun b hb hx=>by have:=fK b hb;have:=kT b hx;omega);obtain⟨nF,qE,pD⟩:=dY bE;rw[pD]at sp7⊢;clear bE aX cJ bH pD e1 adN;have Ir:w7.cell? ⟨w.heap.size,1,none⟩=some vs:=b7.cell 1;have f71:=b7.frozen 1;have kV:I (fun i=>i=w.heap.size) w7 (w7.setCell ⟨w.heap.size,1,none⟩ (.slice nF (sp.length+L.length) qE)):=(I.refl (fun i=>i=w.heap.size) w7).setCell (p:=⟨w.heap.size,1,none⟩) (Or.inl rfl) _;have h8:=h7.new hT kV (fun i hi=>by omega) (fun b hb hx=>by have:=fK b hb;omega);have FL:(w7.setCell ⟨w.heap.size,1,none⟩ (.slice nF (sp.length+L.length) qE)).cell? ⟨t.b,1,none⟩=some (.int .i64 bj.next):=h8.ae.cell 1;have f81:(w7.setCell ⟨w.heap.size,1,none⟩ (.slice nF (sp.length+L.length) qE)).frozen? ⟨t.b,1,none⟩=false:=h8.ae.frozen 1;go_wp2_with fail
      have h9:bc ((w7.setCell ⟨w.heap.size,1,none⟩ (.slice nF (sp.length+L.length) qE)).setCell ⟨t.b,1,none⟩ (.int .i64 ((bj.next:Int)+2))) t g {bj with next:=bj.next+2} ax vn nl:=by
       have:=h8.oZ (bj.next+2) (by omega) (by omega);simpa using this
      have sp9:=sp7.kept (dr (w:=w7.setCell ⟨w.heap.size,1,none⟩ (.slice nF (sp.length+L.length) qE)) (t:=t) 1 (.int .i64 ((bj.next:Int)+2))) (fun i hi=>by omega);have nX:I (fun i=>i=t.b) w ((w7.setCell ⟨w.heap.size,1,none⟩ (.slice nF (sp.length+L.length) qE)).setCell ⟨t.b,1,none⟩ (.int .i64 ((bj.next:Int)+2))):=((((hk.trans k5).trans (bU.mono (fun _ hx=>hx.elim))).bY iS (fun i hi he=>by have:=kT i he;omega)).bY kV (fun i hi he=>by omega)).trans (dr 1 _);go_roundg (g.rs.length-(bj.next+2))
      case measure=>omega
      case rel=>
       have:=nX.size;exact⟨{bj with next:=bj.next+2},m',_,_,h9,sp9,(by show _=_;rw[<-y5.out,EI.out,HI.out]),(by show _=_;rw[<-qz.out,EI.out]),rfl,by omega,by simp;omega,nX,sp9.ae.lt⟩
     go_wp2_with fail
     refine(kK _ fc _ _ (by rfl) (by decide)).mono ?_;rintro e w5 ⟨rfl,rfl⟩;rw[oK];have EI:Hid (cK g bj=jT g (cx g bj) (a_ g bj)):=by show _=_;unfold cK;rw[if_neg (by simp[oK])]
     have EN:Hid (¬(ak dC (aa g bj)=true/\ak fc (aa g {bj with next:=bj.next+1})=true)):=by show¬_;simp[oK]
     clear mq
    case' neg=>
     have LS:(aa g bj==92)=false:=(by simp[mq]);have EI:Hid (cK g bj=jT g (cx g bj) (a_ g bj)):=by show _=_;unfold cK;rw[if_neg (by rw[M6,LS];simp)]
     have EN:Hid (¬(ak dC (aa g bj)=true/\ak fc (aa g {bj with next:=bj.next+1})=true)):=by show¬_;rw[M6,LS];simp
     clear mq
    all_goals
     have rP:(a_ g bj).1.au.form=none:=Xy (by rw[<-EI.out];exact hfi);have HFU:Hid ((jT g (cx g bj) (a_ g bj)).au.form=none):=by show _=_;rw[<-EI.out];exact hfi
     obtain⟨eu,_,_⟩:=h5.gl.isSome (by intro e;rw[e]at Qn;simp at Qn);have TT:w5.cell? ⟨t.b,0,none⟩=some (.slice (some ⟨t.bl,0,none⟩) t.l.length t.cap):=by rw[<-eu];exact h5.ae.cell 0
     have La:w5.cell? ⟨t.b,1,none⟩=some (.int .i64 bj.next):=h5.ae.cell 1;have mU:=(h5.gl.cells bj.next Qn).2;rw[<-h5.ps bj.next Qn]at mU;change w5.cell? ⟨t.bl,bj.next*3+1,none⟩=some (.int .i64 (cx g bj))at mU;have qM:0<=cx g bj/\cx g bj<=300:=(h5.pr bj.next);have Qo:(bj.next:Int)<(t.l.length:Int):=(by omega);go_wp2_with fail;go_region;all_goals go_wp2_with fail
     have h6:=h5.nil (I.refl aq w5).drew;refine(aeD h6 rP).mono ?_;rintro e w7 ⟨rfl,h7,fA⟩;have k57:I (fun i=>i=t.b) w5 w7:=(I.refl _ _).drew.trans fA;clear TT La mU h6 fA eu;have VE:=NA g bj (by omega);go_wp2_with fail;refine(dI h7).mono ?_;rintro e w8 ⟨rfl,h8,ly⟩;have k58:=k57.trans ly
     cases L7:(aa g (a_ g bj).1==45)
     ·have EU:Hid (jT g (cx g bj) (a_ g bj)=(a_ g bj).1):=by show _=_;unfold jT;rw[if_neg (by rw[Q_,L7];simp)]
      have HI:Hid (qY g bj=[((a_ g bj).2,(a_ g bj).2)]):=amQ EN.out L7;have pA:¬(a_ g bj).2<(a_ g bj).2:=(by omega);obtain⟨wz,r_⟩:∃wz,wz=w8:=⟨_,rfl⟩
      have hz:=h8;have kz:=k58;rw[<-r_]at hz kz⊢;clear r_ h8 h7 h5;have EZ:Hid (cK g bj=(a_ g bj).1):=by show _=_;rw[EI.out,EU.out]
      have GZ:(a_ g bj).1.next<=g.rs.length:=(VE.2.1);have pO:=i_.kept (k5.trans kz) (fun i hi=>by omega)
      have xu:=pO.aN;have Sb:=(k5.trans kz).size;have e1:wz.cell? ⟨w.heap.size,1,none⟩=some vs:=pO.ae.cell 1;go_wp2_with (at_builtin;refine Ad _ rfl _ _ 111 rfl (w.heap.size+1) 155 i0 _ 2 16 underlying111 b_ cE cI cH rfl (by decide) _ _ _ rfl (xu.alloc _) ⟨wz.heap.size,0,none⟩ 1 1 [.int .i64 (a_ g bj).2,.int .i64 (a_ g bj).2] rfl rfl (by exact vF _ _ _) (by first|exact⟨rfl,rfl⟩|(intro u hu;simp at hu;rcases hu with rfl|rfl<;>rfl)) (by unfold maxLen;omega) (by omega) (by first|omega|(simp;omega)) ?_);intro v' jX bE aX cJ bH;have sA:=pO.push (new:=[((a_ g bj).2,(a_ g bj).2)]) kT ((I.refl aq wz).alloc _) bE aX;have sm:I (fun i=>vs.ownBlock=some i) wz jX:=((I.refl _ _).alloc _).dn aX (fun j hj=>Or.inl hj);have rB:=pO.ae.kept sm (fun hx=>by have:=kT _ hx;omega);have vd:=hz.new hT sm (fun i hi=>by have:=kT i hi;omega) (fun b hb hx=>by have:=fK b hb;have:=kT b hx;omega);obtain⟨FC,FP,w_⟩:=dY bE;rw[w_]at sA⊢;clear bE aX cJ bH w_ e1 xu;have TQ:jX.cell? ⟨w.heap.size,1,none⟩=some vs:=rB.cell 1;have f111:=rB.frozen 1;have ng:I (fun i=>i=w.heap.size) jX (jX.setCell ⟨w.heap.size,1,none⟩ (.slice FC (sp.length+1) FP)):=(I.refl (fun i=>i=w.heap.size) jX).setCell (p:=⟨w.heap.size,1,none⟩) (Or.inl rfl) _;have wG:=vd.new hT ng (fun i hi=>by omega) (fun b hb hx=>by have:=fK b hb;omega);have nX:=((((hk.trans k5).trans kz).bY sm (fun i hi he=>by have:=kT i he;omega)).bY ng (fun i hi he=>by omega));rw[<-EZ.out]at wG GZ;go_wp2_with fail;go_roundg (g.rs.length-(cK g bj).next)
      case measure=>omega
      case rel=>
       have:=nX.size;exact⟨cK g bj,m',_,_,wG,sA,(by show _=_;rw[<-HI.out];exact y5.out),qz,rfl,by omega,by simp;omega,nX,sA.ae.lt⟩
     ·have hl9:=gI (g:=g) (st:=(a_ g bj).1) (by rw[Ai.1 L7];omega)
      have hfy:(a_ g {(a_ g bj).1 with next:=(a_ g bj).1.next+1}).1.au.form=none:=by
       have:=HFU.out;unfold jT at this;rw[if_pos (by rw[Q_];exact L7)]at this;split at this
       ·rw[Nq (by omega)]at this;exact this
       ·exact this
      have FL:w8.cell? ⟨t.b,1,none⟩=some (.int .i64 (a_ g bj).1.next):=h8.ae.cell 1;have f81:=h8.ae.frozen 1;have rR:(a_ g bj).1.next<=300:=(by omega);go_wp2_with fail
      have h9:=h8.step (by omega);refine(aeD h9 hfy).mono ?_;rintro e gZ ⟨rfl,gy,Gv⟩;have pG:=(k58.trans (dr (w:=w8) 1 (.int .i64 (((a_ g bj).1.next:Int)+1)))).trans Gv;have VB:=NA g {(a_ g bj).1 with next:=(a_ g bj).1.next+1} (by simp;omega);clear FL f81 h9 h8 Gv h7 h5;generalize hy:a_ g {(a_ g bj).1 with next:=(a_ g bj).1.next+1}=y at*;have HY:Hid (a_ g {(a_ g bj).1 with next:=(a_ g bj).1.next+1}=y):=hy;clear hy;have Vf:ak qV (aa g (a_ g bj).1)=true:=by rw[Q_];exact L7
      have HI:Hid (qY g bj=[((a_ g bj).2,y.2)]):=amS EN.out Vf HY.out;by_cases ar:y.2<(a_ g bj).2
      ·have EU:Hid (cK g bj=y.1.bG 5 (cx g bj)):=by show _=_;rw[EI.out];unfold jT;rw[if_pos Vf,HY.out,if_pos ar]
       have TP:gZ.cell? ⟨t.b,5,none⟩=some (.int .i64 (jR y.1.au.cls)):=gy.ae.cell 5;have f105:=gy.ae.frozen 5
       cases gU:y.1.au.cls with
       |none=>
        rw[alE gU]at TP;have hz:=gy.anL (cx g bj) qM.1 gU;have kz:=pG.trans (dr (w:=gZ) 5 (.int .i64 (cx g bj)));have EZ:Hid (cK g bj=y.1.bG 5 (cx g bj)):=EU;have GZ:(y.1.bG 5 (cx g bj)).next<=g.rs.length:=(VB.2.1);have pO:=i_.kept (k5.trans kz) (fun i hi=>by omega)
        have xu:=pO.aN;have ez:(gZ.setCell ⟨t.b,5,none⟩ (.int .i64 (cx g bj))).heap.size=gZ.heap.size:=(by simp[World.setCell]);have Sb:=(k5.trans kz).size;have e1:gZ.cell? ⟨w.heap.size,1,none⟩=some vs:=(i_.kept (k5.trans pG) (fun i hi=>by omega)).ae.cell 1;go_wp2_with (at_builtin;refine Ad _ rfl _ _ 111 rfl (w.heap.size+1) 155 i0 _ 2 16 underlying111 b_ cE cI cH rfl (by decide) _ _ _ rfl (xu.alloc _) ⟨gZ.heap.size,0,none⟩ 1 1 [.int .i64 (a_ g bj).2,.int .i64 y.2] rfl rfl (by rw[<-ez];exact vF _ _ _) (by first|exact⟨rfl,rfl⟩|(intro u hu;simp at hu;rcases hu with rfl|rfl<;>rfl)) (by unfold maxLen;omega) (by omega) (by rw[cR];omega) ?_);intro v' jX bE aX cJ bH;have sA:=pO.push (new:=[((a_ g bj).2,y.2)]) kT ((I.refl aq (gZ.setCell ⟨t.b,5,none⟩ (.int .i64 (cx g bj)))).alloc _) bE aX;have sm:I (fun i=>vs.ownBlock=some i) (gZ.setCell ⟨t.b,5,none⟩ (.int .i64 (cx g bj))) jX:=((I.refl _ _).alloc _).dn aX (fun j hj=>Or.inl hj);have rB:=pO.ae.kept sm (fun hx=>by have:=kT _ hx;omega);have vd:=hz.new hT sm (fun i hi=>by have:=kT i hi;omega) (fun b hb hx=>by have:=fK b hb;have:=kT b hx;omega);obtain⟨FC,FP,w_⟩:=dY bE;rw[w_]at sA⊢;clear bE aX cJ bH w_ e1 xu;have TQ:jX.cell? ⟨w.heap.size,1,none⟩=some vs:=rB.cell 1;have f111:=rB.frozen 1;have ng:I (fun i=>i=w.heap.size) jX (jX.setCell ⟨w.heap.size,1,none⟩ (.slice FC (sp.length+1) FP)):=(I.refl (fun i=>i=w.heap.size) jX).setCell (p:=⟨w.heap.size,1,none⟩) (Or.inl rfl) _;have wG:=vd.new hT ng (fun i hi=>by omega) (fun b hb hx=>by have:=fK b hb;omega);have nX:=((((hk.trans k5).trans kz).bY sm (fun i hi he=>by have:=kT i he;omega)).bY ng (fun i hi he=>by omega));rw[<-EZ.out]at wG GZ;go_wp2_with fail;go_roundg (g.rs.length-(cK g bj).next)
        case measure=>omega
        case rel=>
         have:=nX.size;exact⟨cK g bj,m',_,_,wG,sA,(by show _=_;rw[<-HI.out];exact y5.out),qz,rfl,by omega,by simp;omega,nX,sA.ae.lt⟩
       |some pq=>
        have pB:¬pq<0:=by have:=gy.mj.2.1 pq gU;omega
        rw[show jR y.1.au.cls=pq from by rw[gU];rfl]at TP;have hz:=gy.akt (cx g bj) (by rw[gU];simp);have kz:=pG;obtain⟨wz,r_⟩:∃wz,wz=gZ:=⟨_,rfl⟩
        rw[<-r_]at hz kz TP⊢;have EZ:Hid (cK g bj=y.1.bG 5 (cx g bj)):=EU;have GZ:(y.1.bG 5 (cx g bj)).next<=g.rs.length:=(VB.2.1);clear r_ f105 gy
        have pO:=i_.kept (k5.trans kz) (fun i hi=>by omega);have xu:=pO.aN;have Sb:=(k5.trans kz).size;have e1:wz.cell? ⟨w.heap.size,1,none⟩=some vs:=pO.ae.cell 1;go_wp2_with (at_builtin;refine Ad _ rfl _ _ 111 rfl (w.heap.size+1) 155 i0 _ 2 16 underlying111 b_ cE cI cH rfl (by decide) _ _ _ rfl (xu.alloc _) ⟨wz.heap.size,0,none⟩ 1 1 [.int .i64 (a_ g bj).2,.int .i64 y.2] rfl rfl (by exact vF _ _ _) (by first|exact⟨rfl,rfl⟩|(intro u hu;simp at hu;rcases hu with rfl|rfl<;>rfl)) (by unfold maxLen;omega) (by omega) (by first|omega|(simp;omega)) ?_);intro v' jX bE aX cJ bH;have sA:=pO.push (new:=[((a_ g bj).2,y.2)]) kT ((I.refl aq wz).alloc _) bE aX;have sm:I (fun i=>vs.ownBlock=some i) wz jX:=((I.refl _ _).alloc _).dn aX (fun j hj=>Or.inl hj);have rB:=pO.ae.kept sm (fun hx=>by have:=kT _ hx;omega);have vd:=hz.new hT sm (fun i hi=>by have:=kT i hi;omega) (fun b hb hx=>by have:=fK b hb;have:=kT b hx;omega);obtain⟨FC,FP,w_⟩:=dY bE;rw[w_]at sA⊢;clear bE aX cJ bH w_ e1 xu;have TQ:jX.cell? ⟨w.heap.size,1,none⟩=some vs:=rB.cell 1;have f111:=rB.frozen 1;have ng:I (fun i=>i=w.heap.size) jX (jX.setCell ⟨w.heap.size,1,none⟩ (.slice FC (sp.length+1) FP)):=(I.refl (fun i=>i=w.heap.size) jX).setCell (p:=⟨w.heap.size,1,none⟩) (Or.inl rfl) _;have wG:=vd.new hT ng (fun i hi=>by omega) (fun b hb hx=>by have:=fK b hb;omega);have nX:=((((hk.trans k5).trans kz).bY sm (fun i hi he=>by have:=kT i he;omega)).bY ng (fun i hi he=>by omega));rw[<-EZ.out]at wG GZ;go_wp2_with fail;go_roundg (g.rs.length-(cK g bj).next)
        case measure=>omega
        case rel=>
         have:=nX.size;exact⟨cK g bj,m',_,_,wG,sA,(by show _=_;rw[<-HI.out];exact y5.out),qz,rfl,by omega,by simp;omega,nX,sA.ae.lt⟩
      ·have EU:Hid (cK g bj=y.1):=by show _=_;rw[EI.out];unfold jT;rw[if_pos Vf,HY.out,if_neg ar]
       obtain⟨wz,r_⟩:∃wz,wz=gZ:=⟨_,rfl⟩
       have hz:=gy;have kz:=pG;rw[<-r_]at hz kz⊢;have EZ:Hid (cK g bj=y.1):=EU;have GZ:y.1.next<=g.rs.length:=(VB.2.1);clear r_ gy
       have pO:=i_.kept (k5.trans kz) (fun i hi=>by omega);have xu:=pO.aN;have Sb:=(k5.trans kz).size;have e1:wz.cell? ⟨w.heap.size,1,none⟩=some vs:=pO.ae.cell 1;go_wp2_with (at_builtin;refine Ad _ rfl _ _ 111 rfl (w.heap.size+1) 155 i0 _ 2 16 underlying111 b_ cE cI cH rfl (by decide) _ _ _ rfl (xu.alloc _) ⟨wz.heap.size,0,none⟩ 1 1 [.int .i64 (a_ g bj).2,.int .i64 y.2] rfl rfl (by exact vF _ _ _) (by first|exact⟨rfl,rfl⟩|(intro u hu;simp at hu;rcases hu with rfl|rfl<;>rfl)) (by unfold maxLen;omega) (by omega) (by first|omega|(simp;omega)) ?_);intro v' jX bE aX cJ bH;have sA:=pO.push (new:=[((a_ g bj).2,y.2)]) kT ((I.refl aq wz).alloc _) bE aX;have sm:I (fun i=>vs.ownBlock=some i) wz jX:=((I.refl _ _).alloc _).dn aX (fun j hj=>Or.inl hj);have rB:=pO.ae.kept sm (fun hx=>by have:=kT _ hx;omega);have vd:=hz.new hT sm (fun i hi=>by have:=kT i hi;omega) (fun b hb hx=>by have:=fK b hb;have:=kT b hx;omega);obtain⟨FC,FP,w_⟩:=dY bE;rw[w_]at sA⊢;clear bE aX cJ bH w_ e1 xu;have TQ:jX.cell? ⟨w.heap.size,1,none⟩=some vs:=rB.cell 1;have f111:=rB.frozen 1;have ng:I (fun i=>i=w.heap.size) jX (jX.setCell ⟨w.heap.size,1,none⟩ (.slice FC (sp.length+1) FP)):=(I.refl (fun i=>i=w.heap.size) jX).setCell (p:=⟨w.heap.size,1,none⟩) (Or.inl rfl) _;have wG:=vd.new hT ng (fun i hi=>by omega) (fun b hb hx=>by have:=fK b hb;omega);have nX:=((((hk.trans k5).trans kz).bY sm (fun i hi he=>by have:=kT i he;omega)).bY ng (fun i hi he=>by omega));rw[<-EZ.out]at wG GZ;go_wp2_with fail;go_roundg (g.rs.length-(cK g bj).next)
       case measure=>omega
       case rel=>
        have:=nX.size;exact⟨cK g bj,m',_,_,wG,sA,(by show _=_;rw[<-HI.out];exact y5.out),qz,rfl,by omega,by simp;omega,nX,sA.ae.lt⟩
open Go.Maps
theorem agb{g:RG}{k:Nat}(hA:yP g k):yP g (k+1):=by
 intro w t st ax vn nl hT rX hf;have hl:=hT.len;have oG:=hT.nZ;have oM:=hT.gR;have fK:∀i,vn.ownBlock=some i->i<w.heap.size:=fun i hi=>(cA hT.names hi).2
 obtain⟨i0,b_,cE,cI,cH⟩:=A7 Tryz.akd;have hF:aE g (k+1) st=((eE g (aE g k) (g.rs.length+1) (cU g (aE g k) st).1 [(cU g (aE g k) st).2]).1,.node 3 (eE g (aE g k) (g.rs.length+1) (cU g (aE g k) st).1 [(cU g (aE g k) st).2]).2 0 0):=rfl;obtain⟨Y,hY⟩:∃Y,eE g (aE g k) (g.rs.length+1) (cU g (aE g k) st).1 [(cU g (aE g k) st).2]=Y:=⟨_,rfl⟩
 rw[hF,hY]at hf⊢;simp only at hf;have HY:Hid (eE g (aE g k) (g.rs.length+1) (cU g (aE g k) st).1 ([]++[(cU g (aE g k) st).2])=Y):=hY;obtain⟨RY,UY⟩:∃RY,vJ g (aE g k) (fe g k) ax (g.rs.length+1) (cU g (aE g k) st).1 [vK g (aE g k) (fe g k) ax st]=RY:=⟨_,rfl⟩
 have HRA:Hid (fe g (k+1) ax st=.node iI [] false false RY 0 0 0 false):=by show _=_;rw[<-UY];rfl
 have Zi:Hid (vJ g (aE g k) (fe g k) ax (g.rs.length+1) (cU g (aE g k) st).1 ([]++[vK g (aE g k) (fe g k) ax st])=RY):=UY;clear hF hY UY;go_in;go_wp2_with fail;have h0:bc (w.alloc (.cells (gJ iI (.slice none 0 0) false false (.slice none 0 0) 0 0 0 false) 114)) t g st ax vn nl:=hT.nil ((I.refl _ _).alloc _);have b0:=ay.new w (gJ iI (.slice none 0 0) false false (.slice none 0 0) 0 0 0 false) 114;have k0:I (fun i=>i=t.b\/vn.ownBlock=some i) w (w.alloc (.cells (gJ iI (.slice none 0 0) false false (.slice none 0 0) 0 0 0 false) 114)):=(I.refl _ _).alloc _;have ks0:=mf.nil (w.alloc (.cells (gJ iI (.slice none 0 0) false false (.slice none 0 0) 0 0 0 false) 114)) (w.heap.size+1) (w.heap.size+1) vn (by rw[cR];omega)
 go_loopg [] (g.rs.length+1-st.next) (fun kk wr=>∃(ab:RS) (m:Nat) (aA:List PT) (JR:List RT) (Ps:List Nat) (vk eU:Value) (iH:List (List UInt8)),bc wr t g ab ax eU iH/\mf wr (w.heap.size+1) wr.heap.size vk eU Ps aA JR/\ay wr w.heap.size (gJ iI (.slice none 0 0) false false vk 0 0 0 false) 114/\I (fun i=>i=t.b\/vn.ownBlock=some i) w wr/\(∀i,eU.ownBlock=some i->vn.ownBlock=some i\/w.heap.size<i)
  /\Hid (eE g (aE g k) m (cU g (aE g k) ab).1 (aA++[(cU g (aE g k) ab).2])=Y)/\Hid (vJ g (aE g k) (fe g k) ax m (cU g (aE g k) ab).1 (JR++[vK g (aE g k) (fe g k) ax ab])=RY)/\kk=g.rs.length+1-ab.next/\kk<=m/\st.next<=ab.next/\aA.length<=ab.next/\w.heap.size+1<=wr.heap.size)
 case atStart=>
  exact⟨st,g.rs.length+1,[],[],[],_,vn,nl,h0,ks0.up (by rw[cR];omega) (Aa _),b0,k0,fun i hi=>Or.inl hi,HY,Zi,rfl,by omega,Aa _,by simp,by rw[cR];omega⟩
 case round=>
  obtain⟨ab,m,aA,JR,Ps,vk,eU,iH,hr,PL,hB,hk,nf,HP,Za,rfl,hm,iR,abG,bm⟩:=hrel;clear h0 b0 k0 ks0 HY Zi;obtain⟨wo,rfl⟩:∃wo,wo=wr:=⟨_,rfl⟩
  have hfs:(cU g (aE g k) ab).1.au.form=none:=Xg (EO g k) m _ _ (by rw[HP.out];exact hf);have hB4:wo.cell? ⟨w.heap.size,4,none⟩=some vk:=hB.cell 4;go_wp2_with fail;have h1:bc (wo.alloc (.cells (gJ iJ (.slice none 0 0) false false (.slice none 0 0) 0 0 0 false) 114)) t g ab ax eU iH:=hr.nil ((I.refl _ _).alloc _);have b1:=ay.new wo (gJ iJ (.slice none 0 0) false false (.slice none 0 0) 0 0 0 false) 114;have k1:I (fun i=>i=t.b\/eU.ownBlock=some i) wo (wo.alloc (.cells (gJ iJ (.slice none 0 0) false false (.slice none 0 0) 0 0 0 false) 114)):=(I.refl _ _).alloc _;have ks1:=mf.nil (wo.alloc (.cells (gJ iJ (.slice none 0 0) false false (.slice none 0 0) 0 0 0 false) 114)) (wo.heap.size+1) (wo.heap.size+1) eU (by rw[cR];omega);have rW:=hr.gR;have acx:∀i,eU.ownBlock=some i->i<wo.heap.size:=fun i hi=>(cA hr.names hi).2
  go_loopg [] (g.rs.length+1-ab.next) (fun kk wi=>∃(bF:RS) (m2:Nat) (mR:List PT) (xy:List RT) (Qs:List Nat) (vs js:Value) (Hc:List (List UInt8)),bc wi t g bF ax js Hc/\mf wi (wo.heap.size+1) wi.heap.size vs js Qs mR xy/\ay wi wo.heap.size (gJ iJ (.slice none 0 0) false false vs 0 0 0 false) 114/\I (fun i=>i=t.b\/eU.ownBlock=some i) wo wi/\(∀i,js.ownBlock=some i->eU.ownBlock=some i\/wo.heap.size<i)
   /\Hid (eA g (aE g k) m2 bF mR=eA g (aE g k) (g.rs.length+1) ab [])/\Hid (vL g (aE g k) (fe g k) ax m2 bF xy=vL g (aE g k) (fe g k) ax (g.rs.length+1) ab [])/\kk=g.rs.length+1-bF.next/\kk<=m2/\ab.next<=bF.next/\mR.length<=bF.next/\wo.heap.size+1<=wi.heap.size)
  case atStart=>
   exact⟨ab,g.rs.length+1,[],[],[],_,eU,iH,h1,ks1.up (by rw[cR];omega) (Aa _),b1,k1,fun i hi=>Or.inl hi,rfl,rfl,rfl,by omega,Aa _,by simp,by rw[cR];omega⟩
  case round=>
   obtain⟨bF,m2,mR,xy,Qs,vs,js,Hc,kC,IJ,fJ,aG,GU,qz,OC,rfl,DI,abU,apQ,aco⟩:=hrel;clear h1 b1 k1 ks1;have aqm:=(kC.next);have aqG:=kC.gR;by_cases dX:aa g bF= -1\/ak jQ (aa g bF)=true
   ·have HQ:Hid (cU g (aE g k) ab=(bF,.node 2 mR 0 0)):=by
     show _=_
     unfold cU;rw[<-qz.out,Xv g _ m2 bF mR dX]
    have Zc:Hid (vK g (aE g k) (fe g k) ax ab=.node iJ [] false false xy 0 0 0 false):=by
     show _=_
     unfold vK;rw[<-OC.out,amV g _ _ ax m2 bF xy dX]
    clear qz OC;by_cases e1:aa g bF= -1
    case' pos=>
     have g1:(aa g bF != -1)=false:=by rw[e1];rfl
     have gb:(aa g bF !=124)=true:=by rw[e1];rfl
     have IV:ak lD (aa g bF)=false:=by rw[e1];rfl
     clear e1 dX;go_wp2_with fail;refine(dI kC).mono ?_;rintro e Yj ⟨rfl,zn,Mi⟩;obtain⟨wz,r_⟩:∃wz,wz=Yj:=⟨_,rfl⟩
     have hz:=zn;have kz:=Mi
    case' neg=>
     have g1:(aa g bF != -1)=true:=Eh.2 e1;have iW:ak jQ (aa g bF)=true:=dX.resolve_left e1;rw[Z_,Bo]at iW;clear dX;rcases iW with P5|IF
     case' inl=>
      have g2:(aa g bF !=124)=false:=by rw[Ai.1 P5];rfl
      have IV:ak lD (aa g bF)=true:=by rw[Ai.1 P5];rfl
      go_wp2_with fail
      refine(dI kC).mono ?_;rintro e Yj ⟨rfl,zn,Mi⟩;go_wp2_with fail;refine(dI zn).mono ?_;rintro e w1a ⟨rfl,IE,I6⟩;obtain⟨wz,r_⟩:∃wz,wz=w1a:=⟨_,rfl⟩
      have hz:=IE;have kz:=(Mi.trans I6)
     case' inr=>
      have g2:(aa g bF !=124)=true:=by rw[Ai.1 IF];rfl
      have g3:(aa g bF !=41)=false:=by rw[Ai.1 IF];rfl
      have IV:ak lD (aa g bF)=false:=by rw[Ai.1 IF];rfl
      clear IF;go_wp2_with fail;refine(dI kC).mono ?_;rintro e Yj ⟨rfl,zn,Mi⟩;go_wp2_with fail;refine(dI zn).mono ?_;rintro e w1a ⟨rfl,IE,I6⟩;go_wp2_with fail;refine(dI IE).mono ?_;rintro e w2a ⟨rfl,h2a,ajl⟩;obtain⟨wz,r_⟩:∃wz,wz=w2a:=⟨_,rfl⟩
      have hz:=h2a;have kz:=((Mi.trans I6).trans ajl)
    all_goals
     rw[<-r_]at hz kz⊢;clear r_;have acy:∀i,js.ownBlock=some i->i<wr.heap.size:=(fun i hi=>(cA kC.names hi).2);have GQ:∀b,vs.ownBlock=some b->wo.heap.size+1<=b/\b<wr.heap.size:=fun b hb=>cA IJ.aN hb
     have GO:∀b,vk.ownBlock=some b->w.heap.size+1<=b/\b<wo.heap.size:=(fun b hb=>cA PL.aN hb);have sz:=kz.size
     have zz:js.ownBlock≠some wo.heap.size:=fun e=>by
      rcases GU _ e with h|h
      ·have:=acx _ h;omega
      ·omega
     have ksz:=IJ.kept (q_:=js) kz (fun j hj=>Or.inl (by omega)) (fun b hb hx=>by have:=GQ b hb;omega) (fun i hi=>Or.inl hi);have bz:=fJ.kept kz (by omega);have anH:=ksz.node (lo:=wo.heap.size) (kk:=2) bz (Aa _) (by omega) zz (by omega) (Or.inl ⟨rfl,rfl⟩) (by omega) (by omega);have Wz:=aG.trans (kz.mono (fun i hi=>Or.inl hi))
     have WC:=PL.kept (q_:=js) Wz (fun j hj=>by
      rcases hj with h|h
      ·exact Or.inl (by omega)
      ·exact Or.inr (Or.inl h)) (fun b hb hx=>by
      rcases hx with h|h
      ·have:=GO b hb;omega
      ·exact PL.eD b hb h) (fun i hi=>by
      rcases GU i hi with h|h
      ·exact Or.inl h
      ·exact Or.inr (by omega))
     have Ja:eU.ownBlock≠some w.heap.size:=fun e=>by
      rcases nf _ e with h|h
      ·have:=fK _ h;omega
      ·omega
     have TH:=hB.kept Wz (by
      rintro(h|h)
      ·omega
      ·exact Ja h)
     have cz4:wz.cell? ⟨w.heap.size,4,none⟩=some vk:=TH.cell 4;have aqu:=TH.lt;have ap3:aA.length<=300:=by have:=hr.next;omega
     clear kC IJ fJ PL hB bz;go_wp2_with (at_builtin;refine Ad _ rfl _ _ 112 rfl (w.heap.size+1) 30 i0 _ 1 8 underlying112 b_ cE cI cH rfl (by decide) _ _ _ rfl (WC.aN.alloc _) ⟨wz.heap.size,0,none⟩ 1 1 [kG wo.heap.size] rfl rfl (by exact Cc _ _ _) (by first|rfl|(intro u hu;simp at hu;subst hu;rfl)) (by unfold maxLen;omega) (by omega) (by first|omega|(rw[cR];omega)|(simp;omega)) ?_);intro v7 w7 bE aX cJ bH;have se:I aq wz (wz.alloc (.cells #[kG wo.heap.size] 30)):=(I.refl _ _).alloc _;have DX:=mf.lg WC anH (by omega) (fun b hb=>by have:=GO b hb;omega) (Aa _) (fun i hi=>by have:=acy i hi;omega) se bE aX (by rw[cR];exact bH) (by omega);have iS:I (fun i=>vk.ownBlock=some i) wz w7:=(se.mono (fun _ hx=>hx.elim)).dn aX (fun j hj=>Or.inl hj);have h7:=hz.new hT iS (fun i hi=>by have:=GO i hi;omega) (fun b hb hx=>WC.eD b hx hb);have b7:=TH.kept iS (fun hx=>by have:=GO _ hx;omega);obtain⟨nF,qE,pD⟩:=dY bE;rw[pD]at DX⊢;clear bE aX cJ bH pD se;have Ld:w7.cell? ⟨w.heap.size,4,none⟩=some vk:=b7.cell 4;have f74:=b7.frozen 4;have kV:I (fun i=>i=w.heap.size) w7 (w7.setCell ⟨w.heap.size,4,none⟩ (.slice nF (aA.length+1) qE)):=(I.refl (fun i=>i=w.heap.size) w7).setCell (p:=⟨w.heap.size,4,none⟩) (Or.inl rfl) _
     have ab8:js.ownBlock≠some w.heap.size:=fun e=>by
      rcases GU _ e with h|h
      ·exact Ja h
      ·omega
     have h8:=h7.new hT kV (fun i hi=>by omega) (fun b hb hx=>ab8 (hx▸hb));have b8:=b7.setCell 4 (.slice nF (aA.length+1) qE);have Q5:mf (w7.setCell ⟨w.heap.size,4,none⟩ (.slice nF (aA.length+1) qE)) (w.heap.size+1) w7.heap.size (.slice nF (aA.length+1) qE) js (Ps++[wo.heap.size]) (aA++[.node 2 mR 0 0]) (JR++[.node iJ [] false false xy 0 0 0 false]):=DX.kept kV (fun j hj=>Or.inl (by omega)) (fun b hb hx=>by have:=(cA DX.aN hb).1;omega) (fun i hi=>Or.inl hi)
     have QU:=((hk.bY Wz (fun i hi he=>by
      rcases he with h|h
      ·exact Or.inl h
      ·rcases nf i h with h|h
       ·exact Or.inr h
       ·omega)).bY iS (fun i hi he=>by have:=GO i he;omega)).bY kV (fun i hi he=>by omega)
     have acz:∀i,js.ownBlock=some i->vn.ownBlock=some i\/w.heap.size<i:=fun i hi=>by
      rcases GU i hi with h|h
      ·exact nf i h
      ·exact Or.inr (by omega)
     have s8:=b8.lt;clear DX h7 iS b7 kV;go_wp2_with fail;refine(dI h8).mono ?_;rintro e w9 ⟨rfl,h9,my⟩;have k09:=QU.trans (my.mono (fun i hi=>Or.inl hi));have b9:=b8.kept my (by omega);have WA:=Q5.kept (q_:=js) my (fun j hj=>Or.inl (by omega)) (fun b hb hx=>by have:=(cA Q5.aN hb).1;omega) (fun i hi=>Or.inl hi)
     first
      |(have LU:=P5
        have c91:w9.cell? ⟨t.b,1,none⟩=some (.int .i64 bF.next):=h9.ae.cell 1;have f91:=h9.ae.frozen 1;have pA:=gI (g:=g) (st:=bF) (by have:=Ai.1 P5;omega);have gy:=h9.step (show bF.next<_ by omega);have pG:=k09.trans ((dr (w:=w9) (t:=t) 1 (.int .i64 ((bF.next:Int)+1))).mono (fun i hi=>Or.inl hi));have jJ:=b9.dD (p:=⟨t.b,1,none⟩) (show w.heap.size≠t.b by omega) (.int .i64 ((bF.next:Int)+1));have akv:=WA.kept (q_:=js) (dr (w:=w9) (t:=t) 1 (.int .i64 ((bF.next:Int)+1))) (fun j hj=>Or.inl (by omega)) (fun b hb hx=>by have:=(cA WA.aN hb).1;omega) (fun i hi=>Or.inl hi);obtain⟨m',rfl⟩:∃m',m=m'+1:=⟨m-1,by have:=hr.next;omega⟩
        have HP3:Hid (eE g (aE g k) m' (cU g (aE g k) {bF with next:=bF.next+1}).1 ((aA++[.node 2 mR 0 0])++[(cU g (aE g k) {bF with next:=bF.next+1}).2])=Y):=by
         show _=_
         rw[<-HP.out,HQ.out];show _=(if ak lD (aa g bF)=true then _ else _)
         rw[if_pos IV]
        have afN:Hid (vJ g (aE g k) (fe g k) ax m' (cU g (aE g k) {bF with next:=bF.next+1}).1 ((JR++[.node iJ [] false false xy 0 0 0 false])++[vK g (aE g k) (fe g k) ax {bF with next:=bF.next+1}])=RY):=by
         show _=_
         rw[<-Za.out,Zc.out,HQ.out];show _=(if ak lD (aa g bF)=true then _ else _)
         rw[if_pos IV]
        have yI:=pG.size;have s9:=my.size;rw[fx]at s9;go_wp2_with fail;go_roundg (g.rs.length+1-(bF.next+1))
        case measure=>omega
        case rel=>
         exact⟨{bF with next:=bF.next+1},m',_,_,_,_,js,Hc,gy,akv.up (by rw[fx];omega) (Aa _),jJ,pG,acz,HP3,afN,rfl,by simp;omega,by simp;omega,by simp;omega,by rw[fx];have:=b9.lt;omega⟩)
      |(have HE:Hid (Y=(bF,aA++[.node 2 mR 0 0])):=by
         show _=_
         rw[<-HP.out,HQ.out];exact adQ g _ m bF _ IV
        have SN:Hid (RY=JR++[.node iJ [] false false xy 0 0 0 false]):=by
         show _=_
         rw[<-Za.out,Zc.out,HQ.out];exact amP g _ _ ax m bF _ IV
        go_wp2_with fail
        go_ret
        refine⟨w.heap.size,js,Hc,rfl,?_,?_,k09,fun i hi=>(acz i hi).imp id (fun h=>by omega)⟩
        ·show bc _ t g Y.1 ax js Hc
         rw[HE.out];exact h9
        ·show eV _ _ _ (.node 3 Y.2 0 0) (fe g (k+1) ax st)
         rw[HRA.out,HE.out,SN.out];exact WA.node (lo:=w.heap.size) (kk:=3) b9 (Aa _) (by have:=b8.lt;rw[fx]at this;exact this) ab8 (by omega) (Or.inr (Or.inl ⟨rfl,rfl⟩)) (by omega) (by simp))
   ·rw[not_or]at dX;have jO:ak jQ (aa g bF)=false:=(by simpa using dX.2);have lW:=gI dX.1;rw[Z_]at jO;have g1:(aa g bF != -1)=true:=Eh.2 dX.1;have g2:(aa g bF !=124)=true:=by rw[Eh];intro e;rw[e]at jO;exact absurd jO (by decide)
    have g3:(aa g bF !=41)=true:=by rw[Eh];intro e;rw[e]at jO;exact absurd jO (by decide)
    obtain⟨m3,rfl⟩:∃m3,m2=m3+1:=⟨m2-1,by omega⟩
    have MF:eA g (aE g k) (m3+1) bF mR=eA g (aE g k) m3 (dU g (bD g (aE g k) bF).2 (bD g (aE g k) bF).1).1 (mR++[(dU g (bD g (aE g k) bF).2 (bD g (aE g k) bF).1).2]):=by
     rw[show eA g (aE g k) (m3+1) bF mR=if aa g bF= -1\/ak jQ (aa g bF)=true then(bF,mR)else eA g (aE g k) m3 (dU g (bD g (aE g k) bF).2 (bD g (aE g k) bF).1).1 (mR++[(dU g (bD g (aE g k) bF).2 (bD g (aE g k) bF).1).2])from rfl,if_neg (not_or.2 dX)]
    have kt:=JI g (aE g k) (xv g k) bF (by omega);have sZ:=NC g (bD g (aE g k) bF).2 (bD g (aE g k) bF).1 kt.2.1;have VC:=kt.2.2 (by omega)
    have vj:(dU g (bD g (aE g k) bF).2 (bD g (aE g k) bF).1).1.au.form=none:=by
     have:(eA g (aE g k) (g.rs.length+1) ab []).1.au.form=none:=hfs;rw[<-qz.out,MF]at this;exact Xw (EO g k) _ _ _ this
    rw[MF]at qz
    have afM:Hid (vL g (aE g k) (fe g k) ax m3 (dU g (bD g (aE g k) bF).2 (bD g (aE g k) bF).1).1 (xy++[yG g (xw g (fe g k) ax bF) (bD g (aE g k) bF).1])=vL g (aE g k) (fe g k) ax (g.rs.length+1) ab []):=by
     show _=_
     rw[<-OC.out];show _=(if aa g bF= -1\/ak jQ (aa g bF)=true then _ else _)
     rw[if_neg (not_or.2 dX)]
    clear MF dX jO OC
    have abL:aa g bF=91->∀w',bc w' t g bF ax js Hc->Calls prog 89 #[.pointer (some ⟨t.b,0,none⟩)] w' (gP w' t g ax js (iT g {bF with next:=bF.next+1},gX) (xx g ax {bF with next:=bF.next+1})):=by
     intro wH w' LM;refine ahv LM (by omega) ?_;have:=Xs vj;unfold bD at this;rw[wH]at this;exact this
    have ai5:=(fun(w':World) (LM:bc w' t g bF ax js Hc)=>aoe hA LM (by omega) vj abL);generalize dU g (bD g (aE g k) bF).2 (bD g (aE g k) bF).1=x at*;generalize yG g (xw g (fe g k) ax bF) (bD g (aE g k) bF).1=y at*;clear kt abL vj;go_wp2_with fail;refine(dI kC).mono ?_;rintro e w3 ⟨rfl,h3,aQ⟩;go_wp2_with fail;refine(dI h3).mono ?_;rintro e w4 ⟨rfl,h4,cQ⟩;go_wp2_with fail;refine(dI h4).mono ?_;rintro e w5 ⟨rfl,h5,bI⟩;go_wp2_with fail;refine(ai5 w5 h5).mono ?_;rintro e w6 ⟨b6,N7,nl6,rfl,h6,q2,q3,q4⟩;have k35:=(aQ.trans cQ).trans bI;have s35:=k35.size;have acy:∀i,js.ownBlock=some i->i<wr.heap.size:=(fun i hi=>(cA kC.names hi).2);have ajT:∀i,N7.ownBlock=some i->i<w6.heap.size:=fun i hi=>(cA h6.names hi).2
    have zz:js.ownBlock≠some wo.heap.size:=fun e=>by
     rcases GU _ e with h|h
     ·have:=acx _ h;omega
     ·omega
    have Q8:I (fun i=>i=t.b\/js.ownBlock=some i) wr w6:=(k35.mono (fun i hi=>Or.inl hi)).trans q3;have s6:=Q8.size;have s56:=q3.size;have GQ:∀b,vs.ownBlock=some b->wo.heap.size+1<=b/\b<wr.heap.size:=fun b hb=>cA IJ.aN hb
    have QZ:mf w6 (wo.heap.size+1) wr.heap.size vs N7 Qs mR xy:=IJ.kept Q8 (fun j hj=>by
     rcases hj with h|h
     ·exact Or.inl (by omega)
     ·exact Or.inr (Or.inl h)) (fun b hb hx=>by
     rcases hx with h|h
     ·have:=GQ b hb;omega
     ·exact IJ.eD b hb h) (fun i hi=>by
     rcases q4 i hi with h|h
     ·exact Or.inl h
     ·exact Or.inr (by omega))
    have Tz:=fJ.kept Q8 (by
     rintro(h|h)
     ·omega
     ·exact zz h)
    have c64:w6.cell? ⟨wo.heap.size,4,none⟩=some vs:=Tz.cell 4;have dg:mR.length<=300:=(by omega);go_wp2_with (at_builtin;refine Ad _ rfl _ _ 112 rfl (wo.heap.size+1) 30 i0 _ 1 8 underlying112 b_ cE cI cH rfl (by decide) _ _ _ rfl (QZ.aN.alloc _) ⟨w6.heap.size,0,none⟩ 1 1 [kG b6] rfl rfl ?c1_a ?c2_a ?c3_a ?c4_a ?c5_a ?_)
    first
     |(case c1_a=>exact Cc _ _ _)
     |skip
    case c2_a=>first|rfl|(intro u hu;simp at hu;subst hu;rfl)
    case c3_a=>unfold maxLen;omega
    case c4_a=>omega
    case c5_a=>first|omega|(rw[cR];omega)|(simp;omega)
    intro v7 w7 bE aX cJ bH;have se:I aq w6 (w6.alloc (.cells #[kG b6] 30)):=(I.refl _ _).alloc _;have DX:=mf.lg QZ q2 (by omega) (fun b hb=>by have:=GQ b hb;omega) (Aa _) ajT se bE aX (by rw[cR];exact bH) (by omega);have iS:I (fun i=>vs.ownBlock=some i) w6 w7:=(se.mono (fun _ hx=>hx.elim)).dn aX (fun j hj=>Or.inl hj);have h7:=h6.new hr iS (fun i hi=>by have:=GQ i hi;omega) (fun b hb hx=>QZ.eD b hx hb);have b7:=Tz.kept iS (fun hx=>by have:=GQ _ hx;omega);obtain⟨nF,qE,pD⟩:=dY bE;rw[pD]at DX⊢;clear bE aX cJ bH pD se QZ Tz;have Ld:w7.cell? ⟨wo.heap.size,4,none⟩=some vs:=b7.cell 4;have f74:=b7.frozen 4;have kV:I (fun i=>i=wo.heap.size) w7 (w7.setCell ⟨wo.heap.size,4,none⟩ (.slice nF (mR.length+1) qE)):=(I.refl (fun i=>i=wo.heap.size) w7).setCell (p:=⟨wo.heap.size,4,none⟩) (Or.inl rfl) _
    have ajx:N7.ownBlock≠some wo.heap.size:=fun e=>by
     rcases q4 _ e with h|h
     ·exact zz h
     ·omega
    have h8:=h7.new hr kV (fun i hi=>by omega) (fun b hb hx=>ajx (hx▸hb));have b8:=b7.setCell 4 (.slice nF (mR.length+1) qE);have Q5:mf (w7.setCell ⟨wo.heap.size,4,none⟩ (.slice nF (mR.length+1) qE)) (wo.heap.size+1) w7.heap.size (.slice nF (mR.length+1) qE) N7 (Qs++[b6]) (mR++[x.2]) (xy++[y]):=DX.kept kV (fun j hj=>Or.inl (by omega)) (fun b hb hx=>by have:=(cA DX.aN hb).1;omega) (fun i hi=>Or.inl hi)
    have QU:=((aG.bY Q8 (fun i hi he=>by
     rcases he with h|h
     ·exact Or.inl h
     ·rcases GU i h with h|h
      ·exact Or.inr h
      ·omega)).bY iS (fun i hi he=>by have:=GQ i he;omega)).bY kV (fun i hi he=>by omega)
    have s8:=QU.size;go_wp2_with fail;go_roundg (g.rs.length+1-x.1.next)
    case measure=>omega
    case rel=>
     exact⟨x.1,m3,_,_,_,_,N7,nl6,h8,Q5.up (by rw[fx];exact Aa _) (Aa _),b8,QU,fun i hi=>by
      rcases q4 i hi with h|h
      ·exact GU i h
      ·exact Or.inr (by omega),qz,afM,rfl,by omega,by omega,by simp;omega,by rw[fx]at s8⊢;have:=b7.lt;omega⟩
theorem ZX(g:RG):∀k,yP g k
 |0=>fun _ _ _ _ _ _ _ h=>absurd h (by omega)
 |k+1=>agb (ZX g k)
theorem eV.size_range{w:World}{U:Nat->Prop}{b:Nat}{T:PT}{R:RT}(h:eV w U b T R):0<=T.size/\T.size<=1001:=by
 induction h with
 |mk b op sp nG p_ bs nt fd lz bK bB aY kk l hh ao cap bk ts rs P dq d_ bS pz hb hc hl hk hr i_ ih=>
  have hs:=JX ts (fun i h=>ih i h (by omega));obtain⟨r1,r2,r3,r4⟩:=hr;have hc:=Pf r1 r2;have hm:=Rk hc (s:=PT.iC ts+1) (by omega);unfold PT.size;simp only;have aF:kk=3->0<ts.length:=fun e=>Bu.2 (r4 e)
  refine⟨?_,by omega⟩
  have:0<=(if kk=0\/kk=1 then PT.iC ts+1 else if kk=3 then PT.iC ts+((ts.length:Int)-1)else if kk=4 then(if hh= -1 then l+1 else hh)*(PT.iC ts+1)else PT.iC ts):=by
   split
   ·omega
   ·split
    ·rename_i e;have:=aF e;omega
    ·split
     ·exact hm.1
     ·exact hs.1
  omega
theorem af1{w:World}{U:Nat->Prop}{b:Nat}{T:PT}{R:RT}(h:eV w U b T R):∀w',I aq w w'->
 Calls prog 18 #[.pointer (some ⟨b,0,none⟩)] w' fun e tF=>e=.returned (.int .i64 T.size)/\I aq w' tF:=by
 induction h with
 |mk b op sp nG p_ bs nt fd lz bK bB aY kk l hh ao cap bk ts rs P dq d_ bS pz hb hc hl hk hr i_ ih=>
  intro w' hw;have IH:Hid (∀i (h:i<ts.length) (w':World),I aq w w'->Calls prog 18 #[.pointer (some ⟨P i,0,none⟩)] w' fun e tF=>e=.returned (.int .i64 (ts[i]).size)/\I aq w' tF):=fun i h=>ih i h (by omega)
  have wR:∀i,(h:i<ts.length)->0<=(ts[i]).size/\(ts[i]).size<=1001:=fun i h=>(hk i h (by omega)).size_range
  have HS:=JX ts wR;clear ih hk i_ hl;obtain⟨r1,r2,r3,r4⟩:=hr;have x0:=dq.kept hw (fun hx=>hx);go_in;go_wp2_with fail;go_loopg [3,4] ts.length (fun kk s i wr=>∃j:Nat,j<=ts.length/\i=.int .i64 j/\s=.int .i64 (PT.iC (ts.take j))/\kk=ts.length-j/\I aq w' wr/\ay wr b (gJ op (.slice nG sp.length p_) nt fd (.slice ao ts.length cap) bK bB aY lz) 114)
  case atStart=>exact⟨0,Aw _,rfl,by simp[PT.iC],rfl,I.refl _ _,x0⟩
  case round=>
   obtain⟨j,hj,rfl,rfl,rfl,lV,jj⟩:=hrel;have pC:=JX (ts.take j) (fun i hi=>by have:=wR i (by simp at hi;omega);simpa using this);have I8:(ts.take j).length<=400:=by simp;omega
   have d4:wr.cell? ⟨b,4,none⟩=some (.slice ao ts.length cap):=jj.cell 4;by_cases ar:j<ts.length
   ·obtain⟨rfl,b1⟩:=hb (by intro e;subst e;simp at ar);have yg:=hc j ar;have kk:=hw.trans lV;have q0:wr.cell? ⟨bk,j,none⟩=some (.pointer (some ⟨P j,0,none⟩)):=(kk.cell (p:=⟨bk,j,none⟩) (xT yg) (fun hx=>hx)).trans yg;have hkj:=wR j ar;have nB:Hid (PT.iC (ts.take (j+1))=PT.iC (ts.take j)+(ts[j]).size):=ae6 ts j ar;have Qj:(j:Int)<(ts.length:Int):=(by omega);clear hb hc yg wR;have Tl:Hid (∀(w':World),I aq w w'->Calls prog 18 #[.pointer (some ⟨P j,0,none⟩)] w' fun e tF=>e=.returned (.int .i64 (ts[j]).size)/\I aq w' tF):=IH.out j ar;clear IH;go_wp2_with fail;refine(Tl.out _ kk).mono ?_;rintro e w2 ⟨rfl,aG⟩;have iW:=jj.kept aG (fun hx=>hx);have qT:=lV.trans aG;clear q0 aG jj lV;go_wp2_with fail;go_roundg (ts.length-(j+1))
    case measure=>omega
    case rel=>exact⟨j+1,by omega,by go_num,by rw[nB.out],rfl,qT,iW⟩
   ·have ej:j=ts.length:=(by omega);subst ej;rw[Ce]at pC I8⊢;have Qj:¬((ts.length:Nat):Int)<(ts.length:Int):=(by omega);have wN:=Pf r1 r2;have hm:=Rk wN (s:=PT.iC ts+1) (by omega);clear IH hb hc wR;rcases bS with⟨rfl,rfl⟩|⟨rfl,rfl⟩|⟨rfl,rfl⟩|⟨abZ,o1,o2,o3⟩
    ·have d0:wr.cell? ⟨b,0,none⟩=some (.string ⟨#[115,101,113]⟩):=jj.cell 0;go_wp2_with fail;all_goals go_ret
     all_goals exact⟨xz (by unfold PT.size;simp;omega),lV⟩
    ·have d0:wr.cell? ⟨b,0,none⟩=some (.string ⟨#[97,108,116]⟩):=jj.cell 0;have pB:0<ts.length:=Bu.2 (r4 rfl);go_wp2_with fail;all_goals go_ret
     all_goals exact⟨xz (by unfold PT.size;simp;omega),lV⟩
    ·have d0:wr.cell? ⟨b,0,none⟩=some (.string ⟨#[116,105,109,101,115]⟩):=jj.cell 0;obtain⟨rfl,rfl⟩:=pz rfl;have d6:wr.cell? ⟨b,6,none⟩=some (.int .i64 bB):=jj.cell 6;have d7:wr.cell? ⟨b,7,none⟩=some (.int .i64 aY):=jj.cell 7;by_cases eZ:aY= -1
     ·have ajy:aY<0:=(by omega);have Kl:Hid ((if aY= -1 then bB+1 else aY)=bB+1):=if_pos eZ;rw[if_pos eZ]at wN hm;clear eZ;go_wp2_with fail;all_goals go_ret
      all_goals exact⟨xz (by unfold PT.size;simp only[Kl.out];simp;omega),lV⟩
     ·have ajy:¬aY<0:=(by omega);have Kl:Hid ((if aY= -1 then bB+1 else aY)=aY):=if_neg eZ;rw[if_neg eZ]at wN hm;clear eZ;go_wp2_with fail;all_goals go_ret
      all_goals exact⟨xz (by unfold PT.size;simp only[Kl.out];simp;omega),lV⟩
    ·have d0:wr.cell? ⟨b,0,none⟩=some (.string op):=jj.cell 0;go_wp2_with fail;all_goals go_ret
     all_goals(refine⟨xz ?_,lV⟩)
     all_goals(unfold PT.size;rcases abZ with rfl|rfl<;>simp<;>omega)
structure Gd(g:RG)(L:List (Nat×Int))(n:Int):Prop where
 rs:g.rs=L.map (·.2)
 ps:∀i,(h:i<L.length)->g.ps.getD i 0=L[i].1
 pe:g.ps.getD L.length 0=n
 nn:∀p∈L,0<=p.2
theorem Gd.len{g:RG}{L:List (Nat×Int)}{n:Int}(h:Gd g L n):g.rs.length=L.length:=by rw[h.rs];simp
def ml(n:Int):Sc->List (Nat×Int)->Option Int
 |c,[]=>if kU c.m&&c.o==0 then none else some n
 |c,p::l=>match eB c p.2 with
  |some c'=>ml n c' l
  |none=>some p.1
theorem Uy{n:Int}{c c':Sc}{p:Nat×Int}{l:List (Nat×Int)}(h:eB c p.2=some c'):ml n c (p::l)=ml n c' l:=by
 rw[show ml n c (p::l)=match eB c p.2 with|some c'=>ml n c' l|none=>some (p.1:Int)from rfl,h]
theorem Uw{n:Int}{c:Sc}{p:Nat×Int}{l:List (Nat×Int)}(h:eB c p.2=none):ml n c (p::l)=some (p.1:Int):=by
 rw[show ml n c (p::l)=match eB c p.2 with|some c'=>ml n c' l|none=>some (p.1:Int)from rfl,h]
theorem Pq(n:Int):∀(L:List (Nat×Int)) (c:Sc),jM n c L=(ml n c L).getD (-1)
 | [],c=>by
   unfold jM ml;split<;>rfl
 |p::l,c=>by
  cases h:eB c p.2 with
  |some c'=>rw[abk h,Uy h];exact Pq n l c'
  |none=>rw[abj h,Uw h];rfl
theorem Ux{n:Int}(hn:0<=n):∀(L:List (Nat×Int)) (c:Sc) (q:Int),ml n c L=some q->0<=q
 | [],c,q,h=>by
   unfold ml at h;split at h
   ·simp at h
   ·simp at h;omega
 |p::l,c,q,h=>by
  cases hs:eB c p.2 with
  |some c'=>rw[Uy hs]at h;exact Ux hn l c' q h
  |none=>rw[Uw hs]at h;simp at h;omega
def aL(L:List (Nat×Int))(n:Int)(c:Sc)(st:RS):Option Int:=match st.au.form with
 |some p=>some p
 |none=>ml n c (L.drop st.next)
theorem aL.told{L:List (Nat×Int)}{n:Int}{c:Sc}{st:RS}{p:Int}(h:st.au.form=some p):aL L n c st=some p:=by unfold aL;rw[h]
theorem aL.not{L:List (Nat×Int)}{n:Int}{c:Sc}{st:RS}(h:st.au.form=none):aL L n c st=ml n c (L.drop st.next):=by unfold aL;rw[h]
theorem aeJ{g:RG}{st:RS}{p:Int}(h:st.au.form=some p):(mJ g st).au.form=some p:=by
 simp[mJ,RS.bG,bu.bG,bu.get,h]
theorem amZ{g:RG}{st:RS}(h:st.au.form=none):(mJ g st).au.form=some (cx g st):=by
 simp[mJ,RS.bG,bu.bG,bu.get,h,bu.put]
theorem adw{st:RS}{e p:Int}(he:e≠3):(st.bG e p).au.form=st.au.form:=by
 unfold RS.bG bu.bG;simp only;split
 ·rfl
 ·unfold bu.put;repeat' split
  all_goals first|rfl|(exfalso;omega)
theorem Gd.at{g:RG}{L:List (Nat×Int)}{n:Int}(h:Gd g L n){st:RS}(ar:st.next<L.length):L.drop st.next=(L[st.next].1,aa g st)::L.drop (st.next+1)/\cx g st=L[st.next].1/\0<=aa g st:=by
 have e:aa g st=L[st.next].2:=by
  unfold aa;rw[h.rs];simp[List.getD,Ab ar]
 refine⟨?_,h.ps _ ar,?_⟩
 ·rw[e];exact Bq ar
 ·rw[e];exact h.nn _ (Ay ar)
theorem Gd.Hq{g:RG}{L:List (Nat×Int)}{n:Int}(h:Gd g L n){st:RS}(hs:aa g st≠ -1):st.next<L.length:=by
 have:=gI hs;have:=h.len;omega
theorem Gd.end_{g:RG}{L:List (Nat×Int)}{n:Int}(h:Gd g L n){st:RS}(hn:st.next<=L.length)(hs:aa g st= -1):st.next=L.length/\L.drop st.next=[]/\cx g st=n:=by
 have h1:st.next=L.length:=by
  apply Bz
  intro aF;have:=(h.at (st:=st) (by omega)).2.2;omega
 refine⟨h1,by rw[h1];simp,?_⟩;have:=h.pe;rw[<-h1]at this;exact this
theorem aL.step{g:RG}{L:List (Nat×Int)}{n:Int}(hg:Gd g L n){c c':Sc}{st:RS}(hs:st.au.form=none->aa g st≠ -1/\eB c (aa g st)=some c'):aL L n c st=aL L n c' {st with next:=st.next+1}:=by
 cases hf:st.au.form with
 |some p=>rw[aL.told hf,aL.told (st:={st with next:=st.next+1}) hf]
 |none=>
  obtain⟨h1,h2⟩:=hs hf;rw[aL.not hf,aL.not (st:={st with next:=st.next+1}) hf,(hg.at (hg.Hq h1)).1];exact Uy h2
theorem aL.stop{g:RG}{L:List (Nat×Int)}{n:Int}(hg:Gd g L n){c c':Sc}{st:RS}(hn:st.next<=L.length)(dt:st.au.form=none->aa g st≠ -1->eB c (aa g st)=none)(dX:st.au.form=none->aa g st= -1->(kU c.m&&c.o==0)=false):aL L n c st=aL L n c' (mJ g st):=by
 cases hf:st.au.form with
 |some p=>rw[aL.told hf,aL.told (aeJ hf)]
 |none=>
  rw[aL.not hf,aL.told (amZ hf)];by_cases he:aa g st= -1
  ·obtain⟨h1,h2,h3⟩:=hg.end_ hn he;rw[h2,h3];unfold ml;rw[dX hf he];rfl
  ·have hl:=hg.Hq he;obtain⟨h1,h2,h3⟩:=hg.at hl;rw[h1,h2];exact Uw (p:=(L[st.next].1,aa g st)) (dt hf he)
theorem aL.yA{g:RG}{L:List (Nat×Int)}{n:Int}(hg:Gd g L n){c c':Sc}{st:RS}{l:List UInt8}(hn:st.next<=L.length)(zI:st.au.form=none->ak l (aa g st)=true->eB c (aa g st)=some c')
 (dt:st.au.form=none->aa g st≠ -1->ak l (aa g st)=false->eB c (aa g st)=none)(dX:st.au.form=none->aa g st= -1->(kU c.m&&c.o==0)=false):aL L n c st=aL L n c' (di g l st):=by
 unfold di
 cases h:ak l (aa g st)
 ·exact aL.stop hg hn (fun a b=>dt a b h) dX
 ·exact aL.step hg (fun a=>⟨by intro e;rw[e,Jr]at h;exact absurd h (by simp),zI a h⟩)
theorem aL.WU{g:RG}{L:List (Nat×Int)}{n:Int}(hg:Gd g L n){c c':Sc}{st:RS}{l:List UInt8}(hn:st.next<=L.length)(zI:st.au.form=none->aa g st≠ -1->ak l (aa g st)=false->eB c (aa g st)=some c')
 (dt:st.au.form=none->aa g st≠ -1->ak l (aa g st)=true->eB c (aa g st)=none)(dX:st.au.form=none->aa g st= -1->(kU c.m&&c.o==0)=false):aL L n c st=aL L n c' (lF g l st):=by
 unfold lF;by_cases h:aa g st= -1\/ak l (aa g st)=true
 ·rw[if_pos h];refine aL.stop hg hn (fun a b=>?_) dX;rcases h with h|h
  ·exact absurd h b
  ·exact dt a b h
 ·rw[if_neg h];rw[not_or]at h;exact aL.step hg (fun a=>⟨h.1,zI a h.1 (by simpa using h.2)⟩)
theorem aL.bG{L:List (Nat×Int)}{n:Int}{c:Sc}{st:RS}{e p:Int}(he:e≠3):aL L n c (st.bG e p)=aL L n c st:=by
 unfold aL;rw[adw he];rfl
theorem aL.NQ{L:List (Nat×Int)}{n:Int}{c:Sc}{st iL:RS}(h1:iL.au.form=st.au.form)(h2:iL.next=st.next):aL L n c iL=aL L n c st:=by
 unfold aL;rw[h1,h2]
theorem kY(b:UInt8)(r:Int):ak [b] r=(r==(b.toNat:Int)):=by
 unfold ak;simp only[Ch,Cn,Br];rw[Av];simp only[Ai];exact⟨fun h=>h.symm,fun h=>h.symm⟩
theorem QK(r:Int):ak qU r=(r==125):=kY 125 r
theorem acG(r:Int):ak zQ r=(r==44):=kY 44 r
theorem MM(r:Int):ak dG r=(r==63):=kY 63 r
theorem aj6(r:Int):ak EB r=(r==42):=kY 42 r
theorem aj5(r:Int):ak EA r=(r==43):=kY 43 r
theorem aj2(r:Int):ak D_ r=(r==123):=kY 123 r
theorem Jt(r:Int):ak dC r=(r==92):=kY 92 r
theorem acH(r:Int):ak qV r=(r==45):=kY 45 r
theorem acF(r:Int):ak ij r=(r==94):=kY 94 r
theorem QN(r:Int):ak fQ r=(r==93):=kY 93 r
theorem aj4(r:Int):ak zS r=(r==91):=kY 91 r
theorem aj3(r:Int):ak vC r=(r==40):=kY 40 r
theorem QM(r:Int):ak vD r=(r==41):=kY 41 r
theorem acE(r:Int):ak lD r=(r==124):=kY 124 r
theorem acK(r:Int):ak pH r=(r==60):=kY 60 r
theorem acI(r:Int):ak DZ r=(r==62):=kY 62 r
theorem acJ(r:Int):ak lI r=(r==105):=kY 105 r
theorem QL(r:Int):ak zP r=(r==58):=kY 58 r
variable {g:RG} {L:List (Nat×Int)} {n:Int}
theorem aL.ql(hg:Gd g L n){m:M}(hm:m=.low\/m=.high)(o:Int)(st:RS)(hn:st.next<=L.length)(hb:m=.high->aa g st≠125):
 ∃(k:Int) (z:Bool),aL L n ⟨m,o,0,false⟩ st=aL L n ⟨m,o,k,z⟩ (aK g st).1/\1<=k/\((aK g st).1.au.form=none->ak kF (aa g (aK g st).1)=true->(k=2\/(k=1/\z=true))):=by
 have dM:(kU m&&o==0)=false:=by rcases hm with rfl|rfl<;>rfl
 have step:∀c r,c.m=m->eB c r=iK c r:=by
  intro c r hc;obtain⟨cm,co,cn,cz⟩:=c;simp only at hc;subst hc;rcases hm with rfl|rfl<;>rfl
 cases hd:ak kF (aa g st)
 ·have e1:ey g st=(mJ g st,0):=by simp[ey,hd]
  have e2:aK g st=(mJ g st,0):=by unfold aK;rw[if_neg (by rw[e1];simp),e1]
  rw[e2];refine⟨1,true,?_,by omega,fun h=>absurd h (ET g st)⟩;refine aL.stop hg hn (fun _ _=>?_) (fun _ _=>dM);rw[step _ _ rfl];rw[zi]at hd;unfold iK;simp only[hd];rcases hm with rfl|rfl
  ·simp
  ·have:=hb rfl;simp[this]
 ·have e1:ey g st=({st with next:=st.next+1},aa g st-48):=by simp[ey,hd]
  have hl:=fj hd;have hr:=G0 hd;have hd':=hd;rw[zi]at hd'
  have s1:aL L n ⟨m,o,0,false⟩ st=aL L n ⟨m,o,1,aa g st==48⟩ {st with next:=st.next+1}:=by
   refine aL.step hg (fun _=>⟨by omega,?_⟩);rw[step _ _ rfl];unfold iK;simp[hd']
  by_cases h2:0<(ey g st).2/\ak kF (aa g (ey g st).1)=true
  ·rw[show aK g st=((ey g (ey g st).1).1,10*(ey g st).2+(ey g (ey g st).1).2)from by unfold aK;rw[if_pos h2]];rw[e1]at h2⊢;obtain⟨h3,h4⟩:=h2;simp only at h3 h4;have e3:ey g {st with next:=st.next+1}=({st with next:=st.next+2},aa g {st with next:=st.next+1}-48):=(by simp[ey,h4]);rw[e3];have kC:=G0 h4;rw[zi]at h4;refine⟨2,false,?_,by omega,fun _ _=>Or.inl rfl⟩;rw[s1];have:(aa g st==48)=false:=by simp;omega
   rw[this];refine aL.step hg (st:={st with next:=st.next+1}) (fun _=>⟨by omega,?_⟩);rw[step _ _ rfl];unfold iK;simp[h4]
  ·rw[show aK g st=ey g st from by unfold aK;rw[if_neg h2]];rw[e1]at h2⊢;refine⟨1,aa g st==48,s1,by omega,fun _ h=>Or.inr ⟨rfl,?_⟩⟩;simp only at h h2;have:¬0<aa g st-48:=(fun h'=>h2 ⟨h',h⟩);simp;omega
theorem aL.TL(hg:Gd g L n){m:M}(hm:m=.low\/m=.high)(o k:Int)(z:Bool)(st:RS)(hn:st.next<=L.length)(hk:m=.low->1<=k)(wP:0<=k)(hc:m=.low->aa g st≠44)
 (hd:st.au.form=none->ak kF (aa g st)=true->(k=2\/(k=1/\z=true))):aL L n ⟨m,o,k,z⟩ st=aL L n ⟨.lazy,o,k,z⟩ (di g qU st):=by
 have step:∀c r,c.m=m->eB c r=iK c r:=by
  intro c r hc;obtain⟨cm,co,cn,cz⟩:=c;simp only at hc;subst hc;rcases hm with rfl|rfl<;>rfl
 refine aL.yA hg hn (fun _ h=>?_) (fun hf _ h=>?_) (fun _ _=>by rcases hm with rfl|rfl<;>rfl)
 ·rw[QK]at h;rw[Ai.1 h,step _ _ rfl];unfold iK;rw[Lh];rcases hm with rfl|rfl
  ·have:=hk rfl;simp;omega
  ·simp
 ·rw[QK]at h;rw[step _ _ rfl];unfold iK
  cases hdg:tP (aa g st)
  ·rcases hm with rfl|rfl
   ·have:=hc rfl;simp[h,this]
   ·simp[h]
  ·rcases hd hf (by rw[zi];exact hdg)with rfl|⟨rfl,rfl⟩<;>simp
theorem aL.agP(hg:Gd g L n)(o:Int)(st:RS)(hn:st.next<=L.length):∃(k:Int) (z:Bool),aL L n ⟨.low,o,0,false⟩ st=aL L n ⟨.lazy,o,k,z⟩ (cT g st).1:=by
 obtain⟨k,z,h1,h2,h3⟩:=aL.ql hg (Or.inl rfl) o st hn (fun h=>by cases h);have hle:=hg.len;have ic:=Hm g st (by omega);unfold cT
 cases hc:ak zQ (aa g (aK g st).1)
 ·rw[if_neg (by simp)];rw[acG]at hc;refine⟨k,z,?_⟩;rw[h1];exact aL.TL hg (Or.inl rfl) o k z _ (by omega) (fun _=>h2) (by omega) (fun _=>by intro e;rw[e]at hc;exact absurd hc (by decide)) h3
 ·rw[if_pos rfl];have hl:=fj hc;rw[acG]at hc;have rO:=Ai.1 hc
  have s1:aL L n ⟨.low,o,k,z⟩ (aK g st).1=aL L n ⟨.high,o,0,false⟩ {(aK g st).1 with next:=(aK g st).1.next+1}:=by
   refine aL.step hg (fun _=>⟨by omega,?_⟩);rw[rO];rw[show eB ⟨.low,o,k,z⟩ 44=iK ⟨.low,o,k,z⟩ 44 from rfl];unfold iK;rw[Pi];simp;omega
  simp only;unfold n_
  cases hb:ak qU (aa g {(aK g st).1 with next:=(aK g st).1.next+1})
  ·rw[if_neg (by simp)];rw[QK]at hb;obtain⟨k',z',q1,q2,q3⟩:=aL.ql hg (Or.inr rfl) o {(aK g st).1 with next:=(aK g st).1.next+1} (by simp;omega) (fun _ e=>by rw[e]at hb;exact absurd hb (by decide));have VN:=Hm g {(aK g st).1 with next:=(aK g st).1.next+1} (by simp;omega);refine⟨k',z',?_⟩;rw[h1,s1,q1];exact aL.TL hg (Or.inr rfl) o k' z' _ (by omega) (fun h=>by cases h) (by omega) (fun h=>by cases h) q3
  ·rw[if_pos rfl];refine⟨0,false,?_⟩;rw[h1,s1];have fg:=hb;rw[QK]at fg;exact aL.TL hg (Or.inr rfl) o 0 false _ (by simp;omega) (fun h=>by cases h) (by omega) (fun h=>by cases h) (fun _ h=>by rw[Ai.1 fg]at h;exact absurd h (by decide))
def v_(g:RG)(c:Sc)(st:RS):Prop:=st.au.form=none->aa g st≠ -1->eB c (aa g st)=nk c (aa g st)
theorem aL.lazy(hg:Gd g L n)(o k:Int)(z:Bool)(st:RS)(hn:st.next<=L.length):∃c',c'.o=o/\kU c'.m=true/\v_ g c' (bT g dG st)/\aL L n ⟨.lazy,o,k,z⟩ st=aL L n c' (bT g dG st):=by
 unfold bT
 cases hq:ak dG (aa g st)
 ·rw[if_neg (by simp)];rw[MM]at hq;refine⟨⟨.lazy,o,k,z⟩,rfl,rfl,fun _ _=>?_,rfl⟩;show(if(aa g st==63)=true then _ else _)=_
  rw[hq];rfl
 ·rw[if_pos rfl];rw[MM]at hq;refine⟨⟨.more,o,k,z⟩,rfl,rfl,fun _ _=>rfl,?_⟩;refine aL.step hg (fun _=>⟨by rw[Ai.1 hq];omega,?_⟩);rw[Ai.1 hq];rfl
theorem aL.ana(hg:Gd g L n)(o k:Int)(z:Bool)(A:PT)(st:RS)(hn:st.next<=L.length):∃c',c'.o=o/\kU c'.m=true/\v_ g c' (dU g A st).1/\aL L n ⟨.times,o,k,z⟩ st=aL L n c' (dU g A st).1:=by
 have hle:=hg.len
 have key:∀r,aa g st=r->r≠ -1->eB ⟨.times,o,k,z⟩ r=some ⟨.lazy,o,k,z⟩->∃c',c'.o=o/\kU c'.m=true/\v_ g c' (bT g dG {st with next:=st.next+1})/\aL L n ⟨.times,o,k,z⟩ st=aL L n c' (bT g dG {st with next:=st.next+1}):=by
  intro r hr h1 h2;have hl:=hg.Hq (st:=st) (by rw[hr];exact h1);obtain⟨c',q1,q2,q3,q4⟩:=aL.lazy hg o k z {st with next:=st.next+1} (by simp;omega);refine⟨c',q1,q2,q3,?_⟩;rw[<-q4];exact aL.step hg (fun _=>⟨by rw[hr];exact h1,by rw[hr];exact h2⟩)
 unfold dU;rw[aj6,aj5,MM,aj2]
 cases h1:(aa g st==42)
 ·cases h2:(aa g st==43)
  ·cases h3:(aa g st==63)
   ·cases h4:(aa g st==123)
    ·simp only[Ag,if_false];refine⟨⟨.times,o,k,z⟩,rfl,rfl,fun _ _=>?_,rfl⟩;show(if(aa g st==42)=true then _ else if(aa g st==43)=true then _ else if(aa g st==63)=true then _ else if(aa g st==123)=true then _ else _)=_
     rw[h1,h2,h3,h4];rfl
    ·simp only[Ag,if_false,if_true];have hr:=Ai.1 h4;have hl:=hg.Hq (st:=st) (by rw[hr];omega);obtain⟨k',z',q1⟩:=aL.agP hg o {st with next:=st.next+1} (by simp;omega);have ic:=adY g {st with next:=st.next+1} (by simp;omega);have s1:aL L n ⟨.times,o,k,z⟩ st=aL L n ⟨.low,o,0,false⟩ {st with next:=st.next+1}:=aL.step hg (fun _=>⟨by rw[hr];omega,by rw[hr];rfl⟩);rw[s1,q1];split
     ·obtain⟨c',p1,p2,p3,p4⟩:=aL.lazy hg o k' z' ((cT g {st with next:=st.next+1}).1.bG 4 (cx g st)) (by rw[Rp];omega);refine⟨c',p1,p2,p3,?_⟩;rw[<-p4,aL.bG (by omega)]
     ·obtain⟨c',p1,p2,p3,p4⟩:=aL.lazy hg o k' z' (cT g {st with next:=st.next+1}).1 (by omega);exact⟨c',p1,p2,p3,p4⟩
   ·simp only[Ag,if_false,if_true];exact key 63 (Ai.1 h3) (by omega) rfl
  ·simp only[Ag,if_false,if_true];exact key 43 (Ai.1 h2) (by omega) rfl
 ·simp only[if_true];exact key 42 (Ai.1 h1) (by omega) rfl
variable {g:RG} {L:List (Nat×Int)} {n:Int}
theorem zJ(a b:List UInt8)(r:Int):ak (a++b) r=(ak a r||ak b r):=by unfold ak;rw[Cl]
theorem Rj(r:Int):ak zR r=(ak mD r||ak ti r):=zJ mD ti r
theorem aa2(r:Int):ak oQ r=(ak mD r||ak DW r):=zJ mD DW r
theorem Ro(r:Int):ak M7 r=((r==92)||ak qS r):=by
 rw[show M7=[92]++qS from rfl,zJ,kY];rfl
def OJ(g:RG)(c:Sc)(st:RS):Prop:=st.au.form=none->aa g st≠ -1->eB c (aa g st)=sw c (aa g st)
theorem aL.alA(hg:Gd g L n)(c:Sc)(st:RS)(hn:st.next<=L.length)(hr:OJ g c st)(hd:kU c.m=false)(hs:aa g st=92->ak fc (aa g {st with next:=st.next+1})=false):aL L n c st=aL L n {c with m:=.one} (a_ g st).1:=by
 unfold a_ je
 cases hb:ak dC (aa g st)
 ·simp only[Ag,if_false];rw[show bT g dC st=st from by unfold bT;rw[if_neg (by rw[hb];simp)]];rw[Jt]at hb;have fg:aa g st≠92:=by simpa using hb
  refine aL.WU hg hn (fun hf aF h=>?_) (fun hf aF h=>?_) (fun _ _=>by rw[hd];rfl)
  ·rw[hr hf aF];rw[Ro,hb]at h;unfold sw;rw[if_neg fg,show ak qS (aa g st)=false from by simpa using h];rfl
  ·rw[hr hf aF];rw[Ro,hb]at h;unfold sw;rw[if_neg fg,show ak qS (aa g st)=true from by simpa using h];rfl
 ·simp only[if_true];rw[show bT g dC st={st with next:=st.next+1}from by unfold bT;rw[if_pos hb]];have ar:=fj hb;have hle:=hg.len;rw[Jt]at hb;have fg:=Ai.1 hb;have oK:=hs fg;have s1:aL L n c st=aL L n {c with m:=.CL} {st with next:=st.next+1}:=aL.step hg (fun hf=>⟨by rw[fg];omega,by rw[hr hf (by rw[fg];omega),fg];rfl⟩);rw[s1];refine aL.yA hg (by simp;omega) (fun _ h=>?_) (fun _ _ h=>?_) (fun _ _=>rfl)
  ·show(if ak xj _=true then _ else if(ak mD _||ak ti _)=true then _ else _)=_
   rw[show ak xj (aa g {st with next:=st.next+1})=false from oK,<-Rj,h];rfl
  ·show(if ak xj _=true then _ else if(ak mD _||ak ti _)=true then _ else _)=_
   rw[show ak xj (aa g {st with next:=st.next+1})=false from oK,<-Rj,h];rfl
theorem aL.alC(hg:Gd g L n)(c:Sc)(hc:c.m=.upto)(st:RS)(hn:st.next<=L.length):aL L n c st=aL L n {c with m:=.items} (a_ g st).1:=by
 obtain⟨m,o,k,z⟩:=c;simp only at hc;subst hc;unfold a_ je
 cases hb:ak dC (aa g st)
 ·simp only[Ag,if_false];rw[show bT g dC st=st from by unfold bT;rw[if_neg (by rw[hb];simp)]];rw[Jt]at hb;refine aL.WU hg hn (fun hf aF h=>?_) (fun hf aF h=>?_) (fun _ _=>rfl)
  ·rw[Ro,hb]at h;show(if(aa g st==92)=true then _ else if ak qS (aa g st)=true then _ else _)=_
   rw[hb,show ak qS (aa g st)=false from by simpa using h];rfl
  ·rw[Ro,hb]at h;show(if(aa g st==92)=true then _ else if ak qS (aa g st)=true then _ else _)=_
   rw[hb,show ak qS (aa g st)=true from by simpa using h];rfl
 ·simp only[if_true];rw[show bT g dC st={st with next:=st.next+1}from by unfold bT;rw[if_pos hb]];have ar:=fj hb;have hle:=hg.len;rw[Jt]at hb;have fg:=Ai.1 hb;have s1:aL L n ⟨.upto,o,k,z⟩ st=aL L n ⟨.Hu,o,k,z⟩ {st with next:=st.next+1}:=aL.step hg (fun hf=>⟨by rw[fg];omega,by rw[fg];rfl⟩);rw[s1];refine aL.yA hg (by simp;omega) (fun _ h=>?_) (fun _ _ h=>?_) (fun _ _=>rfl)
  ·show(if(ak mD _||ak ti _)=true then _ else _)=_
   rw[<-Rj,h];rfl
  ·show(if(ak mD _||ak ti _)=true then _ else _)=_
   rw[<-Rj,h];rfl
def Ft(g:RG)(c:Sc)(st:RS):Prop:=c.m=.items\/(c.m=.one/\aa g st≠45)
theorem Ft.done{c:Sc}{st:RS}(h:Ft g c st):kU c.m=false:=by rcases h with h|⟨h,_⟩<;>rw[h]<;>rfl
theorem Ft.ready{c:Sc}{st:RS}(h:Ft g c st)(hn:aa g st≠93):OJ g c st:=by
 intro _ _;obtain⟨m,o,k,z⟩:=c;rcases h with h|⟨h,h45⟩
 ·simp only at h;subst h;show(if(aa g st==93)=true then _ else _)=_
  rw[if_neg (by simpa using hn)]
 ·simp only at h;subst h;show(if(aa g st==45)=true then _ else if(aa g st==93)=true then _ else _)=_
  rw[if_neg (by simpa using h45),if_neg (by simpa using hn)]
theorem aL.acU(hg:Gd g L n)(c:Sc)(st:RS)(hn:st.next<=L.length)(hr:OJ g c st)(hd:kU c.m=false):∃c',c'.o=c.o/\Ft g c' (cK g st)/\aL L n c st=aL L n c' (cK g st):=by
 have hle:=hg.len;unfold cK;by_cases h:ak dC (aa g st)=true/\ak fc (aa g {st with next:=st.next+1})=true
 ·rw[if_pos h];have h1:=h.1;have ar:=fj h.2;simp only at ar;rw[Jt]at h1;have fg:=Ai.1 h1;refine⟨{c with m:=.items},rfl,Or.inl rfl,?_⟩;have s1:aL L n c st=aL L n {c with m:=.CL} {st with next:=st.next+1}:=aL.step hg (fun hf=>⟨by rw[fg];omega,by rw[hr hf (by rw[fg];omega),fg];rfl⟩);rw[s1];refine aL.step hg (st:={st with next:=st.next+1}) (fun _=>⟨?_,?_⟩)
  ·intro e;have:=h.2;rw[e,Jr]at this;exact absurd this (by simp)
  ·show(if ak xj _=true then _ else _)=_
   rw[show ak xj (aa g {st with next:=st.next+1})=true from h.2];rfl
 ·rw[if_neg h]
  have s1:=aL.alA hg c st hn hr hd (fun e=>by
   cases hs:ak fc (aa g {st with next:=st.next+1})
   ·rfl
   ·exact absurd ⟨by rw[e];rfl,hs⟩ h)
  have ic:=NA g st (by omega);unfold jT
  cases L6:ak qV (aa g (a_ g st).1)
  ·rw[if_neg (by simp)];rw[acH]at L6;exact⟨{c with m:=.one},rfl,Or.inr ⟨rfl,by simpa using L6⟩,s1⟩
  ·rw[if_pos rfl];have ar:=fj L6;rw[acH]at L6;have ai8:=Ai.1 L6;refine⟨{c with m:=.items},rfl,?_,?_⟩
   ·split<;>exact Or.inl rfl
   ·rw[s1];have s2:aL L n {c with m:=.one} (a_ g st).1=aL L n {c with m:=.upto} {(a_ g st).1 with next:=(a_ g st).1.next+1}:=aL.step hg (fun _=>⟨by omega,by rw[ai8];rfl⟩);have s3:=aL.alC hg {c with m:=.upto} rfl {(a_ g st).1 with next:=(a_ g st).1.next+1} (by simp;omega);rw[s2,s3];split
    ·rw[aL.bG (by omega)]
    ·rfl
theorem aL.items(hg:Gd g L n):∀(m:Nat) (c:Sc) (st:RS),st.next<=L.length->L.length-st.next<m->Ft g c st->∃c',c'.o=c.o/\Ft g c' (fu g m st)/\(aa g (fu g m st)= -1\/aa g (fu g m st)=93)/\(fu g m st).next<=L.length/\aL L n c st=aL L n c' (fu g m st)
 |0,c,st,h1,h2,h3=>by omega
 |m+1,c,st,h1,h2,h3=>by
  have hle:=hg.len;unfold fu;by_cases h:aa g st= -1\/ak fQ (aa g st)=true
  ·rw[if_pos h];refine⟨c,rfl,h3,?_,h1,rfl⟩;rcases h with h|h
   ·exact Or.inl h
   ·rw[QN]at h;exact Or.inr (Ai.1 h)
  ·rw[if_neg h];rw[not_or,QN]at h;have ic:=JJ g st (by omega);have ar:=hg.Hq h.1;have h4:=ic.2.2 (by omega);obtain⟨c1,q1,q2,q3⟩:=aL.acU hg c st h1 (h3.ready (by simpa using h.2)) h3.done;obtain⟨c2,p1,p2,p3,p4,p5⟩:=aL.items hg m c1 (cK g st) (by omega) (by omega) q2;exact⟨c2,by rw[p1,q1],p2,p3,p4,by rw[q3,p5]⟩
theorem aL.class_(hg:Gd g L n)(o k:Int)(z:Bool)(st:RS)(hn:st.next<=L.length):∃k' z',aL L n ⟨.class_,o,k,z⟩ st=aL L n ⟨.times,o,k',z'⟩ (iT g st):=by
 have hle:=hg.len
 have key:∀(c:Sc) (s:RS),s.next<=L.length->c.o=o->OJ g c s->kU c.m=false->∃k' z',aL L n c s=aL L n ⟨.times,o,k',z'⟩ (di g fQ (fu g (g.rs.length+1) (cK g s))):=by
  intro c s hs ho hr hd;have ic:=JJ g s (by omega);obtain⟨c1,q1,q2,q3⟩:=aL.acU hg c s hs hr hd;obtain⟨c2,p1,p2,p3,p4,p5⟩:=aL.items hg (g.rs.length+1) c1 (cK g s) (by omega) (by omega) q2;refine⟨c2.n,c2.z,?_⟩;rw[q3,p5];refine aL.yA hg p4 (fun _ h=>?_) (fun _ h1 h2=>?_) (fun _ _=>by rw[p2.done];rfl)
  ·rw[QN]at h;rw[Ai.1 h];obtain⟨m2,o2,k2,z2⟩:=c2;have Mu:o2=o:=by have:=p1.trans (q1.trans ho);exact this
   subst Mu;rcases p2 with h'|⟨h',_⟩<;>(simp only at h';subst h';rfl)
  ·rw[QN]at h2;rcases p3 with h'|h'
   ·exact absurd h' h1
   ·rw[h']at h2;exact absurd h2 (by decide)
 unfold iT bT
 cases hc:ak ij (aa g st)
 ·rw[if_neg (by simp)];rw[acF]at hc;refine key ⟨.class_,o,k,z⟩ st hn rfl (fun _ _=>?_) rfl;show(if(aa g st==94)=true then _ else if(aa g st==93)=true then _ else _)=_
  rw[hc]
  cases ve:(aa g st==93)
  ·rfl
  ·rw[Ai.1 ve];rfl
 ·rw[if_pos rfl];have ar:=fj hc;rw[acF]at hc;have rO:=Ai.1 hc
  obtain⟨k',z',q⟩:=key ⟨.first,o,k,z⟩ {st with next:=st.next+1} (by simp;omega) rfl (fun _ _=>by
   show(if(aa g {st with next:=st.next+1}==93)=true then _ else _)=_
   cases ve:(aa g {st with next:=st.next+1}==93)
   ·rfl
   ·rw[Ai.1 ve];rfl) rfl
  refine⟨k',z',?_⟩;rw[<-q];exact aL.step hg (fun _=>⟨by omega,by rw[rO];rfl⟩)
variable {g:RG} {L:List (Nat×Int)} {n:Int}
theorem R8(r:Int):ak jc r=AL r:=by
 cases h:AL r
 ·cases h2:ak jc r
  ·rfl
  ·have:=Rh h2;unfold AL at h;exact absurd (of_decide_eq_false h) (fun h=>h this)
 ·have hr:97<=r/\r<=122:=by unfold AL at h;exact of_decide_eq_true h
  have:r=97\/r=98\/r=99\/r=100\/r=101\/r=102\/r=103\/r=104\/r=105\/r=106\/r=107\/r=108\/r=109\/r=110\/r=111\/r=112\/r=113\/r=114\/r=115\/r=116\/r=117\/r=118\/r=119\/r=120\/r=121\/r=122:=by omega
  rcases this with h|h|h|h|h|h|h|h|h|h|h|h|h|h|h|h|h|h|h|h|h|h|h|h|h|h<;>subst h<;>rfl
theorem alh{l:List UInt8}{st:RS}{p:Int}(h:st.au.form=some p):(di g l st).au.form=some p:=by
 unfold di;split
 ·exact h
 ·exact aeJ h
theorem aem(first:Nat)(st:RS):(jd g first st).au.form=st.au.form:=by
 unfold jd;split
 ·exact adw (by omega)
 ·rfl
theorem aei(first:Nat):∀(m:Nat) (st:RS),(fB g first m st).au=st.au
 |0,_=>rfl
 |m+1,st=>by
  unfold fB;split
  ·exact aei first m {st with next:=st.next+1}
  ·rfl
theorem Nj(o k:Int)(z:Bool)(r:Int):eB ⟨.name,o,k,z⟩ r=if AL r&&decide (k<8)then some ⟨.name,o,k+1,z⟩else if r==62&&decide (0<k)then some ⟨.begin,o,k,z⟩else none:=rfl
theorem aL.adb(hg:Gd g L n)(o:Int)(z:Bool)(first:Nat):∀(m:Nat) (s:RS),first+1<=s.next->s.next<=first+8->s.next<=L.length->L.length-s.next<m->
 aL L n ⟨.name,o,(s.next:Int)-first,z⟩ s=aL L n ⟨.name,o,((fB g first m s).next:Int)-first,z⟩ (fB g first m s)/\¬((fB g first m s).next<first+8/\ak jc (aa g (fB g first m s))=true)/\first+1<=(fB g first m s).next/\(fB g first m s).next<=L.length
 |0,s,_,_,_,h=>by omega
 |m+1,s,h1,h2,h3,h4=>by
  unfold fB;by_cases hc:s.next<first+8/\ak jc (aa g s)=true
  ·rw[if_pos hc];have ar:=fj hc.2;have hle:=hg.len;have ih:=(aL.adb hg o z first m {s with next:=s.next+1} (by simp;omega) (by simp;omega) (by simp;omega) (by simp;omega));refine⟨?_,ih.2⟩;rw[<-ih.1];have hr:=Rh hc.2;refine aL.step hg (fun _=>⟨by omega,?_⟩);rw[Nj,<-R8,hc.2,Ds (by omega)];simp only[Bool.and_self,if_true];congr 2;simp;omega
  ·rw[if_neg hc];exact⟨rfl,hc,h1,h3⟩
theorem aL.name(hg:Gd g L n)(o:Int)(z:Bool)(st:RS)(hn:st.next<=L.length):∃k' z',aL L n ⟨.name,o,0,z⟩ st=aL L n ⟨.begin,o,k',z'⟩ (jS g st):=by
 have hle:=hg.len
 have s1:aL L n ⟨.name,o,0,z⟩ st=aL L n ⟨.name,o,1,z⟩ (di g jc st):=by
  refine aL.yA hg hn (fun _ h=>?_) (fun _ _ h=>?_) (fun _ _=>rfl)
  ·rw[Nj,<-R8,h];rfl
  ·rw[Nj,<-R8,h];simp
 rw[s1];unfold jS
 cases hf:(di g jc st).au.form with
 |some p=>
  refine⟨0,false,?_⟩;rw[aL.told hf,aL.told (alh (by rw[aem,aei];exact hf))]
 |none=>
  obtain⟨a1,a2,a3⟩:=jE hf;have ar:=fj a1;rw[a3];obtain⟨q1,q2,q3,q4⟩:=aL.adb hg o z st.next (g.rs.length+9) {st with next:=st.next+1} (by simp) (by simp) (by simp;omega) (by simp;omega)
  have e1:(((({st with next:=st.next+1}:RS).next:Nat):Int)-(st.next:Int))=1:=by simp;omega
  rw[e1]at q1;rw[q1];generalize fB g st.next (g.rs.length+9) {st with next:=st.next+1}=s2 at*
  refine⟨(s2.next:Int)-st.next,z,?_⟩;have qN:aa g (jd g st.next s2)=aa g s2:=by unfold aa;rw[Nz]
  rw[show aL L n ⟨.name,o,(s2.next:Int)-st.next,z⟩ s2=aL L n ⟨.name,o,(s2.next:Int)-st.next,z⟩ (jd g st.next s2)from(aL.NQ (aem _ _) (Nz g _ _)).symm];refine aL.yA hg (by rw[Nz];exact q4) (fun _ h=>?_) (fun _ _ h=>?_) (fun _ _=>rfl)
  ·rw[acI]at h;rw[Ai.1 h,Nj,X3,Ds (show 0<(s2.next:Int)-st.next by omega)];rfl
  ·rw[qN]at h⊢;rw[acI]at h;rw[Nj,h,<-R8]
   cases hl:ak jc (aa g s2)
   ·simp
   ·rw[A9 (by intro h';exact q2 ⟨by omega,hl⟩)];simp
theorem aL.head(hg:Gd g L n)(o k:Int)(z:Bool)(st:RS)(hn:st.next<=L.length):∃c',c'.o=o/\v_ g c' (dy g st)/\aL L n ⟨.open_,o,k,z⟩ st=aL L n c' (dy g st):=by
 have hle:=hg.len;unfold dy
 cases hq:ak dG (aa g st)
 ·rw[if_pos rfl];rw[MM]at hq;refine⟨⟨.open_,o,k,z⟩,rfl,fun _ _=>?_,(aL.NQ rfl rfl).symm⟩;show(if(aa g {st with aC:=st.aC+1}==63)=true then _ else _)=_
  rw[show aa g {st with aC:=st.aC+1}=aa g st from rfl,hq];rfl
 ·rw[if_neg (by simp)];have ar:=fj hq;rw[MM]at hq;have QA:=Ai.1 hq;have s1:aL L n ⟨.open_,o,k,z⟩ st=aL L n ⟨.query,o,k,z⟩ {st with next:=st.next+1}:=aL.step hg (fun _=>⟨by omega,by rw[QA];rfl⟩);rw[s1]
  cases hl:ak pH (aa g {st with next:=st.next+1})
  ·rw[if_neg (by simp)];rw[acK]at hl;unfold bT
   cases hi:ak lI (aa g {st with next:=st.next+1})
   ·rw[if_neg (by simp)];rw[acJ]at hi;refine⟨⟨.begin,o,k,z⟩,rfl,fun _ _=>rfl,?_⟩;refine aL.yA hg (by simp;omega) (fun _ h=>?_) (fun _ _ h=>?_) (fun _ _=>rfl)
    ·rw[QL]at h;rw[Ai.1 h];rfl
    ·rw[QL]at h;show(if(aa g {st with next:=st.next+1}==58)=true then _ else if(aa g {st with next:=st.next+1}==105)=true then _ else if(aa g {st with next:=st.next+1}==60)=true then _ else _)=_
     rw[h,hi,hl];rfl
   ·rw[if_pos rfl];have lW:=fj hi;simp only at lW;rw[acJ]at hi;have aS:=Ai.1 hi;have s2:aL L n ⟨.query,o,k,z⟩ {st with next:=st.next+1}=aL L n ⟨.colon,o,k,z⟩ {st with next:=st.next+1+1}:=aL.step hg (st:={st with next:=st.next+1}) (fun _=>⟨by omega,by rw[aS];rfl⟩);rw[s2];refine⟨⟨.begin,o,k,z⟩,rfl,fun _ _=>rfl,?_⟩;refine aL.yA hg (by simp;omega) (fun _ h=>?_) (fun _ _ h=>?_) (fun _ _=>rfl)
    ·rw[QL]at h;rw[Ai.1 h];rfl
    ·rw[QL]at h;show(if(aa g {st with next:=st.next+1+1}==58)=true then _ else _)=_
     rw[h];rfl
  ·rw[if_pos rfl];have lW:=fj hl;simp only at lW;rw[acK]at hl;have uh:=Ai.1 hl;have s2:aL L n ⟨.query,o,k,z⟩ {st with next:=st.next+1}=aL L n ⟨.name,o,0,z⟩ {st with next:=st.next+2}:=aL.step hg (st:={st with next:=st.next+1}) (fun _=>⟨by omega,by rw[uh];rfl⟩);obtain⟨k',z',q⟩:=aL.name hg o z {st with next:=st.next+2,aC:=st.aC+1} (by simp;omega);refine⟨⟨.begin,o,k',z'⟩,rfl,fun _ _=>rfl,?_⟩;rw[s2,<-q];exact(aL.NQ rfl rfl).symm
def J7(g:RG)(L:List (Nat×Int))(n:Int)(aw:RS->RS×PT)(d:Nat):Prop:=∀(c:Sc) (st:RS),st.next<=L.length->L.length-st.next<d->v_ g c st->0<=c.o->(c.o=0->kU c.m=true)->
 ∃c',c'.o=c.o/\v_ g c' (aw st).1/\(c'.o=0->kU c'.m=true)/\aL L n c st=aL L n c' (aw st).1/\(aa g (aw st).1= -1\/aa g (aw st).1=41)
theorem aL.agT(hg:Gd g L n){aw:RS->RS×PT}{d:Nat}(ha:J7 g L n aw d)(jk:tG g aw)(o k:Int)(z:Bool)(ho:0<=o)(st:RS)(hn:st.next<=L.length)(hd:L.length-st.next<d):∃k' z',aL L n ⟨.open_,o+1,k,z⟩ st=aL L n ⟨.times,o,k',z'⟩ (jr g aw st).1:=by
 have hle:=hg.len;obtain⟨c1,q1,q2,q3⟩:=aL.head hg (o+1) k z st hn;have ic:=RH g st (by omega);obtain⟨c2,p1,p2,p3,p4,p5⟩:=ha c1 (dy g st) (by omega) (by omega) q2 (by omega) (by omega);have VN:=jk (dy g st) (by omega);refine⟨c2.n,c2.z,?_⟩;rw[q3,p4];unfold jr;refine aL.yA hg (by omega) (fun hf h=>?_) (fun _ h1 h2=>?_) (fun _ _=>?_)
 ·rw[QM]at h;have h':=Ai.1 h;have:=p2 hf (by omega);rw[h']at this⊢;rw[this];obtain⟨m2,o2,k2,z2⟩:=c2;have Mu:o2=o+1:=by have:=p1.trans q1;exact this
  subst Mu;show(if 0<=o+1-1 then _ else _)=_
  rw[if_pos (by omega),show o+1-1=o from by omega]
 ·rw[QM]at h2;rcases p5 with h'|h'
  ·exact absurd h' h1
  ·rw[h']at h2;exact absurd h2 (by decide)
 ·have:c2.o=o+1:=by rw[p1,q1]
  rw[this,show((o+1==0)=false)from by simp;omega];simp
theorem aL.atom(hg:Gd g L n){aw:RS->RS×PT}{d:Nat}(ha:J7 g L n aw d)(jk:tG g aw)(c:Sc)(ho:0<=c.o)(st:RS)(hn:st.next<=L.length)(hd:L.length-st.next<=d)(hr:v_ g c st)(h1:aa g st≠ -1)(h2:ak jQ (aa g st)=false):
 ∃k' z',aL L n c st=aL L n ⟨.times,c.o,k',z'⟩ (bD g aw st).1:=by
 have hle:=hg.len;have ar:=hg.Hq h1;obtain⟨m,o,k,z⟩:=c
 have PA:(aa g st==124)=false/\(aa g st==41)=false:=by
  rw[show ak jQ (aa g st)=(ak lD (aa g st)||ak vD (aa g st))from zJ lD vD _,acE,QM,Eq]at h2;exact h2
 have Sa:∀r c',aa g st=r->nk ⟨m,o,k,z⟩ r=some c'->aL L n ⟨m,o,k,z⟩ st=aL L n c' {st with next:=st.next+1}:=by
  intro r c' mB hs;refine aL.step hg (fun hf=>⟨h1,?_⟩);rw[hr hf h1,mB];exact hs
 unfold bD;rw[aj3,aj4,Jt]
 cases g1:(aa g st==40)
 ·cases g2:(aa g st==91)
  ·cases g3:(aa g st==92)
   ·simp only[Ag,if_false]
    cases g4:ak uz (aa g st)
    ·rw[if_neg (by simp)];refine⟨k,z,?_⟩;have i_:ak Jw (aa g st)=ak Jz (aa g st):=rfl
     have qJ:∀r,r=aa g st->nk ⟨m,o,k,z⟩ r=if ak Jw r then none else some ⟨.times,o,k,z⟩:=by
      intro r mB;rw[show uz=[46]++([94]++[36])from rfl,zJ,zJ,kY,kY,kY,Eq,Eq]at g4;unfold nk;rw[mB,PA.1,PA.2,g1,g2,g3,show(aa g st==46)=false from g4.1,show(aa g st==94)=false from g4.2.1,show(aa g st==36)=false from g4.2.2];rfl
     refine aL.WU hg hn (fun hf aF h=>?_) (fun hf aF h=>?_) (fun hf he=>absurd he h1)
     ·rw[hr hf aF,qJ _ rfl,i_,h];rfl
     ·rw[hr hf aF,qJ _ rfl,i_,h];rfl
    ·rw[if_pos rfl];refine⟨k,z,?_⟩;refine Sa _ _ rfl ?_;rw[show uz=[46]++([94]++[36])from rfl,zJ,zJ,kY,kY,kY,Bo,Bo]at g4;rcases g4 with h|h|h<;>(rw[Ai.1 h];rfl)
   ·simp only[Ag,if_false,if_true];have UE:=Ai.1 g3;refine⟨k,z,?_⟩;rw[Sa 92 ⟨.escape,o,k,z⟩ UE rfl];refine aL.yA hg (by simp;omega) (fun _ h=>?_) (fun _ _ h=>?_) (fun _ _=>rfl)
    ·show(if(ak mD _||ak DW _)=true then _ else _)=_
     rw[<-aa2,h];rfl
    ·show(if(ak mD _||ak DW _)=true then _ else _)=_
     rw[<-aa2,h];rfl
  ·simp only[Ag,if_false,if_true];have UD:=Ai.1 g2;obtain⟨k',z',q⟩:=aL.class_ hg o k z {st with next:=st.next+1} (by simp;omega);exact⟨k',z',by rw[Sa 91 ⟨.class_,o,k,z⟩ UD rfl,q]⟩
 ·simp only[if_true];have UC:=Ai.1 g1;obtain⟨k',z',q⟩:=aL.agT hg ha jk o k z ho {st with next:=st.next+1} (by simp;omega) (by simp;omega);exact⟨k',z',by rw[Sa 40 ⟨.open_,o+1,k,z⟩ UC rfl,q]⟩
theorem aL.XW(hg:Gd g L n){aw:RS->RS×PT}{d:Nat}(ha:J7 g L n aw d)(jk:tG g aw):∀(m:Nat) (c:Sc) (st:RS) (aA:List PT),st.next<=L.length->L.length-st.next<m->L.length-st.next<=d->v_ g c st->0<=c.o->(c.o=0->kU c.m=true)->
 ∃c',c'.o=c.o/\v_ g c' (eA g aw m st aA).1/\(c'.o=0->kU c'.m=true)/\aL L n c st=aL L n c' (eA g aw m st aA).1/\(aa g (eA g aw m st aA).1= -1\/ak jQ (aa g (eA g aw m st aA).1)=true)
 |0,_,_,_,_,h,_,_,_,_=>by omega
 |m+1,c,st,aA,h1,h2,h3,h4,h5,h6=>by
  have hle:=hg.len;unfold eA;by_cases he:aa g st= -1\/ak jQ (aa g st)=true
  ·rw[if_pos he];exact⟨c,rfl,h4,h6,rfl,he⟩
  ·rw[if_neg he];rw[not_or]at he;have ar:=hg.Hq he.1;obtain⟨k1,z1,q1⟩:=aL.atom hg ha jk c h5 st h1 h3 h4 he.1 (by simpa using he.2);have kt:=JI g aw jk st (by omega);have sZ:=kt.2.2 (by omega);obtain⟨c2,p1,p2,p3,p4⟩:=aL.ana hg c.o k1 z1 (bD g aw st).2 (bD g aw st).1 (by omega);have VC:=NC g (bD g aw st).2 (bD g aw st).1 (by omega);obtain⟨c3,r1,r2,r3,r4,r5⟩:=aL.XW hg ha jk m c2 (dU g (bD g aw st).2 (bD g aw st).1).1 (aA++[(dU g (bD g aw st).2 (bD g aw st).1).2]) (by omega) (by omega) (by omega) p3 (by omega) (fun _=>p2);exact⟨c3,by rw[r1,p1],r2,r3,by rw[q1,p4,r4],r5⟩
theorem aL.ZY(hg:Gd g L n){aw:RS->RS×PT}{d:Nat}(ha:J7 g L n aw d)(jk:tG g aw):∀(m:Nat) (c:Sc) (st:RS) (aA:List PT),st.next<=L.length->L.length-st.next<m->L.length-st.next<=d->v_ g c st->0<=c.o->(c.o=0->kU c.m=true)->(aa g st= -1\/ak jQ (aa g st)=true)->
 ∃c',c'.o=c.o/\v_ g c' (eE g aw m st aA).1/\(c'.o=0->kU c'.m=true)/\aL L n c st=aL L n c' (eE g aw m st aA).1/\(aa g (eE g aw m st aA).1= -1\/aa g (eE g aw m st aA).1=41)
 |0,_,_,_,_,h,_,_,_,_,_=>by omega
 |m+1,c,st,aA,h1,h2,h3,h4,h5,h6,h7=>by
  have hle:=hg.len;unfold eE
  cases hb:ak lD (aa g st)
  ·rw[if_neg (by simp)];refine⟨c,rfl,h4,h6,rfl,?_⟩;rcases h7 with h|h
   ·exact Or.inl h
   ·rw[show ak jQ (aa g st)=(ak lD (aa g st)||ak vD (aa g st))from zJ lD vD _,hb,QM]at h;exact Or.inr (by simpa using h)
  ·rw[if_pos rfl];have ar:=fj hb;rw[acE]at hb;have fg:=Ai.1 hb;have s1:aL L n c st=aL L n {c with m:=.begin} {st with next:=st.next+1}:=aL.step hg (fun hf=>⟨by omega,by rw[h4 hf (by omega),fg];rfl⟩);obtain⟨c2,p1,p2,p3,p4,p5⟩:=aL.XW hg ha jk (g.rs.length+1) {c with m:=.begin} {st with next:=st.next+1} [] (by simp;omega) (by simp;omega) (by simp;omega) (fun _ _=>rfl) h5 (fun _=>rfl);have kt:=RL g aw jk (g.rs.length+1) {st with next:=st.next+1} [] (by simp;omega);simp only at kt;obtain⟨c3,r1,r2,r3,r4,r5⟩:=aL.ZY hg ha jk m c2 (cU g aw {st with next:=st.next+1}).1 (aA++[(cU g aw {st with next:=st.next+1}).2]) (by show(eA g aw (g.rs.length+1) {st with next:=st.next+1} []).1.next<=_;omega) (by show L.length-(eA g aw (g.rs.length+1) {st with next:=st.next+1} []).1.next<m;omega) (by show L.length-(eA g aw (g.rs.length+1) {st with next:=st.next+1} []).1.next<=d;omega) p2 (by rw[p1];exact h5) p3 p5;exact⟨c3,by rw[r1,p1],r2,r3,by rw[s1,p4,<-r4];rfl,r5⟩
theorem aL.aw(hg:Gd g L n):∀k,J7 g L n (aE g k) k
 |0=>fun _ _ _ h _ _ _=>by omega
 |k+1=>fun c st h1 h2 h3 h4 h5=>by
  have hle:=hg.len;have jk:=xv g k;obtain⟨c2,p1,p2,p3,p4,p5⟩:=aL.XW hg (aL.aw hg k) jk (g.rs.length+1) c st [] h1 (by omega) (by omega) h3 h4 h5;have kt:=RL g (aE g k) jk (g.rs.length+1) st [] (by omega);obtain⟨c3,r1,r2,r3,r4,r5⟩:=aL.ZY hg (aL.aw hg k) jk (g.rs.length+1) c2 (cU g (aE g k) st).1 [(cU g (aE g k) st).2] (by show(eA g (aE g k) (g.rs.length+1) st []).1.next<=_;omega) (by omega) (by show L.length-(eA g (aE g k) (g.rs.length+1) st []).1.next<=k;omega) p2 (by rw[p1];exact h4) p3 p5;exact⟨c3,by rw[r1,p1],r2,r3,p4.trans r4,r5⟩
theorem abl(hg:Gd g L n)(st:RS)(h0:st.next=0)(hf:st.au.form=none):(dw g st).1.au.form=ml n jU L:=by
 have hle:=hg.len;obtain⟨c2,p1,p2,p3,p4,p5⟩:=aL.aw hg (g.rs.length+1) jU st (by omega) (by omega) (fun _ _=>rfl) (by decide) (fun _=>rfl);have hO:aL L n jU st=ml n jU L:=by rw[aL.not hf,h0];rfl
 have hn:=(xv g (g.rs.length+1) st (by omega)).2;have ho:c2.o=0:=p1;rw[hO]at p4;unfold dw;by_cases he:aa g (aE g (g.rs.length+1) st).1= -1
 ·rw[if_pos he]
  cases sV:(aE g (g.rs.length+1) st).1.au.form with
  |some p=>rw[aL.told sV]at p4;exact p4.symm
  |none=>
   rw[aL.not sV,(hg.end_ (by omega) he).2.1,show ml n c2 []=if kU c2.m&&c2.o==0 then none else some n from rfl,p3 ho,ho]at p4;rw[p4];rfl
 ·rw[if_neg he];have IF:aa g (aE g (g.rs.length+1) st).1=41:=p5.resolve_left he
  have s1:aL L n c2 (aE g (g.rs.length+1) st).1=aL L n c2 (mJ g (aE g (g.rs.length+1) st).1):=by
   refine aL.stop hg (by omega) (fun sV aF=>?_) (fun _ h=>absurd h he);rw[p2 sV aF,IF];obtain⟨m2,o2,k2,z2⟩:=c2;have Mu:o2=0:=ho;subst Mu;rfl
  cases sV:(mJ g (aE g (g.rs.length+1) st).1).au.form with
  |some p=>rw[s1,aL.told sV]at p4;exact p4.symm
  |none=>exact absurd sV (ET g _)
end Go.Proofs.YtmbpfhlnifdhgaaGreatDoor
