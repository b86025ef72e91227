/- Package marks -/
import Derived.Test.YtpdnofhackjfdaaGreatDoorP30
import Derived.Test.YtpdnofhackjfdaaGreatDoorP32
set_option linter.all false
set_option maxRecDepth 100000
set_option maxHeartbeats 4000000
namespace Go.Proofs.YtpdnofhackjfdaaGreatDoor
open Go.Proofs.Tryz
open Go.RowKit Go.Maps
variable {a b base c cap g m n off s sz:Nat} {S:bD} {v:Value} {w w':World}
theorem ado{e size:Nat}{xs:List Value}(h:w.ownsRow base e size (.slice (some ⟨g,0,none⟩) n c) n xs):(∀i,i<xs.length->w.cell? ⟨g,i,none⟩=xs[i]?)/\(∀i,w.frozen? ⟨g,i,none⟩=false)/\g<w.heap.size:=by
 rcases h.2 with⟨h1,_⟩|⟨b,cap,aL,h3,h4,h5,h6,h7,h8,h9⟩
 ·cases h1
 ·cases h3;refine⟨fun i hi=>?_,fun i=>by simp[World.frozen?,h5],(Ak.1 h5).1⟩
  rw[<-h9,Av (by rw[<-h.1];exact hi)];simp only[World.cell?,h5];simp
theorem ae3(l k:List bF):eF (l++k)=eF l++eF k:=by unfold eF;simp
theorem aoh(D r:List bF)(t:bF)(s:Int):(eF (D++t::r)).set (D.length*2+1) (.int .i64 s)=eF (D++(t.1,s)::r):=by
 rw[ae3,ae3,Eh _ _ (by rw[He];omega),He,show D.length*2+1-D.length*2=1 by omega];rfl
theorem Tryz.ajM:(prog.info? 3).map (fun i=>(i.zero,i.size,i.bytes))=some (some (.int .i64 0),1,8):=by kernel_rfl
structure KE(w wr:World)(lv hv:Value)(lb:Nat)(l D:List bF)(H:List Int)(k:Nat):Prop where
 len:D.length=k
 row:wr.ownsRow 0 256 2 lv l.length (eF (D++l.drop k))
 aJ:wr.ownsRow w.heap.size 3 1 hv H.length (cH H)
 e1:(fO l).1=D++(gD (l.drop k) H).1
 e2:(fO l).2=(gD (l.drop k) H).2
 bT:H.length<=k
 kept:aa (fun i=>l≠ []/\i=lb) w wr
theorem amV{lv:Value}{l:List bF}(h:w.ownsRow 0 256 2 lv l.length (eF l))(hl:l.length<=10000):
 Calls prog 239 #[lv] w fun e w'=>∃hv,e=.returned hv/\w'.ownsRow 0 256 2 lv l.length (eF (fO l).1)/\w'.ownsRow w.heap.size 3 1 hv (fO l).2.length (cH (fO l).2)/\aa (fun i=>lv.ownBlock=some i) w w':=by
 obtain⟨lb,a,c,hv,hT,ki⟩:=pD.of h;have dr:Hid (KE w w lv (.slice none 0 0) lb l [] [] 0):=⟨rfl,h,A7 _ _ _ _,rfl,rfl,Ab _,aa.refl _ _⟩;have CR:=ab ki;have HA:=ab hT.at_;obtain⟨ii,AK,Mz,Gl,oe⟩:=Bo Tryz.ajM;clear h hT ki;subst hv;go_in;go_wp2_with fail;go_loopg [3,8] l.length (fun kk v3 v8 wr=>∃(k:Nat) (D:List bF) (H:List Int),v8=.int .i64 (k:Int)/\k<=l.length/\kk=l.length-k/\Hid (KE w wr (.slice a l.length c) v3 lb l D H k))
 case atStart=>exact⟨0,[],[],rfl,Am _,rfl,dr⟩
 case round=>
  obtain⟨k,D,H,rfl,hk,eT,HI⟩:=hrel;clear dr;obtain⟨ah,ch,Qq⟩:=cA HI.out.aJ;subst Qq;by_cases aw:k<l.length
  ·have jH:(k:Int)<(l.length:Int):=(by omega);have az:l≠ []:=by intro e;subst e;simp at aw
   obtain⟨IY,_⟩:=HA.out az;have Vd:=CR.out az;subst IY;have vC:l.drop k=l[k]::l.drop (k+1):=Bu aw;have dL:=HI.out.row;have cT:=HI.out.len;rw[vC]at dL;have ID:(D++l[k]::l.drop (k+1)).length=l.length:=by simp;omega
   obtain⟨fa,pJ,ai0⟩:=ado dL;have rF:=RD (l:=D++l[k]::l.drop (k+1)) (k:=k) (by rw[ID];exact aw)
   have hek:(D++l[k]::l.drop (k+1))[k]'(by rw[ID];exact aw)=l[k]:=by
    rw[List.getElem_append_right (by omega)];simp[cT]
   rw[hek]at rF;have z1:wr.cell? ⟨lb,k*2,none⟩=some (.int .i64 (l[k]).1):=(fa (k*2) (by rw[He,ID];omega)).trans rF.1;have z2:wr.cell? ⟨lb,k*2+1,none⟩=some (.int .i64 (l[k]).2):=(fa (k*2+1) (by rw[He,ID];omega)).trans rF.2;have zf:=pJ (k*2+1);obtain⟨tu,uf⟩:∃tu,(l[k]).1=tu:=⟨_,rfl⟩
   obtain⟨ts,qH⟩:∃ts,(l[k]).2=ts:=⟨_,rfl⟩
   rw[uf]at z1;rw[qH]at z2;have Vu:l[k]=(tu,ts):=Prod.ext uf qH
   have Ie:Hid (∀(w5:World) (gR:Value),w5.ownsRow w.heap.size 3 1 gR (c_ H ts).length (cH (c_ H ts))->aa (fun i=>(Value.slice ah H.length ch).ownBlock=some i) wr w5->w5.cell? ⟨lb,k*2+1,none⟩=some (.int .i64 ts)/\w5.frozen? ⟨lb,k*2+1,none⟩=false/\KE w (w5.setCell ⟨lb,k*2+1,none⟩ (.int .i64 (((c_ H ts).length:Int)-1))) (.slice (some ⟨lb,0,none⟩) l.length c) gR lb l (D++[(tu,((c_ H ts).length:Int)-1)]) (c_ H ts) (k+1)):=fun w5 gR hh5 k5=>by
    have uc:∀i,(Value.slice ah H.length ch).ownBlock=some i->i≠lb:=fun i hi e=>by
     have h1:=(dw HI.out.aJ hi).1;have vE:=HI.out.kept.size;have h2:lb<w.heap.size:=(HA.out az).2;omega
    have r5:=bR dL k5 (fun i hi hx=>uc i hx (by simp only[Value.ownBlock,A9]at hi;exact hi.symm));obtain⟨q1,q2,q3⟩:=ado r5;have ks:aa (fun i=>i=lb) w5 (w5.setCell ⟨lb,k*2+1,none⟩ (.int .i64 (((c_ H ts).length:Int)-1))):=(aa.refl (fun i=>i=lb) w5).setCell (p:=⟨lb,k*2+1,none⟩) (Or.inl rfl) _;have PI:(c_ H ts).length<=H.length+1:=by unfold c_;split<;>simp
    have apM:lb<w.heap.size:=(HA.out az).2;refine⟨(q1 (k*2+1) (by rw[He,ID];omega)).trans (by rw[rF.2,qH]),q2 _,⟨by simp[cT],?_,?_,?_,?_,by have:=HI.out.bT;omega,?_⟩⟩
    ·have:=yU r5 (k*2+1) (.int .i64 (((c_ H ts).length:Int)-1));have hs:=aoh D (l.drop (k+1)) l[k] (((c_ H ts).length:Int)-1);rw[cT]at hs;rw[hs,uf]at this;rw[Bw];exact this
    ·exact bR hh5 ks (fun i hi hx=>by have:=(dw hh5 hi).1;omega)
    ·have:=HI.out.e1;rw[vC,Vu]at this;rw[this,Bw];rfl
    ·have:=HI.out.e2;rw[vC,Vu]at this;rw[this];rfl
    ·exact(HI.out.kept.bV k5 (fun i hi hx=>by have:=(dw HI.out.aJ hx).1;omega)).trans (ks.mono (fun i hx=>⟨az,hx⟩))
   have HH:=ab HI.out.aJ;have hHk:H.length<=10000:=by have:=HI.out.bT;omega
   have aca:=HI.out.kept.size;clear fa pJ rF hek dL vC Vu uf qH ID;have qI:lb<wr.heap.size:=ai0
   have SJ:Hid (∀(w5:World),aa af wr w5->c_ H ts=H->w5.cell? ⟨lb,k*2+1,none⟩=some (.int .i64 ts)/\w5.frozen? ⟨lb,k*2+1,none⟩=false/\KE w (w5.setCell ⟨lb,k*2+1,none⟩ (.int .i64 ((H.length:Int)-1))) (.slice (some ⟨lb,0,none⟩) l.length c) (.slice ah H.length ch) lb l (D++[(tu,(H.length:Int)-1)]) H (k+1)):=fun w5 k5 e=>by
    have:=Ie.out w5 (.slice ah H.length ch) (by rw[e];exact bR HH.out k5 (fun _ _ hx=>hx)) (k5.mono (fun _ hx=>hx.elim));rw[e]at this;exact this
   have AP:Hid (∀(W w5:World) (gR:Value),aa af wr W->c_ H ts=H++[ts]->w5.ownsRow w.heap.size 3 1 gR (H.length+1) (cH H++[.int .i64 ts])->W.grownBy w5 (Value.slice ah H.length ch).ownBlock->w5.cell? ⟨lb,k*2+1,none⟩=some (.int .i64 ts)/\w5.frozen? ⟨lb,k*2+1,none⟩=false/\KE w (w5.setCell ⟨lb,k*2+1,none⟩ (.int .i64 (H.length:Int))) (.slice (some ⟨lb,0,none⟩) l.length c) gR lb l (D++[(tu,(H.length:Int))]) (H++[ts]) (k+1)):=fun W w5 gR k0 e bk dK=>by
    have o7:(((c_ H ts).length:Int)-1)=(H.length:Int):=by rw[e];simp
    have:=Ie.out w5 gR (by rw[e,Aj];rw[show cH (H++[ts])=cH H++[.int .i64 ts] by unfold cH;simp];exact bk) ((k0.mono (fun _ hx=>hx.elim)).eN dK (fun j hj=>Or.inl hj));rw[o7,e]at this;exact this
   clear Ie HI;have oh:k*2+1<100000:=(by omega);by_cases tT:c_ H ts=H
   ·have t_:H.getLast?=some ts:=by rw[<-tT];exact abp H ts
    have I0:H≠ []:=by intro e;rw[e]at t_;cases t_
    obtain⟨m,hm⟩:∃m,H.length=m+1:=⟨H.length-1,by have:=Bp.2 I0;omega⟩
    obtain⟨hb,cb,e1,_,gz,_,iD,_⟩:=my HH.out (by omega);obtain⟨eA,eC⟩:ah=some ⟨hb,0,none⟩/\ch=cb:=by simpa using e1
    clear e1;subst eC
    have zl:wr.cell? ⟨hb,m,none⟩=some (.int .i64 ts):=by
     rw[iD m (by omega)];rw[Eq,hm,Ct]at t_;unfold cH;rw[Bv,t_];rfl
    have zt:=(ab fun(w5:World) (k5:aa af wr w5)=>SJ.out w5 k5 tT);clear AP SJ iD t_;have ajs:((m+1:Nat):Int)-1=(m:Int):=(by omega);rw[hm,ajs]at zt;rw[hm];subst eA;have I9:((m+1:Nat):Int)-1=(m:Int):=(by omega);have hz:(((m:Int)+1)==0)=false:=by simp;omega
    have aqd:(m:Int)+1-1=(m:Int):=(by omega);go_wp2_with fail;go_big_quiet (fail);have kA:aa af wr ((wr.alloc (.cells #[.int .i64 tu,.int .i64 ts] 256)).drewN nq):=((aa.refl af wr).alloc _).drewN nq;obtain⟨p1,p2,p3⟩:=zt.out _ kA;have ax:=ab p3;generalize(wr.alloc (.cells #[.int .i64 tu,.int .i64 ts] 256)).drewN nq=wa at*;clear p3 zt HH kA z1 z2 zf zl;go_wp2_with fail;go_roundg (l.length-(k+1))
    case measure=>omega
    case rel=>exact⟨k+1,_,H,by simp,by omega,rfl,by rw[hm]at*;exact ax⟩
   ·have LK:c_ H ts=H++[ts]:=by
     unfold c_ at tT⊢;split
     ·rename_i hx;rw[if_pos hx]at tT;exact absurd rfl tT
     ·rfl
    have zt:=(ab fun(W w5:World) (gR:Value) (k0:aa af wr W) (ho:w5.ownsRow w.heap.size 3 1 gR (H.length+1) (cH H++[.int .i64 ts])) (dK:W.grownBy w5 (Value.slice ah H.length ch).ownBlock)=>AP.out W w5 gR k0 LK ho dK);have apK:w.heap.size<=wr.heap.size:=aca;clear AP SJ;by_cases I0:H=[]
    case' pos=>
     have hz:((H.length:Int)==0)=true:=by rw[I0];rfl
     clear I0;go_wp2_with fail;go_big_quiet (fail)
    case' neg=>
     obtain⟨m,hm⟩:∃m,H.length=m+1:=⟨H.length-1,by have:=Bp.2 I0;omega⟩
     obtain⟨hb,cb,e1,_,gz,_,iD,_⟩:=my HH.out (by omega);obtain⟨eA,eC⟩:ah=some ⟨hb,0,none⟩/\ch=cb:=by simpa using e1
     clear e1;subst eC;obtain⟨L0,Po⟩:∃L0,H.getLast?=some L0:=⟨_,D7 I0⟩
     have zl:wr.cell? ⟨hb,m,none⟩=some (.int .i64 L0):=by
      rw[iD m (by omega)];rw[Eq,hm,Ct]at Po;unfold cH;rw[Bv,Po];rfl
     have aja:L0≠ts:=fun e=>by
      unfold c_ at LK;rw[if_pos (by rw[Po,e])]at LK;have:=congrArg List.length LK;simp at this
     have hz:((H.length:Int)==0)=false:=by simp;omega
     have cY:¬(H.length:Int)=0:=(by omega);have I9:(H.length:Int)-1=(m:Int):=(by omega);have ub:¬(H.length:Int)<=(m:Int):=(by omega);have hbq:(L0==ts)=false:=(by simpa using aja);have HMM:=ab hm;clear iD Po LK hm;subst eA;go_wp2_with fail;go_big_quiet (fail)
    all_goals
     have kA:aa af wr ((wr.alloc (.cells #[.int .i64 tu,.int .i64 ts] 256)).drewN nq):=((aa.refl af wr).alloc _).drewN nq;have HK:=ab kA;have fi:=ab (bR HH.out kA (fun _ _ hx=>hx));have Uo:((wr.alloc (.cells #[.int .i64 tu,.int .i64 ts] 256)).drewN nq).cell? ⟨wr.heap.size,1,none⟩=some (.int .i64 ts):=(aq.new wr #[.int .i64 tu,.int .i64 ts] 256).cell 1;have Vn:=kA.size;generalize(wr.alloc (.cells #[.int .i64 tu,.int .i64 ts] 256)).drewN nq=wa at*;clear kA HH;go_wp2_with (at_builtin;refine Ao _ rfl _ _ 22 rfl w.heap.size 3 ii _ 1 8 underlying22 AK Mz Gl oe rfl (by decide) _ _ _ rfl (fi.out.alloc _) ⟨wa.heap.size,0,none⟩ 1 1 [.int .i64 ts] rfl rfl ?c1 ?c2 ?c3 ?c4 ?c5 ?_)
     case c1=>exact GK _ _
     case c2=>exact vJ _
     case c3=>unfold maxLen;omega
     case c4=>omega
     case c5=>simp;omega
     intro v' w7 bG bY dX cx;obtain⟨jd,c',rfl⟩:=cA bG;obtain⟨p1,p2,p3⟩:=zt.out _ _ _ (HK.out.alloc _) bG bY;have ax:=ab p3;clear bG bY dX cx p3 zt fi HK;go_wp2_with fail;go_roundg (l.length-(k+1))
     case measure=>omega
     case rel=>exact⟨k+1,_,H++[ts],by simp,by omega,rfl,ax⟩
  ·have jH:¬(k:Int)<(l.length:Int):=by omega
   have ax:Hid (wr.ownsRow 0 256 2 (.slice a l.length c) l.length (eF (fO l).1)/\wr.ownsRow w.heap.size 3 1 (.slice ah H.length ch) (fO l).2.length (cH (fO l).2)/\aa (fun i=>(Value.slice a l.length c).ownBlock=some i) w wr):=by
    have e1:=HI.out.e1;have e2:=HI.out.e2;have hr:=HI.out.row;have hd:l.drop k=[]:=Fb (by omega);rw[hd]at e1 e2 hr;have tL:(fO l).1=D++[]:=e1;have Tz:(fO l).2=H:=e2;refine⟨by rw[tL];exact hr,by rw[Tz];exact HI.out.aJ,?_⟩;exact HI.out.kept.mono (fun i hx=>by rw[hx.2];exact CR.out hx.1)
   clear HI;go_wp2_with fail;go_ret;exact⟨_,rfl,ax.out⟩
def oP(w:World)(g off n sz:Nat):Prop:=∃aL:Array Value,w.heap[g]? =some (.cells aL 21 (0,0))/\aL.size=sz/\off+n<=sz/\∀t,t<n->∃r:Int,aL[off+t]? =some (.int .i32 r)
theorem oP.iQ(h:oP w g off n sz):∃G:Nat->Int,(∀t,t<n->w.cell? ⟨g,off+t,none⟩=some (.int .i32 (G t)))/\∀t,t<n->w.frozen? ⟨g,off+t,none⟩=false:=by
 obtain⟨aL,h1,h2,h3,h4⟩:=h;refine⟨fun t=>match aL[off+t]? with|some (.int _ r)=>r|_=>0,fun t ht=>?_,fun t ht=>by simp[World.frozen?,h1]⟩;obtain⟨r,hr⟩:=h4 t ht;simp only[World.cell?,h1];simp[hr]
theorem oP.lt(h:oP w g off n sz):g<w.heap.size:=by
 obtain⟨aL,h1,_⟩:=h;exact(Ak.1 h1).1
theorem oP.kept{K:Nat->Prop}(h:oP w g off n sz)(k:aa K w w')(hg:¬K g):oP w' g off n sz:=by
 have hl:=h.lt;obtain⟨aL,h1,h2⟩:=h;exact⟨aL,(k.block g hl hg).trans h1,h2⟩
theorem bI{p:Prop}(h:p):Hid p:=h
def dJ:Value->Int|.int _ q=>q|_=>0
theorem jx(x y:Int)(W:World):Calls prog 155 #[.int .i32 x,.int .i32 y] W fun e w'=>e=.returned (.bool (decide (x<y)))/\w'=W:=by
 go_enter func155,ntmps155
 go_wp2_with (first|(go_at_call 174;refine(ack _ _).mono ?_;rintro e w' ⟨rfl,rfl⟩)|fail)
 go_ret
 exact⟨rfl,rfl⟩
structure DH(w:World)(s m:Nat)(w':World)(m':Nat):Prop where
 ak:aq w' s #[.int .i64 (m':Int)] 3
 kept:aa (fun i=>i=s) w w'
theorem DH.row{m':Nat}(h:DH w s m w' m')(hR:oP w g off n sz)(az:g≠s):oP w' g off n sz:=hR.kept h.kept az
theorem Wk(hR:oP w g off n sz)(hS:aq w s #[.int .i64 (m:Int)] 3)(ha:a<n)(hb:b<n)(hm:m<=100)(hn:n<4611686018427387904):
 Calls prog 190 #[.slice (some ⟨g,off,none⟩) n cap,.int .i64 (a:Int),.int .i64 (b:Int),.pointer (some ⟨s,0,none⟩)] w fun e w'=>∃x y m':Nat,e=.returned (.tuple #[.int .i64 (x:Int),.int .i64 (y:Int)])/\(x=a/\y=b\/x=b/\y=a)/\m'<=m+1/\DH w s m w' m':=by
 obtain⟨G,bj,bM⟩:=hR.iQ;have c0:w.cell? ⟨s,0,none⟩=some (.int .i64 (m:Int)):=hS.cell 0;have f0:w.frozen? ⟨s,0,none⟩=false:=hS.frozen 0;have fM:=hS.lt;have HS:=bI hS;clear hS hR;go_enter func190,ntmps190;go_wp2_with fail;go_quiet (first|(go_at_call 155;refine As (jx _ _ _)));go_wp2_with fail
 ·go_ret2
  refine⟨b,a,m+1,rfl,Or.inr ⟨rfl,rfl⟩,Ab _,?_,?_⟩
  ·have:=aq.setCell (w:=w.drewN nq) (b:=s) (cs:=#[.int .i64 (m:Int)]) (t:=3) HS.out 0 (.int .i64 ((m:Int)+1));simpa using this
  ·exact((aa.refl (fun i=>i=s) w).drewN _).setCell (p:=⟨s,0,none⟩) (Or.inl rfl) _
 ·go_ret2
  exact⟨a,b,m,rfl,Or.inl ⟨rfl,rfl⟩,by omega,HS.out,(aa.refl (fun i=>i=s) w).drewN _⟩
theorem acK(hR:oP w g off n sz)(hS:aq w s #[.int .i64 (m:Int)] 3)(kR:g≠s)(ha:a<n)(hb:b<n)(hc:c<n)(hm:m<=50)(hn:n<4611686018427387904):
 Calls prog 179 #[.slice (some ⟨g,off,none⟩) n cap,.int .i64 (a:Int),.int .i64 (b:Int),.int .i64 (c:Int),.pointer (some ⟨s,0,none⟩)] w fun e w'=>∃x m':Nat,e=.returned (.int .i64 (x:Int))/\(x=a\/x=b\/x=c)/\m'<=m+3/\DH w s m w' m':=by
 go_enter func179,ntmps179
 go_wp2_with fail
 refine(Wk hR hS ha hb (by omega) hn).mono ?_;rintro e w1 ⟨x1,y1,m1,rfl,aqo,U8,P1⟩;have R1:=P1.row hR kR;clear hR hS;go_wp2_with fail;refine(Wk R1 P1.ak (show y1<n by omega) hc (by omega) hn).mono ?_;rintro e w2 ⟨x2,y2,m2,rfl,aqp,Qa,P2⟩;have R2:=P2.row R1 kR;go_wp2_with fail;refine(Wk R2 P2.ak (show x1<n by omega) (show x2<n by omega) (by omega) hn).mono ?_;rintro e w3 ⟨x3,y3,m3,rfl,aqq,hm3,P3⟩;clear R1 R2;go_wp2_with fail;go_ret;exact⟨y3,m3,rfl,by omega,by omega,P3.ak,(P1.kept.trans P2.kept).trans P3.kept⟩
theorem akI(hR:oP w g off n sz)(hS:aq w s #[.int .i64 (m:Int)] 3)(kR:g≠s)(ha:1<=a/\a+1<n)(hm:m<=50)(hn:n<4611686018427387904):
 Calls prog 178 #[.slice (some ⟨g,off,none⟩) n cap,.int .i64 (a:Int),.pointer (some ⟨s,0,none⟩)] w fun e w'=>∃x m':Nat,e=.returned (.int .i64 (x:Int))/\(a-1<=x/\x<=a+1)/\m'<=m+3/\DH w s m w' m':=by
 have F:=acK (cap:=cap) hR hS kR (show a-1<n by omega) (show a<n by omega) (show a+1<n by omega) hm hn;have e1:((a-1:Nat):Int)=(a:Int)-1:=by omega
 have e2:((a+1:Nat):Int)=(a:Int)+1:=by omega
 rw[e1,e2]at F;have F:=bI F;clear hR hS e1 e2;go_enter func178,ntmps178;go_wp2_with fail;refine(F.out).mono ?_;rintro e w1 ⟨x,m',rfl,hx,fR,P⟩;go_wp2_with fail;go_ret;exact⟨x,m',rfl,by omega,fR,P⟩
theorem acL{a b c:Int}(hR:oP w g off n sz)(hS:aq w s #[.int .i64 (m:Int)] 3)(kR:g≠s)(ha:0<=a/\a<n)(hb:0<=b/\b<n)(hc:0<=c/\c<n)(hm:m<=50)(hn:n<4611686018427387904):
 Calls prog 179 #[.slice (some ⟨g,off,none⟩) n cap,.int .i64 a,.int .i64 b,.int .i64 c,.pointer (some ⟨s,0,none⟩)] w fun e w'=>∃(x:Int) (m':Nat),e=.returned (.int .i64 x)/\(x=a\/x=b\/x=c)/\m'<=m+3/\DH w s m w' m':=by
 obtain⟨a',rfl⟩:∃k:Nat,a=k:=⟨a.toNat,by omega⟩
 obtain⟨b',rfl⟩:∃k:Nat,b=k:=⟨b.toNat,by omega⟩
 obtain⟨c',rfl⟩:∃k:Nat,c=k:=⟨c.toNat,by omega⟩
 refine(acK hR hS kR (by omega) (by omega) (by omega) hm hn).mono ?_;rintro e w' ⟨x,m',rfl,h1,h2,h3⟩;exact⟨x,m',rfl,by omega,h2,h3⟩
theorem V6{a:Int}(hR:oP w g off n sz)(hS:aq w s #[.int .i64 (m:Int)] 3)(kR:g≠s)(ha:1<=a/\a+1<n)(hm:m<=50)(hn:n<4611686018427387904):
 Calls prog 178 #[.slice (some ⟨g,off,none⟩) n cap,.int .i64 a,.pointer (some ⟨s,0,none⟩)] w fun e w'=>∃(x:Int) (m':Nat),e=.returned (.int .i64 x)/\(a-1<=x/\x<=a+1)/\m'<=m+3/\DH w s m w' m':=by
 obtain⟨a',rfl⟩:∃k:Nat,a=k:=⟨a.toNat,by omega⟩
 refine(akI hR hS kR (by omega) hm hn).mono ?_;rintro e w' ⟨x,m',rfl,h1,h2,h3⟩;exact⟨x,m',rfl,by omega,h2,h3⟩
theorem amC(hR:oP w g off n sz)(lq:a+12<=b)(hb:b<=n)(hn:n<4611686018427387904):
 Calls prog 152 #[.slice (some ⟨g,off,none⟩) n cap,.int .i64 (a:Int),.int .i64 (b:Int)] w fun e w'=>∃(p:Nat) (h:Int),e=.returned (.tuple #[.int .i64 (p:Int),.int .i64 h])/\(a<=p/\p<b)/\aa af w w':=by
 have wW:=hR.lt;have kR:g≠w.heap.size:=by omega
 have R0:=hR.kept ((aa.refl af w).alloc (.cells #[.int .i64 0] 3)) (fun hx=>hx);have B0:aq (w.alloc (.cells #[.int .i64 0] 3)) w.heap.size #[.int .i64 ((0:Nat):Int)] 3:=aq.new w #[.int .i64 0] 3;have PK:=bI (And.intro R0 B0);have K0:Hid (aa af w (w.alloc (.cells #[.int .i64 0] 3))):=(aa.refl _ w).alloc _
 have ax:Hid (∀(p:Int) (h:Int) (w4:World) (m4:Nat),((a:Int)<=p/\p<(b:Int))->oP w4 g off n sz->aa (fun i=>i=w.heap.size) (w.alloc (.cells #[.int .i64 0] 3)) w4->(∃(p':Nat) (h':Int),Ending.returned (.tuple #[.int .i64 p,.int .i64 h])=.returned (.tuple #[.int .i64 (p':Int),.int .i64 h'])/\(a<=p'/\p'<b)/\aa af w w4)):=by
  intro p h w4 m4 hp hR4 hK4;exact⟨p.toNat,h,by rw[show((p.toNat:Nat):Int)=p by omega],by omega,K0.out.bV hK4 (fun i hi hx=>by omega)⟩
 clear hR R0 B0;go_enter func152,ntmps152;go_wp2_with fail
 ·refine(V6 PK.out.1 PK.out.2 kR (by omega) (by omega) hn).mono ?_;rintro e w1 ⟨x1,m1,rfl,sZ,U8,P1⟩;have R1:=P1.row PK.out.1 kR;go_wp2_with fail;refine(V6 R1 P1.ak kR (by omega) (by omega) hn).mono ?_;rintro e w2 ⟨x2,m2,rfl,ug,Qa,P2⟩;have R2:=P2.row R1 kR;clear R1;go_wp2_with fail;refine(V6 R2 P2.ak kR (by omega) (by omega) hn).mono ?_;rintro e w3 ⟨x3,m3,rfl,AY,hm3,P3⟩;have R3:=P3.row R2 kR;clear R2;go_wp2_with fail;refine(acL R3 P3.ak kR (by omega) (by omega) (by omega) (by omega) hn).mono ?_;rintro e w4 ⟨x4,m4,rfl,yF,hm4,P4⟩;have R4:=bI (P4.row R3 kR);have c4:w4.cell? ⟨w.heap.size,0,none⟩=some (.int .i64 (m4:Int)):=P4.ak.cell 0;have K4:=bI (((P1.kept.trans P2.kept).trans P3.kept).trans P4.kept);have hx:(a:Int)<=x4/\x4<(b:Int):=by omega
  clear R3 P1 P2 P3 P4 PK yF sZ ug AY;go_wp2_with fail
  all_goals
   go_ret2
   exact ax.out _ _ _ m4 hx R4.out K4.out
 ·refine(acL PK.out.1 PK.out.2 kR (by omega) (by omega) (by omega) (by omega) hn).mono ?_;rintro e w4 ⟨x4,m4,rfl,yF,hm4,P4⟩;have R4:=bI (P4.row PK.out.1 kR);have c4:w4.cell? ⟨w.heap.size,0,none⟩=some (.int .i64 (m4:Int)):=P4.ak.cell 0;have K4:=bI P4.kept;have hx:(a:Int)<=x4/\x4<(b:Int):=by omega
  clear P4 PK yF;go_wp2_with fail
  all_goals
   go_ret2
   exact ax.out _ _ _ m4 hx R4.out K4.out
open Go.Lib Go.Sort
theorem aln(L:Nat)(hL:L<1000000000)(w:World):Calls prog 176 #[.int .i64 (L:Int)] w fun e w'=>e=.returned (.int .u64 ((1<<<bitsLen L:Nat):Int))/\w'=w:=
 AnyF.nextPowerOfTwo (P:=prog) (ρ:=Tryz.Rs) {Tryz.Rq with} L (by omega) w
theorem ao1(s X:Nat)(hX:X<18446744073709551616)(w:World)(hc:w.cell? ⟨s,0,none⟩=some (.int .u64 X))(hf:w.frozen? ⟨s,0,none⟩=false):
 Calls prog 177 #[.pointer (some ⟨s,0,none⟩)] w fun e w'=>e=.returned (.int .u64 (xorNextN X:Nat))/\w'=(w.setCell ⟨s,0,none⟩ (.int .u64 (xorNextN X:Nat))).drewN 3:=
 AnyF.xorshift_Next (P:=prog) (ρ:=Tryz.Rs) {Tryz.Rq with} s 0 X hX w hc hf
theorem acF(x:Nat)(hx:x<1000000000)(w:World):Calls prog 124 #[.int .u64 (x:Int)] w fun e w'=>∃l:Nat,e=.returned (.int .i64 (l:Int))/\l<=100/\w'=w:=by
 have h:=Any.bits_Len (SlLaysF0.n15.bits (P:=prog) (ρ:=Tryz.Rs) {Tryz.Rq with}) (x:Int) w (by omega) (by omega);refine Calls.mono h ?_;rintro e w' ⟨rfl,rfl⟩;refine⟨Lib.bitLen x,by simp,?_,rfl⟩;rw[bitLen_eq x (by omega)];have:=(bitsLen_le_iff x 30).2 (by omega);omega
theorem ajQ(w:World):Calls prog 149 #[.slice none 0 0,.int .i64 0,.int .i64 0] w fun e w'=>e=.returned (.tuple #[])/\w'=w:=by
 go_enter func149,ntmps149
 go_wp2_with fail
 go_loopw [6] (fun vi wr=>vi=.int .i64 1/\wr=w) (fun vi _=>0)
 case atStart=>exact⟨rfl,rfl⟩
 case round=>
  obtain⟨rfl,rfl⟩:=hrel;go_wp2_with fail;go_end0;exact⟨rfl,rfl⟩
theorem amm(w:World)(lim:Int):Calls prog 123 #[.slice none 0 0,.int .i64 0,.int .i64 0,.int .i64 lim] w fun e w'=>e=.returned (.tuple #[])/\w'=w:=by
 go_enter func123,ntmps123
 go_wp2_with fail
 go_loopw [1,2] (fun va vb wr=>va=.int .i64 0/\vb=.int .i64 0/\wr=w) (fun _ _ _=>0)
 case atStart=>exact⟨rfl,rfl,rfl⟩
 case round=>
  obtain⟨rfl,rfl,rfl⟩:=hrel;go_wp2_with fail;refine(ajQ _).mono ?_;rintro e w1 ⟨rfl,rfl⟩;go_wp2_with fail;(try simp only[Exit.inBlock,Exit.then]);refine Bj (Df rfl _ _ _) rfl ?_;exact⟨rfl,rfl⟩
theorem anI(w:World):Calls prog 99 #[.slice none 0 0] w fun e w'=>e=.returned (.tuple #[])/\w'=w:=by
 have F:=bI (acF 0 (by omega) w);go_enter func99,ntmps99;go_wp2_with fail;refine(F.out).mono ?_;rintro e w1 ⟨l,rfl,hl,rfl⟩;go_wp2_with fail;refine(amm _ _).mono ?_;rintro e w2 ⟨rfl,rfl⟩;go_wp2_with fail;go_end0;exact⟨rfl,rfl⟩
theorem ag2(w:World):Calls prog 100 #[.slice none 0 0] w fun e w'=>e=.returned (.slice none 0 0)/\w'=w:=by
 go_enter func100,ntmps100
 go_wp2_with fail
 go_ret
 exact⟨rfl,rfl⟩
theorem anx{w1:World}(h:aa (fun i=>i=g) w w1):∀(vs:List Value) (o:Nat),aa (fun i=>i=g) w (w1.setCells g o vs):=by
 intro vs;induction vs generalizing w1 with
 |nil=>intro o;exact h
 |cons v vs ih=>intro o;exact ih (h.setCell (p:=⟨g,o,none⟩) (Or.inl rfl) v) (o+1)
def mQ(l:List Int):List Value:=l.map fun v=>.int .i32 v
theorem aeg(a b:List Int):mQ (a++b)=mQ a++mQ b:=by simp[mQ]
theorem WS(l:List Int):∀u∈mQ l,u.oneCell'=true:=by
 intro u hu;simp[mQ]at hu;obtain⟨x,_,rfl⟩:=hu;rfl
def rl(S:bD):List Int:=S.flatMap fun s=>[s.1,s.2+1]
theorem Tv{bs:Nat}{ao:Option Addr}(me:S≠ []->ao=some ⟨bs,0,none⟩)(hc:fV w bs S)(hr:dy S)(hl:S.length<=6000)(hb:S≠ []->bs<w.heap.size):
 Calls prog 97 #[.slice ao S.length c] w fun e w'=>∃v:Value,e=.returned v/\∃rs:List Int,w'.ownsRow w.heap.size 21 1 v rs.length (mQ rs)/\rs.length=2*S.length/\rs=rl S/\aa af w w':=by
 obtain⟨i0,cP,di,dj,cY⟩:=Bo Tryz.VH;have HC:=ab hc;have HB:=ab hb;have HAO:=ab me;clear hc hb me;go_enter func97,ntmps97;go_wp2_with fail;go_loopg [3,8] S.length (fun kk v3 i wr=>∃(k:Nat) (rs:List Int),i=.int .i64 (k:Int)/\k<=S.length/\kk=S.length-k/\Hid (rs.length=2*k)/\Hid (rs=rl (S.take k))/\Hid (wr.ownsRow w.heap.size 21 1 v3 rs.length (mQ rs))/\Hid (aa af w wr))
 case atStart=>exact⟨0,[],rfl,Am _,rfl,ab rfl,ab (by simp[rl]),A7 _ _ _ _,aa.refl _ _⟩
 case round=>
  obtain⟨k,rs,rfl,hk,eT,jv,uI,HR,HK⟩:=hrel;by_cases aw:k<S.length
  ·have az:S≠ []:=by intro e;subst e;simp at aw
   have e:=HAO.out az;subst e;have iC:=HB.out az;have ks:=HK.out.size;have d0:=(HC.out.kept HK.out iC (fun hx=>hx) k aw).1;have d1:=(HC.out.kept HK.out iC (fun hx=>hx) k aw).2;have hrk:=hr _ (A5 aw);have hit:(k:Int)<(S.length:Int):=(by omega);have UT:¬((S.length:Int)<=(k:Int)):=(by omega);obtain⟨fQ,c3,rfl⟩:=cA HR.out;have qf:Hid (∀W,aa af wr W->W.ownsRow w.heap.size 21 1 (.slice fQ rs.length c3) rs.length (mQ rs)):=(fun W kW=>bR HR.out kW (fun i _ hx=>hx));have HO:Hid (∀i,(Value.slice fQ rs.length c3).ownBlock=some i->w.heap.size<=i):=fun i hi=>(dw HR.out hi).1
   have HCV:Hid (rs++[(S[k]).1,(S[k]).2+1]=rl (S.take (k+1))):=by
    show _=_
    rw[C2 aw,uI.out];simp only[rl,List.flatMap_append,Di,List.flatMap_nil,Ei]
   generalize hp:S[k]=p at*
   obtain⟨p1,p2⟩:=p;simp only at d0 d1 hrk;clear HR hp;go_wp2_with (at_builtin;refine Ao _ rfl _ _ 96 rfl w.heap.size 21 i0 _ 1 4 underlying96 cP di dj cY rfl (by decide) _ _ _ rfl (qf.out _ (((aa.refl _ _).alloc _).alloc _)) ⟨wr.heap.size+1,0,none⟩ 2 2 (mQ [p1,p2+1]) rfl rfl ?c1 ?c2 ?c3 ?c4 ?c5 ?_)
   case c1=>exact fun j u h=>h
   case c2=>exact WS _
   case c3=>have:=jv.out;unfold maxLen;omega
   case c4=>have:=jv.out;omega
   case c5=>first|omega|(simp;omega)
   intro v' w7 bG bY dX cx;obtain⟨jd,c',rfl⟩:=cA bG
   have ax:Hid (w7.ownsRow w.heap.size 21 1 (.slice jd (rs.length+2) c') (rs++[p1,p2+1]).length (mQ (rs++[p1,p2+1]))):=by
    show World.ownsRow _ _ _ _ _ _ _
    rw[aeg,Aj];exact bG
   have KF:Hid (aa af w w7):=((HK.out.alloc _).alloc _).eN bY (fun j hj=>Or.inr (HO.out j hj));clear bG bY dX cx qf HO HK;go_wp2_with fail;go_roundg (S.length-(k+1))
   case measure=>omega
   case rel=>exact⟨k+1,_,by simp,by omega,rfl,by have:=jv.out;show _=_;simp;omega,HCV,ax,KF⟩
  ·have gA:k=S.length:=(by omega);subst gA;have hit:¬((S.length:Int)<(S.length:Int)):=(by omega);go_wp2_with fail;go_ret;exact⟨_,rfl,rs,HR.out,by have:=jv.out;omega,by rw[uI.out,Cl],HK.out⟩
theorem afn{P:Program}{ops:Array Oper}{rest:List Oper}{o:Oper}{a:Act}{Q:Exit->Act->World->Prop}(gQ:o.guard=none)(s x:Operand)(t:TypeId)
 (ho:o.op=.call {callee:=.builtin .append,args:=#[s,x],argTypes:=#[t,t]})
 (base base':Nat)(e:TypeId)(i:TypeInfo)(z:Value)(bytes:Nat)(ht:P.underlying t=some (.slice e))(hi:P.info? e=some i)(hz:i.zero=some z)
 (xi:i.size=1)(AF:i.bytes=bytes)(AZ:z.cells.size=1)
 (v:Value)(n:Nat)(xs:List Value)(hs:a.eval s=v)(bk:w.ownsRow base e 1 v n xs)
 (y:Value)(m:Nat)(news:List Value)(hx:a.eval x=y)(hy:w.ownsRow base' e 1 y m news)(h1:∀u∈news,u.oneCell'=true)
 (zY:n+m<=maxLen)(AG:(n+m)*bytes<=140737488355328)(UA:base<=w.heap.size)
 (h:∀v' w',w'.ownsRow base e 1 v' (n+m) (xs++news)->w.grownBy w' v.ownBlock->(v'.ownBlock=v.ownBlock\/v'.ownBlock=some w.heap.size)->wpList P ops Q rest (a.put o.dst v') w'):
 wpList P ops Q (o::rest) a w:=by
 have Vz:=hy;obtain⟨hyl,hy'⟩:=hy;rcases hy' with⟨hv,hm⟩|⟨g,cap,aL,hv,a1,a2,a3,a4,a5,a6⟩
 ·subst hm;have:news=[]:=Aw.1 (by omega);subst this;refine C3 gQ s x t ho base e i 1 ht hi v n xs hs bk (hx.trans hv) (h v w (by simpa using bk) ⟨rfl,rfl,rfl,Ab _,fun _ _ _=>rfl⟩ (Or.inl rfl))
 ·refine Ao w gQ s x t ho base e i z 1 bytes ht hi hz xi AF AZ (by decide) v n xs hs bk ⟨g,0,none⟩ m cap news (hx.trans hv) hyl (fun j u hj=>?_) h1 zY AG UA (fun v' w' b1 b2 b3 b4=>h v' w' b1 b2 b4);subst hv;exact Vz.cells (g:=g) rfl j u hj
theorem aoS(w:World):Calls prog 98 #[] w fun e w'=>∃v,e=.returned v/\∃S:bD,w'.ownsRow w.heap.size 219 2 v S.length (db S)/\dy S/\S.length<=4/\(∀c,bU S c=bU (lV 119) c)/\aa af w w':=by
 go_enter func98,ntmps98
 go_wp2_with fail
 refine(Rn 119 w).mono ?_;rintro e w1 ⟨v,rfl,hv,k1⟩;have hr:=Ro 119;have az:lV 119≠ []:=by intro e;rw[e]at hr;simp at hr
 obtain⟨g,cap,rfl,g1,g2,g3,g4⟩:=wM hv az;have F:=ab (We (cap:=cap) g3 hr.1 (by omega) az g2);have hl:=hr.2.2;have HR:=ab hr.1;have K1:=ab k1;clear hv g3 hr az;have HOR:Hid (∀s∈lV 119,s.1<=s.2):=by show∀s∈lV 119,s.1<=s.2;decide
 generalize sK:lV 119=L at*
 have Hv:=ab sK;clear sK;go_wp2_with fail;refine(F.out).mono ?_;rintro e w2 ⟨l',v,hp,hpw,rfl,bk,k2⟩;have ko:dy l':=fun s hs=>HR.out s (hp.mem_iff.1 hs)
 have hm:=QI l' ko;have oo:=hp.length_eq;have ax:=ab (And.intro bk (And.intro hm.1 (K1.out.trans k2)));have s1:=K1.out.size
 have zu:Hid (∀c,bU (kU l') c=bU L c):=fun c=>by
  rw[(acM l' hpw (fun s hs=>HOR.out s (hp.mem_iff.1 hs))).2 c];unfold bU;exact hp.any_eq
 clear bk k2 hp hpw;go_wp2_with fail;go_ret;exact⟨_,rfl,kU l',BU ax.out.1 (by omega),ax.out.2.1,by omega,by intro c;rw[zu.out,Hv.out],ax.out.2.2⟩
theorem ahd(h:w.ownsRow base 219 2 v S.length (db S))(hr:dy S)(hl:S.length<=6000):
 Calls prog 97 #[v] w fun e w'=>∃v:Value,e=.returned v/\∃rs:List Int,w'.ownsRow w.heap.size 21 1 v rs.length (mQ rs)/\rs.length=2*S.length/\rs=rl S/\aa af w w':=by
 by_cases az:S=[]
 ·obtain⟨ao,c,rfl⟩:=cA h;subst az;exact Tv (bs:=0) (fun h=>absurd rfl h) (fV.nil _ _) hr hl (fun h=>absurd rfl h)
 ·obtain⟨g,cap,rfl,g1,g2,g3,g4⟩:=wM h az;exact Tv (bs:=g) (fun _=>rfl) g3 hr hl (fun _=>g2)
def V5(v:Value)(u x:Int):Array Value:=#[v,.int .i64 u,.int .i64 x]
theorem oN.array{lo hi:Nat}{ms:List MS}(h:oN w lo hi base v ms)(az:0<ms.length):∃g c,v=.slice (some ⟨g,0,none⟩) ms.length c/\g<w.heap.size/\ms.length<=c/\
 ∀i,(hi':i<ms.length)->∃s:Sv,gw w lo hi s ms[i]/\∀j,j<6->w.cell? ⟨g,i*6+j,none⟩=s.cells[j]? :=by
 obtain⟨vs,h1,h2,h3⟩:=h;obtain⟨hx,gP⟩:=h1;rcases gP with⟨_,h0⟩|⟨g,cap,aL,rfl,a1,a2,a3,a4,a5,a6⟩
 ·omega
 ·refine⟨g,cap,rfl,(Ak.1 a2).1,a3,fun i hi'=>⟨vs[i],h3 i (by omega) hi',fun j hj=>?_⟩⟩;have hf:=Pa vs i (by omega) j hj;rw[<-hf,<-a6,Av (by omega)];simp only[World.cell?,a2];simp
theorem ano(w:World):Calls prog 126 #[.int .i32 (-1)] w fun e w'=>e=.returned (.int .i32 (-1))/\w'=w:=by
 go_enter func126,ntmps126
 go_wp2_with fail
 go_ret
 exact⟨rfl,rfl⟩
def pG(st:Int)(fo:Value)(ed:Bool)(cl:Value)(mo:Int)(mp:Nat)(nw mk:Value):Array Value:=#[.int .i64 st,fo,.bool ed,cl,.int .i64 mo,.map (some mp),nw,mk]
theorem aa.akC{S:Nat->Prop}{a:World}(h:aa S a w)(hg:w.grownBy w' (some b))(hb:S b\/a.heap.size<=b):aa S a w':=h.eN hg (fun k hk=>by cases hk;exact hb)
def xG(t:bF):List Int:=[t.1 % 256,t.1/256 % 256,t.2 % 256,t.2/256 % 256]
def tc(s:dq):List Int:=[s.ah % 256,if s.mt then 1 else 0]++s.aU.flatMap xG
def ui(s:dq):ByteArray:=strOfNums (tc s)
theorem acu(s:dq):∀x∈tc s,0<=x/\x<256:=by
 intro x hx;unfold tc at hx;rcases Ap.1 hx with h|h
 ·simp only[Cn,Fj,or_false]at h;rcases h with rfl|rfl
  ·omega
  ·split<;>omega
 ·obtain⟨t,_,ht⟩:=Er.1 h;unfold xG at ht;simp only[Cn,Fj,or_false]at ht;rcases ht with rfl|rfl|rfl|rfl<;>omega
theorem acs(s:dq):(tc s).map Int.toNat=GD s:=by
 unfold tc GD;rw[Ch];congr 1
 ·cases s.mt<;>rfl
 ·rw[List.map_flatMap];rfl
theorem ac_:∀(l k:List Int),(∀x∈l,0<=x/\x<256)->(∀x∈k,0<=x/\x<256)->(l.map fun n=>UInt8.ofNat n.toNat)=(k.map fun n=>UInt8.ofNat n.toNat)->l=k
 | [],[],_,_,_=>rfl
 | [],_::_,_,_,h=>by simp at h
 |_::_,[],_,_,h=>by simp at h
 |x::xs,y::ys,hx,hy,h=>by
  simp only[Cc,Fu]at h;have h1:=congrArg UInt8.toNat h.1;rw[UInt8.toNat_ofNat',UInt8.toNat_ofNat']at h1;have a:=hx x (by simp);have b:=hy y (by simp);have e:x=y:=by omega
  rw[e,ac_ xs ys (fun z hz=>hx z (by simp[hz])) (fun z hz=>hy z (by simp[hz])) h.2]
theorem aka{s r:dq}(h:ui s=ui r):GD s=GD r:=by
 have h1:=congrArg (fun b:ByteArray=>b.data.toList) h;have h2:(tc s).map (fun n=>UInt8.ofNat n.toNat)=(tc r).map (fun n=>UInt8.ofNat n.toNat):=h1;rw[<-acs,<-acs,ac_ _ _ (acu s) (acu r) h2]
def xn(x0 x1:Int)(l:List bF):List Int:=[x0,x1]++l.flatMap xG
def mU(l:List Int):List Value:=l.map (Value.int .u8)
theorem Tryz.ach:(prog.info? 5).map (fun i=>(i.zero,i.size,i.bytes))=some (some (.int .u8 0),1,1):=by kernel_rfl
theorem akb{tb:Nat}{a:Option Addr}{sv:Value}{s:dq}(h:aq w b #[.slice a s.aU.length c,.int .i32 s.ah,.bool s.mt,sv] 192)(hT:pD w tb a s.aU)(hl:s.aU.length<=10000):
 Calls prog 125 #[.pointer (some ⟨b,0,none⟩)] w fun e w'=>e=.returned (.string (ui s))/\aa af w w':=by
 have c0:w.cell? ⟨b,0,none⟩=some (.slice a s.aU.length c):=h.cell 0;have c1:w.cell? ⟨b,1,none⟩=some (.int .i32 s.ah):=h.cell 1;have c2:w.cell? ⟨b,2,none⟩=some (.bool s.mt):=h.cell 2;have gz:=h.lt;obtain⟨ii,AK,Mz,Gl,oe⟩:=Bo Tryz.ach;have HB:=ab h;have HT:=ab hT;clear h hT;obtain⟨x0,Mx⟩:∃x0,x0=s.ah % 256:=⟨_,rfl⟩
 have HX:=ab Mx;clear Mx;obtain⟨y1,Qu⟩:∃y1:Int,y1=if s.mt then 1 else 0:=⟨_,rfl⟩
 have HY:=ab Qu;clear Qu;go_in;go_upto_if 15 with fail
 rw[<-HX.out];have dr:Hid (∀x1:Int,x1=(if s.mt then 1 else 0)->∀W,W.heap[w.heap.size]? =some (.cells #[.int .u8 x0,.int .u8 x1] 5 (0,0))->aa af w W->W.ownsRow w.heap.size 5 1 (.slice (some ⟨w.heap.size,0,none⟩) 2 2) 2 (mU [x0,x1])/\aa af w W):=fun x1 _ W hW k=>⟨⟨rfl,Or.inr ⟨w.heap.size,2,_,rfl,Ab _,hW,Ab _,by unfold maxLen;omega,rfl,rfl⟩⟩,k⟩
 go_cut [3] (fun v3 wx=>v3=.slice (some ⟨w.heap.size,0,none⟩) 2 2/\Hid (wx.ownsRow w.heap.size 5 1 (.slice (some ⟨w.heap.size,0,none⟩) 2 2) 2 (mU [x0,y1]))/\Hid (aa af w wx))
 case first=>
  have bK:=aq.new w #[.int .u8 x0,.int .u8 0] 5;have kK:aa af w (w.alloc (.cells #[.int .u8 x0,.int .u8 0] 5)):=(aa.refl af w).alloc _;have z1:(w.alloc (.cells #[.int .u8 x0,.int .u8 0] 5)).cell? ⟨w.heap.size,1,none⟩=some (.int .u8 0):=bK.cell 1;have zf:=bK.frozen 1;have ax:Hid (s.mt=false->(w.alloc (.cells #[.int .u8 x0,.int .u8 0] 5)).ownsRow w.heap.size 5 1 (.slice (some ⟨w.heap.size,0,none⟩) 2 2) 2 (mU [x0,0])/\aa af w (w.alloc (.cells #[.int .u8 x0,.int .u8 0] 5))):=fun hm=>dr.out 0 (by rw[hm];rfl) _ bK kK
  have R6:Hid (s.mt=true->(w.alloc (.cells #[.int .u8 x0,.int .u8 1] 5)).ownsRow w.heap.size 5 1 (.slice (some ⟨w.heap.size,0,none⟩) 2 2) 2 (mU [x0,1])/\aa af w (w.alloc (.cells #[.int .u8 x0,.int .u8 1] 5))):=fun hm=>dr.out 1 (by rw[hm];rfl) _ (aq.new w #[.int .u8 x0,.int .u8 1] 5) ((aa.refl af w).alloc _)
  clear dr bK kK HB HT
  cases iF:s.mt
  ·have:=ax.out iF;have F1:=ab this.1;have F2:=ab this.2;clear this ax R6;go_wp2_with fail;go_meet
   case rel=>exact⟨rfl,(by rw[HY.out,iF];exact F1),F2⟩
  ·have:=R6.out iF;have F1:=ab this.1;have F2:=ab this.2;clear this ax R6;go_wp2_with fail;go_meet
   case rel=>exact⟨rfl,(by rw[HY.out,iF];exact F1),F2⟩
 case rest=>
  obtain⟨rfl,HR,HK⟩:=hcut;clear dr;have OR:wc.cell? ⟨b,0,none⟩=some (.slice a s.aU.length c):=(HK.out.cell (p:=⟨b,0,none⟩) gz (fun hx=>hx)).trans c0;have Zu:Hid (∃v,v=(.slice (some ⟨w.heap.size,0,none⟩) 2 2:Value)/\wc.ownsRow w.heap.size 5 1 v (2+4*0) (mU (xn x0 y1 (s.aU.take 0)))/\aa af w wc):=⟨_,rfl,by have:=HR.out;simpa[xn]using this,HK.out⟩;clear c0 c1 c2 HR;go_wp2_with fail;go_loopg [3,23] s.aU.length (fun kk v3 v23 wr=>∃k:Nat,v23=.int .i64 (k:Int)/\k<=s.aU.length/\kk=s.aU.length-k/\Hid (wr.ownsRow w.heap.size 5 1 v3 (2+4*k) (mU (xn x0 y1 (s.aU.take k)))/\aa af w wr))
  case atStart=>
   obtain⟨v,rfl,h1,h2⟩:=Zu.out;exact⟨0,rfl,Am _,rfl,⟨h1,h2⟩⟩
  case round=>
   obtain⟨k,rfl,hk,eT,HI⟩:=hrel;clear Zu OR;obtain⟨av,cv,hv⟩:=cA HI.out.1;subst hv;by_cases aw:k<s.aU.length
   ·have jH:(k:Int)<(s.aU.length:Int):=(by omega);have az:s.aU≠ []:=by intro e;rw[e]at aw;simp at aw
    obtain⟨IY,Vt⟩:=HT.out.at_ az;subst IY;obtain⟨z1,z2⟩:=(HT.out.kept HI.out.2 (fun _ hx=>hx)).cells k aw;have aqk:tb<wr.heap.size:=Ar Vt HI.out.2.size;have aca:=HI.out.2.size;obtain⟨tu,uf⟩:∃tu,(s.aU[k]).1=tu:=⟨_,rfl⟩
    obtain⟨ts,qH⟩:∃ts,(s.aU[k]).2=ts:=⟨_,rfl⟩
    rw[uf]at z1;rw[qH]at z2
    have Ie:Hid (∀(W w5:World) (v5:Value),aa af wr W->w5.ownsRow w.heap.size 5 1 v5 (2+4*k+4) (mU (xn x0 y1 (s.aU.take k))++mU (xG (tu,ts)))->W.grownBy w5 (Value.slice av (2+4*k) cv).ownBlock->w5.ownsRow w.heap.size 5 1 v5 (2+4*(k+1)) (mU (xn x0 y1 (s.aU.take (k+1))))/\aa af w w5):=fun W w5 v5 k0 ho dK=>by
     have e:s.aU.take (k+1)=s.aU.take k++[(tu,ts)]:=by
      rw[C2 aw];congr 2;exact Prod.ext uf qH
     refine⟨?_,HI.out.2.bV ((k0.mono (fun _ hx=>hx.elim)).eN dK (fun j hj=>Or.inl hj)) (fun i hi hx=>by have:=(dw HI.out.1 hx).1;omega)⟩;rw[e,show 2+4*(k+1)=2+4*k+4 by omega];have e2:mU (xn x0 y1 (s.aU.take k++[(tu,ts)]))=mU (xn x0 y1 (s.aU.take k))++mU (xG (tu,ts)):=by unfold mU xn;simp
     rw[e2];exact ho
    have HH:=ab HI.out.1;clear HI uf qH;go_wp2_with (at_builtin;refine Ao _ rfl _ _ 42 rfl w.heap.size 5 ii _ 1 1 underlying42 AK Mz Gl oe rfl (by decide) _ _ _ rfl ((HH.out.alloc _).alloc _) ⟨wr.heap.size+1,0,none⟩ 4 4 (mU (xG (tu,ts))) rfl rfl ?c1 ?c2 ?c3 ?c4 ?c5 ?_)
    case c1=>
     intro j v hv;rw[KI];have hB:=aq.new (wr.alloc (.cells #[.int .i64 tu,.int .i64 ts] 256)) #[.int .u8 (tu % 256),.int .u8 (tu/256 % 256),.int .u8 (ts % 256),.int .u8 (ts/256 % 256)] 5;rw[fF]at hB;exact(hB.cell j).trans (by simpa[mU,xG]using hv)
    case c2=>
     intro v hv;unfold mU xG at hv;simp at hv;rcases hv with rfl|rfl|rfl|rfl<;>rfl
    case c3=>unfold maxLen;omega
    case c4=>omega
    case c5=>simp;omega
    intro v' w7 bG bY dX cx;obtain⟨jd,c',rfl⟩:=cA bG;have ax:=ab (Ie.out _ _ _ (((aa.refl af wr).alloc _).alloc _) bG bY);clear bG bY dX cx Ie HH;go_wp2_with fail;go_roundg (s.aU.length-(k+1))
    case measure=>omega
    case rel=>exact⟨k+1,by simp,by omega,rfl,ax⟩
   ·have jH:¬(k:Int)<(s.aU.length:Int):=(by omega);obtain⟨g,cg,e1,_,wW,_,iD,_⟩:=my HI.out.1 (by omega);obtain⟨eA,eC⟩:av=some ⟨g,0,none⟩/\cv=cg:=by simpa using e1
    have U0:k=s.aU.length:=by omega
    have LV:mU (xn x0 y1 (s.aU.take k))=mU (tc s):=by
     rw[U0,Cl];unfold tc xn;rw[HX.out,HY.out]
    have abM:(tc s).length=2+4*k:=by
     have:=HI.out.1.1;rw[LV]at this;simpa[mU]using this
    have hc:=run_convert_bytes_arg (P:=prog) (w:=wr) 42 5 underlying42 underlying5 g 0 (2+4*k) cv (tc s) abM (fun i hi=>by
     rw[Ba,iD i hi,LV];unfold mU;rw[Bv,Af,Ae (by omega)];rfl) 9 underlying9
    have HKf:=ab HI.out.2;have hkS:strOfNums (tc s)=ui s:=rfl;rw[hkS]at hc;obtain⟨key,ji⟩:∃key,key=ui s:=⟨_,rfl⟩
    rw[<-ji]at hc;have HKY:=ab ji;clear ji e1 HI iD LV abM hkS eC U0;subst eA;go_wp2_with fail;go_ret;exact⟨by rw[<-HKY.out];rfl,HKf.out⟩
end Go.Proofs.YtpdnofhackjfdaaGreatDoor
