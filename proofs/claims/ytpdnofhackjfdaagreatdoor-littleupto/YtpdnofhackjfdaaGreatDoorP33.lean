/- Package marks -/
import Derived.Test.YtpdnofhackjfdaaGreatDoorP30
import Derived.Test.YtpdnofhackjfdaaGreatDoorP32
set_option linter.all false
set_option maxRecDepth 100000
set_option maxHeartbeats 4000000
namespace Go.Proofs.YtpdnofhackjfdaaGreatDoor
open Go.Proofs.Tryz
open Go.RowKit Go.Maps
variable {a b base c cap g m n off s sz:Nat} {S:bF} {v:Value} {w w':World}
theorem adn{e size:Nat}{xs:List Value}(h:w.ownsRow base e size (.slice (some ⟨g,0,none⟩) n c) n xs):(∀i,i<xs.length->w.cell? ⟨g,i,none⟩=xs[i]?)/\(∀i,w.frozen? ⟨g,i,none⟩=false)/\g<w.heap.size:=by
 rcases h.2 with⟨h1,_⟩|⟨b,cap,aM,h3,h4,h5,h6,h7,h8,h9⟩
 ·cases h1
 ·cases h3;refine⟨fun i hi=>?_,fun i=>by simp[World.frozen?,h5],(Am.1 h5).1⟩
  rw[<-h9,Aw (by rw[<-h.1];exact hi)];simp only[World.cell?,h5];simp
theorem aeZ(l k:List bG):eI (l++k)=eI l++eI k:=by unfold eI;simp
theorem aoS(D r:List bG)(t:bG)(s:Int):(eI (D++t::r)).set (D.length*2+1) (.int .i64 s)=eI (D++(t.1,s)::r):=by
 rw[aeZ,aeZ,Em _ _ (by rw[Ht];omega),Ht,show D.length*2+1-D.length*2=1 by omega];rfl
theorem Tryz.aj3:(prog.info? 3).map (fun i=>(i.zero,i.size,i.bytes))=some (some (.int .i64 0),1,8):=by kernel_rfl
structure KZ(w wr:World)(lv hv:Value)(lb:Nat)(l D:List bG)(H:List Int)(k:Nat):Prop where
 len:D.length=k
 row:wr.ownsRow 0 256 2 lv l.length (eI (D++l.drop k))
 aJ:wr.ownsRow w.heap.size 3 1 hv H.length (cY H)
 e1:(fM l).1=D++(gB (l.drop k) H).1
 e2:(fM l).2=(gB (l.drop k) H).2
 bJ:H.length<=k
 kept:aa (fun i=>l≠ []/\i=lb) w wr
theorem anp{lv:Value}{l:List bG}(h:w.ownsRow 0 256 2 lv l.length (eI l))(hl:l.length<=10000):
 Calls prog 239 #[lv] w fun e w'=>∃hv,e=.returned hv/\w'.ownsRow 0 256 2 lv l.length (eI (fM l).1)/\w'.ownsRow w.heap.size 3 1 hv (fM l).2.length (cY (fM l).2)/\aa (fun i=>lv.ownBlock=some i) w w':=by
 obtain⟨lb,a,c,hv,hT,kx⟩:=pI.of h;have du:Hid (KZ w w lv (.slice none 0 0) lb l [] [] 0):=⟨rfl,h,A6 _ _ _ _,rfl,rfl,Ab _,aa.refl _ _⟩;have DL:=ab kx;have HA:=ab hT.at_;obtain⟨ii,AT,MN,GI,nG⟩:=Bp Tryz.aj3;clear h hT kx;subst hv;go_in;go_wp2_with fail;go_loopg [3,8] l.length (fun kk v3 v8 wr=>∃(k:Nat) (D:List bG) (H:List Int),v8=.int .i64 (k:Int)/\k<=l.length/\kk=l.length-k/\Hid (KZ w wr (.slice a l.length c) v3 lb l D H k))
 case atStart=>exact⟨0,[],[],rfl,Ao _,rfl,du⟩
 case round=>
  obtain⟨k,D,H,rfl,hk,eZ,HI⟩:=hrel;clear du;obtain⟨ah,ch,QF⟩:=cK HI.o.aJ;subst QF;by_cases aw:k<l.length
  ·have iX:(k:Int)<(l.length:Int):=(by omega);have az:l≠ []:=by intro e;subst e;simp at aw
   obtain⟨Jc,_⟩:=HA.o az;have Vr:=DL.o az;subst Jc;have rE:l.drop k=l[k]::l.drop (k+1):=Bj aw;have dO:=HI.o.row;have cT:=HI.o.len;rw[rE]at dO;have IT:(D++l[k]::l.drop (k+1)).length=l.length:=by simp;omega
   obtain⟨fy,ml,aje⟩:=adn dO;have ox:=RQ (l:=D++l[k]::l.drop (k+1)) (k:=k) (by rw[IT];exact aw)
   have hek:(D++l[k]::l.drop (k+1))[k]'(by rw[IT];exact aw)=l[k]:=by
    rw[List.getElem_append_right (by omega)];simp[cT]
   rw[hek]at ox;have z1:wr.cell? ⟨lb,k*2,none⟩=some (.int .i64 (l[k]).1):=(fy (k*2) (by rw[Ht,IT];omega)).trans ox.1;have z2:wr.cell? ⟨lb,k*2+1,none⟩=some (.int .i64 (l[k]).2):=(fy (k*2+1) (by rw[Ht,IT];omega)).trans ox.2;have zf:=ml (k*2+1);obtain⟨tu,ug⟩:∃tu,(l[k]).1=tu:=⟨_,rfl⟩
   obtain⟨ts,oE⟩:∃ts,(l[k]).2=ts:=⟨_,rfl⟩
   rw[ug]at z1;rw[oE]at z2;have VI:l[k]=(tu,ts):=Prod.ext ug oE
   have It:Hid (∀(w5:World) (gQ:Value),w5.ownsRow w.heap.size 3 1 gQ (db H ts).length (cY (db H ts))->aa (fun i=>(Value.slice ah H.length ch).ownBlock=some i) wr w5->w5.cell? ⟨lb,k*2+1,none⟩=some (.int .i64 ts)/\w5.frozen? ⟨lb,k*2+1,none⟩=false/\KZ w (w5.setCell ⟨lb,k*2+1,none⟩ (.int .i64 (((db H ts).length:Int)-1))) (.slice (some ⟨lb,0,none⟩) l.length c) gQ lb l (D++[(tu,((db H ts).length:Int)-1)]) (db H ts) (k+1)):=fun w5 gQ hh5 k5=>by
    have ue:∀i,(Value.slice ah H.length ch).ownBlock=some i->i≠lb:=fun i hi e=>by
     have h1:=(dE HI.o.aJ hi).1;have vD:=HI.o.kept.size;have h2:lb<w.heap.size:=(HA.o az).2;omega
    have r5:=bY dO k5 (fun i hi hx=>ue i hx (by simp only[Value.ownBlock,Ba]at hi;exact hi.symm));obtain⟨q1,q2,q3⟩:=adn r5;have ks:aa (fun i=>i=lb) w5 (w5.setCell ⟨lb,k*2+1,none⟩ (.int .i64 (((db H ts).length:Int)-1))):=(aa.refl (fun i=>i=lb) w5).setCell (p:=⟨lb,k*2+1,none⟩) (Or.inl rfl) _;have P_:(db H ts).length<=H.length+1:=by unfold db;split<;>simp
    have aqj:lb<w.heap.size:=(HA.o az).2;refine⟨(q1 (k*2+1) (by rw[Ht,IT];omega)).trans (by rw[ox.2,oE]),q2 _,⟨by simp[cT],?_,?_,?_,?_,by have:=HI.o.bJ;omega,?_⟩⟩
    ·have:=yU r5 (k*2+1) (.int .i64 (((db H ts).length:Int)-1));have hs:=aoS D (l.drop (k+1)) l[k] (((db H ts).length:Int)-1);rw[cT]at hs;rw[hs,ug]at this;rw[Bd];exact this
    ·exact bY hh5 ks (fun i hi hx=>by have:=(dE hh5 hi).1;omega)
    ·have:=HI.o.e1;rw[rE,VI]at this;rw[this,Bd];rfl
    ·have:=HI.o.e2;rw[rE,VI]at this;rw[this];rfl
    ·exact(HI.o.kept.bZ k5 (fun i hi hx=>by have:=(dE HI.o.aJ hx).1;omega)).trans (ks.mono (fun i hx=>⟨az,hx⟩))
   have HH:=ab HI.o.aJ;have hHk:H.length<=10000:=by have:=HI.o.bJ;omega
   have ab8:=HI.o.kept.size;clear fy ml ox hek dO rE VI ug oE IT;have qJ:lb<wr.heap.size:=aje
   have SY:Hid (∀(w5:World),aa af wr w5->db H ts=H->w5.cell? ⟨lb,k*2+1,none⟩=some (.int .i64 ts)/\w5.frozen? ⟨lb,k*2+1,none⟩=false/\KZ w (w5.setCell ⟨lb,k*2+1,none⟩ (.int .i64 ((H.length:Int)-1))) (.slice (some ⟨lb,0,none⟩) l.length c) (.slice ah H.length ch) lb l (D++[(tu,(H.length:Int)-1)]) H (k+1)):=fun w5 k5 e=>by
    have:=It.o w5 (.slice ah H.length ch) (by rw[e];exact bY HH.o k5 (fun _ _ hx=>hx)) (k5.mono (fun _ hx=>hx.elim));rw[e]at this;exact this
   have AP:Hid (∀(W w5:World) (gQ:Value),aa af wr W->db H ts=H++[ts]->w5.ownsRow w.heap.size 3 1 gQ (H.length+1) (cY H++[.int .i64 ts])->W.grownBy w5 (Value.slice ah H.length ch).ownBlock->w5.cell? ⟨lb,k*2+1,none⟩=some (.int .i64 ts)/\w5.frozen? ⟨lb,k*2+1,none⟩=false/\KZ w (w5.setCell ⟨lb,k*2+1,none⟩ (.int .i64 (H.length:Int))) (.slice (some ⟨lb,0,none⟩) l.length c) gQ lb l (D++[(tu,(H.length:Int))]) (H++[ts]) (k+1)):=fun W w5 gQ k0 e bt dN=>by
    have mV:(((db H ts).length:Int)-1)=(H.length:Int):=by rw[e];simp
    have:=It.o w5 gQ (by rw[e,Aj];rw[show cY (H++[ts])=cY H++[.int .i64 ts] by unfold cY;simp];exact bt) ((k0.mono (fun _ hx=>hx.elim)).eQ dN (fun j hj=>Or.inl hj));rw[mV,e]at this;exact this
   clear It HI;have oA:k*2+1<100000:=(by omega);by_cases tW:db H ts=H
   ·have ub:H.getLast?=some ts:=by rw[<-tW];exact abl H ts
    have Je:H≠ []:=by intro e;rw[e]at ub;cases ub
    obtain⟨m,hm⟩:∃m,H.length=m+1:=⟨H.length-1,by have:=Br.2 Je;omega⟩
    obtain⟨hb,cb,e1,_,gD,_,h_,_⟩:=mG HH.o (by omega);obtain⟨eA,eC⟩:ah=some ⟨hb,0,none⟩/\ch=cb:=by simpa using e1
    clear e1;subst eC
    have zl:wr.cell? ⟨hb,m,none⟩=some (.int .i64 ts):=by
     rw[h_ m (by omega)];rw[Ey,hm,Cv]at ub;unfold cY;rw[Bv,ub];rfl
    have zw:=(ab fun(w5:World) (k5:aa af wr w5)=>SY.o w5 k5 tW);clear AP SY h_ ub;have ajJ:((m+1:Nat):Int)-1=(m:Int):=(by omega);rw[hm,ajJ]at zw;rw[hm];subst eA;have Jm:((m+1:Nat):Int)-1=(m:Int):=(by omega);have hz:(((m:Int)+1)==0)=false:=by simp;omega
    have aqH:(m:Int)+1-1=(m:Int):=(by omega);go_wp2_with fail;go_big_quiet (fail);have kA:aa af wr ((wr.alloc (.cells #[.int .i64 tu,.int .i64 ts] 256)).drewN nq):=((aa.refl af wr).alloc _).drewN nq;obtain⟨p1,p2,p3⟩:=zw.o _ kA;have ax:=ab p3;generalize(wr.alloc (.cells #[.int .i64 tu,.int .i64 ts] 256)).drewN nq=wa at*;clear p3 zw HH kA z1 z2 zf zl;go_wp2_with fail;go_roundg (l.length-(k+1))
    case measure=>omega
    case rel=>exact⟨k+1,_,H,by simp,by omega,rfl,by rw[hm]at*;exact ax⟩
   ·have L8:db H ts=H++[ts]:=by
     unfold db at tW⊢;split
     ·rename_i hx;rw[if_pos hx]at tW;exact absurd rfl tW
     ·rfl
    have zw:=(ab fun(W w5:World) (gQ:Value) (k0:aa af wr W) (ho:w5.ownsRow w.heap.size 3 1 gQ (H.length+1) (cY H++[.int .i64 ts])) (dN:W.grownBy w5 (Value.slice ah H.length ch).ownBlock)=>AP.o W w5 gQ k0 L8 ho dN);have aqh:w.heap.size<=wr.heap.size:=ab8;clear AP SY;by_cases Je:H=[]
    case' pos=>
     have hz:((H.length:Int)==0)=true:=by rw[Je];rfl
     clear Je;go_wp2_with fail;go_big_quiet (fail)
    case' neg=>
     obtain⟨m,hm⟩:∃m,H.length=m+1:=⟨H.length-1,by have:=Br.2 Je;omega⟩
     obtain⟨hb,cb,e1,_,gD,_,h_,_⟩:=mG HH.o (by omega);obtain⟨eA,eC⟩:ah=some ⟨hb,0,none⟩/\ch=cb:=by simpa using e1
     clear e1;subst eC;obtain⟨L0,Py⟩:∃L0,H.getLast?=some L0:=⟨_,Ec Je⟩
     have zl:wr.cell? ⟨hb,m,none⟩=some (.int .i64 L0):=by
      rw[h_ m (by omega)];rw[Ey,hm,Cv]at Py;unfold cY;rw[Bv,Py];rfl
     have ajr:L0≠ts:=fun e=>by
      unfold db at L8;rw[if_pos (by rw[Py,e])]at L8;have:=congrArg List.length L8;simp at this
     have hz:((H.length:Int)==0)=false:=by simp;omega
     have c_:¬(H.length:Int)=0:=(by omega);have Jm:(H.length:Int)-1=(m:Int):=(by omega);have ud:¬(H.length:Int)<=(m:Int):=(by omega);have hbq:(L0==ts)=false:=(by simpa using ajr);have HMM:=ab hm;clear h_ Py L8 hm;subst eA;go_wp2_with fail;go_big_quiet (fail)
    all_goals
     have kA:aa af wr ((wr.alloc (.cells #[.int .i64 tu,.int .i64 ts] 256)).drewN nq):=((aa.refl af wr).alloc _).drewN nq;have HK:=ab kA;have fW:=ab (bY HH.o kA (fun _ _ hx=>hx));have UC:((wr.alloc (.cells #[.int .i64 tu,.int .i64 ts] 256)).drewN nq).cell? ⟨wr.heap.size,1,none⟩=some (.int .i64 ts):=(aq.new wr #[.int .i64 tu,.int .i64 ts] 256).cell 1;have VB:=kA.size;generalize(wr.alloc (.cells #[.int .i64 tu,.int .i64 ts] 256)).drewN nq=wa at*;clear kA HH;go_wp2_with (at_builtin;refine Ap _ rfl _ _ 22 rfl w.heap.size 3 ii _ 1 8 underlying22 AT MN GI nG rfl (by decide) _ _ _ rfl (fW.o.alloc _) ⟨wa.heap.size,0,none⟩ 1 1 [.int .i64 ts] rfl rfl ?c1 ?c2 ?c3 ?c4 ?c5 ?_)
     case c1=>exact Hc _ _
     case c2=>exact vI _
     case c3=>unfold maxLen;omega
     case c4=>omega
     case c5=>simp;omega
     intro v' w7 bH b_ dS cB;obtain⟨jg,c',rfl⟩:=cK bH;obtain⟨p1,p2,p3⟩:=zw.o _ _ _ (HK.o.alloc _) bH b_;have ax:=ab p3;clear bH b_ dS cB p3 zw fW HK;go_wp2_with fail;go_roundg (l.length-(k+1))
     case measure=>omega
     case rel=>exact⟨k+1,_,H++[ts],by simp,by omega,rfl,ax⟩
  ·have iX:¬(k:Int)<(l.length:Int):=by omega
   have ax:Hid (wr.ownsRow 0 256 2 (.slice a l.length c) l.length (eI (fM l).1)/\wr.ownsRow w.heap.size 3 1 (.slice ah H.length ch) (fM l).2.length (cY (fM l).2)/\aa (fun i=>(Value.slice a l.length c).ownBlock=some i) w wr):=by
    have e1:=HI.o.e1;have e2:=HI.o.e2;have hr:=HI.o.row;have hd:l.drop k=[]:=C2 (by omega);rw[hd]at e1 e2 hr;have sD:(fM l).1=D++[]:=e1;have TM:(fM l).2=H:=e2;refine⟨by rw[sD];exact hr,by rw[TM];exact HI.o.aJ,?_⟩;exact HI.o.kept.mono (fun i hx=>by rw[hx.2];exact DL.o hx.1)
   clear HI;go_wp2_with fail;go_ret;exact⟨_,rfl,ax.o⟩
def oW(w:World)(g off n sz:Nat):Prop:=∃aM:Array Value,w.heap[g]? =some (.cells aM 21 (0,0))/\aM.size=sz/\off+n<=sz/\∀t,t<n->∃r:Int,aM[off+t]? =some (.int .i32 r)
theorem oW.iR(h:oW w g off n sz):∃G:Nat->Int,(∀t,t<n->w.cell? ⟨g,off+t,none⟩=some (.int .i32 (G t)))/\∀t,t<n->w.frozen? ⟨g,off+t,none⟩=false:=by
 obtain⟨aM,h1,h2,h3,h4⟩:=h;refine⟨fun t=>match aM[off+t]? with|some (.int _ r)=>r|_=>0,fun t ht=>?_,fun t ht=>by simp[World.frozen?,h1]⟩;obtain⟨r,hr⟩:=h4 t ht;simp only[World.cell?,h1];simp[hr]
theorem oW.lt(h:oW w g off n sz):g<w.heap.size:=by
 obtain⟨aM,h1,_⟩:=h;exact(Am.1 h1).1
theorem oW.kept{K:Nat->Prop}(h:oW w g off n sz)(k:aa K w w')(hg:¬K g):oW w' g off n sz:=by
 have hl:=h.lt;obtain⟨aM,h1,h2⟩:=h;exact⟨aM,(k.block g hl hg).trans h1,h2⟩
theorem bL{p:Prop}(h:p):Hid p:=h
def dM:Value->Int|.int _ q=>q|_=>0
theorem jz(x y:Int)(W:World):Calls prog 155 #[.int .i32 x,.int .i32 y] W fun e w'=>e=.returned (.bool (decide (x<y)))/\w'=W:=by
 go_enter func155,ntmps155
 go_wp2_with (first|(go_at_call 174;refine(ach _ _).mono ?_;rintro e w' ⟨rfl,rfl⟩)|fail)
 go_ret
 exact⟨rfl,rfl⟩
structure Ep(w:World)(s m:Nat)(w':World)(m':Nat):Prop where
 aj:aq w' s #[.int .i64 (m':Int)] 3
 kept:aa (fun i=>i=s) w w'
theorem Ep.row{m':Nat}(h:Ep w s m w' m')(hR:oW w g off n sz)(az:g≠s):oW w' g off n sz:=hR.kept h.kept az
theorem WA(hR:oW w g off n sz)(hS:aq w s #[.int .i64 (m:Int)] 3)(ha:a<n)(hb:b<n)(hm:m<=100)(hn:n<4611686018427387904):
 Calls prog 190 #[.slice (some ⟨g,off,none⟩) n cap,.int .i64 (a:Int),.int .i64 (b:Int),.pointer (some ⟨s,0,none⟩)] w fun e w'=>∃x y m':Nat,e=.returned (.tuple #[.int .i64 (x:Int),.int .i64 (y:Int)])/\(x=a/\y=b\/x=b/\y=a)/\m'<=m+1/\Ep w s m w' m':=by
 obtain⟨G,bj,bP⟩:=hR.iR;have c0:w.cell? ⟨s,0,none⟩=some (.int .i64 (m:Int)):=hS.cell 0;have f0:w.frozen? ⟨s,0,none⟩=false:=hS.frozen 0;have ib:=hS.lt;have HS:=bL hS;clear hS hR;go_enter func190,ntmps190;go_wp2_with fail;go_quiet (first|(go_at_call 155;refine Ar (jz _ _ _)));go_wp2_with fail
 ·go_ret2
  refine⟨b,a,m+1,rfl,Or.inr ⟨rfl,rfl⟩,Ab _,?_,?_⟩
  ·have:=aq.setCell (w:=w.drewN nq) (b:=s) (cs:=#[.int .i64 (m:Int)]) (t:=3) HS.o 0 (.int .i64 ((m:Int)+1));simpa using this
  ·exact((aa.refl (fun i=>i=s) w).drewN _).setCell (p:=⟨s,0,none⟩) (Or.inl rfl) _
 ·go_ret2
  exact⟨a,b,m,rfl,Or.inl ⟨rfl,rfl⟩,by omega,HS.o,(aa.refl (fun i=>i=s) w).drewN _⟩
theorem acJ(hR:oW w g off n sz)(hS:aq w s #[.int .i64 (m:Int)] 3)(kU:g≠s)(ha:a<n)(hb:b<n)(hc:c<n)(hm:m<=50)(hn:n<4611686018427387904):
 Calls prog 179 #[.slice (some ⟨g,off,none⟩) n cap,.int .i64 (a:Int),.int .i64 (b:Int),.int .i64 (c:Int),.pointer (some ⟨s,0,none⟩)] w fun e w'=>∃x m':Nat,e=.returned (.int .i64 (x:Int))/\(x=a\/x=b\/x=c)/\m'<=m+3/\Ep w s m w' m':=by
 go_enter func179,ntmps179
 go_wp2_with fail
 refine(WA hR hS ha hb (by omega) hn).mono ?_;rintro e w1 ⟨x1,y1,m1,rfl,aqR,Vk,P1⟩;have R1:=P1.row hR kU;clear hR hS;go_wp2_with fail;refine(WA R1 P1.aj (show y1<n by omega) hc (by omega) hn).mono ?_;rintro e w2 ⟨x2,y2,m2,rfl,aqS,Ql,P2⟩;have R2:=P2.row R1 kU;go_wp2_with fail;refine(WA R2 P2.aj (show x1<n by omega) (show x2<n by omega) (by omega) hn).mono ?_;rintro e w3 ⟨x3,y3,m3,rfl,aqT,Vl,P3⟩;clear R1 R2;go_wp2_with fail;go_ret;exact⟨y3,m3,rfl,by omega,by omega,P3.aj,(P1.kept.trans P2.kept).trans P3.kept⟩
theorem ak2(hR:oW w g off n sz)(hS:aq w s #[.int .i64 (m:Int)] 3)(kU:g≠s)(ha:1<=a/\a+1<n)(hm:m<=50)(hn:n<4611686018427387904):
 Calls prog 178 #[.slice (some ⟨g,off,none⟩) n cap,.int .i64 (a:Int),.pointer (some ⟨s,0,none⟩)] w fun e w'=>∃x m':Nat,e=.returned (.int .i64 (x:Int))/\(a-1<=x/\x<=a+1)/\m'<=m+3/\Ep w s m w' m':=by
 have F:=acJ (cap:=cap) hR hS kU (show a-1<n by omega) (show a<n by omega) (show a+1<n by omega) hm hn;have e1:((a-1:Nat):Int)=(a:Int)-1:=by omega
 have e2:((a+1:Nat):Int)=(a:Int)+1:=by omega
 rw[e1,e2]at F;have F:=bL F;clear hR hS e1 e2;go_enter func178,ntmps178;go_wp2_with fail;refine(F.o).mono ?_;rintro e w1 ⟨x,m',rfl,hx,fS,P⟩;go_wp2_with fail;go_ret;exact⟨x,m',rfl,by omega,fS,P⟩
theorem acK{a b c:Int}(hR:oW w g off n sz)(hS:aq w s #[.int .i64 (m:Int)] 3)(kU:g≠s)(ha:0<=a/\a<n)(hb:0<=b/\b<n)(hc:0<=c/\c<n)(hm:m<=50)(hn:n<4611686018427387904):
 Calls prog 179 #[.slice (some ⟨g,off,none⟩) n cap,.int .i64 a,.int .i64 b,.int .i64 c,.pointer (some ⟨s,0,none⟩)] w fun e w'=>∃(x:Int) (m':Nat),e=.returned (.int .i64 x)/\(x=a\/x=b\/x=c)/\m'<=m+3/\Ep w s m w' m':=by
 obtain⟨a',rfl⟩:∃k:Nat,a=k:=⟨a.toNat,by omega⟩
 obtain⟨b',rfl⟩:∃k:Nat,b=k:=⟨b.toNat,by omega⟩
 obtain⟨c',rfl⟩:∃k:Nat,c=k:=⟨c.toNat,by omega⟩
 refine(acJ hR hS kU (by omega) (by omega) (by omega) hm hn).mono ?_;rintro e w' ⟨x,m',rfl,h1,h2,h3⟩;exact⟨x,m',rfl,by omega,h2,h3⟩
theorem Wl{a:Int}(hR:oW w g off n sz)(hS:aq w s #[.int .i64 (m:Int)] 3)(kU:g≠s)(ha:1<=a/\a+1<n)(hm:m<=50)(hn:n<4611686018427387904):
 Calls prog 178 #[.slice (some ⟨g,off,none⟩) n cap,.int .i64 a,.pointer (some ⟨s,0,none⟩)] w fun e w'=>∃(x:Int) (m':Nat),e=.returned (.int .i64 x)/\(a-1<=x/\x<=a+1)/\m'<=m+3/\Ep w s m w' m':=by
 obtain⟨a',rfl⟩:∃k:Nat,a=k:=⟨a.toNat,by omega⟩
 refine(ak2 hR hS kU (by omega) hm hn).mono ?_;rintro e w' ⟨x,m',rfl,h1,h2,h3⟩;exact⟨x,m',rfl,by omega,h2,h3⟩
theorem am4(hR:oW w g off n sz)(lr:a+12<=b)(hb:b<=n)(hn:n<4611686018427387904):
 Calls prog 152 #[.slice (some ⟨g,off,none⟩) n cap,.int .i64 (a:Int),.int .i64 (b:Int)] w fun e w'=>∃(p:Nat) (h:Int),e=.returned (.tuple #[.int .i64 (p:Int),.int .i64 h])/\(a<=p/\p<b)/\aa af w w':=by
 have wX:=hR.lt;have kU:g≠w.heap.size:=by omega
 have R0:=hR.kept ((aa.refl af w).alloc (.cells #[.int .i64 0] 3)) (fun hx=>hx);have B0:aq (w.alloc (.cells #[.int .i64 0] 3)) w.heap.size #[.int .i64 ((0:Nat):Int)] 3:=aq.new w #[.int .i64 0] 3;have PK:=bL (And.intro R0 B0);have K0:Hid (aa af w (w.alloc (.cells #[.int .i64 0] 3))):=(aa.refl _ w).alloc _
 have ax:Hid (∀(p:Int) (h:Int) (w4:World) (m4:Nat),((a:Int)<=p/\p<(b:Int))->oW w4 g off n sz->aa (fun i=>i=w.heap.size) (w.alloc (.cells #[.int .i64 0] 3)) w4->(∃(p':Nat) (h':Int),Ending.returned (.tuple #[.int .i64 p,.int .i64 h])=.returned (.tuple #[.int .i64 (p':Int),.int .i64 h'])/\(a<=p'/\p'<b)/\aa af w w4)):=by
  intro p h w4 m4 hp hR4 hK4;exact⟨p.toNat,h,by rw[show((p.toNat:Nat):Int)=p by omega],by omega,K0.o.bZ hK4 (fun i hi hx=>by omega)⟩
 clear hR R0 B0;go_enter func152,ntmps152;go_wp2_with fail
 ·refine(Wl PK.o.1 PK.o.2 kU (by omega) (by omega) hn).mono ?_;rintro e w1 ⟨x1,m1,rfl,s_,Vk,P1⟩;have R1:=P1.row PK.o.1 kU;go_wp2_with fail;refine(Wl R1 P1.aj kU (by omega) (by omega) hn).mono ?_;rintro e w2 ⟨x2,m2,rfl,ui,Ql,P2⟩;have R2:=P2.row R1 kU;clear R1;go_wp2_with fail;refine(Wl R2 P2.aj kU (by omega) (by omega) hn).mono ?_;rintro e w3 ⟨x3,m3,rfl,BV,Vl,P3⟩;have R3:=P3.row R2 kU;clear R2;go_wp2_with fail;refine(acK R3 P3.aj kU (by omega) (by omega) (by omega) (by omega) hn).mono ?_;rintro e w4 ⟨x4,m4,rfl,yF,hm4,P4⟩;have R4:=bL (P4.row R3 kU);have c4:w4.cell? ⟨w.heap.size,0,none⟩=some (.int .i64 (m4:Int)):=P4.aj.cell 0;have K4:=bL (((P1.kept.trans P2.kept).trans P3.kept).trans P4.kept);have hx:(a:Int)<=x4/\x4<(b:Int):=by omega
  clear R3 P1 P2 P3 P4 PK yF s_ ui BV;go_wp2_with fail
  all_goals
   go_ret2
   exact ax.o _ _ _ m4 hx R4.o K4.o
 ·refine(acK PK.o.1 PK.o.2 kU (by omega) (by omega) (by omega) (by omega) hn).mono ?_;rintro e w4 ⟨x4,m4,rfl,yF,hm4,P4⟩;have R4:=bL (P4.row PK.o.1 kU);have c4:w4.cell? ⟨w.heap.size,0,none⟩=some (.int .i64 (m4:Int)):=P4.aj.cell 0;have K4:=bL P4.kept;have hx:(a:Int)<=x4/\x4<(b:Int):=by omega
  clear P4 PK yF;go_wp2_with fail
  all_goals
   go_ret2
   exact ax.o _ _ _ m4 hx R4.o K4.o
open Go.Lib Go.Sort
theorem alM(L:Nat)(hL:L<1000000000)(w:World):Calls prog 176 #[.int .i64 (L:Int)] w fun e w'=>e=.returned (.int .u64 ((1<<<bitsLen L:Nat):Int))/\w'=w:=
 AnyF.nextPowerOfTwo (P:=prog) (ρ:=Tryz.RE) {Tryz.RD with} L (by omega) w
theorem apJ(s X:Nat)(hX:X<18446744073709551616)(w:World)(hc:w.cell? ⟨s,0,none⟩=some (.int .u64 X))(hf:w.frozen? ⟨s,0,none⟩=false):
 Calls prog 177 #[.pointer (some ⟨s,0,none⟩)] w fun e w'=>e=.returned (.int .u64 (xorNextN X:Nat))/\w'=(w.setCell ⟨s,0,none⟩ (.int .u64 (xorNextN X:Nat))).drewN 3:=
 AnyF.xorshift_Next (P:=prog) (ρ:=Tryz.RE) {Tryz.RD with} s 0 X hX w hc hf
theorem acB(x:Nat)(hx:x<1000000000)(w:World):Calls prog 124 #[.int .u64 (x:Int)] w fun e w'=>∃l:Nat,e=.returned (.int .i64 (l:Int))/\l<=100/\w'=w:=by
 have h:=Any.bits_Len (SlLaysF0.n15.bits (P:=prog) (ρ:=Tryz.RE) {Tryz.RD with}) (x:Int) w (by omega) (by omega);refine Calls.mono h ?_;rintro e w' ⟨rfl,rfl⟩;refine⟨Lib.bitLen x,by simp,?_,rfl⟩;rw[bitLen_eq x (by omega)];have:=(bitsLen_le_iff x 30).2 (by omega);omega
theorem aj7(w:World):Calls prog 149 #[.slice none 0 0,.int .i64 0,.int .i64 0] w fun e w'=>e=.returned (.tuple #[])/\w'=w:=by
 go_enter func149,ntmps149
 go_wp2_with fail
 go_loopw [6] (fun vi wr=>vi=.int .i64 1/\wr=w) (fun vi _=>0)
 case atStart=>exact⟨rfl,rfl⟩
 case round=>
  obtain⟨rfl,rfl⟩:=hrel;go_wp2_with fail;go_end0;exact⟨rfl,rfl⟩
theorem amN(w:World)(lim:Int):Calls prog 123 #[.slice none 0 0,.int .i64 0,.int .i64 0,.int .i64 lim] w fun e w'=>e=.returned (.tuple #[])/\w'=w:=by
 go_enter func123,ntmps123
 go_wp2_with fail
 go_loopw [1,2] (fun va vb wr=>va=.int .i64 0/\vb=.int .i64 0/\wr=w) (fun _ _ _=>0)
 case atStart=>exact⟨rfl,rfl,rfl⟩
 case round=>
  obtain⟨rfl,rfl,rfl⟩:=hrel;go_wp2_with fail;refine(aj7 _).mono ?_;rintro e w1 ⟨rfl,rfl⟩;go_wp2_with fail;(try simp only[Exit.inBlock,Exit.then]);refine Bi (Dj rfl _ _ _) rfl ?_;exact⟨rfl,rfl⟩
theorem aob(w:World):Calls prog 99 #[.slice none 0 0] w fun e w'=>e=.returned (.tuple #[])/\w'=w:=by
 have F:=bL (acB 0 (by omega) w);go_enter func99,ntmps99;go_wp2_with fail;refine(F.o).mono ?_;rintro e w1 ⟨l,rfl,hl,rfl⟩;go_wp2_with fail;refine(amN _ _).mono ?_;rintro e w2 ⟨rfl,rfl⟩;go_wp2_with fail;go_end0;exact⟨rfl,rfl⟩
theorem ag2(w:World):Calls prog 100 #[.slice none 0 0] w fun e w'=>e=.returned (.slice none 0 0)/\w'=w:=by
 go_enter func100,ntmps100
 go_wp2_with fail
 go_ret
 exact⟨rfl,rfl⟩
theorem anY{w1:World}(h:aa (fun i=>i=g) w w1):∀(vs:List Value) (o:Nat),aa (fun i=>i=g) w (w1.setCells g o vs):=by
 intro vs;induction vs generalizing w1 with
 |nil=>intro o;exact h
 |cons v vs ih=>intro o;exact ih (h.setCell (p:=⟨g,o,none⟩) (Or.inl rfl) v) (o+1)
def nd(l:List Int):List Value:=l.map fun v=>.int .i32 v
theorem aeg(a b:List Int):nd (a++b)=nd a++nd b:=by simp[nd]
theorem Xb(l:List Int):∀u∈nd l,u.oneCell'=true:=by
 intro u hu;simp[nd]at hu;obtain⟨x,_,rfl⟩:=hu;rfl
def rq(S:bF):List Int:=S.flatMap fun s=>[s.1,s.2+1]
theorem TH{bs:Nat}{ao:Option Addr}(mj:S≠ []->ao=some ⟨bs,0,none⟩)(hc:fV w bs S)(hr:dz S)(hl:S.length<=6000)(hb:S≠ []->bs<w.heap.size):
 Calls prog 97 #[.slice ao S.length c] w fun e w'=>∃v:Value,e=.returned v/\∃rs:List Int,w'.ownsRow w.heap.size 21 1 v rs.length (nd rs)/\rs.length=2*S.length/\rs=rq S/\aa af w w':=by
 obtain⟨i0,cS,dm,dp,c_⟩:=Bp Tryz.VX;have HC:=ab hc;have HB:=ab hb;have HAO:=ab mj;clear hc hb mj;go_enter func97,ntmps97;go_wp2_with fail;go_loopg [3,8] S.length (fun kk v3 i wr=>∃(k:Nat) (rs:List Int),i=.int .i64 (k:Int)/\k<=S.length/\kk=S.length-k/\Hid (rs.length=2*k)/\Hid (rs=rq (S.take k))/\Hid (wr.ownsRow w.heap.size 21 1 v3 rs.length (nd rs))/\Hid (aa af w wr))
 case atStart=>exact⟨0,[],rfl,Ao _,rfl,ab rfl,ab (by simp[rq]),A6 _ _ _ _,aa.refl _ _⟩
 case round=>
  obtain⟨k,rs,rfl,hk,eZ,kE,uH,HR,HK⟩:=hrel;by_cases aw:k<S.length
  ·have az:S≠ []:=by intro e;subst e;simp at aw
   have e:=HAO.o az;subst e;have iz:=HB.o az;have ks:=HK.o.size;have d0:=(HC.o.kept HK.o iz (fun hx=>hx) k aw).1;have d1:=(HC.o.kept HK.o iz (fun hx=>hx) k aw).2;have hrk:=hr _ (A5 aw);have hit:(k:Int)<(S.length:Int):=(by omega);have U8:¬((S.length:Int)<=(k:Int)):=(by omega);obtain⟨fQ,c3,rfl⟩:=cK HR.o;have qh:Hid (∀W,aa af wr W->W.ownsRow w.heap.size 21 1 (.slice fQ rs.length c3) rs.length (nd rs)):=(fun W kW=>bY HR.o kW (fun i _ hx=>hx));have HO:Hid (∀i,(Value.slice fQ rs.length c3).ownBlock=some i->w.heap.size<=i):=fun i hi=>(dE HR.o hi).1
   have HCV:Hid (rs++[(S[k]).1,(S[k]).2+1]=rq (S.take (k+1))):=by
    show _=_
    rw[C1 aw,uH.o];simp only[rq,List.flatMap_append,C5,Fp,C8]
   generalize hp:S[k]=p at*
   obtain⟨p1,p2⟩:=p;simp only at d0 d1 hrk;clear HR hp;go_wp2_with (at_builtin;refine Ap _ rfl _ _ 96 rfl w.heap.size 21 i0 _ 1 4 underlying96 cS dm dp c_ rfl (by decide) _ _ _ rfl (qh.o _ (((aa.refl _ _).alloc _).alloc _)) ⟨wr.heap.size+1,0,none⟩ 2 2 (nd [p1,p2+1]) rfl rfl ?c1 ?c2 ?c3 ?c4 ?c5 ?_)
   case c1=>exact fun j u h=>h
   case c2=>exact Xb _
   case c3=>have:=kE.o;unfold maxLen;omega
   case c4=>have:=kE.o;omega
   case c5=>first|omega|(simp;omega)
   intro v' w7 bH b_ dS cB;obtain⟨jg,c',rfl⟩:=cK bH
   have ax:Hid (w7.ownsRow w.heap.size 21 1 (.slice jg (rs.length+2) c') (rs++[p1,p2+1]).length (nd (rs++[p1,p2+1]))):=by
    show World.ownsRow _ _ _ _ _ _ _
    rw[aeg,Aj];exact bH
   have KF:Hid (aa af w w7):=((HK.o.alloc _).alloc _).eQ b_ (fun j hj=>Or.inr (HO.o j hj));clear bH b_ dS cB qh HO HK;go_wp2_with fail;go_roundg (S.length-(k+1))
   case measure=>omega
   case rel=>exact⟨k+1,_,by simp,by omega,rfl,by have:=kE.o;show _=_;simp;omega,HCV,ax,KF⟩
  ·have gy:k=S.length:=(by omega);subst gy;have hit:¬((S.length:Int)<(S.length:Int)):=(by omega);go_wp2_with fail;go_ret;exact⟨_,rfl,rs,HR.o,by have:=kE.o;omega,by rw[uH.o,Cn],HK.o⟩
theorem afi{P:Program}{ops:Array Oper}{rest:List Oper}{o:Oper}{a:Act}{Q:Exit->Act->World->Prop}(iI:o.guard=none)(s x:Operand)(t:TypeId)
 (ho:o.op=.call {callee:=.builtin .append,args:=#[s,x],argTypes:=#[t,t]})
 (base base':Nat)(e:TypeId)(i:TypeInfo)(z:Value)(bytes:Nat)(ht:P.underlying t=some (.slice e))(hi:P.info? e=some i)(hz:i.zero=some z)
 (xm:i.size=1)(AJ:i.bytes=bytes)(BY:z.cells.size=1)
 (v:Value)(n:Nat)(xs:List Value)(hs:a.eval s=v)(bt:w.ownsRow base e 1 v n xs)
 (y:Value)(m:Nat)(news:List Value)(hx:a.eval x=y)(hy:w.ownsRow base' e 1 y m news)(h1:∀u∈news,u.oneCell'=true)
 (An:n+m<=maxLen)(AK:(n+m)*bytes<=140737488355328)(UN:base<=w.heap.size)
 (h:∀v' w',w'.ownsRow base e 1 v' (n+m) (xs++news)->w.grownBy w' v.ownBlock->(v'.ownBlock=v.ownBlock\/v'.ownBlock=some w.heap.size)->wpList P ops Q rest (a.put o.dst v') w'):
 wpList P ops Q (o::rest) a w:=by
 have VO:=hy;obtain⟨hyl,hy'⟩:=hy;rcases hy' with⟨hv,hm⟩|⟨g,cap,aM,hv,a1,a2,a3,a4,a5,a6⟩
 ·subst hm;have:news=[]:=Ax.1 (by omega);subst this;refine Dp iI s x t ho base e i 1 ht hi v n xs hs bt (hx.trans hv) (h v w (by simpa using bt) ⟨rfl,rfl,rfl,Ab _,fun _ _ _=>rfl⟩ (Or.inl rfl))
 ·refine Ap w iI s x t ho base e i z 1 bytes ht hi hz xm AJ BY (by decide) v n xs hs bt ⟨g,0,none⟩ m cap news (hx.trans hv) hyl (fun j u hj=>?_) h1 An AK UN (fun v' w' b1 b2 b3 b4=>h v' w' b1 b2 b4);subst hv;exact VO.cells (g:=g) rfl j u hj
theorem apz(w:World):Calls prog 98 #[] w fun e w'=>∃v,e=.returned v/\∃S:bF,w'.ownsRow w.heap.size 219 2 v S.length (dd S)/\dz S/\S.length<=4/\(∀c,bV S c=bV (lY 119) c)/\aa af w w':=by
 go_enter func98,ntmps98
 go_wp2_with fail
 refine(RA 119 w).mono ?_;rintro e w1 ⟨v,rfl,hv,k1⟩;have hr:=RB 119;have az:lY 119≠ []:=by intro e;rw[e]at hr;simp at hr
 obtain⟨g,cap,rfl,g1,g2,g3,g4⟩:=wN hv az;have F:=ab (Wu (cap:=cap) g3 hr.1 (by omega) az g2);have hl:=hr.2.2;have HR:=ab hr.1;have K1:=ab k1;clear hv g3 hr az;have HOR:Hid (∀s∈lY 119,s.1<=s.2):=by show∀s∈lY 119,s.1<=s.2;decide
 generalize sK:lY 119=L at*
 have Ig:=ab sK;clear sK;go_wp2_with fail;refine(F.o).mono ?_;rintro e w2 ⟨l',v,hp,hpw,rfl,bt,k2⟩;have kD:dz l':=fun s hs=>HR.o s (hp.mem_iff.1 hs)
 have hm:=QT l' kD;have jX:=hp.length_eq;have ax:=ab (And.intro bt (And.intro hm.1 (K1.o.trans k2)));have s1:=K1.o.size
 have tG:Hid (∀c,bV (kY l') c=bV L c):=fun c=>by
  rw[(acL l' hpw (fun s hs=>HOR.o s (hp.mem_iff.1 hs))).2 c];unfold bV;exact hp.any_eq
 clear bt k2 hp hpw;go_wp2_with fail;go_ret;exact⟨_,rfl,kY l',CM ax.o.1 (by omega),ax.o.2.1,by omega,by intro c;rw[tG.o,Ig.o],ax.o.2.2⟩
theorem ahf(h:w.ownsRow base 219 2 v S.length (dd S))(hr:dz S)(hl:S.length<=6000):
 Calls prog 97 #[v] w fun e w'=>∃v:Value,e=.returned v/\∃rs:List Int,w'.ownsRow w.heap.size 21 1 v rs.length (nd rs)/\rs.length=2*S.length/\rs=rq S/\aa af w w':=by
 by_cases az:S=[]
 ·obtain⟨ao,c,rfl⟩:=cK h;subst az;exact TH (bs:=0) (fun h=>absurd rfl h) (fV.nil _ _) hr hl (fun h=>absurd rfl h)
 ·obtain⟨g,cap,rfl,g1,g2,g3,g4⟩:=wN h az;exact TH (bs:=g) (fun _=>rfl) g3 hr hl (fun _=>g2)
def Wk(v:Value)(u x:Int):Array Value:=#[v,.int .i64 u,.int .i64 x]
theorem oU.array{lo hi:Nat}{ms:List MS}(h:oU w lo hi base v ms)(az:0<ms.length):∃g c,v=.slice (some ⟨g,0,none⟩) ms.length c/\g<w.heap.size/\ms.length<=c/\
 ∀i,(hi':i<ms.length)->∃s:Sv,gu w lo hi s ms[i]/\∀j,j<6->w.cell? ⟨g,i*6+j,none⟩=s.cells[j]? :=by
 obtain⟨vs,h1,h2,h3⟩:=h;obtain⟨hx,gO⟩:=h1;rcases gO with⟨_,h0⟩|⟨g,cap,aM,rfl,a1,a2,a3,a4,a5,a6⟩
 ·omega
 ·refine⟨g,cap,rfl,(Am.1 a2).1,a3,fun i hi'=>⟨vs[i],h3 i (by omega) hi',fun j hj=>?_⟩⟩;have hf:=Pj vs i (by omega) j hj;rw[<-hf,<-a6,Aw (by omega)];simp only[World.cell?,a2];simp
theorem anQ(w:World):Calls prog 126 #[.int .i32 (-1)] w fun e w'=>e=.returned (.int .i32 (-1))/\w'=w:=by
 go_enter func126,ntmps126
 go_wp2_with fail
 go_ret
 exact⟨rfl,rfl⟩
def pM(st:Int)(fo:Value)(ed:Bool)(cl:Value)(mo:Int)(mp:Nat)(nw mk:Value):Array Value:=#[.int .i64 st,fo,.bool ed,cl,.int .i64 mo,.map (some mp),nw,mk]
theorem aa.akW{S:Nat->Prop}{a:World}(h:aa S a w)(hg:w.grownBy w' (some b))(hb:S b\/a.heap.size<=b):aa S a w':=h.eQ hg (fun k hk=>by cases hk;exact hb)
def xH(t:bG):List Int:=[t.1 % 256,t.1/256 % 256,t.2 % 256,t.2/256 % 256]
def te(s:dt):List Int:=[s.ah % 256,if s.mt then 1 else 0]++s.aV.flatMap xH
def um(s:dt):ByteArray:=strOfNums (te s)
theorem acq(s:dt):∀x∈te s,0<=x/\x<256:=by
 intro x hx;unfold te at hx;rcases Al.1 hx with h|h
 ·simp only[Cg,Fr,or_false]at h;rcases h with rfl|rfl
  ·omega
  ·split<;>omega
 ·obtain⟨t,_,ht⟩:=Ez.1 h;unfold xH at ht;simp only[Cg,Fr,or_false]at ht;rcases ht with rfl|rfl|rfl|rfl<;>omega
theorem acp(s:dt):(te s).map Int.toNat=G0 s:=by
 unfold te G0;rw[Ci];congr 1
 ·cases s.mt<;>rfl
 ·rw[List.map_flatMap];rfl
theorem ac8:∀(l k:List Int),(∀x∈l,0<=x/\x<256)->(∀x∈k,0<=x/\x<256)->(l.map fun n=>UInt8.ofNat n.toNat)=(k.map fun n=>UInt8.ofNat n.toNat)->l=k
 | [],[],_,_,_=>rfl
 | [],_::_,_,_,h=>by simp at h
 |_::_,[],_,_,h=>by simp at h
 |x::xs,y::ys,hx,hy,h=>by
  simp only[Bw,F7]at h;have h1:=congrArg UInt8.toNat h.1;rw[UInt8.toNat_ofNat',UInt8.toNat_ofNat']at h1;have a:=hx x (by simp);have b:=hy y (by simp);have e:x=y:=by omega
  rw[e,ac8 xs ys (fun z hz=>hx z (by simp[hz])) (fun z hz=>hy z (by simp[hz])) h.2]
theorem akt{s r:dt}(h:um s=um r):G0 s=G0 r:=by
 have h1:=congrArg (fun b:ByteArray=>b.data.toList) h;have h2:(te s).map (fun n=>UInt8.ofNat n.toNat)=(te r).map (fun n=>UInt8.ofNat n.toNat):=h1;rw[<-acp,<-acp,ac8 _ _ (acq s) (acq r) h2]
def xp(x0 x1:Int)(l:List bG):List Int:=[x0,x1]++l.flatMap xH
def ng(l:List Int):List Value:=l.map (Value.int .u8)
theorem Tryz.ace:(prog.info? 5).map (fun i=>(i.zero,i.size,i.bytes))=some (some (.int .u8 0),1,1):=by kernel_rfl
theorem aku{tb:Nat}{a:Option Addr}{sv:Value}{s:dt}(h:aq w b #[.slice a s.aV.length c,.int .i32 s.ah,.bool s.mt,sv] 192)(hT:pI w tb a s.aV)(hl:s.aV.length<=10000):
 Calls prog 125 #[.pointer (some ⟨b,0,none⟩)] w fun e w'=>e=.returned (.string (um s))/\aa af w w':=by
 have c0:w.cell? ⟨b,0,none⟩=some (.slice a s.aV.length c):=h.cell 0;have c1:w.cell? ⟨b,1,none⟩=some (.int .i32 s.ah):=h.cell 1;have c2:w.cell? ⟨b,2,none⟩=some (.bool s.mt):=h.cell 2;have gD:=h.lt;obtain⟨ii,AT,MN,GI,nG⟩:=Bp Tryz.ace;have HB:=ab h;have HT:=ab hT;clear h hT;obtain⟨x0,ML⟩:∃x0,x0=s.ah % 256:=⟨_,rfl⟩
 have HX:=ab ML;clear ML;obtain⟨y1,QJ⟩:∃y1:Int,y1=if s.mt then 1 else 0:=⟨_,rfl⟩
 have HY:=ab QJ;clear QJ;go_in;go_upto_if 15 with fail
 rw[<-HX.o];have du:Hid (∀x1:Int,x1=(if s.mt then 1 else 0)->∀W,W.heap[w.heap.size]? =some (.cells #[.int .u8 x0,.int .u8 x1] 5 (0,0))->aa af w W->W.ownsRow w.heap.size 5 1 (.slice (some ⟨w.heap.size,0,none⟩) 2 2) 2 (ng [x0,x1])/\aa af w W):=fun x1 _ W hW k=>⟨⟨rfl,Or.inr ⟨w.heap.size,2,_,rfl,Ab _,hW,Ab _,by unfold maxLen;omega,rfl,rfl⟩⟩,k⟩
 go_cut [3] (fun v3 wx=>v3=.slice (some ⟨w.heap.size,0,none⟩) 2 2/\Hid (wx.ownsRow w.heap.size 5 1 (.slice (some ⟨w.heap.size,0,none⟩) 2 2) 2 (ng [x0,y1]))/\Hid (aa af w wx))
 case first=>
  have bK:=aq.new w #[.int .u8 x0,.int .u8 0] 5;have kK:aa af w (w.alloc (.cells #[.int .u8 x0,.int .u8 0] 5)):=(aa.refl af w).alloc _;have z1:(w.alloc (.cells #[.int .u8 x0,.int .u8 0] 5)).cell? ⟨w.heap.size,1,none⟩=some (.int .u8 0):=bK.cell 1;have zf:=bK.frozen 1;have ax:Hid (s.mt=false->(w.alloc (.cells #[.int .u8 x0,.int .u8 0] 5)).ownsRow w.heap.size 5 1 (.slice (some ⟨w.heap.size,0,none⟩) 2 2) 2 (ng [x0,0])/\aa af w (w.alloc (.cells #[.int .u8 x0,.int .u8 0] 5))):=fun hm=>du.o 0 (by rw[hm];rfl) _ bK kK
  have Si:Hid (s.mt=true->(w.alloc (.cells #[.int .u8 x0,.int .u8 1] 5)).ownsRow w.heap.size 5 1 (.slice (some ⟨w.heap.size,0,none⟩) 2 2) 2 (ng [x0,1])/\aa af w (w.alloc (.cells #[.int .u8 x0,.int .u8 1] 5))):=fun hm=>du.o 1 (by rw[hm];rfl) _ (aq.new w #[.int .u8 x0,.int .u8 1] 5) ((aa.refl af w).alloc _)
  clear du bK kK HB HT
  cases iA:s.mt
  ·have:=ax.o iA;have F1:=ab this.1;have F2:=ab this.2;clear this ax Si;go_wp2_with fail;go_meet
   case rel=>exact⟨rfl,(by rw[HY.o,iA];exact F1),F2⟩
  ·have:=Si.o iA;have F1:=ab this.1;have F2:=ab this.2;clear this ax Si;go_wp2_with fail;go_meet
   case rel=>exact⟨rfl,(by rw[HY.o,iA];exact F1),F2⟩
 case rest=>
  obtain⟨rfl,HR,HK⟩:=hcut;clear du;have O9:wc.cell? ⟨b,0,none⟩=some (.slice a s.aV.length c):=(HK.o.cell (p:=⟨b,0,none⟩) gD (fun hx=>hx)).trans c0;have Zt:Hid (∃v,v=(.slice (some ⟨w.heap.size,0,none⟩) 2 2:Value)/\wc.ownsRow w.heap.size 5 1 v (2+4*0) (ng (xp x0 y1 (s.aV.take 0)))/\aa af w wc):=⟨_,rfl,by have:=HR.o;simpa[xp]using this,HK.o⟩;clear c0 c1 c2 HR;go_wp2_with fail;go_loopg [3,23] s.aV.length (fun kk v3 v23 wr=>∃k:Nat,v23=.int .i64 (k:Int)/\k<=s.aV.length/\kk=s.aV.length-k/\Hid (wr.ownsRow w.heap.size 5 1 v3 (2+4*k) (ng (xp x0 y1 (s.aV.take k)))/\aa af w wr))
  case atStart=>
   obtain⟨v,rfl,h1,h2⟩:=Zt.o;exact⟨0,rfl,Ao _,rfl,⟨h1,h2⟩⟩
  case round=>
   obtain⟨k,rfl,hk,eZ,HI⟩:=hrel;clear Zt O9;obtain⟨av,cv,hv⟩:=cK HI.o.1;subst hv;by_cases aw:k<s.aV.length
   ·have iX:(k:Int)<(s.aV.length:Int):=(by omega);have az:s.aV≠ []:=by intro e;rw[e]at aw;simp at aw
    obtain⟨Jc,VH⟩:=HT.o.at_ az;subst Jc;obtain⟨z1,z2⟩:=(HT.o.kept HI.o.2 (fun _ hx=>hx)).cells k aw;have aqN:tb<wr.heap.size:=As VH HI.o.2.size;have ab8:=HI.o.2.size;obtain⟨tu,ug⟩:∃tu,(s.aV[k]).1=tu:=⟨_,rfl⟩
    obtain⟨ts,oE⟩:∃ts,(s.aV[k]).2=ts:=⟨_,rfl⟩
    rw[ug]at z1;rw[oE]at z2
    have It:Hid (∀(W w5:World) (v5:Value),aa af wr W->w5.ownsRow w.heap.size 5 1 v5 (2+4*k+4) (ng (xp x0 y1 (s.aV.take k))++ng (xH (tu,ts)))->W.grownBy w5 (Value.slice av (2+4*k) cv).ownBlock->w5.ownsRow w.heap.size 5 1 v5 (2+4*(k+1)) (ng (xp x0 y1 (s.aV.take (k+1))))/\aa af w w5):=fun W w5 v5 k0 ho dN=>by
     have e:s.aV.take (k+1)=s.aV.take k++[(tu,ts)]:=by
      rw[C1 aw];congr 2;exact Prod.ext ug oE
     refine⟨?_,HI.o.2.bZ ((k0.mono (fun _ hx=>hx.elim)).eQ dN (fun j hj=>Or.inl hj)) (fun i hi hx=>by have:=(dE HI.o.1 hx).1;omega)⟩;rw[e,show 2+4*(k+1)=2+4*k+4 by omega];have e2:ng (xp x0 y1 (s.aV.take k++[(tu,ts)]))=ng (xp x0 y1 (s.aV.take k))++ng (xH (tu,ts)):=by unfold ng xp;simp
     rw[e2];exact ho
    have HH:=ab HI.o.1;clear HI ug oE;go_wp2_with (at_builtin;refine Ap _ rfl _ _ 42 rfl w.heap.size 5 ii _ 1 1 underlying42 AT MN GI nG rfl (by decide) _ _ _ rfl ((HH.o.alloc _).alloc _) ⟨wr.heap.size+1,0,none⟩ 4 4 (ng (xH (tu,ts))) rfl rfl ?c1 ?c2 ?c3 ?c4 ?c5 ?_)
    case c1=>
     intro j v hv;rw[Lb];have hB:=aq.new (wr.alloc (.cells #[.int .i64 tu,.int .i64 ts] 256)) #[.int .u8 (tu % 256),.int .u8 (tu/256 % 256),.int .u8 (ts % 256),.int .u8 (ts/256 % 256)] 5;rw[fO]at hB;exact(hB.cell j).trans (by simpa[ng,xH]using hv)
    case c2=>
     intro v hv;unfold ng xH at hv;simp at hv;rcases hv with rfl|rfl|rfl|rfl<;>rfl
    case c3=>unfold maxLen;omega
    case c4=>omega
    case c5=>simp;omega
    intro v' w7 bH b_ dS cB;obtain⟨jg,c',rfl⟩:=cK bH;have ax:=ab (It.o _ _ _ (((aa.refl af wr).alloc _).alloc _) bH b_);clear bH b_ dS cB It HH;go_wp2_with fail;go_roundg (s.aV.length-(k+1))
    case measure=>omega
    case rel=>exact⟨k+1,by simp,by omega,rfl,ax⟩
   ·have iX:¬(k:Int)<(s.aV.length:Int):=(by omega);obtain⟨g,cg,e1,_,wX,_,h_,_⟩:=mG HI.o.1 (by omega);obtain⟨eA,eC⟩:av=some ⟨g,0,none⟩/\cv=cg:=by simpa using e1
    have Vd:k=s.aV.length:=by omega
    have AR:ng (xp x0 y1 (s.aV.take k))=ng (te s):=by
     rw[Vd,Cn];unfold te xp;rw[HX.o,HY.o]
    have abI:(te s).length=2+4*k:=by
     have:=HI.o.1.1;rw[AR]at this;simpa[ng]using this
    have hc:=run_convert_bytes_arg (P:=prog) (w:=wr) 42 5 underlying42 underlying5 g 0 (2+4*k) cv (te s) abI (fun i hi=>by
     rw[Bf,h_ i hi,AR];unfold ng;rw[Bv,Af,Ae (by omega)];rfl) 9 underlying9
    have HKf:=ab HI.o.2;have hkS:strOfNums (te s)=um s:=rfl;rw[hkS]at hc;obtain⟨key,jk⟩:∃key,key=um s:=⟨_,rfl⟩
    rw[<-jk]at hc;have HKY:=ab jk;clear jk e1 HI h_ AR abI hkS eC Vd;subst eA;go_wp2_with fail;go_ret;exact⟨by rw[<-HKY.o];rfl,HKf.o⟩
