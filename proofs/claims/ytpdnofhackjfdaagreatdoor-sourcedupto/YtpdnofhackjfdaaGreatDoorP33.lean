/- Package marks -/
import Derived.Test.YtpdnofhackjfdaaGreatDoorP30
import Derived.Test.YtpdnofhackjfdaaGreatDoorP32
set_option linter.all false
set_option maxRecDepth 100000
set_option maxHeartbeats 4000000
namespace Go.Proofs.YtpdnofhackjfdaaGreatDoor
open Go.Proofs.Tryz
open Go.RowKit Go.Maps
variable {a b base c cap g m n off s sz:Nat} {S:bI} {v:Value} {w w':World}
theorem ad4{e size:Nat}{xs:List Value}(h:w.ownsRow base e size (.slice (some (GB g 0)) n c) n xs):(∀i,i<xs.length->w.cell? (GB g i)=xs[i]?)/\(∀i,w.frozen? (GB g i)=false)/\g<w.heap.size:=by
 rcases h.2 with⟨h1,_⟩|⟨b,cap,aO,h3,h4,h5,h6,h7,h8,h9⟩
 ·cases h1
 ·cases h3;refine⟨fun i hi=>?_,fun i=>by simp[World.frozen?,h5],(Am.1 h5).1⟩
  rw[<-h9,Av (by rw[<-h.1];exact hi)];simp only[World.cell?,h5];simp
theorem afM(l k:List bJ):eU (l++k)=eU l++eU k:=by unfold eU;simp
theorem apv(D r:List bJ)(t:bJ)(s:Int):(eU (D++t::r)).set (D.length*2+1) (GW s)=eU (D++(t.1,s)::r):=by
 rw[afM,afM,Em _ _ (by rw[II];omega),II,show D.length*2+1-D.length*2=1 by omega];rfl
theorem Tryz.akE:(prog.info? 3).map (fun i=>(i.zero,i.size,i.bytes))=some (some (GW 0),1,8):=by kernel_rfl
structure LS(w wr:World)(lv hv:Value)(lb:Nat)(l D:List bJ)(H:List Int)(k:Nat):Prop where
 len:D.length=k
 row:wr.ownsRow 0 256 2 lv l.length (eU (D++l.drop k))
 aN:wr.ownsRow w.heap.size 3 1 hv H.length (cQ H)
 e1:(fV l).1=D++(gO (l.drop k) H).1
 e2:(fV l).2=(gO (l.drop k) H).2
 bN:H.length<=k
 kept:aa (fun i=>l≠ []/\i=lb) w wr
theorem anU{lv:Value}{l:List bJ}(h:w.ownsRow 0 256 2 lv l.length (eU l))(hl:l.length<=10000):
 Calls prog 239 #[lv] w fun e w'=>∃hv,e=.returned hv/\w'.ownsRow 0 256 2 lv l.length (eU (fV l).1)/\w'.ownsRow w.heap.size 3 1 hv (fV l).2.length (cQ (fV l).2)/\aa (fun i=>lv.ownBlock=some i) w w':=by
 obtain⟨lb,a,c,hv,hT,kD⟩:=pX.of h;have dD:Hid (LS w w lv (.slice none 0 0) lb l [] [] 0):=⟨rfl,h,A8 _ _ _ _,rfl,rfl,Ab _,aa.refl _ _⟩;have ES:=ab kD;have HA:=ab hT.at_;obtain⟨ii,CM,NN,H5,oC⟩:=Bo Tryz.akE;clear h hT kD;subst hv;go_in;go_wp2_with fail;go_loopg [3,8] l.length (fun kk v3 v8 wr=>∃(k:Nat) (D:List bJ) (H:List Int),v8=GW (k:Int)/\k<=l.length/\kk=l.length-k/\Hid (LS w wr (.slice a l.length c) v3 lb l D H k))
 case atStart=>exact⟨0,[],[],rfl,Al _,rfl,dD⟩
 case round=>
  obtain⟨k,D,H,rfl,hk,eE,HI⟩:=hrel;clear dD;obtain⟨ah,ch,RK⟩:=cw HI.o.aN;subst RK;by_cases az:k<l.length
  ·have jP:(k:Int)<(l.length:Int):=(by omega);have aB:l≠ []:=by intro e;subst e;simp at az
   obtain⟨JP,_⟩:=HA.o aB;have WG:=ES.o aB;subst JP;have v_:l.drop k=l[k]::l.drop (k+1):=Bw az;have dU:=HI.o.row;have dc:=HI.o.len;rw[v_]at dU;have Ju:(D++l[k]::l.drop (k+1)).length=l.length:=by simp;omega
   obtain⟨fC,qe,ajR⟩:=ad4 dU;have rZ:=Td (l:=D++l[k]::l.drop (k+1)) (k:=k) (by rw[Ju];exact az)
   have hek:(D++l[k]::l.drop (k+1))[k]'(by rw[Ju];exact az)=l[k]:=by
    rw[List.getElem_append_right (by omega)];simp[dc]
   rw[hek]at rZ;have z1:wr.cell? ⟨lb,k*2,none⟩=some (GW (l[k]).1):=(fC (k*2) (by rw[II,Ju];omega)).trans rZ.1;have z2:wr.cell? ⟨lb,k*2+1,none⟩=some (GW (l[k]).2):=(fC (k*2+1) (by rw[II,Ju];omega)).trans rZ.2;have zf:=qe (k*2+1);obtain⟨tu,uI⟩:∃tu,(l[k]).1=tu:=⟨_,rfl⟩
   obtain⟨ts,rj⟩:∃ts,(l[k]).2=ts:=⟨_,rfl⟩
   rw[uI]at z1;rw[rj]at z2;have WZ:l[k]=(tu,ts):=Prod.ext uI rj
   have I9:Hid (∀(w5:World) (ib:Value),w5.ownsRow w.heap.size 3 1 ib (dg H ts).length (cQ (dg H ts))->aa (fun i=>(Value.slice ah H.length ch).ownBlock=some i) wr w5->w5.cell? ⟨lb,k*2+1,none⟩=some (GW ts)/\w5.frozen? ⟨lb,k*2+1,none⟩=false/\LS w (w5.setCell ⟨lb,k*2+1,none⟩ (GW (((dg H ts).length:Int)-1))) (.slice (some (GB lb 0)) l.length c) ib lb l (D++[(tu,((dg H ts).length:Int)-1)]) (dg H ts) (k+1)):=fun w5 ib hh5 k5=>by
    have uF:∀i,(Value.slice ah H.length ch).ownBlock=some i->i≠lb:=fun i hi e=>by
     have h1:=(dw HI.o.aN hi).1;have wi:=HI.o.kept.size;have h2:lb<w.heap.size:=(HA.o aB).2;omega
    have r5:=bU dU k5 (fun i hi hx=>uF i hx (by simp only[Value.ownBlock,Bd]at hi;exact hi.symm));obtain⟨q1,q2,q3⟩:=ad4 r5;have ks:aa (fun i=>i=lb) w5 (w5.setCell ⟨lb,k*2+1,none⟩ (.int .i64 (((dg H ts).length:Int)-1))):=(aa.refl (fun i=>i=lb) w5).setCell (p:=⟨lb,k*2+1,none⟩) (Or.inl rfl) _;have Re:(dg H ts).length<=H.length+1:=by unfold dg;split<;>simp
    have aqN:lb<w.heap.size:=(HA.o aB).2;refine⟨(q1 (k*2+1) (by rw[II,Ju];omega)).trans (by rw[rZ.2,rj]),q2 _,⟨by simp[dc],?_,?_,?_,?_,by have:=HI.o.bN;omega,?_⟩⟩
    ·have:=zK r5 (k*2+1) (GW (((dg H ts).length:Int)-1));have hs:=apv D (l.drop (k+1)) l[k] (((dg H ts).length:Int)-1);rw[dc]at hs;rw[hs,uI]at this;rw[Bu];exact this
    ·exact bU hh5 ks (fun i hi hx=>by have:=(dw hh5 hi).1;omega)
    ·have:=HI.o.e1;rw[v_,WZ]at this;rw[this,Bu];rfl
    ·have:=HI.o.e2;rw[v_,WZ]at this;rw[this];rfl
    ·exact(HI.o.kept.b_ k5 (fun i hi hx=>by have:=(dw HI.o.aN hx).1;omega)).trans (ks.mono (fun i hx=>⟨aB,hx⟩))
   have HH:=ab HI.o.aN;have hHk:H.length<=10000:=by have:=HI.o.bN;omega
   have acS:=HI.o.kept.size;clear fC qe rZ hek dU v_ WZ uI rj Ju;have rl:lb<wr.heap.size:=ajR
   have Ui:Hid (∀(w5:World),aa ai wr w5->dg H ts=H->w5.cell? ⟨lb,k*2+1,none⟩=some (GW ts)/\w5.frozen? ⟨lb,k*2+1,none⟩=false/\LS w (w5.setCell ⟨lb,k*2+1,none⟩ (GW ((H.length:Int)-1))) (.slice (some (GB lb 0)) l.length c) (.slice ah H.length ch) lb l (D++[(tu,(H.length:Int)-1)]) H (k+1)):=fun w5 k5 e=>by
    have:=I9.o w5 (.slice ah H.length ch) (by rw[e];exact bU HH.o k5 (fun _ _ hx=>hx)) (k5.mono (fun _ hx=>hx.elim));rw[e]at this;exact this
   have AP:Hid (∀(W w5:World) (ib:Value),aa ai wr W->dg H ts=H++[ts]->w5.ownsRow w.heap.size 3 1 ib (H.length+1) (cQ H++[GW ts])->W.grownBy w5 (Value.slice ah H.length ch).ownBlock->w5.cell? ⟨lb,k*2+1,none⟩=some (GW ts)/\w5.frozen? ⟨lb,k*2+1,none⟩=false/\LS w (w5.setCell ⟨lb,k*2+1,none⟩ (GW (H.length:Int))) (.slice (some (GB lb 0)) l.length c) ib lb l (D++[(tu,(H.length:Int))]) (H++[ts]) (k+1)):=fun W w5 ib k0 e bC dM=>by
    have pD:(((dg H ts).length:Int)-1)=(H.length:Int):=by rw[e];simp
    have:=I9.o w5 ib (by rw[e,Aj];rw[show cQ (H++[ts])=cQ H++[GW ts] by unfold cQ;simp];exact bC) ((k0.mono (fun _ hx=>hx.elim)).eP dM (fun j hj=>Or.inl hj));rw[pD,e]at this;exact this
   clear I9 HI;have mE:k*2+1<100000:=(by omega);by_cases uu:dg H ts=H
   ·have uC:H.getLast?=some ts:=by rw[<-uu];exact ab5 H ts
    have JR:H≠ []:=by intro e;rw[e]at uC;cases uC
    obtain⟨m,hm⟩:∃m,H.length=m+1:=⟨H.length-1,by have:=Bt.2 JR;omega⟩
    obtain⟨hb,cb,e1,_,gJ,_,gV,_⟩:=mO HH.o (by omega);obtain⟨eA,eC⟩:ah=some (GB hb 0)/\ch=cb:=by simpa using e1
    clear e1;subst eC
    have zl:wr.cell? (GB hb m)=some (GW ts):=by
     rw[gV m (by omega)];rw[Ey,hm,Cz]at uC;unfold cQ;rw[Cb,uC];rfl
    have AG:=(ab fun(w5:World) (k5:aa ai wr w5)=>Ui.o w5 k5 uu);clear AP Ui gV uC;have akk:((m+1:Nat):Int)-1=(m:Int):=(by omega);rw[hm,akk]at AG;rw[hm];subst eA;have JZ:((m+1:Nat):Int)-1=(m:Int):=(by omega);have hz:(((m:Int)+1)==0)=false:=by simp;omega
    have arb:(m:Int)+1-1=(m:Int):=(by omega);go_wp2_with fail;go_big_quiet (fail);have kA:aa ai wr ((wr.alloc (.cells #[GW tu,GW ts] 256)).drewN nq):=((aa.refl ai wr).alloc _).drewN nq;obtain⟨p1,p2,p3⟩:=AG.o _ kA;have aA:=ab p3;generalize(wr.alloc (.cells #[GW tu,GW ts] 256)).drewN nq=wa at*;clear p3 AG HH kA z1 z2 zf zl;go_wp2_with fail;go_roundg (l.length-(k+1))
    case measure=>omega
    case rel=>exact⟨k+1,_,H,by simp,by omega,rfl,by rw[hm]at*;exact aA⟩
   ·have MW:dg H ts=H++[ts]:=by
     unfold dg at uu⊢;split
     ·rename_i hx;rw[if_pos hx]at uu;exact absurd rfl uu
     ·rfl
    have AG:=(ab fun(W w5:World) (ib:Value) (k0:aa ai wr W) (ho:w5.ownsRow w.heap.size 3 1 ib (H.length+1) (cQ H++[GW ts])) (dM:W.grownBy w5 (Value.slice ah H.length ch).ownBlock)=>AP.o W w5 ib k0 MW ho dM);have aqL:w.heap.size<=wr.heap.size:=acS;clear AP Ui;by_cases JR:H=[]
    case' pos=>
     have hz:((H.length:Int)==0)=true:=by rw[JR];rfl
     clear JR;go_wp2_with fail;go_big_quiet (fail)
    case' neg=>
     obtain⟨m,hm⟩:∃m,H.length=m+1:=⟨H.length-1,by have:=Bt.2 JR;omega⟩
     obtain⟨hb,cb,e1,_,gJ,_,gV,_⟩:=mO HH.o (by omega);obtain⟨eA,eC⟩:ah=some (GB hb 0)/\ch=cb:=by simpa using e1
     clear e1;subst eC;obtain⟨L0,QT⟩:∃L0,H.getLast?=some L0:=⟨_,Eb JR⟩
     have zl:wr.cell? (GB hb m)=some (GW L0):=by
      rw[gV m (by omega)];rw[Ey,hm,Cz]at QT;unfold cQ;rw[Cb,QT];rfl
     have aj3:L0≠ts:=fun e=>by
      unfold dg at MW;rw[if_pos (by rw[QT,e])]at MW;have:=congrArg List.length MW;simp at this
     have hz:((H.length:Int)==0)=false:=by simp;omega
     have de:¬(H.length:Int)=0:=(by omega);have JZ:(H.length:Int)-1=(m:Int):=(by omega);have uE:¬(H.length:Int)<=(m:Int):=(by omega);have hbq:(L0==ts)=false:=(by simpa using aj3);have HMM:=ab hm;clear gV QT MW hm;subst eA;go_wp2_with fail;go_big_quiet (fail)
    all_goals
     have kA:aa ai wr ((wr.alloc (.cells #[GW tu,GW ts] 256)).drewN nq):=((aa.refl ai wr).alloc _).drewN nq;have HK:=ab kA;have ik:=ab (bU HH.o kA (fun _ _ hx=>hx));have VM:((wr.alloc (.cells #[GW tu,GW ts] 256)).drewN nq).cell? (GB wr.heap.size 1)=some (GW ts):=(au.new wr #[GW tu,GW ts] 256).cell 1;have WT:=kA.size;generalize(wr.alloc (.cells #[GW tu,GW ts] 256)).drewN nq=wa at*;clear kA HH;go_wp2_with (at_builtin;refine Ao _ rfl _ _ 22 rfl w.heap.size 3 ii _ 1 8 underlying22 CM NN H5 oC rfl (by decide) _ _ _ rfl (ik.o.alloc _) (GB wa.heap.size 0) 1 1 [GW ts] rfl rfl ?c1 ?c2 ?c3 ?c4 ?c5 ?_)
     case c1=>exact Is _ _
     case c2=>exact wv _
     case c3=>unfold maxLen;omega
     case c4=>omega
     case c5=>simp;omega
     intro v' w7 bL cy eF cI;obtain⟨jl,c',rfl⟩:=cw bL;obtain⟨p1,p2,p3⟩:=AG.o _ _ _ (HK.o.alloc _) bL cy;have aA:=ab p3;clear bL cy eF cI p3 AG ik HK;go_wp2_with fail;go_roundg (l.length-(k+1))
     case measure=>omega
     case rel=>exact⟨k+1,_,H++[ts],by simp,by omega,rfl,aA⟩
  ·have jP:¬(k:Int)<(l.length:Int):=by omega
   have aA:Hid (wr.ownsRow 0 256 2 (.slice a l.length c) l.length (eU (fV l).1)/\wr.ownsRow w.heap.size 3 1 (.slice ah H.length ch) (fV l).2.length (cQ (fV l).2)/\aa (fun i=>(Value.slice a l.length c).ownBlock=some i) w wr):=by
    have e1:=HI.o.e1;have e2:=HI.o.e2;have hr:=HI.o.row;have hd:l.drop k=[]:=Eg (by omega);rw[hd]at e1 e2 hr;have ue:(fV l).1=D++[]:=e1;have UX:(fV l).2=H:=e2;refine⟨by rw[ue];exact hr,by rw[UX];exact HI.o.aN,?_⟩;exact HI.o.kept.mono (fun i hx=>by rw[hx.2];exact ES.o hx.1)
   clear HI;go_wp2_with fail;go_ret;exact⟨_,rfl,aA.o⟩
def pg(w:World)(g off n sz:Nat):Prop:=∃aO:Array Value,w.heap[g]? =some (.cells aO 21 (0,0))/\aO.size=sz/\off+n<=sz/\∀t,t<n->∃r:Int,aO[off+t]? =some (.int .i32 r)
theorem pg.ja(h:pg w g off n sz):∃G:Nat->Int,(∀t,t<n->w.cell? ⟨g,off+t,none⟩=some (.int .i32 (G t)))/\∀t,t<n->w.frozen? ⟨g,off+t,none⟩=false:=by
 obtain⟨aO,h1,h2,h3,h4⟩:=h;refine⟨fun t=>match aO[off+t]? with|some (.int _ r)=>r|_=>0,fun t ht=>?_,fun t ht=>by simp[World.frozen?,h1]⟩;obtain⟨r,hr⟩:=h4 t ht;simp only[World.cell?,h1];simp[hr]
theorem pg.lt(h:pg w g off n sz):g<w.heap.size:=by
 obtain⟨aO,h1,_⟩:=h;exact(Am.1 h1).1
theorem pg.kept{K:Nat->Prop}(h:pg w g off n sz)(k:aa K w w')(hg:¬K g):pg w' g off n sz:=by
 have hl:=h.lt;obtain⟨aO,h1,h2⟩:=h;exact⟨aO,(k.block g hl hg).trans h1,h2⟩
theorem bP{p:Prop}(h:p):Hid p:=h
def dS:Value->Int|.int _ q=>q|_=>0
theorem jF(x y:Int)(W:World):Calls prog 155 #[.int .i32 x,.int .i32 y] W fun e w'=>e=.returned (.bool (decide (x<y)))/\w'=W:=by
 go_enter func155,ntmps155
 go_wp2_with (first|(go_at_call 174;refine(ac1 _ _).mono ?_;rintro e w' ⟨rfl,rfl⟩)|fail)
 go_ret
 exact⟨rfl,rfl⟩
structure FU(w:World)(s m:Nat)(w':World)(m':Nat):Prop where
 aq:au w' s #[GW (m':Int)] 3
 kept:aa (fun i=>i=s) w w'
theorem FU.row{m':Nat}(h:FU w s m w' m')(hR:pg w g off n sz)(aB:g≠s):pg w' g off n sz:=hR.kept h.kept aB
theorem XU(hR:pg w g off n sz)(hS:au w s #[GW (m:Int)] 3)(ha:a<n)(hb:b<n)(hm:m<=100)(hn:n<4611686018427387904):
 Calls prog 190 #[.slice (some (GB g off)) n cap,GW (a:Int),GW (b:Int),BT s 0] w fun e w'=>∃x y m':Nat,e=.returned (.tuple #[GW (x:Int),GW (y:Int)])/\(x=a/\y=b\/x=b/\y=a)/\m'<=m+1/\FU w s m w' m':=by
 obtain⟨G,bl,bT⟩:=hR.ja;have c0:w.cell? (GB s 0)=some (GW (m:Int)):=hS.cell 0;have f0:w.frozen? (GB s 0)=false:=hS.frozen 0;have gX:=hS.lt;have HS:=bP hS;clear hS hR;go_enter func190,ntmps190;go_wp2_with fail;go_quiet (first|(go_at_call 155;refine As (jF _ _ _)));go_wp2_with fail
 ·go_ret2
  refine⟨b,a,m+1,rfl,Or.inr ⟨rfl,rfl⟩,Ab _,?_,?_⟩
  ·have:=au.setCell (w:=w.drewN nq) (b:=s) (cs:=#[GW (m:Int)]) (t:=3) HS.o 0 (GW ((m:Int)+1));simpa using this
  ·exact((aa.refl (fun i=>i=s) w).drewN _).setCell (p:=(GB s 0)) (Or.inl rfl) _
 ·go_ret2
  exact⟨a,b,m,rfl,Or.inl ⟨rfl,rfl⟩,by omega,HS.o,(aa.refl (fun i=>i=s) w).drewN _⟩
theorem adt(hR:pg w g off n sz)(hS:au w s #[GW (m:Int)] 3)(lh:g≠s)(ha:a<n)(hb:b<n)(hc:c<n)(hm:m<=50)(hn:n<4611686018427387904):
 Calls prog 179 #[.slice (some (GB g off)) n cap,GW (a:Int),GW (b:Int),GW (c:Int),BT s 0] w fun e w'=>∃x m':Nat,e=.returned (GW (x:Int))/\(x=a\/x=b\/x=c)/\m'<=m+3/\FU w s m w' m':=by
 go_enter func179,ntmps179
 go_wp2_with fail
 refine(XU hR hS ha hb (by omega) hn).mono ?_;rintro e w1 ⟨x1,y1,m1,rfl,aro,Nj,P1⟩;have R1:=P1.row hR lh;clear hR hS;go_wp2_with fail;refine(XU R1 P1.aq (show y1<n by omega) hc (by omega) hn).mono ?_;rintro e w2 ⟨x2,y2,m2,rfl,arp,Rp,P2⟩;have R2:=P2.row R1 lh;go_wp2_with fail;refine(XU R2 P2.aq (show x1<n by omega) (show x2<n by omega) (by omega) hn).mono ?_;rintro e w3 ⟨x3,y3,m3,rfl,arq,hm3,P3⟩;clear R1 R2;go_wp2_with fail;go_ret;exact⟨y3,m3,rfl,by omega,by omega,P3.aq,(P1.kept.trans P2.kept).trans P3.kept⟩
theorem alC(hR:pg w g off n sz)(hS:au w s #[GW (m:Int)] 3)(lh:g≠s)(ha:1<=a/\a+1<n)(hm:m<=50)(hn:n<4611686018427387904):
 Calls prog 178 #[.slice (some (GB g off)) n cap,GW (a:Int),BT s 0] w fun e w'=>∃x m':Nat,e=.returned (GW (x:Int))/\(a-1<=x/\x<=a+1)/\m'<=m+3/\FU w s m w' m':=by
 have F:=adt (cap:=cap) hR hS lh (show a-1<n by omega) (show a<n by omega) (show a+1<n by omega) hm hn;have e1:((a-1:Nat):Int)=(a:Int)-1:=by omega
 have e2:((a+1:Nat):Int)=(a:Int)+1:=by omega
 rw[e1,e2]at F;have F:=bP F;clear hR hS e1 e2;go_enter func178,ntmps178;go_wp2_with fail;refine(F.o).mono ?_;rintro e w1 ⟨x,m',rfl,hx,f_,P⟩;go_wp2_with fail;go_ret;exact⟨x,m',rfl,by omega,f_,P⟩
theorem adu{a b c:Int}(hR:pg w g off n sz)(hS:au w s #[GW (m:Int)] 3)(lh:g≠s)(ha:0<=a/\a<n)(hb:0<=b/\b<n)(hc:0<=c/\c<n)(hm:m<=50)(hn:n<4611686018427387904):
 Calls prog 179 #[.slice (some (GB g off)) n cap,GW a,GW b,GW c,BT s 0] w fun e w'=>∃(x:Int) (m':Nat),e=.returned (GW x)/\(x=a\/x=b\/x=c)/\m'<=m+3/\FU w s m w' m':=by
 obtain⟨a',rfl⟩:∃k:Nat,a=k:=⟨a.toNat,by omega⟩
 obtain⟨b',rfl⟩:∃k:Nat,b=k:=⟨b.toNat,by omega⟩
 obtain⟨c',rfl⟩:∃k:Nat,c=k:=⟨c.toNat,by omega⟩
 refine(adt hR hS lh (by omega) (by omega) (by omega) hm hn).mono ?_;rintro e w' ⟨x,m',rfl,h1,h2,h3⟩;exact⟨x,m',rfl,by omega,h2,h3⟩
theorem XG{a:Int}(hR:pg w g off n sz)(hS:au w s #[GW (m:Int)] 3)(lh:g≠s)(ha:1<=a/\a+1<n)(hm:m<=50)(hn:n<4611686018427387904):
 Calls prog 178 #[.slice (some (GB g off)) n cap,GW a,BT s 0] w fun e w'=>∃(x:Int) (m':Nat),e=.returned (GW x)/\(a-1<=x/\x<=a+1)/\m'<=m+3/\FU w s m w' m':=by
 obtain⟨a',rfl⟩:∃k:Nat,a=k:=⟨a.toNat,by omega⟩
 refine(alC hR hS lh (by omega) hm hn).mono ?_;rintro e w' ⟨x,m',rfl,h1,h2,h3⟩;exact⟨x,m',rfl,by omega,h2,h3⟩
theorem anA(hR:pg w g off n sz)(lG:a+12<=b)(hb:b<=n)(hn:n<4611686018427387904):
 Calls prog 152 #[.slice (some (GB g off)) n cap,GW (a:Int),GW (b:Int)] w fun e w'=>∃(p:Nat) (h:Int),e=.returned (.tuple #[GW (p:Int),GW h])/\(a<=p/\p<b)/\aa ai w w':=by
 have xH:=hR.lt;have lh:g≠w.heap.size:=by omega
 have R0:=hR.kept ((aa.refl ai w).alloc (.cells #[GW 0] 3)) (fun hx=>hx);have B0:au (w.alloc (.cells #[GW 0] 3)) w.heap.size #[GW ((0:Nat):Int)] 3:=au.new w #[GW 0] 3;have PK:=bP (And.intro R0 B0);have K0:Hid (aa ai w (w.alloc (.cells #[GW 0] 3))):=(aa.refl _ w).alloc _
 have aA:Hid (∀(p:Int) (h:Int) (w4:World) (m4:Nat),((a:Int)<=p/\p<(b:Int))->pg w4 g off n sz->aa (fun i=>i=w.heap.size) (w.alloc (.cells #[GW 0] 3)) w4->(∃(p':Nat) (h':Int),Ending.returned (.tuple #[GW p,GW h])=.returned (.tuple #[GW (p':Int),GW h'])/\(a<=p'/\p'<b)/\aa ai w w4)):=by
  intro p h w4 m4 hp hR4 hK4;exact⟨p.toNat,h,by rw[show((p.toNat:Nat):Int)=p by omega],by omega,K0.o.b_ hK4 (fun i hi hx=>by omega)⟩
 clear hR R0 B0;go_enter func152,ntmps152;go_wp2_with fail
 ·refine(XG PK.o.1 PK.o.2 lh (by omega) (by omega) hn).mono ?_;rintro e w1 ⟨x1,m1,rfl,tB,Nj,P1⟩;have R1:=P1.row PK.o.1 lh;go_wp2_with fail;refine(XG R1 P1.aq lh (by omega) (by omega) hn).mono ?_;rintro e w2 ⟨x2,m2,rfl,uJ,Rp,P2⟩;have R2:=P2.row R1 lh;clear R1;go_wp2_with fail;refine(XG R2 P2.aq lh (by omega) (by omega) hn).mono ?_;rintro e w3 ⟨x3,m3,rfl,DB,hm3,P3⟩;have R3:=P3.row R2 lh;clear R2;go_wp2_with fail;refine(adu R3 P3.aq lh (by omega) (by omega) (by omega) (by omega) hn).mono ?_;rintro e w4 ⟨x4,m4,rfl,zw,hm4,P4⟩;have R4:=bP (P4.row R3 lh);have c4:w4.cell? (GB w.heap.size 0)=some (GW (m4:Int)):=P4.aq.cell 0;have K4:=bP (((P1.kept.trans P2.kept).trans P3.kept).trans P4.kept);have hx:(a:Int)<=x4/\x4<(b:Int):=by omega
  clear R3 P1 P2 P3 P4 PK zw tB uJ DB;go_wp2_with fail
  all_goals
   go_ret2
   exact aA.o _ _ _ m4 hx R4.o K4.o
 ·refine(adu PK.o.1 PK.o.2 lh (by omega) (by omega) (by omega) (by omega) hn).mono ?_;rintro e w4 ⟨x4,m4,rfl,zw,hm4,P4⟩;have R4:=bP (P4.row PK.o.1 lh);have c4:w4.cell? (GB w.heap.size 0)=some (GW (m4:Int)):=P4.aq.cell 0;have K4:=bP P4.kept;have hx:(a:Int)<=x4/\x4<(b:Int):=by omega
  clear P4 PK zw;go_wp2_with fail
  all_goals
   go_ret2
   exact aA.o _ _ _ m4 hx R4.o K4.o
open Go.Lib Go.Sort
theorem amh(L:Nat)(hL:L<1000000000)(w:World):Calls prog 176 #[GW (L:Int)] w fun e w'=>e=.returned (.int .u64 ((1<<<bitsLen L:Nat):Int))/\w'=w:=
 AnyF.nextPowerOfTwo (P:=prog) (ρ:=Tryz.SQ) {Tryz.SP with} L (by omega) w
theorem aqf(s X:Nat)(hX:X<18446744073709551616)(w:World)(hc:w.cell? (GB s 0)=some (.int .u64 X))(hf:w.frozen? (GB s 0)=false):
 Calls prog 177 #[BT s 0] w fun e w'=>e=.returned (.int .u64 (xorNextN X:Nat))/\w'=(w.setCell (GB s 0) (.int .u64 (xorNextN X:Nat))).drewN 3:=
 AnyF.xorshift_Next (P:=prog) (ρ:=Tryz.SQ) {Tryz.SP with} s 0 X hX w hc hf
theorem adl(x:Nat)(hx:x<1000000000)(w:World):Calls prog 124 #[.int .u64 (x:Int)] w fun e w'=>∃l:Nat,e=.returned (GW (l:Int))/\l<=100/\w'=w:=by
 have h:=Any.bits_Len (SlLaysF0.n15.bits (P:=prog) (ρ:=Tryz.SQ) {Tryz.SP with}) (x:Int) w (by omega) (by omega);refine Calls.mono h ?_;rintro e w' ⟨rfl,rfl⟩;refine⟨Lib.bitLen x,by simp,?_,rfl⟩;rw[bitLen_eq x (by omega)];have:=(bitsLen_le_iff x 30).2 (by omega);omega
theorem akJ(w:World):Calls prog 149 #[.slice none 0 0,GW 0,GW 0] w fun e w'=>e=.returned (.tuple #[])/\w'=w:=by
 go_enter func149,ntmps149
 go_wp2_with fail
 go_loopw [6] (fun vi wr=>vi=GW 1/\wr=w) (fun vi _=>0)
 case atStart=>exact⟨rfl,rfl⟩
 case round=>
  obtain⟨rfl,rfl⟩:=hrel;go_wp2_with fail;go_end0;exact⟨rfl,rfl⟩
theorem anh(w:World)(lim:Int):Calls prog 123 #[.slice none 0 0,GW 0,GW 0,GW lim] w fun e w'=>e=.returned (.tuple #[])/\w'=w:=by
 go_enter func123,ntmps123
 go_wp2_with fail
 go_loopw [1,2] (fun va vb wr=>va=GW 0/\vb=GW 0/\wr=w) (fun _ _ _=>0)
 case atStart=>exact⟨rfl,rfl,rfl⟩
 case round=>
  obtain⟨rfl,rfl,rfl⟩:=hrel;go_wp2_with fail;refine(akJ _).mono ?_;rintro e w1 ⟨rfl,rfl⟩;go_wp2_with fail;(try simp only[Exit.inBlock,Exit.then]);refine Bm (Dk rfl _ _ _) rfl ?_;exact⟨rfl,rfl⟩
theorem aoM(w:World):Calls prog 99 #[.slice none 0 0] w fun e w'=>e=.returned (.tuple #[])/\w'=w:=by
 have F:=bP (adl 0 (by omega) w);go_enter func99,ntmps99;go_wp2_with fail;refine(F.o).mono ?_;rintro e w1 ⟨l,rfl,hl,rfl⟩;go_wp2_with fail;refine(anh _ _).mono ?_;rintro e w2 ⟨rfl,rfl⟩;go_wp2_with fail;go_end0;exact⟨rfl,rfl⟩
theorem ahP(w:World):Calls prog 100 #[.slice none 0 0] w fun e w'=>e=.returned (.slice none 0 0)/\w'=w:=by
 go_enter func100,ntmps100
 go_wp2_with fail
 go_ret
 exact⟨rfl,rfl⟩
theorem aoB{w1:World}(h:aa (fun i=>i=g) w w1):∀(vs:List Value) (o:Nat),aa (fun i=>i=g) w (w1.setCells g o vs):=by
 intro vs;induction vs generalizing w1 with
 |nil=>intro o;exact h
 |cons v vs ih=>intro o;exact ih (h.setCell (p:=(GB g o)) (Or.inl rfl) v) (o+1)
def nj(l:List Int):List Value:=l.map fun v=>.int .i32 v
theorem ae2(a b:List Int):nj (a++b)=nj a++nj b:=by simp[nj]
theorem Yn(l:List Int):∀u∈nj l,u.oneCell'=true:=by
 intro u hu;simp[nj]at hu;obtain⟨x,_,rfl⟩:=hu;rfl
def rP(S:bI):List Int:=S.flatMap fun s=>[s.1,s.2+1]
theorem UT{bs:Nat}{ao:Option Addr}(mA:S≠ []->ao=some (GB bs 0))(hc:gj w bs S)(hr:dH S)(hl:S.length<=6000)(hb:S≠ []->bs<w.heap.size):
 Calls prog 97 #[.slice ao S.length c] w fun e w'=>∃v:Value,e=.returned v/\∃rs:List Int,w'.ownsRow w.heap.size 21 1 v rs.length (nj rs)/\rs.length=2*S.length/\rs=rP S/\aa ai w w':=by
 obtain⟨i0,cW,dm,du,de⟩:=Bo Tryz.Xj;have HC:=ab hc;have HB:=ab hb;have HAO:=ab mA;clear hc hb mA;go_enter func97,ntmps97;go_wp2_with fail;go_loopg [3,8] S.length (fun kk v3 i wr=>∃(k:Nat) (rs:List Int),i=GW (k:Int)/\k<=S.length/\kk=S.length-k/\Hid (rs.length=2*k)/\Hid (rs=rP (S.take k))/\Hid (wr.ownsRow w.heap.size 21 1 v3 rs.length (nj rs))/\Hid (aa ai w wr))
 case atStart=>exact⟨0,[],rfl,Al _,rfl,ab rfl,ab (by simp[rP]),A8 _ _ _ _,aa.refl _ _⟩
 case round=>
  obtain⟨k,rs,rfl,hk,eE,kH,vd,HR,HK⟩:=hrel;by_cases az:k<S.length
  ·have aB:S≠ []:=by intro e;subst e;simp at az
   have e:=HAO.o aB;subst e;have iO:=HB.o aB;have ks:=HK.o.size;have d0:=(HC.o.kept HK.o iO (fun hx=>hx) k az).1;have d1:=(HC.o.kept HK.o iO (fun hx=>hx) k az).2;have hrk:=hr _ (A6 az);have hit:(k:Int)<(S.length:Int):=(by omega);have Wl:¬((S.length:Int)<=(k:Int)):=(by omega);obtain⟨fY,c3,rfl⟩:=cw HR.o;have qE:Hid (∀W,aa ai wr W->W.ownsRow w.heap.size 21 1 (.slice fY rs.length c3) rs.length (nj rs)):=(fun W kW=>bU HR.o kW (fun i _ hx=>hx));have HO:Hid (∀i,(Value.slice fY rs.length c3).ownBlock=some i->w.heap.size<=i):=fun i hi=>(dw HR.o hi).1
   have HCV:Hid (rs++[(S[k]).1,(S[k]).2+1]=rP (S.take (k+1))):=by
    show _=_
    rw[Ck az,vd.o];simp only[rP,List.flatMap_append,Dn,List.flatMap_nil,D3]
   generalize hp:S[k]=p at*
   obtain⟨p1,p2⟩:=p;simp only at d0 d1 hrk;clear HR hp;go_wp2_with (at_builtin;refine Ao _ rfl _ _ 96 rfl w.heap.size 21 i0 _ 1 4 underlying96 cW dm du de rfl (by decide) _ _ _ rfl (qE.o _ (((aa.refl _ _).alloc _).alloc _)) ⟨wr.heap.size+1,0,none⟩ 2 2 (nj [p1,p2+1]) rfl rfl ?c1 ?c2 ?c3 ?c4 ?c5 ?_)
   case c1=>exact fun j u h=>h
   case c2=>exact Yn _
   case c3=>have:=kH.o;unfold maxLen;omega
   case c4=>have:=kH.o;omega
   case c5=>first|omega|(simp;omega)
   intro v' w7 bL cy eF cI;obtain⟨jl,c',rfl⟩:=cw bL
   have aA:Hid (w7.ownsRow w.heap.size 21 1 (.slice jl (rs.length+2) c') (rs++[p1,p2+1]).length (nj (rs++[p1,p2+1]))):=by
    show World.ownsRow _ _ _ _ _ _ _
    rw[ae2,Aj];exact bL
   have KF:Hid (aa ai w w7):=((HK.o.alloc _).alloc _).eP cy (fun j hj=>Or.inr (HO.o j hj));clear bL cy eF cI qE HO HK;go_wp2_with fail;go_roundg (S.length-(k+1))
   case measure=>omega
   case rel=>exact⟨k+1,_,by simp,by omega,rfl,by have:=kH.o;show _=_;simp;omega,HCV,aA,KF⟩
  ·have gK:k=S.length:=(by omega);subst gK;have hit:¬((S.length:Int)<(S.length:Int)):=(by omega);go_wp2_with fail;go_ret;exact⟨_,rfl,rs,HR.o,by have:=kH.o;omega,by rw[vd.o,Bj],HK.o⟩
theorem af7{P:Program}{ops:Array Oper}{rest:List Oper}{o:Oper}{a:Act}{Q:Exit->Act->World->Prop}(ia:o.guard=none)(s x:Operand)(t:TypeId)
 (ho:o.op=.call {callee:=.builtin .append,args:=#[s,x],argTypes:=#[t,t]})
 (base base':Nat)(e:TypeId)(i:TypeInfo)(z:Value)(bytes:Nat)(ht:P.underlying t=some (.slice e))(hi:P.info? e=some i)(hz:i.zero=some z)
 (xQ:i.size=1)(CE:i.bytes=bytes)(DC:z.cells.size=1)
 (v:Value)(n:Nat)(xs:List Value)(hs:a.eval s=v)(bC:w.ownsRow base e 1 v n xs)
 (y:Value)(m:Nat)(news:List Value)(hx:a.eval x=y)(hy:w.ownsRow base' e 1 y m news)(h1:∀u∈news,u.oneCell'=true)
 (BR:n+m<=maxLen)(CF:(n+m)*bytes<=140737488355328)(V0:base<=w.heap.size)
 (h:∀v' w',w'.ownsRow base e 1 v' (n+m) (xs++news)->w.grownBy w' v.ownBlock->(v'.ownBlock=v.ownBlock\/v'.ownBlock=some w.heap.size)->wpList P ops Q rest (a.put o.dst v') w'):
 wpList P ops Q (o::rest) a w:=by
 have Xc:=hy;obtain⟨hyl,hy'⟩:=hy;rcases hy' with⟨hv,hm⟩|⟨g,cap,aO,hv,a1,a2,a3,a4,a5,a6⟩
 ·subst hm;have:news=[]:=Aw.1 (by omega);subst this;refine Eh ia s x t ho base e i 1 ht hi v n xs hs bC (hx.trans hv) (h v w (by simpa using bC) ⟨rfl,rfl,rfl,Ab _,fun _ _ _=>rfl⟩ (Or.inl rfl))
 ·refine Ao w ia s x t ho base e i z 1 bytes ht hi hz xQ CE DC (by decide) v n xs hs bC (GB g 0) m cap news (hx.trans hv) hyl (fun j u hj=>?_) h1 BR CF V0 (fun v' w' b1 b2 b3 b4=>h v' w' b1 b2 b4);subst hv;exact Xc.cells (g:=g) rfl j u hj
theorem ap7(w:World):Calls prog 98 #[] w fun e w'=>∃v,e=.returned v/\∃S:bI,w'.ownsRow w.heap.size 219 2 v S.length (dj S)/\dH S/\S.length<=4/\(∀c,cu S c=cu (mi 119) c)/\aa ai w w':=by
 go_enter func98,ntmps98
 go_wp2_with fail
 refine(SL 119 w).mono ?_;rintro e w1 ⟨v,rfl,hv,k1⟩;have hr:=SM 119;have aB:mi 119≠ []:=by intro e;rw[e]at hr;simp at hr
 obtain⟨g,cap,rfl,g1,g2,g3,g4⟩:=xx hv aB;have F:=ab (XO (cap:=cap) g3 hr.1 (by omega) aB g2);have hl:=hr.2.2;have HR:=ab hr.1;have K1:=ab k1;clear hv g3 hr aB;have HOR:Hid (∀s∈mi 119,s.1<=s.2):=by show∀s∈mi 119,s.1<=s.2;decide
 generalize ta:mi 119=L at*
 have IY:=ab ta;clear ta;go_wp2_with fail;refine(F.o).mono ?_;rintro e w2 ⟨l',v,hp,hpw,rfl,bC,k2⟩;have kF:dH l':=fun s hs=>HR.o s (hp.mem_iff.1 hs)
 have hm:=R7 l' kF;have oH:=hp.length_eq;have aA:=ab (And.intro bC (And.intro hm.1 (K1.o.trans k2)));have s1:=K1.o.size
 have AH:Hid (∀c,cu (lk l') c=cu L c):=fun c=>by
  rw[(adv l' hpw (fun s hs=>HOR.o s (hp.mem_iff.1 hs))).2 c];unfold cu;exact hp.any_eq
 clear bC k2 hp hpw;go_wp2_with fail;go_ret;exact⟨_,rfl,lk l',DR aA.o.1 (by omega),aA.o.2.1,by omega,by intro c;rw[AH.o,IY.o],aA.o.2.2⟩
theorem ah4(h:w.ownsRow base 219 2 v S.length (dj S))(hr:dH S)(hl:S.length<=6000):
 Calls prog 97 #[v] w fun e w'=>∃v:Value,e=.returned v/\∃rs:List Int,w'.ownsRow w.heap.size 21 1 v rs.length (nj rs)/\rs.length=2*S.length/\rs=rP S/\aa ai w w':=by
 by_cases aB:S=[]
 ·obtain⟨ao,c,rfl⟩:=cw h;subst aB;exact UT (bs:=0) (fun h=>absurd rfl h) (gj.nil _ _) hr hl (fun h=>absurd rfl h)
 ·obtain⟨g,cap,rfl,g1,g2,g3,g4⟩:=xx h aB;exact UT (bs:=g) (fun _=>rfl) g3 hr hl (fun _=>g2)
def XF(v:Value)(u x:Int):Array Value:=#[v,GW u,GW x]
theorem o_.array{lo hi:Nat}{ms:List MS}(h:o_ w lo hi base v ms)(aB:0<ms.length):∃g c,v=.slice (some (GB g 0)) ms.length c/\g<w.heap.size/\ms.length<=c/\
 ∀i,(hi':i<ms.length)->∃s:Sv,gG w lo hi s ms[i]/\∀j,j<6->w.cell? ⟨g,i*6+j,none⟩=s.cells[j]? :=by
 obtain⟨vs,h1,h2,h3⟩:=h;obtain⟨hx,h_⟩:=h1;rcases h_ with⟨_,h0⟩|⟨g,cap,aO,rfl,a1,a2,a3,a4,a5,a6⟩
 ·omega
 ·refine⟨g,cap,rfl,(Am.1 a2).1,a3,fun i hi'=>⟨vs[i],h3 i (by omega) hi',fun j hj=>?_⟩⟩;have hf:=QF vs i (by omega) j hj;rw[<-hf,<-a6,Av (by omega)];simp only[World.cell?,a2];simp
theorem aos(w:World):Calls prog 126 #[.int .i32 (-1)] w fun e w'=>e=.returned (.int .i32 (-1))/\w'=w:=by
 go_enter func126,ntmps126
 go_wp2_with fail
 go_ret
 exact⟨rfl,rfl⟩
def p_(st:Int)(fo:Value)(ed:Bool)(cl:Value)(mo:Int)(mp:Nat)(nw mk:Value):Array Value:=#[GW st,fo,.bool ed,cl,GW mo,.map (some mp),nw,mk]
theorem aa.alw{S:Nat->Prop}{a:World}(h:aa S a w)(hg:w.grownBy w' (some b))(hb:S b\/a.heap.size<=b):aa S a w':=h.eP hg (fun k hk=>by cases hk;exact hb)
def ym(t:bJ):List Int:=[t.1 % 256,t.1/256 % 256,t.2 % 256,t.2/256 % 256]
def tE(s:dC):List Int:=[s.ah % 256,if s.mt then 1 else 0]++s.aX.flatMap ym
def uL(s:dC):ByteArray:=strOfNums (tE s)
theorem ac9(s:dC):∀x∈tE s,0<=x/\x<256:=by
 intro x hx;unfold tE at hx;rcases Ap.1 hx with h|h
 ·simp only[Ct,Fq,or_false]at h;rcases h with rfl|rfl
  ·omega
  ·split<;>omega
 ·obtain⟨t,_,ht⟩:=Ez.1 h;unfold ym at ht;simp only[Ct,Fq,or_false]at ht;rcases ht with rfl|rfl|rfl|rfl<;>omega
theorem ac8(s:dC):(tE s).map Int.toNat=Il s:=by
 unfold tE Il;rw[Ca];congr 1
 ·cases s.mt<;>rfl
 ·rw[List.map_flatMap];rfl
theorem adT:∀(l k:List Int),(∀x∈l,0<=x/\x<256)->(∀x∈k,0<=x/\x<256)->(l.map fun n=>UInt8.ofNat n.toNat)=(k.map fun n=>UInt8.ofNat n.toNat)->l=k
 | [],[],_,_,_=>rfl
 | [],_::_,_,_,h=>by simp at h
 |_::_,[],_,_,h=>by simp at h
 |x::xs,y::ys,hx,hy,h=>by
  simp only[Ch,Ga]at h;have h1:=congrArg UInt8.toNat h.1;rw[UInt8.toNat_ofNat',UInt8.toNat_ofNat']at h1;have a:=hx x (by simp);have b:=hy y (by simp);have e:x=y:=by omega
  rw[e,adT xs ys (fun z hz=>hx z (by simp[hz])) (fun z hz=>hy z (by simp[hz])) h.2]
theorem ak4{s r:dC}(h:uL s=uL r):Il s=Il r:=by
 have h1:=congrArg (fun b:ByteArray=>b.data.toList) h;have h2:(tE s).map (fun n=>UInt8.ofNat n.toNat)=(tE r).map (fun n=>UInt8.ofNat n.toNat):=h1;rw[<-ac8,<-ac8,adT _ _ (ac9 s) (ac9 r) h2]
def xV(x0 x1:Int)(l:List bJ):List Int:=[x0,x1]++l.flatMap ym
def nz(l:List Int):List Value:=l.map (Value.int .u8)
theorem Tryz.acY:(prog.info? 5).map (fun i=>(i.zero,i.size,i.bytes))=some (some (.int .u8 0),1,1):=by kernel_rfl
theorem ak5{tb:Nat}{a:Option Addr}{sv:Value}{s:dC}(h:au w b #[.slice a s.aX.length c,.int .i32 s.ah,.bool s.mt,sv] 192)(hT:pX w tb a s.aX)(hl:s.aX.length<=10000):
 Calls prog 125 #[BT b 0] w fun e w'=>e=.returned (.string (uL s))/\aa ai w w':=by
 have c0:w.cell? (GB b 0)=some (.slice a s.aX.length c):=h.cell 0;have c1:w.cell? (GB b 1)=some (.int .i32 s.ah):=h.cell 1;have c2:w.cell? (GB b 2)=some (.bool s.mt):=h.cell 2;have gJ:=h.lt;obtain⟨ii,CM,NN,H5,oC⟩:=Bo Tryz.acY;have HB:=ab h;have HT:=ab hT;clear h hT;obtain⟨x0,NJ⟩:∃x0,x0=s.ah % 256:=⟨_,rfl⟩
 have HX:=ab NJ;clear NJ;obtain⟨y1,RN⟩:∃y1:Int,y1=if s.mt then 1 else 0:=⟨_,rfl⟩
 have HY:=ab RN;clear RN;go_in;go_upto_if 15 with fail
 rw[<-HX.o];have dD:Hid (∀x1:Int,x1=(if s.mt then 1 else 0)->∀W,W.heap[w.heap.size]? =some (.cells #[.int .u8 x0,.int .u8 x1] 5 (0,0))->aa ai w W->W.ownsRow w.heap.size 5 1 (.slice (some (GB w.heap.size 0)) 2 2) 2 (nz [x0,x1])/\aa ai w W):=fun x1 _ W hW k=>⟨⟨rfl,Or.inr ⟨w.heap.size,2,_,rfl,Ab _,hW,Ab _,by unfold maxLen;omega,rfl,rfl⟩⟩,k⟩
 go_cut [3] (fun v3 wx=>v3=.slice (some (GB w.heap.size 0)) 2 2/\Hid (wx.ownsRow w.heap.size 5 1 (.slice (some (GB w.heap.size 0)) 2 2) 2 (nz [x0,y1]))/\Hid (aa ai w wx))
 case first=>
  have bK:=au.new w #[.int .u8 x0,.int .u8 0] 5;have kK:aa ai w (w.alloc (.cells #[.int .u8 x0,.int .u8 0] 5)):=(aa.refl ai w).alloc _;have z1:(w.alloc (.cells #[.int .u8 x0,.int .u8 0] 5)).cell? (GB w.heap.size 1)=some (.int .u8 0):=bK.cell 1;have zf:=bK.frozen 1;have aA:Hid (s.mt=false->(w.alloc (.cells #[.int .u8 x0,.int .u8 0] 5)).ownsRow w.heap.size 5 1 (.slice (some (GB w.heap.size 0)) 2 2) 2 (nz [x0,0])/\aa ai w (w.alloc (.cells #[.int .u8 x0,.int .u8 0] 5))):=fun hm=>dD.o 0 (by rw[hm];rfl) _ bK kK
  have Tz:Hid (s.mt=true->(w.alloc (.cells #[.int .u8 x0,.int .u8 1] 5)).ownsRow w.heap.size 5 1 (.slice (some (GB w.heap.size 0)) 2 2) 2 (nz [x0,1])/\aa ai w (w.alloc (.cells #[.int .u8 x0,.int .u8 1] 5))):=fun hm=>dD.o 1 (by rw[hm];rfl) _ (au.new w #[.int .u8 x0,.int .u8 1] 5) ((aa.refl ai w).alloc _)
  clear dD bK kK HB HT
  cases iQ:s.mt
  ·have:=aA.o iQ;have F1:=ab this.1;have F2:=ab this.2;clear this aA Tz;go_wp2_with fail;go_meet
   case rel=>exact⟨rfl,(by rw[HY.o,iQ];exact F1),F2⟩
  ·have:=Tz.o iQ;have F1:=ab this.1;have F2:=ab this.2;clear this aA Tz;go_wp2_with fail;go_meet
   case rel=>exact⟨rfl,(by rw[HY.o,iQ];exact F1),F2⟩
 case rest=>
  obtain⟨rfl,HR,HK⟩:=hcut;clear dD;have Qr:wc.cell? (GB b 0)=some (.slice a s.aX.length c):=(HK.o.cell (p:=(GB b 0)) gJ (fun hx=>hx)).trans c0;have ST2:Hid (∃v,v=(.slice (some (GB w.heap.size 0)) 2 2:Value)/\wc.ownsRow w.heap.size 5 1 v (2+4*0) (nz (xV x0 y1 (s.aX.take 0)))/\aa ai w wc):=⟨_,rfl,by have:=HR.o;simpa[xV]using this,HK.o⟩;clear c0 c1 c2 HR;go_wp2_with fail;go_loopg [3,23] s.aX.length (fun kk v3 v23 wr=>∃k:Nat,v23=GW (k:Int)/\k<=s.aX.length/\kk=s.aX.length-k/\Hid (wr.ownsRow w.heap.size 5 1 v3 (2+4*k) (nz (xV x0 y1 (s.aX.take k)))/\aa ai w wr))
  case atStart=>
   obtain⟨v,rfl,h1,h2⟩:=ST2.o;exact⟨0,rfl,Al _,rfl,⟨h1,h2⟩⟩
  case round=>
   obtain⟨k,rfl,hk,eE,HI⟩:=hrel;clear ST2 Qr;obtain⟨av,cv,hv⟩:=cw HI.o.1;subst hv;by_cases az:k<s.aX.length
   ·have jP:(k:Int)<(s.aX.length:Int):=(by omega);have aB:s.aX≠ []:=by intro e;rw[e]at az;simp at az
    obtain⟨JP,WY⟩:=HT.o.at_ aB;subst JP;obtain⟨z1,z2⟩:=(HT.o.kept HI.o.2 (fun _ hx=>hx)).cells k az;have arj:tb<wr.heap.size:=Ar WY HI.o.2.size;have acS:=HI.o.2.size;obtain⟨tu,uI⟩:∃tu,(s.aX[k]).1=tu:=⟨_,rfl⟩
    obtain⟨ts,rj⟩:∃ts,(s.aX[k]).2=ts:=⟨_,rfl⟩
    rw[uI]at z1;rw[rj]at z2
    have I9:Hid (∀(W w5:World) (v5:Value),aa ai wr W->w5.ownsRow w.heap.size 5 1 v5 (2+4*k+4) (nz (xV x0 y1 (s.aX.take k))++nz (ym (tu,ts)))->W.grownBy w5 (Value.slice av (2+4*k) cv).ownBlock->w5.ownsRow w.heap.size 5 1 v5 (2+4*(k+1)) (nz (xV x0 y1 (s.aX.take (k+1))))/\aa ai w w5):=fun W w5 v5 k0 ho dM=>by
     have e:s.aX.take (k+1)=s.aX.take k++[(tu,ts)]:=by
      rw[Ck az];congr 2;exact Prod.ext uI rj
     refine⟨?_,HI.o.2.b_ ((k0.mono (fun _ hx=>hx.elim)).eP dM (fun j hj=>Or.inl hj)) (fun i hi hx=>by have:=(dw HI.o.1 hx).1;omega)⟩;rw[e,show 2+4*(k+1)=2+4*k+4 by omega];have e2:nz (xV x0 y1 (s.aX.take k++[(tu,ts)]))=nz (xV x0 y1 (s.aX.take k))++nz (ym (tu,ts)):=by unfold nz xV;simp
     rw[e2];exact ho
    have HH:=ab HI.o.1;clear HI uI rj;go_wp2_with (at_builtin;refine Ao _ rfl _ _ 42 rfl w.heap.size 5 ii _ 1 1 underlying42 CM NN H5 oC rfl (by decide) _ _ _ rfl ((HH.o.alloc _).alloc _) ⟨wr.heap.size+1,0,none⟩ 4 4 (nz (ym (tu,ts))) rfl rfl ?c1 ?c2 ?c3 ?c4 ?c5 ?_)
    case c1=>
     intro j v hv;rw[LX];have hB:=au.new (wr.alloc (.cells #[GW tu,GW ts] 256)) #[.int .u8 (tu % 256),.int .u8 (tu/256 % 256),.int .u8 (ts % 256),.int .u8 (ts/256 % 256)] 5;rw[fP]at hB;exact(hB.cell j).trans (by simpa[nz,ym]using hv)
    case c2=>
     intro v hv;unfold nz ym at hv;simp at hv;rcases hv with rfl|rfl|rfl|rfl<;>rfl
    case c3=>unfold maxLen;omega
    case c4=>omega
    case c5=>simp;omega
    intro v' w7 bL cy eF cI;obtain⟨jl,c',rfl⟩:=cw bL;have aA:=ab (I9.o _ _ _ (((aa.refl ai wr).alloc _).alloc _) bL cy);clear bL cy eF cI I9 HH;go_wp2_with fail;go_roundg (s.aX.length-(k+1))
    case measure=>omega
    case rel=>exact⟨k+1,by simp,by omega,rfl,aA⟩
   ·have jP:¬(k:Int)<(s.aX.length:Int):=(by omega);obtain⟨g,cg,e1,_,xH,_,gV,_⟩:=mO HI.o.1 (by omega);obtain⟨eA,eC⟩:av=some (GB g 0)/\cv=cg:=by simpa using e1
    have Ws:k=s.aX.length:=by omega
    have M7:nz (xV x0 y1 (s.aX.take k))=nz (tE s):=by
     rw[Ws,Bj];unfold tE xV;rw[HX.o,HY.o]
    have acs:(tE s).length=2+4*k:=by
     have:=HI.o.1.1;rw[M7]at this;simpa[nz]using this
    have hc:=run_convert_bytes_arg (P:=prog) (w:=wr) 42 5 underlying42 underlying5 g 0 (2+4*k) cv (tE s) acs (fun i hi=>by
     rw[Ba,gV i hi,M7];unfold nz;rw[Cb,Af,Ae (by omega)];rfl) 9 underlying9
    have HKf:=ab HI.o.2;have hkS:strOfNums (tE s)=uL s:=rfl;rw[hkS]at hc;obtain⟨key,jr⟩:∃key,key=uL s:=⟨_,rfl⟩
    rw[<-jr]at hc;have HKY:=ab jr;clear jr e1 HI gV M7 acs hkS eC Ws;subst eA;go_wp2_with fail;go_ret;exact⟨by rw[<-HKY.o];rfl,HKf.o⟩
