/- The program's inOrder does what the mirror says -/
import Derived.Test.YtpdnofhackjfdaaGreatDoorP17
set_option linter.all false
set_option maxRecDepth 100000
set_option maxHeartbeats 4000000
namespace Go.Proofs.YtpdnofhackjfdaaGreatDoor
open Go.Proofs.Tryz
open Go.RowKit Go.Maps
variable {F:cO} {p x:Int} {M:List MS} {vs:List Sv} {b g hi lo:Nat} {q:Nv} {y:Option Nat} {t:TypeId} {W w:World}
theorem fI.ahH{w7:World}{base:Nat}{sv nv ov lv dZ:Value}{num:List Int}{aK bC:List Nat}(h:fI w b base sv nv ov lv ⟨num,aK,bC⟩)(t:Int)(k0:aa af w W)(bk:w7.ownsRow base 3 1 dZ (num.length+1) (cH num++[.int .i64 t]))(hg:W.grownBy w7 nv.ownBlock)(cx:dZ.ownBlock=nv.ownBlock\/dZ.ownBlock=some W.heap.size):
 aq w7 b #[sv,nv,ov,lv] 147/\fI (w7.setCell ⟨b,1,none⟩ dZ) b base sv dZ ov lv ⟨num++[t],aK,bC⟩/\aa (mX b nv ov lv) w (w7.setCell ⟨b,1,none⟩ dZ):=by
 have Vs:=k0.size;have k7:aa (fun i=>nv.ownBlock=some i) w w7:=(k0.mono (fun i hx=>hx.elim)).eN hg (fun j hj=>Or.inl hj);have ua:nv.ownBlock≠some b:=fun e=>(h.an b e).1 rfl
 have b7:=h.ak.kept k7 ua
 have lM:∀i,dZ.ownBlock=some i->nv.ownBlock=some i\/w.heap.size<=i:=by
  intro i hi;rcases cx with hl|hl
  ·exact Or.inl (hl▸hi)
  ·rw[hl]at hi;cases hi;right;omega
 have k8:aa (mX b nv ov lv) w (w7.setCell ⟨b,1,none⟩ dZ):=aa.setCell (S:=mX b nv ov lv) (k7.mono (S':=mX b nv ov lv) (fun i hi=>Or.inr (Or.inl hi))) (p:=⟨b,1,none⟩) (Or.inl (Or.inl rfl)) _;have kb:aa (fun i=>i=b) w7 (w7.setCell ⟨b,1,none⟩ dZ):=(aa.refl (fun i=>i=b) w7).setCell (p:=⟨b,1,none⟩) (Or.inl rfl) dZ
 have uc:∀i,dZ.ownBlock=some i->i≠b:=fun i hi e=>by
  subst e;rcases lM i hi with h1|h1
  ·exact ua h1
  ·have:=h.ak.lt;omega
 refine⟨b7,⟨?_,?_,?_,?_,h.bb,fun i hi=>?_,h.ao,h.al⟩,k8⟩
 ·have:=b7.setCell 1 dZ;simpa using this
 ·have e2:cH (num++[t])=cH num++[.int .i64 t]:=by simp[cH]
  show World.ownsRow _ base 3 1 dZ (num++[t]).length (cH (num++[t]))
  rw[Aj,e2];exact bR bk kb (fun i hi e=>uc i hi e)
 ·exact bR (bR h.aK k7 (fun i hi hx=>(h.an i hx).2.1 hi)) kb (fun i hi e=>(h.ao i hi).1 e)
 ·exact bR (bR h.bC k7 (fun i hi hx=>(h.an i hx).2.2 hi)) kb (fun i hi e=>h.al i hi e)
 ·refine⟨uc i hi,fun e=>?_,fun e=>?_⟩
  ·rcases lM i hi with h1|h1
   ·exact(h.an i h1).2.1 e
   ·have:=dw h.aK e;omega
  ·rcases lM i hi with h1|h1
   ·exact(h.an i h1).2.2 e
   ·have:=dw h.bC e;omega
theorem fI.first(w:World)(sv:Value)(start:Nat):fI ((w.alloc (.cells #[.int .i64 (start:Int)] 3)).alloc (.cells #[sv,.slice none 0 0,.slice none 0 0,.slice (some ⟨w.heap.size,0,none⟩) 1 1] 147)) (w.heap.size+1) w.heap.size sv (.slice none 0 0) (.slice none 0 0) (.slice (some ⟨w.heap.size,0,none⟩) 1 1) ⟨[],[],[start]⟩ where
 ak:=by have:=aq.new (w.alloc (.cells #[.int .i64 (start:Int)] 3)) #[sv,.slice none 0 0,.slice none 0 0,.slice (some ⟨w.heap.size,0,none⟩) 1 1] 147;simpa using this
 num:=A7 _ _ _ _
 aK:=A7 _ _ _ _
 bC:=by
  refine⟨by simp[nJ],Or.inr ⟨w.heap.size,1,#[.int .i64 (start:Int)],rfl,Ab _,?_,Ab _,by unfold maxLen;omega,by simp,by simp[nJ]⟩⟩;have:=(aq.new w #[.int .i64 (start:Int)] 3).alloc (.cells #[sv,.slice none 0 0,.slice none 0 0,.slice (some ⟨w.heap.size,0,none⟩) 1 1] 147);exact this
 bb:=Nat.le_succ _
 an i hi:=by cases hi
 ao i hi:=by cases hi
 al i hi:=by
  have e:w.heap.size=i:=C6 hi;omega
theorem qg.grow{at_:Nat}{V V':VS}(h:qg M at_ V V'):V'.num.length=V.num.length/\V.aK.length<=V'.aK.length/\V.bC.length<=V'.bC.length:=by
 induction h with
 |done a V h=>exact⟨rfl,Ab _,Ab _⟩
 |step a V V' V2 t h hv hl ih=>have:=hv.grow;omega
theorem aa.yN{w1 w2:World}{K:Nat->Prop}(h:aa af w w1)(k:aa K w1 w2)(hK:∀i,K i->w.heap.size<=i):aa af w w2:=h.bV k (fun i hi hx=>by have:=hK i hx;omega)
def SL(b L gn mn mo:Nat)(nv:Value)(un uo:Int)(w':World):Prop:=(w'.cell? ⟨b,1,none⟩=some nv/\w'.cell? ⟨L,5,none⟩=some (.int .i64 (mo:Int)))/\w'.cell? ⟨gn,mn,none⟩=some (.int .i64 un)/\w'.cell? ⟨gn,mo,none⟩=some (.int .i64 uo)
theorem gw.lX{s:Sv}{m:MS}(h:gw w lo hi s m)(a b:Int):gw w lo hi ⟨s.k,s.sa,s.sn,s.sc,s.ed,s.sl,a,b⟩ {m with next:=a,a_:=b}:=⟨h.k,h.ed,h.sl,rfl,rfl,h.kr,h.set⟩
theorem jc.at(h:jc w g vs M){s:Nat}(hs:s<M.length):∃q:Sv,(∃hv:s<vs.length,vs[s]=q)/\(q.k=(M[s]).kind/\q.nx=(M[s]).next/\q.ot=(M[s]).a_)/\∀W,jc W g vs M->(W.cell? ⟨g,s*6,none⟩=some (.int .i64 q.k)/\W.cell? ⟨g,s*6+1,none⟩=some (.slice q.sa q.sn q.sc)/\W.cell? ⟨g,s*6+2,none⟩=some (.int .i64 q.ed)/\W.cell? ⟨g,s*6+3,none⟩=some (.int .i64 q.sl)/\W.cell? ⟨g,s*6+4,none⟩=some (.int .i64 q.nx)/\W.cell? ⟨g,s*6+5,none⟩=some (.int .i64 q.ot)):=by
 have hv:s<vs.length:=by rw[h.len];exact hs
 exact⟨vs[s],⟨hv,rfl⟩,h.VY s hv hs,fun W hW=>⟨hW.cell s hv 0 (by omega),hW.cell s hv 1 (by omega),hW.cell s hv 2 (by omega),hW.cell s hv 3 (by omega),hW.cell s hv 4 (by omega),hW.cell s hv 5 (by omega)⟩⟩
theorem an3(w:World)(q:Sv)(k:Nat)(hk:w.heap.size=k)(j:Nat)(u:Value)(h:q.cells.toList[j]? =some u):(w.alloc (.cells q.cells 113)).drew.cell? (Addr.add ⟨k,0,none⟩ j)=some u:=by subst hk;exact aeZ q j u h
theorem ajC{c start:Nat}{VF:VS}(hM:jc w g vs M)(pd:∀i,(h:i<vs.length)->(h':i<M.length)->gw w lo hi vs[i] M[i])(L8:hi<=w.heap.size)(df:oF M)(dh:M.length<=4001)(hL:qg M 0 (VS.first M.length start) VF)
 (ap4:VF.aK.length<=4001)(apL:VF.bC.length<=4002)(dR:∀s∈VF.aK,s<M.length)(bt:start<M.length):
 Calls prog 45 #[.slice (some ⟨g,0,none⟩) M.length c,.int .i64 (start:Int)] w fun e w'=>∃(v':Value) (ws:List Sv),e=.returned (.tuple #[v',.int .i64 (VF.num.getD start 0)])/\aa af w w'/\w'.ownsRow w.heap.size 113 6 v' VF.aK.length (jt ws)/\ws.length=VF.aK.length/\
  ∀i,(h:i<ws.length)->(h':i<(sorted M VF).length)->gw w' lo hi ws[i] (sorted M VF)[i]:=by
 obtain⟨i0,cP,di,dj,cY⟩:=Bo Tryz.Gw;have wW:=hM.lt;have dr:=ab (fI.first w (.slice (some ⟨g,0,none⟩) M.length c) start);have K0:Hid (aa af w ((w.alloc (.cells #[.int .i64 (start:Int)] 3)).alloc (.cells #[.slice (some ⟨g,0,none⟩) M.length c,.slice none 0 0,.slice none 0 0,.slice (some ⟨w.heap.size,0,none⟩) 1 1] 147))):=((aa.refl af w).alloc _).alloc _;have HM:=ab hM;have Kp:=ab pd;have kZ:=ab df;have HL:=ab hL;have zu:=ab dR;have afy:Hid (VF.num.length=M.length):=ab (by have:=hL.grow.1;simpa[VS.first]using this);clear hM pd df hL dR;go_in;go_wp2_with fail;go_loopg [19] M.length (fun kk i wr=>∃(k:Nat) (nv:Value),i=.int .i64 (k:Int)/\k<=M.length/\kk=M.length-k/\Hid (fI wr (w.heap.size+1) w.heap.size (.slice (some ⟨g,0,none⟩) M.length c) nv (.slice none 0 0) (.slice (some ⟨w.heap.size,0,none⟩) 1 1) ⟨List.replicate k (-1),[],[start]⟩)/\Hid (aa af w wr))
 case atStart=>exact⟨0,.slice none 0 0,rfl,Am _,rfl,dr.out,K0.out⟩
 case round=>
  obtain⟨k,nv,rfl,hk,eT,HS,HK⟩:=hrel;clear dr K0;by_cases aw:k<M.length
  ·have vF:Hid (∀W,aa af wr W->W.ownsRow w.heap.size 3 1 nv k (cH (List.replicate k (-1)))):=fun W hW=>by
    have:=bR HS.out.num hW (fun i _ hx=>hx);simpa using this
   obtain⟨ZP,cn,Mg⟩:=cA (vF.out wr (aa.refl _ _));subst Mg;have c1:wr.cell? ⟨w.heap.size+1,1,none⟩=some (.slice ZP k cn):=HS.out.ak.cell 1;have gz:=HS.out.ak.lt;have jH:(k:Int)<(M.length:Int):=(by omega);have IX:=HK.out.size;go_wp2_with (at_builtin;refine Ao _ rfl _ _ 22 rfl w.heap.size 3 i0 _ 1 8 underlying22 cP di dj cY rfl (by decide) _ _ _ rfl (vF.out _ ((aa.refl _ _).alloc _)) _ 1 1 [.int .i64 (-1)] rfl rfl ?c1 ?c2 ?c3 ?c4 ?c5 ?_)
   case c1=>exact GK _ (-1)
   case c2=>exact vJ _
   case c3=>unfold maxLen;omega
   case c4=>omega
   case c5=>simp;omega
   intro v' w7 bG bY dX cx;obtain⟨jd,c',rfl⟩:=cA bG;obtain⟨b7,fZ,acv⟩:=HS.out.ahH (-1) ((aa.refl af wr).alloc (.cells #[.int .i64 (-1)] 3)) (by simpa using bG) bY (by simpa using cx);have c7:w7.cell? ⟨w.heap.size+1,1,none⟩=some (.slice ZP k cn):=b7.cell 1;have f7:=b7.frozen 1;have ax:=ab fZ;have afD:=ab (HK.out.yN acv (fun i hi=>(HS.out.au hi).1));clear vF HS HK b7 fZ acv;go_wp2_with fail;go_roundg (M.length-(k+1))
   case measure=>omega
   case rel=>exact⟨k+1,_,by simp,by omega,rfl,by have:=ax.out;rw[<-List.replicate_succ']at this;exact this,afD⟩
  ·have gA:k=M.length:=(by omega);subst gA;have jH:¬(M.length:Int)<(M.length:Int):=(by omega);go_wp2_with fail;go_loopg [7] VF.bC.length (fun kk i wr2=>∃(at_:Nat) (V:VS) (ov lv:Value),i=.int .i64 (at_:Int)/\kk=VF.bC.length-at_/\Hid (qg M at_ V VF)/\Hid (fI wr2 (w.heap.size+1) w.heap.size (.slice (some ⟨g,0,none⟩) M.length c) nv ov lv V)/\Hid (aa af w wr2))
   case atStart=>exact⟨0,⟨List.replicate M.length (-1),[],[start]⟩,_,_,rfl,rfl,HL,HS,HK⟩
   case round=>
    obtain⟨at_,V,ov,lv,rfl,U0,Hu,gX,mE⟩:=hrel;clear HS HK HL;obtain⟨w2,pP⟩:∃w2,w2=wr:=⟨_,rfl⟩
    subst pP;by_cases ai3:at_<V.bC.length
    ·obtain⟨gl,cl,FP,l1,l2,l3,l4,l5⟩:=my gX.out.bC (by omega);subst FP;have c3:w2.cell? ⟨w.heap.size+1,3,none⟩=some (.slice (some ⟨gl,0,none⟩) V.bC.length cl):=gX.out.ak.cell 3;have hit:(at_:Int)<(V.bC.length:Int):=(by omega);have UT:¬((V.bC.length:Int)<=(at_:Int)):=by omega
     have ajr:∃(t:Nat) (V':VS),V.bC[at_]? =some t/\lh M V t V'/\qg M (at_+1) V' VF:=by
      cases Hu.out with
      |done _ _ h=>omega
      |step _ _ V' _ t h hv hl=>exact⟨t,V',h,hv,hl⟩
     obtain⟨t,V',ht,hv,hl⟩:=ajr;have ct:w2.cell? ⟨gl,at_,none⟩=some (.int .i64 (t:Int)):=by rw[l4 at_ ai3];simp[nJ,ht]
     have gr:=hl.grow;have grv:=hv.grow;have F1:=ab (aoF (vs:=vs) (c:=c) wW (fun i m him=>(kZ.out m (Ca him)).1.1) hv (by omega) (by omega) w2 ov _ gX.out (HM.out.kept mE.out (fun hx=>hx)));have Kg:=ab hl;clear l4 l5 ht hv hl Hu;go_wp2_with fail;refine(F1.out).mono ?_;rintro e w4 ⟨rfl,xx,yL,h4,tQ,k4⟩;have KN:=ab (mE.out.yN k4.kept (fun i hi=>(gX.out.au hi).1));have HN:=ab h4;clear h4 tQ k4 gX mE F1;go_wp2_with fail;go_roundg (VF.bC.length-(at_+1))
     case measure=>omega
     case rel=>exact⟨at_+1,V',xx,yL,by simp,rfl,Kg,HN,KN⟩
    ·have hVF:V=VF:=by
      cases Hu.out with
      |done _ _ h=>rfl
      |step _ _ V' _ t h hv hl=>have:=(Ah.1 h).1;omega
     subst hVF;have Kg:Hid (V.num.length=M.length):=afy.out;obtain⟨yf,cl,FP⟩:=cA gX.out.bC;subst FP;obtain⟨aoo,co,Mi⟩:=cA gX.out.aK;subst Mi;have c3:w2.cell? ⟨w.heap.size+1,3,none⟩=some (.slice yf V.bC.length cl):=gX.out.ak.cell 3;have c2:w2.cell? ⟨w.heap.size+1,2,none⟩=some (.slice aoo V.aK.length co):=gX.out.ak.cell 2;have hit:¬((at_:Int)<(V.bC.length:Int)):=(by omega);go_wp2_with fail;go_loopg [8,54] V.aK.length (fun kk s8 i JM=>∃(k:Nat) (ws:List Sv),i=.int .i64 (k:Int)/\k<=V.aK.length/\kk=V.aK.length-k/\ws.length=k/\Hid (JM.ownsRow w.heap.size 113 6 s8 k (jt ws))/\Hid (∀i,s8.ownBlock=some i->w2.heap.size<=i)/\Hid (∀i,(h:i<ws.length)->(h':i<(sorted M V).length)->gw JM lo hi ws[i] (sorted M V)[i])/\Hid (aa af w2 JM))
     case atStart=>exact⟨0,[],rfl,Am _,rfl,rfl,A7 _ _ _ _,(fun i hi=>by cases hi),(fun i h=>by cases h),aa.refl _ _⟩
     case round=>
      obtain⟨k,ws,rfl,bA,apI,qI,wD,CQ,Om,iO⟩:=hrel;by_cases PZ:k<V.aK.length
      ·obtain⟨go,co',hox,o1,o2,o3,o4,o5⟩:=my gX.out.aK (by omega)
       cases hox;have AR:V.aK[k]<M.length:=zu.out _ (A5 PZ)
       obtain⟨q,⟨sV,qE⟩,⟨q1,q2,q3⟩,qc⟩:=(HM.out).at AR;have abn:=kZ.out _ (A5 AR);unfold sy at abn;have K2:=mE.out.trans iO.out;obtain⟨d0,d1,d2,d3,d4,d5⟩:=qc wr (HM.out.kept K2 (fun hx=>hx));have iS:=(Kp.out _ sV AR).kept K2 (fun _ _ _ hx=>hx) L8;rw[qE]at iS
       have mj:(sorted M V)[k]'(by simpa[sorted]using PZ)={M[V.aK[k]]with next:=V.num.getD (M[V.aK[k]]).next.toNat 0,a_:=V.num.getD (M[V.aK[k]]).a_.toNat 0}:=by
        simp[sorted,Af,Ae AR]
       obtain⟨qk,bP,b_,bQ,bH,ff,BV,BY⟩:=q;simp only at q1 q2 q3 d0 d1 d2 d3 d4 d5;generalize hm:M[V.aK[k]]=m at*;obtain⟨mn,dG⟩:∃mn:Nat,m.next=(mn:Int):=⟨m.next.toNat,by omega⟩
       obtain⟨mo,fL⟩:∃mo:Nat,m.a_=(mo:Int):=⟨m.a_.toNat,by omega⟩
       rw[dG]at q2;rw[fL]at q3;subst q1 q2 q3;have vF:=Kg.out;obtain⟨gn,cn,o_,n1,n2,n3,n4,n5⟩:=my gX.out.num (by omega);subst o_;have yC:mn<V.num.length:=(by omega);have abQ:mo<V.num.length:=(by omega);have cn1:w2.cell? ⟨gn,mn,none⟩=some (.int .i64 (V.num.getD mn 0)):=by rw[n4 mn yC];simp[cH,yC]
       have cn2:w2.cell? ⟨gn,mo,none⟩=some (.int .i64 (V.num.getD mo 0)):=by rw[n4 mo abQ];simp[cH,abQ]
       rw[dG,fL]at mj;simp only[Ay]at mj;generalize V.num.getD mn 0=un at*;generalize V.num.getD mo 0=uo at*;generalize hs:V.aK[k]=s at*;have ck:wr.cell? ⟨go,k,none⟩=some (.int .i64 (s:Int)):=(iO.out.cell (p:=⟨go,k,none⟩) o2 (fun hx=>hx)).trans (by rw[o4 k PZ];simp[nJ,PZ,hs]);have e1:wr.cell? ⟨gn,mn,none⟩=some (.int .i64 un):=(iO.out.cell (p:=⟨gn,mn,none⟩) n2 (fun hx=>hx)).trans cn1;have e2:wr.cell? ⟨gn,mo,none⟩=some (.int .i64 uo):=(iO.out.cell (p:=⟨gn,mo,none⟩) n2 (fun hx=>hx)).trans cn2;have eb:wr.cell? ⟨w.heap.size+1,1,none⟩=some (.slice (some ⟨gn,0,none⟩) V.num.length cn):=(gX.out.new iO.out).ak.cell 1;have gz:=(gX.out.new iO.out).ak.lt;have IX:=iO.out.size;have apJ:=mE.out.size;have aiV:(k:Int)<(V.aK.length:Int):=(by omega);have aiW:¬((V.aK.length:Int)<=(k:Int)):=(by omega);have apz:¬((M.length:Int)<=(s:Int)):=(by omega);have apA:¬((V.num.length:Int)<=(mn:Int)):=(by omega);have apB:¬((V.num.length:Int)<=(mo:Int)):=(by omega);have kA:aa af wr ((wr.alloc (.cells #[.int .i64 m.kind,.slice bP b_ bQ,.int .i64 bH,.int .i64 ff,.int .i64 (mn:Int),.int .i64 (mo:Int)] 113)).drew):=((aa.refl af wr).alloc _).drew;have kB:aa af wr ((wr.alloc (.cells #[.int .i64 m.kind,.slice bP b_ bQ,.int .i64 bH,.int .i64 ff,.int .i64 un,.int .i64 (mo:Int)] 113)).drew):=((aa.refl af wr).alloc _).drew;have Zo:Hid (SL (w.heap.size+1) wr.heap.size gn mn mo (.slice (some ⟨gn,0,none⟩) V.num.length cn) un uo ((wr.alloc (.cells #[.int .i64 m.kind,.slice bP b_ bQ,.int .i64 bH,.int .i64 ff,.int .i64 (mn:Int),.int .i64 (mo:Int)] 113)).drew)):=⟨⟨(kA.cell (p:=⟨w.heap.size+1,1,none⟩) gz (fun hx=>hx)).trans eb,(aq.new wr #[.int .i64 m.kind,.slice bP b_ bQ,.int .i64 bH,.int .i64 ff,.int .i64 (mn:Int),.int .i64 (mo:Int)] 113).drew.cell 5⟩,(kA.cell (p:=⟨gn,mn,none⟩) (by show gn<_;omega) (fun hx=>hx)).trans e1,(kA.cell (p:=⟨gn,mo,none⟩) (by show gn<_;omega) (fun hx=>hx)).trans e2⟩;have Zp:Hid (SL (w.heap.size+1) wr.heap.size gn mn mo (.slice (some ⟨gn,0,none⟩) V.num.length cn) un uo ((wr.alloc (.cells #[.int .i64 m.kind,.slice bP b_ bQ,.int .i64 bH,.int .i64 ff,.int .i64 un,.int .i64 (mo:Int)] 113)).drew)):=⟨⟨(kB.cell (p:=⟨w.heap.size+1,1,none⟩) gz (fun hx=>hx)).trans eb,(aq.new wr #[.int .i64 m.kind,.slice bP b_ bQ,.int .i64 bH,.int .i64 ff,.int .i64 un,.int .i64 (mo:Int)] 113).drew.cell 5⟩,(kB.cell (p:=⟨gn,mn,none⟩) (by show gn<_;omega) (fun hx=>hx)).trans e1,(kB.cell (p:=⟨gn,mo,none⟩) (by show gn<_;omega) (fun hx=>hx)).trans e2⟩;have Y1:=ab (iS.lX un uo);have YZ:=ab mj;clear vF iS mj qc o4 o5 n4 n5 cn1 cn2 kA kB abn K2;go_wp2_with fail;refine gW (S:=SL (w.heap.size+1) wr.heap.size gn mn mo (.slice (some ⟨gn,0,none⟩) V.num.length cn) un uo) 19 (by kernel_rfl) rfl rfl rfl (by kernel_rfl) (by kernel_rfl) ?_;have aj:=Zo.out;refine ai 0 62 (.pointer (some ⟨w.heap.size+1,0,none⟩)) aj ?_;refine ai 1 63 (.pointer (some ⟨w.heap.size+1,0,none⟩)) aj ?_;refine ai 2 64 (.pointer (some ⟨w.heap.size+1,1,none⟩)) aj ?_;refine ai 3 65 (.slice (some ⟨gn,0,none⟩) V.num.length cn) aj ?_;refine ai 4 66 (.pointer (some ⟨wr.heap.size,4,none⟩)) aj ?_;refine ai 8 70 (.pointer (some ⟨w.heap.size+1,0,none⟩)) aj ?_;refine ai 9 71 (.pointer (some ⟨w.heap.size+1,0,none⟩)) aj ?_;refine ai 10 72 (.pointer (some ⟨w.heap.size+1,1,none⟩)) aj ?_;refine ai 11 73 (.slice (some ⟨gn,0,none⟩) V.num.length cn) aj ?_;refine ai 12 74 (.pointer (some ⟨wr.heap.size,5,none⟩)) aj ?_;refine ai 13 75 (.int .i64 (mo:Int)) aj ?_;refine ai 14 76 (.pointer (some ⟨gn,mo,none⟩)) aj ?_;refine ai 15 77 (.int .i64 uo) aj ?_;simp only[Act.put,Aa,Ad,Ac];refine bN 5 fun K hK=>?_
       go_simp;refine hK.out _ _ aj (fun _=>?_);clear hK K;refine ai 6 68 (.pointer (some ⟨gn,mn,none⟩)) aj ?_;refine ai 7 69 (.int .i64 un) aj ?_;refine ai 16 78 (.pointer (some ⟨wr.heap.size,4,none⟩)) aj ?_;simp only[Act.put,Aa,Ad,Ac];refine bN 17 fun K hK=>?_
       go_simp;have eO:=Zp.out;refine hK.out _ _ eO (fun _=>?_);clear hK K;refine ai 18 79 (.pointer (some ⟨wr.heap.size,5,none⟩)) eO ?_;simp only[Act.put,Aa,Ad,Ac];refine At (by kernel_rfl) ?_ _;unfold eJ;clear aj eO Zo Zp;simp only[Al,Ag,Ai];go_simp;have YV:Hid (∀W,aa af wr W->W.ownsRow w.heap.size 113 6 u8 k (jt ws)):=(fun W kW=>bR wD.out kW (fun i _ hx=>hx));obtain⟨i1,UU,Vz,Qu,hy2⟩:=Bo Tryz.acg;obtain⟨KL,c8,rfl⟩:=cA wD.out;go_wp2_with (at_builtin;refine Ao _ rfl _ _ 71 rfl w.heap.size 113 i1 _ 6 64 underlying71 UU Vz Qu hy2 rfl (by decide) _ _ _ rfl (YV.out _ ((((aa.refl _ _).alloc _).alloc _).drew)) _ 1 1 (Sv.cells ⟨m.kind,bP,b_,bQ,bH,ff,un,uo⟩).toList rfl rfl ?c1 ?c2 ?c3 ?c4 ?c5 ?_)
       case c1=>exact an3 _ ⟨m.kind,bP,b_,bQ,bH,ff,un,uo⟩ _ (by simp)
       case c2=>exact Sv.one _
       case c3=>unfold maxLen;omega
       case c4=>omega
       case c5=>simp;omega
       intro v' w7 bG bY dX cx;obtain⟨jd,c',rfl⟩:=cA bG;have kg:aa (fun i=>(Value.slice KL k c8).ownBlock=some i) wr w7:=(((((aa.refl (fun i=>(Value.slice KL k c8).ownBlock=some i) wr).alloc _).alloc _).drew)).eN bY (fun j hj=>Or.inl hj);have kg2:aa af w2 w7:=iO.out.bV kg (fun i hi hx=>by have:=CQ.out i hx;omega);have nH:∀i,lo<=i->i<hi->¬((Value.slice KL k c8).ownBlock=some i):=fun i _ h2 hx=>by have:=CQ.out i hx;omega
       have ax:Hid (w7.ownsRow w.heap.size 113 6 (.slice jd (k+1) c') (k+1) (jt (ws++[⟨m.kind,bP,b_,bQ,bH,ff,un,uo⟩]))):=by
        show World.ownsRow _ _ _ _ _ _ _
        rw[aaX];simpa[jt]using bG
       have FO:Hid (∀i,(Value.slice jd (k+1) c').ownBlock=some i->w2.heap.size<=i):=by
        intro i hi';rcases cx with hl|hl
        ·exact CQ.out i (hl▸hi')
        ·rw[hl]at hi';cases hi';first|omega|(simp;omega)
       have FV:Hid (∀i,(h:i<(ws++[(⟨m.kind,bP,b_,bQ,bH,ff,un,uo⟩:Sv)]).length)->(h':i<(sorted M V).length)->gw w7 lo hi (ws++[(⟨m.kind,bP,b_,bQ,bH,ff,un,uo⟩:Sv)])[i] (sorted M V)[i]):=by
        intro i h1 h2;by_cases hi':i<ws.length
        ·have e1:(ws++[(⟨m.kind,bP,b_,bQ,bH,ff,un,uo⟩:Sv)])[i]=ws[i]:=Cw _;rw[e1];exact(Om.out i hi' h2).kept kg nH (by omega)
        ·have e:i=k:=by simp at h1;omega
         subst e;have e1:(ws++[(⟨m.kind,bP,b_,bQ,bH,ff,un,uo⟩:Sv)])[i]=⟨m.kind,bP,b_,bQ,bH,ff,un,uo⟩:=(by simp[<-qI]);rw[e1,YZ.out];exact Y1.out.kept kg nH (by omega)
       have FK:=ab kg2;clear kg kg2 nH bG bY dX cx wD YV CQ Om iO Y1 YZ;go_wp2_with fail;go_roundg (V.aK.length-(k+1))
       case measure=>omega
       case rel=>exact⟨k+1,_,by simp,by omega,rfl,by simp[qI],ax,FO,FV,FK⟩
      ·have cV:k=V.aK.length:=(by omega);subst cV;have vF:=Kg.out;obtain⟨gn,cn,o_,n1,n2,n3,n4,n5⟩:=my gX.out.num (by omega);subst o_;have cs1:wr.cell? ⟨gn,start,none⟩=some (.int .i64 (V.num.getD start 0)):=(iO.out.cell (p:=⟨gn,start,none⟩) n2 (fun hx=>hx)).trans (by rw[n4 start (by omega)];simp[cH,show start<V.num.length by omega]);have eb:wr.cell? ⟨w.heap.size+1,1,none⟩=some (.slice (some ⟨gn,0,none⟩) V.num.length cn):=(gX.out.new iO.out).ak.cell 1;have aiV:¬((V.aK.length:Int)<(V.aK.length:Int)):=(by omega);have aiW:¬((V.num.length:Int)<=(start:Int)):=(by omega);obtain⟨KL,c8,rfl⟩:=cA wD.out;have Ov:Hid (∀W,aa af wr W->aa af w W/\W.ownsRow w.heap.size 113 6 (.slice KL V.aK.length c8) V.aK.length (jt ws)/\∀i,(h:i<ws.length)->(h':i<(sorted M V).length)->gw W lo hi ws[i] (sorted M V)[i]):=(fun W kW=>⟨(mE.out.trans iO.out).trans kW,bR wD.out kW (fun i _ hx=>hx),fun i h1 h2=>(Om.out i h1 h2).kept kW (fun _ _ _ hx=>hx) (by have:=mE.out.size;have:=iO.out.size;omega)⟩);clear vF n4 n5 wD CQ Om iO gX mE HM Kp kZ zu Kg;go_wp2_with fail;go_region;go_wp2_with fail;go_ret2;obtain⟨p1,p2,p3⟩:=Ov.out _ ((aa.refl af wr).drew);exact⟨_,ws,rfl,p1,p2,qI,p3⟩
def dz(s:ByteArray):RS:={next:=0,bl:=sJ s (gJ s (s.size+1) 0),aQ:=0,names:=[]}
def jR(g:RG)(s:ByteArray):cO:=if 1000<(ee g (dz s)).2.size then(ee g (dz s)).1.bl.eu 7 0 else(ee g (dz s)).1.bl
def pick(F:cO):Int×Int:=
 match F.bu with
 |some p=>(2,p)
 |none=>match F.form with
  |some p=>(3,p)
  |none=>match F.rep with
   |some p=>(4,p)
   |none=>match F.cls with
    |some p=>(5,p)
    |none=>match F.BM with
     |some p=>(6,p)
     |none=>match F.u6 with
      |some p=>(7,p)
      |none=>(0,0)
theorem adZ{j:Int}(h2:2<=j)(h7:j<=7)(aw:∀i,2<=i->i<j->F.get i=none)(h:F.get j=some p):pick F=(j,p):=by
 have:j=2\/j=3\/j=4\/j=5\/j=6\/j=7:=by omega
 have g2:F.get 2=F.bu:=rfl;have g3:F.get 3=F.form:=rfl;have g4:F.get 4=F.rep:=rfl;have g5:F.get 5=F.cls:=rfl;have g6:F.get 6=F.BM:=rfl;have g7:F.get 7=F.u6:=rfl;rcases this with rfl|rfl|rfl|rfl|rfl|rfl
 ·rw[g2]at h;simp[pick,h]
 ·rw[g3]at h;have a:=aw 2 (by omega) (by omega);rw[g2]at a;simp[pick,h,a]
 ·rw[g4]at h;have a:=aw 2 (by omega) (by omega);have b:=aw 3 (by omega) (by omega);rw[g2]at a;rw[g3]at b;simp[pick,h,a,b]
 ·rw[g5]at h;have a:=aw 2 (by omega) (by omega);have b:=aw 3 (by omega) (by omega);have c:=aw 4 (by omega) (by omega);rw[g2]at a;rw[g3]at b;rw[g4]at c;simp[pick,h,a,b,c]
 ·rw[g6]at h;have a:=aw 2 (by omega) (by omega);have b:=aw 3 (by omega) (by omega);have c:=aw 4 (by omega) (by omega);have d:=aw 5 (by omega) (by omega);rw[g2]at a;rw[g3]at b;rw[g4]at c;rw[g5]at d;simp[pick,h,a,b,c,d]
 ·rw[g7]at h;have a:=aw 2 (by omega) (by omega);have b:=aw 3 (by omega) (by omega);have c:=aw 4 (by omega) (by omega);have d:=aw 5 (by omega) (by omega);have e:=aw 6 (by omega) (by omega);rw[g2]at a;rw[g3]at b;rw[g4]at c;rw[g5]at d;rw[g6]at e;simp[pick,h,a,b,c,d,e]
theorem ad0(aw:∀i,2<=i->i<8->F.get i=none):pick F=(0,0):=by
 have a:=aw 2 (by omega) (by omega);have b:=aw 3 (by omega) (by omega);have c:=aw 4 (by omega) (by omega);have d:=aw 5 (by omega) (by omega);have e:=aw 6 (by omega) (by omega);have f:=aw 7 (by omega) (by omega);change F.bu=none at a;change F.form=none at b;change F.rep=none at c;change F.cls=none at d;change F.BM=none at e;change F.u6=none at f;simp[pick,a,b,c,d,e,f]
theorem QR{g:RG}{i:Nat}(h:g.au i):g.use i:=by rcases h with h|h|h<;>simp[RG.use,h]
def fU(q:Nv)(x:Int)(y:Option Nat):Array Value:=#[.int .i64 q.k,.slice q.pa q.pn q.pc,.slice q.sa q.sn q.sc,.int .i64 q.ed,.int .i64 q.gr,.int .i64 q.lo,.int .i64 q.hi,.bool q.lz,.int .i64 x,.map y]
def nL(q:Nv)(x:Int)(y:Option Nat):Value:=.agg (fU q x y)
def xz(w:World)(b:Nat)(q:Nv)(x:Int)(y:Option Nat):World:=((gg w b q).setCell ⟨b,8,none⟩ (.int .i64 x)).setCell ⟨b,9,none⟩ (.map y)
theorem Rc(w:World)(b:Nat)(q:Nv)(x:Int)(y:Option Nat):aa (fun i=>i=b) w (xz w b q x y):=
 ((Jy w b q).setCell (p:=⟨b,8,none⟩) (Or.inl rfl) _).setCell (p:=⟨b,9,none⟩) (Or.inl rfl) _
theorem Rb{p:Nv}{x0:Int}{y0:Option Nat}(h:aq w b (fU p x0 y0) t)(q:Nv):aq (xz w b q x y) b (fU q x y) t:=by
 have h8:=(((((((((h.setCell 0 (.int .i64 q.k)).setCell 1 (.slice q.pa q.pn q.pc)).setCell 2 (.slice q.sa q.sn q.sc)).setCell 3 (.int .i64 q.ed)).setCell 4 (.int .i64 q.gr)).setCell 5 (.int .i64 q.lo)).setCell 6 (.int .i64 q.hi)).setCell 7 (.bool q.lz)).setCell 8 (.int .i64 x)).setCell 9 (.map y);have e:((((((((((fU p x0 y0).setIfInBounds 0 (.int .i64 q.k)).setIfInBounds 1 (.slice q.pa q.pn q.pc)).setIfInBounds 2 (.slice q.sa q.sn q.sc)).setIfInBounds 3 (.int .i64 q.ed)).setIfInBounds 4 (.int .i64 q.gr)).setIfInBounds 5 (.int .i64 q.lo)).setIfInBounds 6 (.int .i64 q.hi)).setIfInBounds 7 (.bool q.lz)).setIfInBounds 8 (.int .i64 x)).setIfInBounds 9 (.map y)=fU q x y:=by simp[fU]
 rw[e]at h8;exact h8
theorem aq.NA(h:aq w b (fU q x y) t):
 w.cell? ⟨b,0,none⟩=some (.int .i64 q.k)/\w.cell? ⟨b,1,none⟩=some (.slice q.pa q.pn q.pc)/\w.cell? ⟨b,2,none⟩=some (.slice q.sa q.sn q.sc)/\w.cell? ⟨b,3,none⟩=some (.int .i64 q.ed)/\w.cell? ⟨b,4,none⟩=some (.int .i64 q.gr)/\w.cell? ⟨b,5,none⟩=some (.int .i64 q.lo)/\w.cell? ⟨b,6,none⟩=some (.int .i64 q.hi)/\w.cell? ⟨b,7,none⟩=some (.bool q.lz)/\w.cell? ⟨b,8,none⟩=some (.int .i64 x)/\w.cell? ⟨b,9,none⟩=some (.map y):=
 ⟨h.cell 0,h.cell 1,h.cell 2,h.cell 3,h.cell 4,h.cell 5,h.cell 6,h.cell 7,h.cell 8,h.cell 9⟩
theorem Q9{Q:Ending->World->Prop}{a:Act}{e:Int}(h2:a.tmps.getD 2 undef=.pointer (some ⟨b,0,none⟩))(h3:a.tmps.getD 3 undef=.int .i64 e)(h4:a.tmps.getD 4 undef=.int .i64 p)(hd:a.defers=[])
 (hb:aq W b (fU q x y) 67)(hQ:Q (.returned (.tuple #[nL q x y,.int .i64 e,.int .i64 p])) W):bodyPost prog Tryz.f21 Q Exit.ret a W:=by
 obtain⟨r0,r1,r2,r3,r4,r5,r6,r7,r8,r9⟩:=hb.NA;have s2:a.tmps[2]?.getD undef=.pointer (some ⟨b,0,none⟩):=by simpa using h2
 have s3:a.tmps[3]?.getD undef=.int .i64 e:=by simpa using h3
 have s4:a.tmps[4]?.getD undef=.int .i64 p:=by simpa using h4
 exact Bj (v:=.tuple #[nL q x y,.int .i64 e,.int .i64 p]) (by simp[results,results21,go_sem,s2,s3,s4,r0,r1,r2,r3,r4,r5,r6,r7,r8,r9,nL,fU]) hd hQ
theorem WH(s:ByteArray)(w:World)(hs:300<s.size)(hm:s.size<=maxLen):
 Calls prog 21 #[.string s] w fun e w'=>e=.returned (.tuple #[nL bB 0 none,.int .i64 1,.int .i64 0])/\aa af w w':=by
 have hb:(300:Int)<(s.size:Int):=by omega
 go_in
 go_wp2_with fail
 exact Bj (v:=.tuple #[nL bB 0 none,.int .i64 1,.int .i64 0]) (by simp[results,results21,go_sem,nL,fU,bB]) rfl ⟨rfl,(aa.refl _ _).alloc _⟩
theorem WI(s:ByteArray)(w:World)(hs:s.size<=300):
 Calls prog 21 #[.string s] w fun e w'=>∃(g:RG) (q:Nv) (x:Int) (y:Option Nat) (st:RS),g.rs=(gJ s (s.size+1) 0).map (·.2)/\g.ps=(gJ s (s.size+1) 0).map (fun p=>(p.1:Int))++[(s.size:Int)]/\
  e=.returned (.tuple #[nL q x y,.int .i64 (pick (jR g s)).1,.int .i64 (pick (jR g s)).2])/\aa af w w'/\st=(ee g (dz s)).1/\
  ((pick (jR g s)).1=0->x=st.aQ/\y=some g.bn/\aR w' g false {st with bl:=jR g s}/\cy w' w.heap.size w'.heap.size q (ee g (dz s)).2 (oS g (dz s))/\∀i,g.use i->w.heap.size<=i):=by
 have hb:¬(300:Int)<(s.size:Int):=by omega
 go_in
 go_wp2_with fail
 refine(ak9 s (w.alloc (.cells (fU bB 0 none) 67)) hs).mono ?_;rintro e w1 ⟨g,rfl,dK,FA,hR,xj,aT⟩;go_wp2_with fail;refine(aoM hR).mono ?_;rintro e w2 ⟨q,rfl,h2,abU,aO⟩;have qB:cy w2 w1.heap.size w2.heap.size q (ee g (dz s)).2 (oS g (dz s)):=abU;clear abU;have Z4:=aq.new w2 q.cells 64;have VO:aa af w2 (w2.alloc (.cells q.cells 64)):=(aa.refl _ _).alloc _;have Vh:=qB.kept VO (fun _ _ _ hx=>hx) (Ab _);have aS:Calls prog 39 #[Nv.val q] (w2.alloc (.cells q.cells 64)) fun e pX=>e=.returned (.int .i64 (ee g (dz s)).2.size)/\aa af (w2.alloc (.cells q.cells 64)) pX:=anC Vh (by simp) _ (aa.refl _ _)
 simp only[Nv.val,Nv.cells]at aS⊢;go_wp2_with fail;refine aS.mono ?_;rintro e w3 ⟨rfl,bA⟩;have h3:=(h2.nil VO).nil bA;have OQ:=Z4.kept bA (fun hx=>hx);have Qh:=Vh.kept bA (fun _ _ _ hx=>hx) (by simp);have PR:aa g.au w1 w3:=aO.trans ((VO.trans bA).mono (fun _ hx=>hx.elim));have tm:=aO.size;clear aS qB Vh Z4 h2;by_cases abx:1000<(ee g (dz s)).2.size
 ·have pI:jR g s=(ee g (dz s)).1.bl.eu 7 0:=by simp[jR,abx]
  go_wp2_with fail
  refine(GM h3 7 0 (by omega) (by omega)).mono ?_;rintro e w4 ⟨rfl,T6,dA⟩;have h4:aR w4 g false {(ee g (dz s)).1 with bl:=jR g s}:=by rw[pI];exact T6
  have wX:=PR.trans dA;have Vc:∀i,w1.heap.size<=i->¬g.au i:=fun i hi ho=>by have:=hR.gT ho;omega
  have zK:=OQ.kept dA (Vc _ tm);have s23:=bA.size;have Qi:=Qh.kept dA (fun i hi _=>Vc i hi) (by simp at s23;omega);have WU:w2.heap.size<=w4.heap.size:=Nat.le_of_lt zK.lt;clear T6 dA PR h3 pI OQ Qh
  have vL:aa af w w4:=((((aa.refl af w).alloc (.cells (fU bB 0 none) 67)).trans aT).bV (wX) (fun i hi ho=>by
   have:=xj i (QR ho);simp at this;omega))
  have Gr:∀i,g.use i->w.heap.size+1<=i:=fun i hi=>by have:=xj i hi;simpa using this
  have I2:¬g.au w.heap.size:=fun ho=>by have:=Gr _ (QR ho);omega
  have b4:aq w4 w.heap.size (fU bB 0 none) 67:=((aq.new w (fU bB 0 none) 67).kept aT (fun hx=>hx)).kept wX I2;have s1:w.heap.size+1<=w1.heap.size:=by have:=aT.size;simpa using this
  have s24:=wX.size;have Vj:w2.heap.size<w4.heap.size:=zK.lt;clear aT aO bA wX;obtain⟨D,hD,hF⟩:=h4.fm;generalize yo:jR g s=F at*;simp only at hF;go_wp2_with fail;go_loopg [7] 6 (fun kk v wr=>∃j:Int,v=.int .i64 j/\2<=j/\j<=8/\kk=(8-j).toNat/\Hid (∀i,2<=i->i<j->F.get i=none)/\wr=w4)
  case atStart=>exact⟨2,rfl,by omega,by omega,rfl,fun i h1 h2=>by omega,rfl⟩
  case round=>
   obtain⟨j,rfl,lL,hj8,rfl,HN,rfl⟩:=hrel;have c3:wr.cell? ⟨g.b,3,none⟩=some (.map (some g.bf)):=h4.ak.cell 3;obtain⟨e0,e1,e2,e3,e4,e5,e6,e7,e8,e9⟩:=b4.NA;obtain⟨f0,f1,f2,f3,f4,f5,f6,f7⟩:=b4.nN;have f8:=b4.frozen 8;have f9:=b4.frozen 9;simp only[bB]at e0 e1 e2 e3 e4 e5 e6 e7 e8 e9;by_cases hj:j<=7
   ·have ji:keyOf prog 25 (.int .i64 j)=some (.int .i64 j):=keyOf_int_mk underlying25 (C9 (by omega))
    cases kQ:F.get j with
    |none=>
     have hh:has D (.int .i64 j)=false:=by rw[hF.has,kQ];rfl
     go_wp2_with (at_lookup;refine Br _ rfl _ _ 97 rfl 25 3 .i64 xq underlying97 underlying3 (xJ _) g.bf _ D rfl hD _ _ rfl ji ?_;intro c iT yE)
     go_roundg (8-(j+1)).toNat
     case measure=>omega
     case rel=>
      refine⟨j+1,rfl,by omega,by omega,rfl,?_,rfl⟩;intro i h1 h2;by_cases hi:i=j
      ·rw[hi];exact kQ
      ·exact HN.out i h1 (by omega)
    |some pl=>
     have hh:has D (.int .i64 j)=true:=by rw[hF.has,kQ];rfl
     have rN:=hF.val j pl kQ;have vG:=adZ lL hj HN.out kQ;have xW:Hid (pick F=(j,pl)):=vG;have SB:Hid (D.atKey (.int .i64 j) (.lit (.int .i64 0))=.lit (.int .i64 pl)):=rN;clear vG rN;go_wp2_with (at_lookup;refine Br _ rfl _ _ 97 rfl 25 3 .i64 xq underlying97 underlying3 (xJ _) g.bf _ D rfl hD _ _ rfl ji ?_;intro c iT yE);have kz:=Rc wr w.heap.size bB 0 none;have vM:=vL.bV kz (fun i hi he=>by omega)
     have yu:c=pl:=by
      have h1:=iT;rw[SB.out]at h1;simpa using h1.symm
     have bz:=Rb (x:=0) (y:=none) b4 bB;simp only[xz,gg,bB]at bz vM;refine Q9 (b:=w.heap.size) (q:=bB) (x:=0) (y:=none) (e:=j) (p:=c) rfl rfl rfl rfl bz ?_;refine⟨g,bB,0,none,_,dK,FA,?_,vM,rfl,?_⟩
     ·rw[yo,xW.out,yu]
     ·rw[yo,xW.out];intro h0;simp only at h0;omega
   ·have ej:j=8:=(by omega);have vG:=ad0 (F:=F) (fun i h1 h2=>HN.out i h1 (by omega));have xW:Hid (pick F=(0,0)):=vG;clear vG HN;subst ej;have c5:wr.cell? ⟨g.b,5,none⟩=some (.int .i64 (ee g (dz s)).1.aQ):=h4.ak.cell 5;have c6:wr.cell? ⟨g.b,6,none⟩=some (.map (some g.bn)):=h4.ak.cell 6;obtain⟨d0,d1,d2,d3,d4,d5,d6,d7⟩:=zK.gZ;go_wp2_with fail;go_region;all_goals go_wp2_with fail
    all_goals
     have kz:=(Rc wr w.heap.size q (ee g (dz s)).1.aQ (some g.bn)).drew;have vM:=vL.bV kz (fun i hi he=>by omega);have bz:=(Rb (x:=(ee g (dz s)).1.aQ) (y:=some g.bn) b4 q).drew;have szz:=kz.size;have Ll:=h4.kept kz (fun i hi he=>by have:=Gr i hi;omega);have Lm:cy (xz wr w.heap.size q (ee g (dz s)).1.aQ (some g.bn)).drew w.heap.size (xz wr w.heap.size q (ee g (dz s)).1.aQ (some g.bn)).drew.heap.size q (ee g (dz s)).2 (oS g (dz s)):=(Qi.kept kz (fun i h1 _ he=>by omega) WU).Hk (by omega) (by omega);simp only[xz,gg]at bz vM Ll Lm;refine Q9 (b:=w.heap.size) (q:=q) (x:=(ee g (dz s)).1.aQ) (y:=some g.bn) (e:=0) (p:=0) rfl rfl rfl rfl bz ?_;refine⟨g,q,(ee g (dz s)).1.aQ,some g.bn,_,dK,FA,?_,vM,rfl,?_⟩
     ·rw[yo,xW.out]
     ·intro _;refine⟨rfl,rfl,?_,Lm,fun i hi=>by have:=Gr i hi;omega⟩;rw[yo];exact Ll
 ·have pI:jR g s=(ee g (dz s)).1.bl:=by simp[jR,abx]
  have h4:aR w3 g false {(ee g (dz s)).1 with bl:=jR g s}:=by rw[pI];exact h3
  obtain⟨w4,Jb⟩:∃w4,w4=w3:=⟨_,rfl⟩
  have wX:=PR;have zK:=OQ;have Qi:=Qh;rw[<-Jb]at h4 wX zK Qi⊢;have WU:w2.heap.size<=w4.heap.size:=Nat.le_of_lt zK.lt;clear PR h3 pI Jb OQ Qh
  have vL:aa af w w4:=((((aa.refl af w).alloc (.cells (fU bB 0 none) 67)).trans aT).bV (wX) (fun i hi ho=>by
   have:=xj i (QR ho);simp at this;omega))
  have Gr:∀i,g.use i->w.heap.size+1<=i:=fun i hi=>by have:=xj i hi;simpa using this
  have I2:¬g.au w.heap.size:=fun ho=>by have:=Gr _ (QR ho);omega
  have b4:aq w4 w.heap.size (fU bB 0 none) 67:=((aq.new w (fU bB 0 none) 67).kept aT (fun hx=>hx)).kept wX I2;have s1:w.heap.size+1<=w1.heap.size:=by have:=aT.size;simpa using this
  have s24:=wX.size;have Vj:w2.heap.size<w4.heap.size:=zK.lt;clear aT aO bA wX;obtain⟨D,hD,hF⟩:=h4.fm;generalize yo:jR g s=F at*;simp only at hF;go_wp2_with fail;go_loopg [7] 6 (fun kk v wr=>∃j:Int,v=.int .i64 j/\2<=j/\j<=8/\kk=(8-j).toNat/\Hid (∀i,2<=i->i<j->F.get i=none)/\wr=w4)
  case atStart=>exact⟨2,rfl,by omega,by omega,rfl,fun i h1 h2=>by omega,rfl⟩
  case round=>
   obtain⟨j,rfl,lL,hj8,rfl,HN,rfl⟩:=hrel;have c3:wr.cell? ⟨g.b,3,none⟩=some (.map (some g.bf)):=h4.ak.cell 3;obtain⟨e0,e1,e2,e3,e4,e5,e6,e7,e8,e9⟩:=b4.NA;obtain⟨f0,f1,f2,f3,f4,f5,f6,f7⟩:=b4.nN;have f8:=b4.frozen 8;have f9:=b4.frozen 9;simp only[bB]at e0 e1 e2 e3 e4 e5 e6 e7 e8 e9;by_cases hj:j<=7
   ·have ji:keyOf prog 25 (.int .i64 j)=some (.int .i64 j):=keyOf_int_mk underlying25 (C9 (by omega))
    cases kQ:F.get j with
    |none=>
     have hh:has D (.int .i64 j)=false:=by rw[hF.has,kQ];rfl
     go_wp2_with (at_lookup;refine Br _ rfl _ _ 97 rfl 25 3 .i64 xq underlying97 underlying3 (xJ _) g.bf _ D rfl hD _ _ rfl ji ?_;intro c iT yE)
     go_roundg (8-(j+1)).toNat
     case measure=>omega
     case rel=>
      refine⟨j+1,rfl,by omega,by omega,rfl,?_,rfl⟩;intro i h1 h2;by_cases hi:i=j
      ·rw[hi];exact kQ
      ·exact HN.out i h1 (by omega)
    |some pl=>
     have hh:has D (.int .i64 j)=true:=by rw[hF.has,kQ];rfl
     have rN:=hF.val j pl kQ;have vG:=adZ lL hj HN.out kQ;have xW:Hid (pick F=(j,pl)):=vG;have SB:Hid (D.atKey (.int .i64 j) (.lit (.int .i64 0))=.lit (.int .i64 pl)):=rN;clear vG rN;go_wp2_with (at_lookup;refine Br _ rfl _ _ 97 rfl 25 3 .i64 xq underlying97 underlying3 (xJ _) g.bf _ D rfl hD _ _ rfl ji ?_;intro c iT yE);have kz:=Rc wr w.heap.size bB 0 none;have vM:=vL.bV kz (fun i hi he=>by omega)
     have yu:c=pl:=by
      have h1:=iT;rw[SB.out]at h1;simpa using h1.symm
     have bz:=Rb (x:=0) (y:=none) b4 bB;simp only[xz,gg,bB]at bz vM;refine Q9 (b:=w.heap.size) (q:=bB) (x:=0) (y:=none) (e:=j) (p:=c) rfl rfl rfl rfl bz ?_;refine⟨g,bB,0,none,_,dK,FA,?_,vM,rfl,?_⟩
     ·rw[yo,xW.out,yu]
     ·rw[yo,xW.out];intro h0;simp only at h0;omega
   ·have ej:j=8:=(by omega);have vG:=ad0 (F:=F) (fun i h1 h2=>HN.out i h1 (by omega));have xW:Hid (pick F=(0,0)):=vG;clear vG HN;subst ej;have c5:wr.cell? ⟨g.b,5,none⟩=some (.int .i64 (ee g (dz s)).1.aQ):=h4.ak.cell 5;have c6:wr.cell? ⟨g.b,6,none⟩=some (.map (some g.bn)):=h4.ak.cell 6;obtain⟨d0,d1,d2,d3,d4,d5,d6,d7⟩:=zK.gZ;go_wp2_with fail;go_region;all_goals go_wp2_with fail
    all_goals
     have kz:=(Rc wr w.heap.size q (ee g (dz s)).1.aQ (some g.bn)).drew;have vM:=vL.bV kz (fun i hi he=>by omega);have bz:=(Rb (x:=(ee g (dz s)).1.aQ) (y:=some g.bn) b4 q).drew;have szz:=kz.size;have Ll:=h4.kept kz (fun i hi he=>by have:=Gr i hi;omega);have Lm:cy (xz wr w.heap.size q (ee g (dz s)).1.aQ (some g.bn)).drew w.heap.size (xz wr w.heap.size q (ee g (dz s)).1.aQ (some g.bn)).drew.heap.size q (ee g (dz s)).2 (oS g (dz s)):=(Qi.kept kz (fun i h1 _ he=>by omega) WU).Hk (by omega) (by omega);simp only[xz,gg]at bz vM Ll Lm;refine Q9 (b:=w.heap.size) (q:=q) (x:=(ee g (dz s)).1.aQ) (y:=some g.bn) (e:=0) (p:=0) rfl rfl rfl rfl bz ?_;refine⟨g,q,(ee g (dz s)).1.aQ,some g.bn,_,dK,FA,?_,vM,rfl,?_⟩
     ·rw[yo,xW.out]
     ·intro _;refine⟨rfl,rfl,?_,Lm,fun i hi=>by have:=Gr i hi;omega⟩;rw[yo];exact Ll
end Go.Proofs.YtpdnofhackjfdaaGreatDoor
