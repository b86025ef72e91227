/- The program's in -/
import Derived.Test.YtpdnofhackjfdaaGreatDoorP17
set_option linter.all false
set_option maxRecDepth 100000
set_option maxHeartbeats 4000000
namespace Go.Proofs.YtpdnofhackjfdaaGreatDoor
open Go.Proofs.Tryz
open Go.RowKit Go.Maps
variable {F:cQ} {p x:Int} {M:List MS} {vs:List Sv} {b g hi lo:Nat} {q:Nv} {y:Option Nat} {t:TypeId} {W w:World}
theorem fJ.ahQ{w7:World}{base:Nat}{sv nv ov lv eu:Value}{num:List Int}{aL bD:List Nat}(h:fJ w b base sv nv ov lv ⟨num,aL,bD⟩)(t:Int)(k0:aa af w W)(bt:w7.ownsRow base 3 1 eu (num.length+1) (cY num++[.int .i64 t]))(hg:W.grownBy w7 nv.ownBlock)(cB:eu.ownBlock=nv.ownBlock\/eu.ownBlock=some W.heap.size):
 aq w7 b #[sv,nv,ov,lv] 147/\fJ (w7.setCell ⟨b,1,none⟩ eu) b base sv eu ov lv ⟨num++[t],aL,bD⟩/\aa (nj b nv ov lv) w (w7.setCell ⟨b,1,none⟩ eu):=by
 have VG:=k0.size;have k7:aa (fun i=>nv.ownBlock=some i) w w7:=(k0.mono (fun i hx=>hx.elim)).eQ hg (fun j hj=>Or.inl hj);have uc:nv.ownBlock≠some b:=fun e=>(h.an b e).1 rfl
 have b7:=h.aj.kept k7 uc
 have lP:∀i,eu.ownBlock=some i->nv.ownBlock=some i\/w.heap.size<=i:=by
  intro i hi;rcases cB with hl|hl
  ·exact Or.inl (hl▸hi)
  ·rw[hl]at hi;cases hi;right;omega
 have k8:aa (nj b nv ov lv) w (w7.setCell ⟨b,1,none⟩ eu):=aa.setCell (S:=nj b nv ov lv) (k7.mono (S':=nj b nv ov lv) (fun i hi=>Or.inr (Or.inl hi))) (p:=⟨b,1,none⟩) (Or.inl (Or.inl rfl)) _;have kb:aa (fun i=>i=b) w7 (w7.setCell ⟨b,1,none⟩ eu):=(aa.refl (fun i=>i=b) w7).setCell (p:=⟨b,1,none⟩) (Or.inl rfl) eu
 have ue:∀i,eu.ownBlock=some i->i≠b:=fun i hi e=>by
  subst e;rcases lP i hi with h1|h1
  ·exact uc h1
  ·have:=h.aj.lt;omega
 refine⟨b7,⟨?_,?_,?_,?_,h.bb,fun i hi=>?_,h.ao,h.al⟩,k8⟩
 ·have:=b7.setCell 1 eu;simpa using this
 ·have e2:cY (num++[t])=cY num++[.int .i64 t]:=by simp[cY]
  show World.ownsRow _ base 3 1 eu (num++[t]).length (cY (num++[t]))
  rw[Aj,e2];exact bY bt kb (fun i hi e=>ue i hi e)
 ·exact bY (bY h.aL k7 (fun i hi hx=>(h.an i hx).2.1 hi)) kb (fun i hi e=>(h.ao i hi).1 e)
 ·exact bY (bY h.bD k7 (fun i hi hx=>(h.an i hx).2.2 hi)) kb (fun i hi e=>h.al i hi e)
 ·refine⟨ue i hi,fun e=>?_,fun e=>?_⟩
  ·rcases lP i hi with h1|h1
   ·exact(h.an i h1).2.1 e
   ·have:=dE h.aL e;omega
  ·rcases lP i hi with h1|h1
   ·exact(h.an i h1).2.2 e
   ·have:=dE h.bD e;omega
theorem fJ.first(w:World)(sv:Value)(start:Nat):fJ ((w.alloc (.cells #[.int .i64 (start:Int)] 3)).alloc (.cells #[sv,.slice none 0 0,.slice none 0 0,.slice (some ⟨w.heap.size,0,none⟩) 1 1] 147)) (w.heap.size+1) w.heap.size sv (.slice none 0 0) (.slice none 0 0) (.slice (some ⟨w.heap.size,0,none⟩) 1 1) ⟨[],[],[start]⟩ where
 aj:=by have:=aq.new (w.alloc (.cells #[.int .i64 (start:Int)] 3)) #[sv,.slice none 0 0,.slice none 0 0,.slice (some ⟨w.heap.size,0,none⟩) 1 1] 147;simpa using this
 num:=A6 _ _ _ _
 aL:=A6 _ _ _ _
 bD:=by
  refine⟨by simp[nQ],Or.inr ⟨w.heap.size,1,#[.int .i64 (start:Int)],rfl,Ab _,?_,Ab _,by unfold maxLen;omega,by simp,by simp[nQ]⟩⟩;have:=(aq.new w #[.int .i64 (start:Int)] 3).alloc (.cells #[sv,.slice none 0 0,.slice none 0 0,.slice (some ⟨w.heap.size,0,none⟩) 1 1] 147);exact this
 bb:=Nat.le_succ _
 an i hi:=by cases hi
 ao i hi:=by cases hi
 al i hi:=by
  have e:w.heap.size=i:=C6 hi;omega
theorem qi.grow{at_:Nat}{V V':VS}(h:qi M at_ V V'):V'.num.length=V.num.length/\V.aL.length<=V'.aL.length/\V.bD.length<=V'.bD.length:=by
 induction h with
 |done a V h=>exact⟨rfl,Ab _,Ab _⟩
 |step a V V' V2 t h hv hl ih=>have:=hv.grow;omega
theorem aa.yN{w1 w2:World}{K:Nat->Prop}(h:aa af w w1)(k:aa K w1 w2)(hK:∀i,K i->w.heap.size<=i):aa af w w2:=h.bZ k (fun i hi hx=>by have:=hK i hx;omega)
def S8(b L gn mn mo:Nat)(nv:Value)(un uo:Int)(w':World):Prop:=(w'.cell? ⟨b,1,none⟩=some nv/\w'.cell? ⟨L,5,none⟩=some (.int .i64 (mo:Int)))/\w'.cell? ⟨gn,mn,none⟩=some (.int .i64 un)/\w'.cell? ⟨gn,mo,none⟩=some (.int .i64 uo)
theorem gu.l8{s:Sv}{m:MS}(h:gu w lo hi s m)(a b:Int):gu w lo hi ⟨s.k,s.sa,s.sn,s.sc,s.ed,s.sl,a,b⟩ {m with next:=a,a_:=b}:=⟨h.k,h.ed,h.sl,rfl,rfl,h.kr,h.set⟩
theorem je.at(h:je w g vs M){s:Nat}(hs:s<M.length):∃q:Sv,(∃hv:s<vs.length,vs[s]=q)/\(q.k=(M[s]).kind/\q.nx=(M[s]).next/\q.ot=(M[s]).a_)/\∀W,je W g vs M->(W.cell? ⟨g,s*6,none⟩=some (.int .i64 q.k)/\W.cell? ⟨g,s*6+1,none⟩=some (.slice q.sa q.sn q.sc)/\W.cell? ⟨g,s*6+2,none⟩=some (.int .i64 q.ed)/\W.cell? ⟨g,s*6+3,none⟩=some (.int .i64 q.sl)/\W.cell? ⟨g,s*6+4,none⟩=some (.int .i64 q.nx)/\W.cell? ⟨g,s*6+5,none⟩=some (.int .i64 q.ot)):=by
 have hv:s<vs.length:=by rw[h.len];exact hs
 exact⟨vs[s],⟨hv,rfl⟩,h.Wf s hv hs,fun W hW=>⟨hW.cell s hv 0 (by omega),hW.cell s hv 1 (by omega),hW.cell s hv 2 (by omega),hW.cell s hv 3 (by omega),hW.cell s hv 4 (by omega),hW.cell s hv 5 (by omega)⟩⟩
theorem aoE(w:World)(q:Sv)(k:Nat)(hk:w.heap.size=k)(j:Nat)(u:Value)(h:q.cells.toList[j]? =some u):(w.alloc (.cells q.cells 113)).drew.cell? (Addr.add ⟨k,0,none⟩ j)=some u:=by subst hk;exact aeW q j u h
theorem ajT{c start:Nat}{VF:VS}(hM:je w g vs M)(qH:∀i,(h:i<vs.length)->(h':i<M.length)->gu w lo hi vs[i] M[i])(Mm:hi<=w.heap.size)(dD:oO M)(dw:M.length<=4001)(hL:qi M 0 (VS.first M.length start) VF)
 (aqx:VF.aL.length<=4001)(aqi:VF.bD.length<=4002)(dR:∀s∈VF.aL,s<M.length)(bC:start<M.length):
 Calls prog 45 #[.slice (some ⟨g,0,none⟩) M.length c,.int .i64 (start:Int)] w fun e w'=>∃(v':Value) (ws:List Sv),e=.returned (.tuple #[v',.int .i64 (VF.num.getD start 0)])/\aa af w w'/\w'.ownsRow w.heap.size 113 6 v' VF.aL.length (jw ws)/\ws.length=VF.aL.length/\
  ∀i,(h:i<ws.length)->(h':i<(sorted M VF).length)->gu w' lo hi ws[i] (sorted M VF)[i]:=by
 obtain⟨i0,cS,dm,dp,c_⟩:=Bp Tryz.GU;have wX:=hM.lt;have du:=ab (fJ.first w (.slice (some ⟨g,0,none⟩) M.length c) start);have K0:Hid (aa af w ((w.alloc (.cells #[.int .i64 (start:Int)] 3)).alloc (.cells #[.slice (some ⟨g,0,none⟩) M.length c,.slice none 0 0,.slice none 0 0,.slice (some ⟨w.heap.size,0,none⟩) 1 1] 147))):=((aa.refl af w).alloc _).alloc _;have HM:=ab hM;have KJ:=ab qH;have kJ:=ab dD;have HL:=ab hL;have tG:=ab dR;have aft:Hid (VF.num.length=M.length):=ab (by have:=hL.grow.1;simpa[VS.first]using this);clear hM qH dD hL dR;go_in;go_wp2_with fail;go_loopg [19] M.length (fun kk i wr=>∃(k:Nat) (nv:Value),i=.int .i64 (k:Int)/\k<=M.length/\kk=M.length-k/\Hid (fJ wr (w.heap.size+1) w.heap.size (.slice (some ⟨g,0,none⟩) M.length c) nv (.slice none 0 0) (.slice (some ⟨w.heap.size,0,none⟩) 1 1) ⟨List.replicate k (-1),[],[start]⟩)/\Hid (aa af w wr))
 case atStart=>exact⟨0,.slice none 0 0,rfl,Ao _,rfl,du.o,K0.o⟩
 case round=>
  obtain⟨k,nv,rfl,hk,eZ,HS,HK⟩:=hrel;clear du K0;by_cases aw:k<M.length
  ·have vE:Hid (∀W,aa af wr W->W.ownsRow w.heap.size 3 1 nv k (cY (List.replicate k (-1)))):=fun W hW=>by
    have:=bY HS.o.num hW (fun i _ hx=>hx);simpa using this
   obtain⟨ZN,cn,Mw⟩:=cK (vE.o wr (aa.refl _ _));subst Mw;have c1:wr.cell? ⟨w.heap.size+1,1,none⟩=some (.slice ZN k cn):=HS.o.aj.cell 1;have gD:=HS.o.aj.lt;have iX:(k:Int)<(M.length:Int):=(by omega);have Jb:=HK.o.size;go_wp2_with (at_builtin;refine Ap _ rfl _ _ 22 rfl w.heap.size 3 i0 _ 1 8 underlying22 cS dm dp c_ rfl (by decide) _ _ _ rfl (vE.o _ ((aa.refl _ _).alloc _)) _ 1 1 [.int .i64 (-1)] rfl rfl ?c1 ?c2 ?c3 ?c4 ?c5 ?_)
   case c1=>exact Hc _ (-1)
   case c2=>exact vI _
   case c3=>unfold maxLen;omega
   case c4=>omega
   case c5=>simp;omega
   intro v' w7 bH b_ dS cB;obtain⟨jg,c',rfl⟩:=cK bH;obtain⟨b7,fZ,acr⟩:=HS.o.ahQ (-1) ((aa.refl af wr).alloc (.cells #[.int .i64 (-1)] 3)) (by simpa using bH) b_ (by simpa using cB);have c7:w7.cell? ⟨w.heap.size+1,1,none⟩=some (.slice ZN k cn):=b7.cell 1;have f7:=b7.frozen 1;have ax:=ab fZ;have afy:=ab (HK.o.yN acr (fun i hi=>(HS.o.au hi).1));clear vE HS HK b7 fZ acr;go_wp2_with fail;go_roundg (M.length-(k+1))
   case measure=>omega
   case rel=>exact⟨k+1,_,by simp,by omega,rfl,by have:=ax.o;rw[<-List.replicate_succ']at this;exact this,afy⟩
  ·have gy:k=M.length:=(by omega);subst gy;have iX:¬(M.length:Int)<(M.length:Int):=(by omega);go_wp2_with fail;go_loopg [7] VF.bD.length (fun kk i wr2=>∃(at_:Nat) (V:VS) (ov lv:Value),i=.int .i64 (at_:Int)/\kk=VF.bD.length-at_/\Hid (qi M at_ V VF)/\Hid (fJ wr2 (w.heap.size+1) w.heap.size (.slice (some ⟨g,0,none⟩) M.length c) nv ov lv V)/\Hid (aa af w wr2))
   case atStart=>exact⟨0,⟨List.replicate M.length (-1),[],[start]⟩,_,_,rfl,rfl,HL,HS,HK⟩
   case round=>
    obtain⟨at_,V,ov,lv,rfl,Vd,If,gX,mM⟩:=hrel;clear HS HK HL;obtain⟨w2,pS⟩:∃w2,w2=wr:=⟨_,rfl⟩
    subst pS;by_cases ajj:at_<V.bD.length
    ·obtain⟨gl,cl,Gw,l1,l2,l3,l4,l5⟩:=mG gX.o.bD (by omega);subst Gw;have c3:w2.cell? ⟨w.heap.size+1,3,none⟩=some (.slice (some ⟨gl,0,none⟩) V.bD.length cl):=gX.o.aj.cell 3;have hit:(at_:Int)<(V.bD.length:Int):=(by omega);have U8:¬((V.bD.length:Int)<=(at_:Int)):=by omega
     have ajI:∃(t:Nat) (V':VS),V.bD[at_]? =some t/\lk M V t V'/\qi M (at_+1) V' VF:=by
      cases If.o with
      |done _ _ h=>omega
      |step _ _ V' _ t h hv hl=>exact⟨t,V',h,hv,hl⟩
     obtain⟨t,V',ht,hv,hl⟩:=ajI;have ct:w2.cell? ⟨gl,at_,none⟩=some (.int .i64 (t:Int)):=by rw[l4 at_ ajj];simp[nQ,ht]
     have gr:=hl.grow;have grv:=hv.grow;have F1:=ab (aph (vs:=vs) (c:=c) wX (fun i m him=>(kJ.o m (Ca him)).1.1) hv (by omega) (by omega) w2 ov _ gX.o (HM.o.kept mM.o (fun hx=>hx)));have Kv:=ab hl;clear l4 l5 ht hv hl If;go_wp2_with fail;refine(F1.o).mono ?_;rintro e w4 ⟨rfl,xz,yL,h4,tT,k4⟩;have KN:=ab (mM.o.yN k4.kept (fun i hi=>(gX.o.au hi).1));have HN:=ab h4;clear h4 tT k4 gX mM F1;go_wp2_with fail;go_roundg (VF.bD.length-(at_+1))
     case measure=>omega
     case rel=>exact⟨at_+1,V',xz,yL,by simp,rfl,Kv,HN,KN⟩
    ·have hVF:V=VF:=by
      cases If.o with
      |done _ _ h=>rfl
      |step _ _ V' _ t h hv hl=>have:=(Ag.1 h).1;omega
     subst hVF;have Kv:Hid (V.num.length=M.length):=aft.o;obtain⟨ye,cl,Gw⟩:=cK gX.o.bD;subst Gw;obtain⟨aoo,co,Mx⟩:=cK gX.o.aL;subst Mx;have c3:w2.cell? ⟨w.heap.size+1,3,none⟩=some (.slice ye V.bD.length cl):=gX.o.aj.cell 3;have c2:w2.cell? ⟨w.heap.size+1,2,none⟩=some (.slice aoo V.aL.length co):=gX.o.aj.cell 2;have hit:¬((at_:Int)<(V.bD.length:Int)):=(by omega);go_wp2_with fail;go_loopg [8,54] V.aL.length (fun kk s8 i J3=>∃(k:Nat) (ws:List Sv),i=.int .i64 (k:Int)/\k<=V.aL.length/\kk=V.aL.length-k/\ws.length=k/\Hid (J3.ownsRow w.heap.size 113 6 s8 k (jw ws))/\Hid (∀i,s8.ownBlock=some i->w2.heap.size<=i)/\Hid (∀i,(h:i<ws.length)->(h':i<(sorted M V).length)->gu J3 lo hi ws[i] (sorted M V)[i])/\Hid (aa af w2 J3))
     case atStart=>exact⟨0,[],rfl,Ao _,rfl,rfl,A6 _ _ _ _,(fun i hi=>by cases hi),(fun i h=>by cases h),aa.refl _ _⟩
     case round=>
      obtain⟨k,ws,rfl,bA,aqf,qJ,wE,DK,Oy,iN⟩:=hrel;by_cases Qj:k<V.aL.length
      ·obtain⟨go,co',hox,o1,o2,o3,o4,o5⟩:=mG gX.o.aL (by omega)
       cases hox;have BC:V.aL[k]<M.length:=tG.o _ (A5 Qj)
       obtain⟨q,⟨sV,qF⟩,⟨q1,q2,q3⟩,qc⟩:=(HM.o).at BC;have abj:=kJ.o _ (A5 BC);unfold ss at abj;have K2:=mM.o.trans iN.o;obtain⟨d0,d1,d2,d3,d4,d5⟩:=qc wr (HM.o.kept K2 (fun hx=>hx));have iU:=(KJ.o _ sV BC).kept K2 (fun _ _ _ hx=>hx) Mm;rw[qF]at iU
       have mw:(sorted M V)[k]'(by simpa[sorted]using Qj)={M[V.aL[k]]with next:=V.num.getD (M[V.aL[k]]).next.toNat 0,a_:=V.num.getD (M[V.aL[k]]).a_.toNat 0}:=by
        simp[sorted,Af,Ae BC]
       obtain⟨qk,bS,cd,bT,bI,fi,CO,CP⟩:=q;simp only at q1 q2 q3 d0 d1 d2 d3 d4 d5;generalize hm:M[V.aL[k]]=m at*;obtain⟨mn,dJ⟩:∃mn:Nat,m.next=(mn:Int):=⟨m.next.toNat,by omega⟩
       obtain⟨mo,gI⟩:∃mo:Nat,m.a_=(mo:Int):=⟨m.a_.toNat,by omega⟩
       rw[dJ]at q2;rw[gI]at q3;subst q1 q2 q3;have vE:=Kv.o;obtain⟨gn,cn,pk,n1,n2,n3,n4,n5⟩:=mG gX.o.num (by omega);subst pk;have yA:mn<V.num.length:=(by omega);have abM:mo<V.num.length:=(by omega);have cn1:w2.cell? ⟨gn,mn,none⟩=some (.int .i64 (V.num.getD mn 0)):=by rw[n4 mn yA];simp[cY,yA]
       have cn2:w2.cell? ⟨gn,mo,none⟩=some (.int .i64 (V.num.getD mo 0)):=by rw[n4 mo abM];simp[cY,abM]
       rw[dJ,gI]at mw;simp only[Ay]at mw;generalize V.num.getD mn 0=un at*;generalize V.num.getD mo 0=uo at*;generalize hs:V.aL[k]=s at*;have ck:wr.cell? ⟨go,k,none⟩=some (.int .i64 (s:Int)):=(iN.o.cell (p:=⟨go,k,none⟩) o2 (fun hx=>hx)).trans (by rw[o4 k Qj];simp[nQ,Qj,hs]);have e1:wr.cell? ⟨gn,mn,none⟩=some (.int .i64 un):=(iN.o.cell (p:=⟨gn,mn,none⟩) n2 (fun hx=>hx)).trans cn1;have e2:wr.cell? ⟨gn,mo,none⟩=some (.int .i64 uo):=(iN.o.cell (p:=⟨gn,mo,none⟩) n2 (fun hx=>hx)).trans cn2;have eb:wr.cell? ⟨w.heap.size+1,1,none⟩=some (.slice (some ⟨gn,0,none⟩) V.num.length cn):=(gX.o.new iN.o).aj.cell 1;have gD:=(gX.o.new iN.o).aj.lt;have Jb:=iN.o.size;have aqg:=mM.o.size;have ai9:(k:Int)<(V.aL.length:Int):=(by omega);have ai_:¬((V.aL.length:Int)<=(k:Int)):=(by omega);have ap8:¬((M.length:Int)<=(s:Int)):=(by omega);have ap9:¬((V.num.length:Int)<=(mn:Int)):=(by omega);have ap_:¬((V.num.length:Int)<=(mo:Int)):=(by omega);have kA:aa af wr ((wr.alloc (.cells #[.int .i64 m.kind,.slice bS cd bT,.int .i64 bI,.int .i64 fi,.int .i64 (mn:Int),.int .i64 (mo:Int)] 113)).drew):=((aa.refl af wr).alloc _).drew;have kB:aa af wr ((wr.alloc (.cells #[.int .i64 m.kind,.slice bS cd bT,.int .i64 bI,.int .i64 fi,.int .i64 un,.int .i64 (mo:Int)] 113)).drew):=((aa.refl af wr).alloc _).drew;have Zn:Hid (S8 (w.heap.size+1) wr.heap.size gn mn mo (.slice (some ⟨gn,0,none⟩) V.num.length cn) un uo ((wr.alloc (.cells #[.int .i64 m.kind,.slice bS cd bT,.int .i64 bI,.int .i64 fi,.int .i64 (mn:Int),.int .i64 (mo:Int)] 113)).drew)):=⟨⟨(kA.cell (p:=⟨w.heap.size+1,1,none⟩) gD (fun hx=>hx)).trans eb,(aq.new wr #[.int .i64 m.kind,.slice bS cd bT,.int .i64 bI,.int .i64 fi,.int .i64 (mn:Int),.int .i64 (mo:Int)] 113).drew.cell 5⟩,(kA.cell (p:=⟨gn,mn,none⟩) (by show gn<_;omega) (fun hx=>hx)).trans e1,(kA.cell (p:=⟨gn,mo,none⟩) (by show gn<_;omega) (fun hx=>hx)).trans e2⟩;have Zo:Hid (S8 (w.heap.size+1) wr.heap.size gn mn mo (.slice (some ⟨gn,0,none⟩) V.num.length cn) un uo ((wr.alloc (.cells #[.int .i64 m.kind,.slice bS cd bT,.int .i64 bI,.int .i64 fi,.int .i64 un,.int .i64 (mo:Int)] 113)).drew)):=⟨⟨(kB.cell (p:=⟨w.heap.size+1,1,none⟩) gD (fun hx=>hx)).trans eb,(aq.new wr #[.int .i64 m.kind,.slice bS cd bT,.int .i64 bI,.int .i64 fi,.int .i64 un,.int .i64 (mo:Int)] 113).drew.cell 5⟩,(kB.cell (p:=⟨gn,mn,none⟩) (by show gn<_;omega) (fun hx=>hx)).trans e1,(kB.cell (p:=⟨gn,mo,none⟩) (by show gn<_;omega) (fun hx=>hx)).trans e2⟩;have Y1:=ab (iU.l8 un uo);have YZ:=ab mw;clear vE iU mw qc o4 o5 n4 n5 cn1 cn2 kA kB abj K2;go_wp2_with fail;refine gW (S:=S8 (w.heap.size+1) wr.heap.size gn mn mo (.slice (some ⟨gn,0,none⟩) V.num.length cn) un uo) 19 (by kernel_rfl) rfl rfl rfl (by kernel_rfl) (by kernel_rfl) ?_;have ak:=Zn.o;refine ai 0 62 (.pointer (some ⟨w.heap.size+1,0,none⟩)) ak ?_;refine ai 1 63 (.pointer (some ⟨w.heap.size+1,0,none⟩)) ak ?_;refine ai 2 64 (.pointer (some ⟨w.heap.size+1,1,none⟩)) ak ?_;refine ai 3 65 (.slice (some ⟨gn,0,none⟩) V.num.length cn) ak ?_;refine ai 4 66 (.pointer (some ⟨wr.heap.size,4,none⟩)) ak ?_;refine ai 8 70 (.pointer (some ⟨w.heap.size+1,0,none⟩)) ak ?_;refine ai 9 71 (.pointer (some ⟨w.heap.size+1,0,none⟩)) ak ?_;refine ai 10 72 (.pointer (some ⟨w.heap.size+1,1,none⟩)) ak ?_;refine ai 11 73 (.slice (some ⟨gn,0,none⟩) V.num.length cn) ak ?_;refine ai 12 74 (.pointer (some ⟨wr.heap.size,5,none⟩)) ak ?_;refine ai 13 75 (.int .i64 (mo:Int)) ak ?_;refine ai 14 76 (.pointer (some ⟨gn,mo,none⟩)) ak ?_;refine ai 15 77 (.int .i64 uo) ak ?_;simp only[Act.put,Aa,Ad,Ac];refine bQ 5 fun K hK=>?_
       go_simp;refine hK.o _ _ ak (fun _=>?_);clear hK K;refine ai 6 68 (.pointer (some ⟨gn,mn,none⟩)) ak ?_;refine ai 7 69 (.int .i64 un) ak ?_;refine ai 16 78 (.pointer (some ⟨wr.heap.size,4,none⟩)) ak ?_;simp only[Act.put,Aa,Ad,Ac];refine bQ 17 fun K hK=>?_
       go_simp;have eR:=Zo.o;refine hK.o _ _ eR (fun _=>?_);clear hK K;refine ai 18 79 (.pointer (some ⟨wr.heap.size,5,none⟩)) eR ?_;simp only[Act.put,Aa,Ad,Ac];refine At (by kernel_rfl) ?_ _;unfold eN;clear ak eR Zn Zo;simp only[Ak,Ah,Ai];go_simp;have YV:Hid (∀W,aa af wr W->W.ownsRow w.heap.size 113 6 u8 k (jw ws)):=(fun W kW=>bY wE.o kW (fun i _ hx=>hx));obtain⟨i1,U9,VO,QJ,hy2⟩:=Bp Tryz.acd;obtain⟨Ld,c8,rfl⟩:=cK wE.o;go_wp2_with (at_builtin;refine Ap _ rfl _ _ 71 rfl w.heap.size 113 i1 _ 6 64 underlying71 U9 VO QJ hy2 rfl (by decide) _ _ _ rfl (YV.o _ ((((aa.refl _ _).alloc _).alloc _).drew)) _ 1 1 (Sv.cells ⟨m.kind,bS,cd,bT,bI,fi,un,uo⟩).toList rfl rfl ?c1 ?c2 ?c3 ?c4 ?c5 ?_)
       case c1=>exact aoE _ ⟨m.kind,bS,cd,bT,bI,fi,un,uo⟩ _ (by simp)
       case c2=>exact Sv.one _
       case c3=>unfold maxLen;omega
       case c4=>omega
       case c5=>simp;omega
       intro v' w7 bH b_ dS cB;obtain⟨jg,c',rfl⟩:=cK bH;have kg:aa (fun i=>(Value.slice Ld k c8).ownBlock=some i) wr w7:=(((((aa.refl (fun i=>(Value.slice Ld k c8).ownBlock=some i) wr).alloc _).alloc _).drew)).eQ b_ (fun j hj=>Or.inl hj);have kg2:aa af w2 w7:=iN.o.bZ kg (fun i hi hx=>by have:=DK.o i hx;omega);have lR:∀i,lo<=i->i<hi->¬((Value.slice Ld k c8).ownBlock=some i):=fun i _ h2 hx=>by have:=DK.o i hx;omega
       have ax:Hid (w7.ownsRow w.heap.size 113 6 (.slice jg (k+1) c') (k+1) (jw (ws++[⟨m.kind,bS,cd,bT,bI,fi,un,uo⟩]))):=by
        show World.ownsRow _ _ _ _ _ _ _
        rw[aaO];simpa[jw]using bH
       have FO:Hid (∀i,(Value.slice jg (k+1) c').ownBlock=some i->w2.heap.size<=i):=by
        intro i hi';rcases cB with hl|hl
        ·exact DK.o i (hl▸hi')
        ·rw[hl]at hi';cases hi';first|omega|(simp;omega)
       have FV:Hid (∀i,(h:i<(ws++[(⟨m.kind,bS,cd,bT,bI,fi,un,uo⟩:Sv)]).length)->(h':i<(sorted M V).length)->gu w7 lo hi (ws++[(⟨m.kind,bS,cd,bT,bI,fi,un,uo⟩:Sv)])[i] (sorted M V)[i]):=by
        intro i h1 h2;by_cases hi':i<ws.length
        ·have e1:(ws++[(⟨m.kind,bS,cd,bT,bI,fi,un,uo⟩:Sv)])[i]=ws[i]:=Cp _;rw[e1];exact(Oy.o i hi' h2).kept kg lR (by omega)
        ·have e:i=k:=by simp at h1;omega
         subst e;have e1:(ws++[(⟨m.kind,bS,cd,bT,bI,fi,un,uo⟩:Sv)])[i]=⟨m.kind,bS,cd,bT,bI,fi,un,uo⟩:=(by simp[<-qJ]);rw[e1,YZ.o];exact Y1.o.kept kg lR (by omega)
       have FK:=ab kg2;clear kg kg2 lR bH b_ dS cB wE YV DK Oy iN Y1 YZ;go_wp2_with fail;go_roundg (V.aL.length-(k+1))
       case measure=>omega
       case rel=>exact⟨k+1,_,by simp,by omega,rfl,by simp[qJ],ax,FO,FV,FK⟩
      ·have cW:k=V.aL.length:=(by omega);subst cW;have vE:=Kv.o;obtain⟨gn,cn,pk,n1,n2,n3,n4,n5⟩:=mG gX.o.num (by omega);subst pk;have cs1:wr.cell? ⟨gn,start,none⟩=some (.int .i64 (V.num.getD start 0)):=(iN.o.cell (p:=⟨gn,start,none⟩) n2 (fun hx=>hx)).trans (by rw[n4 start (by omega)];simp[cY,show start<V.num.length by omega]);have eb:wr.cell? ⟨w.heap.size+1,1,none⟩=some (.slice (some ⟨gn,0,none⟩) V.num.length cn):=(gX.o.new iN.o).aj.cell 1;have ai9:¬((V.aL.length:Int)<(V.aL.length:Int)):=(by omega);have ai_:¬((V.num.length:Int)<=(start:Int)):=(by omega);obtain⟨Ld,c8,rfl⟩:=cK wE.o;have OD:Hid (∀W,aa af wr W->aa af w W/\W.ownsRow w.heap.size 113 6 (.slice Ld V.aL.length c8) V.aL.length (jw ws)/\∀i,(h:i<ws.length)->(h':i<(sorted M V).length)->gu W lo hi ws[i] (sorted M V)[i]):=(fun W kW=>⟨(mM.o.trans iN.o).trans kW,bY wE.o kW (fun i _ hx=>hx),fun i h1 h2=>(Oy.o i h1 h2).kept kW (fun _ _ _ hx=>hx) (by have:=mM.o.size;have:=iN.o.size;omega)⟩);clear vE n4 n5 wE DK Oy iN gX mM HM KJ kJ tG Kv;go_wp2_with fail;go_region;go_wp2_with fail;go_ret2;obtain⟨p1,p2,p3⟩:=OD.o _ ((aa.refl af wr).drew);exact⟨_,ws,rfl,p1,p2,qJ,p3⟩
def di(s:ByteArray):RS:={next:=0,bm:=sI s (fN s (s.size+1) 0),aR:=0,names:=[]}
def lK(g:RG)(s:ByteArray):cQ:=if 1000<(dY g (di s)).2.size then(dY g (di s)).1.bm.eo 7 0 else(dY g (di s)).1.bm
def pick(F:cQ):Int×Int:=
 match F.bl with
 |some p=>(2,p)
 |none=>match F.form with
  |some p=>(3,p)
  |none=>match F.rep with
   |some p=>(4,p)
   |none=>match F.cls with
    |some p=>(5,p)
    |none=>match F.CJ with
     |some p=>(6,p)
     |none=>match F.u6 with
      |some p=>(7,p)
      |none=>(0,0)
theorem adY{j:Int}(h2:2<=j)(h7:j<=7)(aw:∀i,2<=i->i<j->F.get i=none)(h:F.get j=some p):pick F=(j,p):=by
 have:j=2\/j=3\/j=4\/j=5\/j=6\/j=7:=by omega
 have g2:F.get 2=F.bl:=rfl;have g3:F.get 3=F.form:=rfl;have g4:F.get 4=F.rep:=rfl;have g5:F.get 5=F.cls:=rfl;have g6:F.get 6=F.CJ:=rfl;have g7:F.get 7=F.u6:=rfl;rcases this with rfl|rfl|rfl|rfl|rfl|rfl
 ·rw[g2]at h;simp[pick,h]
 ·rw[g3]at h;have a:=aw 2 (by omega) (by omega);rw[g2]at a;simp[pick,h,a]
 ·rw[g4]at h;have a:=aw 2 (by omega) (by omega);have b:=aw 3 (by omega) (by omega);rw[g2]at a;rw[g3]at b;simp[pick,h,a,b]
 ·rw[g5]at h;have a:=aw 2 (by omega) (by omega);have b:=aw 3 (by omega) (by omega);have c:=aw 4 (by omega) (by omega);rw[g2]at a;rw[g3]at b;rw[g4]at c;simp[pick,h,a,b,c]
 ·rw[g6]at h;have a:=aw 2 (by omega) (by omega);have b:=aw 3 (by omega) (by omega);have c:=aw 4 (by omega) (by omega);have d:=aw 5 (by omega) (by omega);rw[g2]at a;rw[g3]at b;rw[g4]at c;rw[g5]at d;simp[pick,h,a,b,c,d]
 ·rw[g7]at h;have a:=aw 2 (by omega) (by omega);have b:=aw 3 (by omega) (by omega);have c:=aw 4 (by omega) (by omega);have d:=aw 5 (by omega) (by omega);have e:=aw 6 (by omega) (by omega);rw[g2]at a;rw[g3]at b;rw[g4]at c;rw[g5]at d;rw[g6]at e;simp[pick,h,a,b,c,d,e]
theorem adZ(aw:∀i,2<=i->i<8->F.get i=none):pick F=(0,0):=by
 have a:=aw 2 (by omega) (by omega);have b:=aw 3 (by omega) (by omega);have c:=aw 4 (by omega) (by omega);have d:=aw 5 (by omega) (by omega);have e:=aw 6 (by omega) (by omega);have f:=aw 7 (by omega) (by omega);change F.bl=none at a;change F.form=none at b;change F.rep=none at c;change F.cls=none at d;change F.CJ=none at e;change F.u6=none at f;simp[pick,a,b,c,d,e,f]
theorem Q9{g:RG}{i:Nat}(h:g.au i):g.use i:=by rcases h with h|h|h<;>simp[RG.use,h]
def gT(q:Nv)(x:Int)(y:Option Nat):Array Value:=#[.int .i64 q.k,.slice q.pa q.pn q.pc,.slice q.sa q.sn q.sc,.int .i64 q.ed,.int .i64 q.gr,.int .i64 q.lo,.int .i64 q.hi,.bool q.lz,.int .i64 x,.map y]
def tt(q:Nv)(x:Int)(y:Option Nat):Value:=.agg (gT q x y)
def xA(w:World)(b:Nat)(q:Nv)(x:Int)(y:Option Nat):World:=((ga w b q).setCell ⟨b,8,none⟩ (.int .i64 x)).setCell ⟨b,9,none⟩ (.map y)
theorem Rq(w:World)(b:Nat)(q:Nv)(x:Int)(y:Option Nat):aa (fun i=>i=b) w (xA w b q x y):=
 ((JO w b q).setCell (p:=⟨b,8,none⟩) (Or.inl rfl) _).setCell (p:=⟨b,9,none⟩) (Or.inl rfl) _
theorem Rp{p:Nv}{x0:Int}{y0:Option Nat}(h:aq w b (gT p x0 y0) t)(q:Nv):aq (xA w b q x y) b (gT q x y) t:=by
 have h8:=(((((((((h.setCell 0 (.int .i64 q.k)).setCell 1 (.slice q.pa q.pn q.pc)).setCell 2 (.slice q.sa q.sn q.sc)).setCell 3 (.int .i64 q.ed)).setCell 4 (.int .i64 q.gr)).setCell 5 (.int .i64 q.lo)).setCell 6 (.int .i64 q.hi)).setCell 7 (.bool q.lz)).setCell 8 (.int .i64 x)).setCell 9 (.map y);have e:((((((((((gT p x0 y0).setIfInBounds 0 (.int .i64 q.k)).setIfInBounds 1 (.slice q.pa q.pn q.pc)).setIfInBounds 2 (.slice q.sa q.sn q.sc)).setIfInBounds 3 (.int .i64 q.ed)).setIfInBounds 4 (.int .i64 q.gr)).setIfInBounds 5 (.int .i64 q.lo)).setIfInBounds 6 (.int .i64 q.hi)).setIfInBounds 7 (.bool q.lz)).setIfInBounds 8 (.int .i64 x)).setIfInBounds 9 (.map y)=gT q x y:=by simp[gT]
 rw[e]at h8;exact h8
theorem aq.NM(h:aq w b (gT q x y) t):
 w.cell? ⟨b,0,none⟩=some (.int .i64 q.k)/\w.cell? ⟨b,1,none⟩=some (.slice q.pa q.pn q.pc)/\w.cell? ⟨b,2,none⟩=some (.slice q.sa q.sn q.sc)/\w.cell? ⟨b,3,none⟩=some (.int .i64 q.ed)/\w.cell? ⟨b,4,none⟩=some (.int .i64 q.gr)/\w.cell? ⟨b,5,none⟩=some (.int .i64 q.lo)/\w.cell? ⟨b,6,none⟩=some (.int .i64 q.hi)/\w.cell? ⟨b,7,none⟩=some (.bool q.lz)/\w.cell? ⟨b,8,none⟩=some (.int .i64 x)/\w.cell? ⟨b,9,none⟩=some (.map y):=
 ⟨h.cell 0,h.cell 1,h.cell 2,h.cell 3,h.cell 4,h.cell 5,h.cell 6,h.cell 7,h.cell 8,h.cell 9⟩
theorem Rm{Q:Ending->World->Prop}{a:Act}{e:Int}(h2:a.tmps.getD 2 undef=.pointer (some ⟨b,0,none⟩))(h3:a.tmps.getD 3 undef=.int .i64 e)(h4:a.tmps.getD 4 undef=.int .i64 p)(hd:a.defers=[])
 (hb:aq W b (gT q x y) 67)(hQ:Q (.returned (.tuple #[tt q x y,.int .i64 e,.int .i64 p])) W):bodyPost prog Tryz.f21 Q Exit.ret a W:=by
 obtain⟨r0,r1,r2,r3,r4,r5,r6,r7,r8,r9⟩:=hb.NM;have s2:a.tmps[2]?.getD undef=.pointer (some ⟨b,0,none⟩):=by simpa using h2
 have s3:a.tmps[3]?.getD undef=.int .i64 e:=by simpa using h3
 have s4:a.tmps[4]?.getD undef=.int .i64 p:=by simpa using h4
 exact Bi (v:=.tuple #[tt q x y,.int .i64 e,.int .i64 p]) (by simp[results,results21,go_sem,s2,s3,s4,r0,r1,r2,r3,r4,r5,r6,r7,r8,r9,tt,gT]) hd hQ
theorem anh(s:ByteArray)(w:World)(hs:300<s.size)(hm:s.size<=maxLen):
 Calls prog 21 #[.string s] w fun e w'=>e=.returned (.tuple #[tt bB 0 none,.int .i64 1,.int .i64 0])/\aa af w w':=by
 have hb:(300:Int)<(s.size:Int):=by omega
 go_in
 go_wp2_with fail
 exact Bi (v:=.tuple #[tt bB 0 none,.int .i64 1,.int .i64 0]) (by simp[results,results21,go_sem,tt,gT,bB]) rfl ⟨rfl,(aa.refl _ _).alloc _⟩
theorem ani(s:ByteArray)(w:World)(hs:s.size<=300):
 Calls prog 21 #[.string s] w fun e w'=>∃(g:RG) (q:Nv) (x:Int) (y:Option Nat) (st:RS),g.rs=(fN s (s.size+1) 0).map (·.2)/\g.ps=(fN s (s.size+1) 0).map (fun p=>(p.1:Int))++[(s.size:Int)]/\
  e=.returned (.tuple #[tt q x y,.int .i64 (pick (lK g s)).1,.int .i64 (pick (lK g s)).2])/\aa af w w'/\st=(dY g (di s)).1/\
  ((pick (lK g s)).1=0->x=st.aR/\y=some g.bn/\aS w' g false {st with bm:=lK g s}/\cI w' w.heap.size w'.heap.size q (dY g (di s)).2 (pL g (di s))/\∀i,g.use i->w.heap.size<=i):=by
 have hb:¬(300:Int)<(s.size:Int):=by omega
 go_in
 go_wp2_with fail
 refine(alw s (w.alloc (.cells (gT bB 0 none) 67)) hs).mono ?_;rintro e w1 ⟨g,rfl,dN,Gr,hR,BL,aU⟩;go_wp2_with fail;refine(apr hR).mono ?_;rintro e w2 ⟨q,rfl,h2,abQ,aN⟩;have qD:cI w2 w1.heap.size w2.heap.size q (dY g (di s)).2 (pL g (di s)):=abQ;clear abQ;have Z2:=aq.new w2 q.cells 64;have V6:aa af w2 (w2.alloc (.cells q.cells 64)):=(aa.refl _ _).alloc _;have Vw:=qD.kept V6 (fun _ _ _ hx=>hx) (Ab _);have aP:Calls prog 39 #[Nv.val q] (w2.alloc (.cells q.cells 64)) fun e pB=>e=.returned (.int .i64 (dY g (di s)).2.size)/\aa af (w2.alloc (.cells q.cells 64)) pB:=an3 Vw (by simp) _ (aa.refl _ _)
 simp only[Nv.val,Nv.cells]at aP⊢;go_wp2_with fail;refine aP.mono ?_;rintro e w3 ⟨rfl,bA⟩;have h3:=(h2.nil V6).nil bA;have O8:=Z2.kept bA (fun hx=>hx);have Qt:=Vw.kept bA (fun _ _ _ hx=>hx) (by simp);have Qe:aa g.au w1 w3:=aN.trans ((V6.trans bA).mono (fun _ hx=>hx.elim));have tx:=aN.size;clear aP qD Vw Z2 h2;by_cases abt:1000<(dY g (di s)).2.size
 ·have nK:lK g s=(dY g (di s)).1.bm.eo 7 0:=by simp[lK,abt]
  go_wp2_with fail
  refine(He h3 7 0 (by omega) (by omega)).mono ?_;rintro e w4 ⟨rfl,Ui,dC⟩;have h4:aS w4 g false {(dY g (di s)).1 with bm:=lK g s}:=by rw[nK];exact Ui
  have wY:=Qe.trans dC;have Mv:∀i,w1.heap.size<=i->¬g.au i:=fun i hi ho=>by have:=hR.gR ho;omega
  have zN:=O8.kept dC (Mv _ tx);have s23:=bA.size;have Qu:=Qt.kept dC (fun i hi _=>Mv i hi) (by simp at s23;omega);have Xd:w2.heap.size<=w4.heap.size:=Nat.le_of_lt zN.lt;clear Ui dC Qe h3 nK O8 Qt
  have vK:aa af w w4:=((((aa.refl af w).alloc (.cells (gT bB 0 none) 67)).trans aU).bZ (wY) (fun i hi ho=>by
   have:=BL i (Q9 ho);simp at this;omega))
  have GL:∀i,g.use i->w.heap.size+1<=i:=fun i hi=>by have:=BL i hi;simpa using this
  have Jg:¬g.au w.heap.size:=fun ho=>by have:=GL _ (Q9 ho);omega
  have b4:aq w4 w.heap.size (gT bB 0 none) 67:=((aq.new w (gT bB 0 none) 67).kept aU (fun hx=>hx)).kept wY Jg;have s1:w.heap.size+1<=w1.heap.size:=by have:=aU.size;simpa using this
  have s24:=wY.size;have Qx:w2.heap.size<w4.heap.size:=zN.lt;clear aU aN bA wY;obtain⟨D,hD,hF⟩:=h4.fm;generalize ym:lK g s=F at*;simp only at hF;go_wp2_with fail;go_loopg [7] 6 (fun kk v wr=>∃j:Int,v=.int .i64 j/\2<=j/\j<=8/\kk=(8-j).toNat/\Hid (∀i,2<=i->i<j->F.get i=none)/\wr=w4)
  case atStart=>exact⟨2,rfl,by omega,by omega,rfl,fun i h1 h2=>by omega,rfl⟩
  case round=>
   obtain⟨j,rfl,lN,hj8,rfl,HN,rfl⟩:=hrel;have c3:wr.cell? ⟨g.b,3,none⟩=some (.map (some g.bf)):=h4.aj.cell 3;obtain⟨e0,e1,e2,e3,e4,e5,e6,e7,e8,e9⟩:=b4.NM;obtain⟨f0,f1,f2,f3,f4,f5,f6,f7⟩:=b4.nU;have f8:=b4.frozen 8;have f9:=b4.frozen 9;simp only[bB]at e0 e1 e2 e3 e4 e5 e6 e7 e8 e9;by_cases hj:j<=7
   ·have jk:keyOf prog 25 (.int .i64 j)=some (.int .i64 j):=keyOf_int_mk underlying25 (Dd (by omega))
    cases mU:F.get j with
    |none=>
     have hh:has D (.int .i64 j)=false:=by rw[hF.has,mU];rfl
     go_wp2_with (at_lookup;refine Bu _ rfl _ _ 97 rfl 25 3 .i64 xt underlying97 underlying3 (xL _) g.bf _ D rfl hD _ _ rfl jk ?_;intro c iV yE)
     go_roundg (8-(j+1)).toNat
     case measure=>omega
     case rel=>
      refine⟨j+1,rfl,by omega,by omega,rfl,?_,rfl⟩;intro i h1 h2;by_cases hi:i=j
      ·rw[hi];exact mU
      ·exact HN.o i h1 (by omega)
    |some pl=>
     have hh:has D (.int .i64 j)=true:=by rw[hF.has,mU];rfl
     have vG:=hF.val j pl mU;have vF:=adY lN hj HN.o mU;have xV:Hid (pick F=(j,pl)):=vF;have SO:Hid (D.atKey (.int .i64 j) (.lit (.int .i64 0))=.lit (.int .i64 pl)):=vG;clear vF vG;go_wp2_with (at_lookup;refine Bu _ rfl _ _ 97 rfl 25 3 .i64 xt underlying97 underlying3 (xL _) g.bf _ D rfl hD _ _ rfl jk ?_;intro c iV yE);have kz:=Rq wr w.heap.size bB 0 none;have vL:=vK.bZ kz (fun i hi he=>by omega)
     have yr:c=pl:=by
      have h1:=iV;rw[SO.o]at h1;simpa using h1.symm
     have bz:=Rp (x:=0) (y:=none) b4 bB;simp only[xA,ga,bB]at bz vL;refine Rm (b:=w.heap.size) (q:=bB) (x:=0) (y:=none) (e:=j) (p:=c) rfl rfl rfl rfl bz ?_;refine⟨g,bB,0,none,_,dN,Gr,?_,vL,rfl,?_⟩
     ·rw[ym,xV.o,yr]
     ·rw[ym,xV.o];intro h0;simp only at h0;omega
   ·have ej:j=8:=(by omega);have vF:=adZ (F:=F) (fun i h1 h2=>HN.o i h1 (by omega));have xV:Hid (pick F=(0,0)):=vF;clear vF HN;subst ej;have c5:wr.cell? ⟨g.b,5,none⟩=some (.int .i64 (dY g (di s)).1.aR):=h4.aj.cell 5;have c6:wr.cell? ⟨g.b,6,none⟩=some (.map (some g.bn)):=h4.aj.cell 6;obtain⟨d0,d1,d2,d3,d4,d5,d6,d7⟩:=zN.gZ;go_wp2_with fail;go_region;all_goals go_wp2_with fail
    all_goals
     have kz:=(Rq wr w.heap.size q (dY g (di s)).1.aR (some g.bn)).drew;have vL:=vK.bZ kz (fun i hi he=>by omega);have bz:=(Rp (x:=(dY g (di s)).1.aR) (y:=some g.bn) b4 q).drew;have szz:=kz.size;have LB:=h4.kept kz (fun i hi he=>by have:=GL i hi;omega);have LC:cI (xA wr w.heap.size q (dY g (di s)).1.aR (some g.bn)).drew w.heap.size (xA wr w.heap.size q (dY g (di s)).1.aR (some g.bn)).drew.heap.size q (dY g (di s)).2 (pL g (di s)):=(Qu.kept kz (fun i h1 _ he=>by omega) Xd).Hy (by omega) (by omega);simp only[xA,ga]at bz vL LB LC;refine Rm (b:=w.heap.size) (q:=q) (x:=(dY g (di s)).1.aR) (y:=some g.bn) (e:=0) (p:=0) rfl rfl rfl rfl bz ?_;refine⟨g,q,(dY g (di s)).1.aR,some g.bn,_,dN,Gr,?_,vL,rfl,?_⟩
     ·rw[ym,xV.o]
     ·intro _;refine⟨rfl,rfl,?_,LC,fun i hi=>by have:=GL i hi;omega⟩;rw[ym];exact LB
 ·have nK:lK g s=(dY g (di s)).1.bm:=by simp[lK,abt]
  have h4:aS w3 g false {(dY g (di s)).1 with bm:=lK g s}:=by rw[nK];exact h3
  obtain⟨w4,Jn⟩:∃w4,w4=w3:=⟨_,rfl⟩
  have wY:=Qe;have zN:=O8;have Qu:=Qt;rw[<-Jn]at h4 wY zN Qu⊢;have Xd:w2.heap.size<=w4.heap.size:=Nat.le_of_lt zN.lt;clear Qe h3 nK Jn O8 Qt
  have vK:aa af w w4:=((((aa.refl af w).alloc (.cells (gT bB 0 none) 67)).trans aU).bZ (wY) (fun i hi ho=>by
   have:=BL i (Q9 ho);simp at this;omega))
  have GL:∀i,g.use i->w.heap.size+1<=i:=fun i hi=>by have:=BL i hi;simpa using this
  have Jg:¬g.au w.heap.size:=fun ho=>by have:=GL _ (Q9 ho);omega
  have b4:aq w4 w.heap.size (gT bB 0 none) 67:=((aq.new w (gT bB 0 none) 67).kept aU (fun hx=>hx)).kept wY Jg;have s1:w.heap.size+1<=w1.heap.size:=by have:=aU.size;simpa using this
  have s24:=wY.size;have Qx:w2.heap.size<w4.heap.size:=zN.lt;clear aU aN bA wY;obtain⟨D,hD,hF⟩:=h4.fm;generalize ym:lK g s=F at*;simp only at hF;go_wp2_with fail;go_loopg [7] 6 (fun kk v wr=>∃j:Int,v=.int .i64 j/\2<=j/\j<=8/\kk=(8-j).toNat/\Hid (∀i,2<=i->i<j->F.get i=none)/\wr=w4)
  case atStart=>exact⟨2,rfl,by omega,by omega,rfl,fun i h1 h2=>by omega,rfl⟩
  case round=>
   obtain⟨j,rfl,lN,hj8,rfl,HN,rfl⟩:=hrel;have c3:wr.cell? ⟨g.b,3,none⟩=some (.map (some g.bf)):=h4.aj.cell 3;obtain⟨e0,e1,e2,e3,e4,e5,e6,e7,e8,e9⟩:=b4.NM;obtain⟨f0,f1,f2,f3,f4,f5,f6,f7⟩:=b4.nU;have f8:=b4.frozen 8;have f9:=b4.frozen 9;simp only[bB]at e0 e1 e2 e3 e4 e5 e6 e7 e8 e9;by_cases hj:j<=7
   ·have jk:keyOf prog 25 (.int .i64 j)=some (.int .i64 j):=keyOf_int_mk underlying25 (Dd (by omega))
    cases mU:F.get j with
    |none=>
     have hh:has D (.int .i64 j)=false:=by rw[hF.has,mU];rfl
     go_wp2_with (at_lookup;refine Bu _ rfl _ _ 97 rfl 25 3 .i64 xt underlying97 underlying3 (xL _) g.bf _ D rfl hD _ _ rfl jk ?_;intro c iV yE)
     go_roundg (8-(j+1)).toNat
     case measure=>omega
     case rel=>
      refine⟨j+1,rfl,by omega,by omega,rfl,?_,rfl⟩;intro i h1 h2;by_cases hi:i=j
      ·rw[hi];exact mU
      ·exact HN.o i h1 (by omega)
    |some pl=>
     have hh:has D (.int .i64 j)=true:=by rw[hF.has,mU];rfl
     have vG:=hF.val j pl mU;have vF:=adY lN hj HN.o mU;have xV:Hid (pick F=(j,pl)):=vF;have SO:Hid (D.atKey (.int .i64 j) (.lit (.int .i64 0))=.lit (.int .i64 pl)):=vG;clear vF vG;go_wp2_with (at_lookup;refine Bu _ rfl _ _ 97 rfl 25 3 .i64 xt underlying97 underlying3 (xL _) g.bf _ D rfl hD _ _ rfl jk ?_;intro c iV yE);have kz:=Rq wr w.heap.size bB 0 none;have vL:=vK.bZ kz (fun i hi he=>by omega)
     have yr:c=pl:=by
      have h1:=iV;rw[SO.o]at h1;simpa using h1.symm
     have bz:=Rp (x:=0) (y:=none) b4 bB;simp only[xA,ga,bB]at bz vL;refine Rm (b:=w.heap.size) (q:=bB) (x:=0) (y:=none) (e:=j) (p:=c) rfl rfl rfl rfl bz ?_;refine⟨g,bB,0,none,_,dN,Gr,?_,vL,rfl,?_⟩
     ·rw[ym,xV.o,yr]
     ·rw[ym,xV.o];intro h0;simp only at h0;omega
   ·have ej:j=8:=(by omega);have vF:=adZ (F:=F) (fun i h1 h2=>HN.o i h1 (by omega));have xV:Hid (pick F=(0,0)):=vF;clear vF HN;subst ej;have c5:wr.cell? ⟨g.b,5,none⟩=some (.int .i64 (dY g (di s)).1.aR):=h4.aj.cell 5;have c6:wr.cell? ⟨g.b,6,none⟩=some (.map (some g.bn)):=h4.aj.cell 6;obtain⟨d0,d1,d2,d3,d4,d5,d6,d7⟩:=zN.gZ;go_wp2_with fail;go_region;all_goals go_wp2_with fail
    all_goals
     have kz:=(Rq wr w.heap.size q (dY g (di s)).1.aR (some g.bn)).drew;have vL:=vK.bZ kz (fun i hi he=>by omega);have bz:=(Rp (x:=(dY g (di s)).1.aR) (y:=some g.bn) b4 q).drew;have szz:=kz.size;have LB:=h4.kept kz (fun i hi he=>by have:=GL i hi;omega);have LC:cI (xA wr w.heap.size q (dY g (di s)).1.aR (some g.bn)).drew w.heap.size (xA wr w.heap.size q (dY g (di s)).1.aR (some g.bn)).drew.heap.size q (dY g (di s)).2 (pL g (di s)):=(Qu.kept kz (fun i h1 _ he=>by omega) Xd).Hy (by omega) (by omega);simp only[xA,ga]at bz vL LB LC;refine Rm (b:=w.heap.size) (q:=q) (x:=(dY g (di s)).1.aR) (y:=some g.bn) (e:=0) (p:=0) rfl rfl rfl rfl bz ?_;refine⟨g,q,(dY g (di s)).1.aR,some g.bn,_,dN,Gr,?_,vL,rfl,?_⟩
     ·rw[ym,xV.o]
     ·intro _;refine⟨rfl,rfl,?_,LC,fun i hi=>by have:=GL i hi;omega⟩;rw[ym];exact LB
