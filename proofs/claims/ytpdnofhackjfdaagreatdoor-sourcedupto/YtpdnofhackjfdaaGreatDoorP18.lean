/- The program's in -/
import Derived.Test.YtpdnofhackjfdaaGreatDoorP17
set_option linter.all false
set_option maxRecDepth 100000
set_option maxHeartbeats 4000000
namespace Go.Proofs.YtpdnofhackjfdaaGreatDoor
open Go.Proofs.Tryz
open Go.RowKit Go.Maps
variable {F:cV} {p x:Int} {M:List MS} {vs:List Sv} {b g hi lo:Nat} {q:Nv} {y:Option Nat} {t:TypeId} {W w:World}
theorem fS.aiy{w7:World}{base:Nat}{sv nv ov lv eH:Value}{num:List Int}{aP bH:List Nat}(h:fS w b base sv nv ov lv ⟨num,aP,bH⟩)(t:Int)(k0:aa ai w W)(bC:w7.ownsRow base 3 1 eH (num.length+1) (cQ num++[GW t]))(hg:W.grownBy w7 nv.ownBlock)(cI:eH.ownBlock=nv.ownBlock\/eH.ownBlock=some W.heap.size):
 au w7 b #[sv,nv,ov,lv] 147/\fS (w7.setCell (GB b 1) eH) b base sv eH ov lv ⟨num++[t],aP,bH⟩/\aa (nC b nv ov lv) w (w7.setCell (GB b 1) eH):=by
 have WX:=k0.size;have k7:aa (fun i=>nv.ownBlock=some i) w w7:=(k0.mono (fun i hx=>hx.elim)).eP hg (fun j hj=>Or.inl hj);have uD:nv.ownBlock≠some b:=fun e=>(h.an b e).1 rfl
 have b7:=h.aq.kept k7 uD
 have lZ:∀i,eH.ownBlock=some i->nv.ownBlock=some i\/w.heap.size<=i:=by
  intro i hi;rcases cI with hl|hl
  ·exact Or.inl (hl▸hi)
  ·rw[hl]at hi;cases hi;right;omega
 have k8:aa (nC b nv ov lv) w (w7.setCell (GB b 1) eH):=aa.setCell (S:=nC b nv ov lv) (k7.mono (S':=nC b nv ov lv) (fun i hi=>Or.inr (Or.inl hi))) (p:=(GB b 1)) (Or.inl (Or.inl rfl)) _;have kb:aa (fun i=>i=b) w7 (w7.setCell (GB b 1) eH):=(aa.refl (fun i=>i=b) w7).setCell (p:=(GB b 1)) (Or.inl rfl) eH
 have uF:∀i,eH.ownBlock=some i->i≠b:=fun i hi e=>by
  subst e;rcases lZ i hi with h1|h1
  ·exact uD h1
  ·have:=h.aq.lt;omega
 refine⟨b7,⟨?_,?_,?_,?_,h.bb,fun i hi=>?_,h.ao,h.al⟩,k8⟩
 ·have:=b7.setCell 1 eH;simpa using this
 ·have e2:cQ (num++[t])=cQ num++[GW t]:=by simp[cQ]
  show World.ownsRow _ base 3 1 eH (num++[t]).length (cQ (num++[t]))
  rw[Aj,e2];exact bU bC kb (fun i hi e=>uF i hi e)
 ·exact bU (bU h.aP k7 (fun i hi hx=>(h.an i hx).2.1 hi)) kb (fun i hi e=>(h.ao i hi).1 e)
 ·exact bU (bU h.bH k7 (fun i hi hx=>(h.an i hx).2.2 hi)) kb (fun i hi e=>h.al i hi e)
 ·refine⟨uF i hi,fun e=>?_,fun e=>?_⟩
  ·rcases lZ i hi with h1|h1
   ·exact(h.an i h1).2.1 e
   ·have:=dw h.aP e;omega
  ·rcases lZ i hi with h1|h1
   ·exact(h.an i h1).2.2 e
   ·have:=dw h.bH e;omega
theorem fS.first(w:World)(sv:Value)(start:Nat):fS ((w.alloc (.cells #[GW (start:Int)] 3)).alloc (.cells #[sv,.slice none 0 0,.slice none 0 0,.slice (some (GB w.heap.size 0)) 1 1] 147)) (w.heap.size+1) w.heap.size sv (.slice none 0 0) (.slice none 0 0) (.slice (some (GB w.heap.size 0)) 1 1) ⟨[],[],[start]⟩ where
 aq:=by have:=au.new (w.alloc (.cells #[GW (start:Int)] 3)) #[sv,.slice none 0 0,.slice none 0 0,.slice (some (GB w.heap.size 0)) 1 1] 147;simpa using this
 num:=A8 _ _ _ _
 aP:=A8 _ _ _ _
 bH:=by
  refine⟨by simp[nW],Or.inr ⟨w.heap.size,1,#[GW (start:Int)],rfl,Ab _,?_,Ab _,by unfold maxLen;omega,by simp,by simp[nW]⟩⟩;have:=(au.new w #[GW (start:Int)] 3).alloc (.cells #[sv,.slice none 0 0,.slice none 0 0,.slice (some (GB w.heap.size 0)) 1 1] 147);exact this
 bb:=Gk _
 an i hi:=by cases hi
 ao i hi:=by cases hi
 al i hi:=by
  have e:w.heap.size=i:=C9 hi;omega
theorem qF.grow{at_:Nat}{V V':VS}(h:qF M at_ V V'):V'.num.length=V.num.length/\V.aP.length<=V'.aP.length/\V.bH.length<=V'.bH.length:=by
 induction h with
 |done a V h=>exact⟨rfl,Ab _,Ab _⟩
 |step a V V' V2 t h hv hl ih=>have:=hv.grow;omega
theorem aa.wI{w1 w2:World}{K:Nat->Prop}(h:aa ai w w1)(k:aa K w1 w2)(hK:∀i,K i->w.heap.size<=i):aa ai w w2:=h.b_ k (fun i hi hx=>by have:=hK i hx;omega)
def Ul(b L gn mn mo:Nat)(nv:Value)(un uo:Int)(w':World):Prop:=(w'.cell? (GB b 1)=some nv/\w'.cell? (GB L 5)=some (GW (mo:Int)))/\w'.cell? (GB gn mn)=some (GW un)/\w'.cell? (GB gn mo)=some (GW uo)
theorem gG.lr{s:Sv}{m:MS}(h:gG w lo hi s m)(a b:Int):gG w lo hi ⟨s.k,s.sa,s.sn,s.sc,s.ed,s.sl,a,b⟩ {m with next:=a,bj:=b}:=⟨h.k,h.ed,h.sl,rfl,rfl,h.kr,h.set⟩
theorem jk.at(h:jk w g vs M){s:Nat}(hs:s<M.length):∃q:Sv,(∃hv:s<vs.length,vs[s]=q)/\(q.k=(M[s]).kind/\q.nx=(M[s]).next/\q.ot=(M[s]).bj)/\∀W,jk W g vs M->(W.cell? ⟨g,s*6,none⟩=some (GW q.k)/\W.cell? ⟨g,s*6+1,none⟩=some (.slice q.sa q.sn q.sc)/\W.cell? ⟨g,s*6+2,none⟩=some (GW q.ed)/\W.cell? ⟨g,s*6+3,none⟩=some (GW q.sl)/\W.cell? ⟨g,s*6+4,none⟩=some (GW q.nx)/\W.cell? ⟨g,s*6+5,none⟩=some (GW q.ot)):=by
 have hv:s<vs.length:=by rw[h.len];exact hs
 exact⟨vs[s],⟨hv,rfl⟩,h.Xz s hv hs,fun W hW=>⟨hW.cell s hv 0 (by omega),hW.cell s hv 1 (by omega),hW.cell s hv 2 (by omega),hW.cell s hv 3 (by omega),hW.cell s hv 4 (by omega),hW.cell s hv 5 (by omega)⟩⟩
theorem ape(w:World)(q:Sv)(k:Nat)(hk:w.heap.size=k)(j:Nat)(u:Value)(h:q.cells.toList[j]? =some u):(w.alloc (.cells q.cells 113)).drew.cell? (Addr.add (GB k 0) j)=some u:=by subst hk;exact afG q j u h
theorem aku{c start:Nat}{VF:VS}(hM:jk w g vs M)(pH:∀i,(h:i<vs.length)->(h':i<M.length)->gG w lo hi vs[i] M[i])(Nh:hi<=w.heap.size)(dB:oV M)(dy:M.length<=4001)(hL:qF M 0 (VS.first M.length start) VF)
 (aq2:VF.aP.length<=4001)(aqM:VF.bH.length<=4002)(eD:∀s∈VF.aP,s<M.length)(bD:start<M.length):
 Calls prog 45 #[.slice (some (GB g 0)) M.length c,GW (start:Int)] w fun e w'=>∃(v':Value) (ws:List Sv),e=.returned (.tuple #[v',GW (VF.num.getD start 0)])/\aa ai w w'/\w'.ownsRow w.heap.size 113 6 v' VF.aP.length (jB ws)/\ws.length=VF.aP.length/\
  ∀i,(h:i<ws.length)->(h':i<(sorted M VF).length)->gG w' lo hi ws[i] (sorted M VF)[i]:=by
 obtain⟨i0,cW,dm,du,de⟩:=Bo Tryz.Ig;have xH:=hM.lt;have dD:=ab (fS.first w (.slice (some (GB g 0)) M.length c) start);have K0:Hid (aa ai w ((w.alloc (.cells #[GW (start:Int)] 3)).alloc (.cells #[.slice (some (GB g 0)) M.length c,.slice none 0 0,.slice none 0 0,.slice (some (GB w.heap.size 0)) 1 1] 147))):=((aa.refl ai w).alloc _).alloc _;have HM:=ab hM;have LA:=ab pH;have nA:=ab dB;have HL:=ab hL;have AH:=ab eD;have agi:Hid (VF.num.length=M.length):=ab (by have:=hL.grow.1;simpa[VS.first]using this);clear hM pH dB hL eD;go_in;go_wp2_with fail;go_loopg [19] M.length (fun kk i wr=>∃(k:Nat) (nv:Value),i=GW (k:Int)/\k<=M.length/\kk=M.length-k/\Hid (fS wr (w.heap.size+1) w.heap.size (.slice (some (GB g 0)) M.length c) nv (.slice none 0 0) (.slice (some (GB w.heap.size 0)) 1 1) ⟨List.replicate k (-1),[],[start]⟩)/\Hid (aa ai w wr))
 case atStart=>exact⟨0,.slice none 0 0,rfl,Al _,rfl,dD.o,K0.o⟩
 case round=>
  obtain⟨k,nv,rfl,hk,eE,HS,HK⟩:=hrel;clear dD K0;by_cases az:k<M.length
  ·have wk:Hid (∀W,aa ai wr W->W.ownsRow w.heap.size 3 1 nv k (cQ (List.replicate k (-1)))):=fun W hW=>by
    have:=bU HS.o.num hW (fun i _ hx=>hx);simpa using this
   obtain⟨aon,cn,Nq⟩:=cw (wk.o wr (aa.refl _ _));subst Nq;have c1:wr.cell? ⟨w.heap.size+1,1,none⟩=some (.slice aon k cn):=HS.o.aq.cell 1;have gJ:=HS.o.aq.lt;have jP:(k:Int)<(M.length:Int):=(by omega);have Hj:=HK.o.size;go_wp2_with (at_builtin;refine Ao _ rfl _ _ 22 rfl w.heap.size 3 i0 _ 1 8 underlying22 cW dm du de rfl (by decide) _ _ _ rfl (wk.o _ ((aa.refl _ _).alloc _)) _ 1 1 [GW (-1)] rfl rfl ?c1 ?c2 ?c3 ?c4 ?c5 ?_)
   case c1=>exact Is _ (-1)
   case c2=>exact wv _
   case c3=>unfold maxLen;omega
   case c4=>omega
   case c5=>simp;omega
   intro v' w7 bL cy eF cI;obtain⟨jl,c',rfl⟩:=cw bL;obtain⟨b7,gw,ac_⟩:=HS.o.aiy (-1) ((aa.refl ai wr).alloc (.cells #[GW (-1)] 3)) (by simpa using bL) cy (by simpa using cI);have c7:w7.cell? ⟨w.heap.size+1,1,none⟩=some (.slice aon k cn):=b7.cell 1;have f7:=b7.frozen 1;have aA:=ab gw;have agn:=ab (HK.o.wI ac_ (fun i hi=>(HS.o.ay hi).1));clear wk HS HK b7 gw ac_;go_wp2_with fail;go_roundg (M.length-(k+1))
   case measure=>omega
   case rel=>exact⟨k+1,_,by simp,by omega,rfl,by have:=aA.o;rw[<-List.replicate_succ']at this;exact this,agn⟩
  ·have gK:k=M.length:=(by omega);subst gK;have jP:¬(M.length:Int)<(M.length:Int):=(by omega);go_wp2_with fail;go_loopg [7] VF.bH.length (fun kk i wr2=>∃(at_:Nat) (V:VS) (ov lv:Value),i=GW (at_:Int)/\kk=VF.bH.length-at_/\Hid (qF M at_ V VF)/\Hid (fS wr2 (w.heap.size+1) w.heap.size (.slice (some (GB g 0)) M.length c) nv ov lv V)/\Hid (aa ai w wr2))
   case atStart=>exact⟨0,⟨List.replicate M.length (-1),[],[start]⟩,_,_,rfl,rfl,HL,HS,HK⟩
   case round=>
    obtain⟨at_,V,ov,lv,rfl,Ws,EK,il,lu⟩:=hrel;clear HS HK HL;obtain⟨w2,ql⟩:∃w2,w2=wr:=⟨_,rfl⟩
    subst ql;by_cases ajU:at_<V.bH.length
    ·obtain⟨gl,cl,Hm,l1,l2,l3,l4,l5⟩:=mO il.o.bH (by omega);subst Hm;have c3:w2.cell? ⟨w.heap.size+1,3,none⟩=some (.slice (some (GB gl 0)) V.bH.length cl):=il.o.aq.cell 3;have hit:(at_:Int)<(V.bH.length:Int):=(by omega);have Wl:¬((V.bH.length:Int)<=(at_:Int)):=by omega
     have akj:∃(t:Nat) (V':VS),V.bH[at_]? =some t/\lB M V t V'/\qF M (at_+1) V' VF:=by
      cases EK.o with
      |done _ _ h=>omega
      |step _ _ V' _ t h hv hl=>exact⟨t,V',h,hv,hl⟩
     obtain⟨t,V',ht,hv,hl⟩:=akj;have ct:w2.cell? (GB gl at_)=some (GW (t:Int)):=by rw[l4 at_ ajU];simp[nW,ht]
     have gr:=hl.grow;have grv:=hv.grow;have F1:=ab (apQ (vs:=vs) (c:=c) xH (fun i m him=>(nA.o m (Ce him)).1.1) hv (by omega) (by omega) w2 ov _ il.o (HM.o.kept lu.o (fun hx=>hx)));have Lp:=ab hl;clear l4 l5 ht hv hl EK;go_wp2_with fail;refine(F1.o).mono ?_;rintro e w4 ⟨rfl,yd,zC,h4,um,k4⟩;have KN:=ab (lu.o.wI k4.kept (fun i hi=>(il.o.ay hi).1));have HN:=ab h4;clear h4 um k4 il lu F1;go_wp2_with fail;go_roundg (VF.bH.length-(at_+1))
     case measure=>omega
     case rel=>exact⟨at_+1,V',yd,zC,by simp,rfl,Lp,HN,KN⟩
    ·have hVF:V=VF:=by
      cases EK.o with
      |done _ _ h=>rfl
      |step _ _ V' _ t h hv hl=>have:=(Ai.1 h).1;omega
     subst hVF;have Lp:Hid (V.num.length=M.length):=agi.o;obtain⟨yN,cl,Hm⟩:=cw il.o.bH;subst Hm;obtain⟨aoo,co,Nt⟩:=cw il.o.aP;subst Nt;have c3:w2.cell? ⟨w.heap.size+1,3,none⟩=some (.slice yN V.bH.length cl):=il.o.aq.cell 3;have c2:w2.cell? ⟨w.heap.size+1,2,none⟩=some (.slice aoo V.aP.length co):=il.o.aq.cell 2;have hit:¬((at_:Int)<(V.bH.length:Int)):=(by omega);go_wp2_with fail;go_loopg [8,54] V.aP.length (fun kk s8 i KL=>∃(k:Nat) (ws:List Sv),i=GW (k:Int)/\k<=V.aP.length/\kk=V.aP.length-k/\ws.length=k/\Hid (KL.ownsRow w.heap.size 113 6 s8 k (jB ws))/\Hid (∀i,s8.ownBlock=some i->w2.heap.size<=i)/\Hid (∀i,(h:i<ws.length)->(h':i<(sorted M V).length)->gG KL lo hi ws[i] (sorted M V)[i])/\Hid (aa ai w2 KL))
     case atStart=>exact⟨0,[],rfl,Al _,rfl,rfl,A8 _ _ _ _,(fun i hi=>by cases hi),(fun i h=>by cases h),aa.refl _ _⟩
     case round=>
      obtain⟨k,ws,rfl,bm,aqJ,rl,xk,ER,PG,iL⟩:=hrel;by_cases Rn:k<V.aP.length
      ·obtain⟨go,co',hox,o1,o2,o3,o4,o5⟩:=mO il.o.aP (by omega)
       cases hox;have CS:V.aP[k]<M.length:=AH.o _ (A6 Rn)
       obtain⟨q,⟨tr,qY⟩,⟨q1,q2,q3⟩,qc⟩:=(HM.o).at CS;have ab3:=nA.o _ (A6 CS);unfold sP at ab3;have K2:=lu.o.trans iL.o;obtain⟨d0,d1,d2,d3,d4,d5⟩:=qc wr (HM.o.kept K2 (fun hx=>hx));have jc:=(LA.o _ tr CS).kept K2 (fun _ _ _ hx=>hx) Nh;rw[qY]at jc
       have mH:(sorted M V)[k]'(by simpa[sorted]using Rn)={M[V.aP[k]]with next:=V.num.getD (M[V.aP[k]]).next.toNat 0,bj:=V.num.getD (M[V.aP[k]]).bj.toNat 0}:=by
        simp[sorted,Af,Ae CS]
       obtain⟨qk,bV,cA,bY,bM,fF,DS,DT⟩:=q;simp only at q1 q2 q3 d0 d1 d2 d3 d4 d5;generalize hm:M[V.aP[k]]=m at*;obtain⟨mn,dP⟩:∃mn:Nat,m.next=(mn:Int):=⟨m.next.toNat,by omega⟩
       obtain⟨mo,fD⟩:∃mo:Nat,m.bj=(mo:Int):=⟨m.bj.toNat,by omega⟩
       rw[dP]at q2;rw[fD]at q3;subst q1 q2 q3;have wk:=Lp.o;obtain⟨gn,cn,pF,n1,n2,n3,n4,n5⟩:=mO il.o.num (by omega);subst pF;have zp:mn<V.num.length:=(by omega);have acx:mo<V.num.length:=(by omega);have cn1:w2.cell? (GB gn mn)=some (GW (V.num.getD mn 0)):=by rw[n4 mn zp];simp[cQ,zp]
       have cn2:w2.cell? (GB gn mo)=some (GW (V.num.getD mo 0)):=by rw[n4 mo acx];simp[cQ,acx]
       rw[dP,fD]at mH;simp only[Az]at mH;generalize V.num.getD mn 0=un at*;generalize V.num.getD mo 0=uo at*;generalize hs:V.aP[k]=s at*;have ck:wr.cell? (GB go k)=some (GW (s:Int)):=(iL.o.cell (p:=(GB go k)) o2 (fun hx=>hx)).trans (by rw[o4 k Rn];simp[nW,Rn,hs]);have e1:wr.cell? (GB gn mn)=some (GW un):=(iL.o.cell (p:=(GB gn mn)) n2 (fun hx=>hx)).trans cn1;have e2:wr.cell? (GB gn mo)=some (GW uo):=(iL.o.cell (p:=(GB gn mo)) n2 (fun hx=>hx)).trans cn2;have eb:wr.cell? ⟨w.heap.size+1,1,none⟩=some (.slice (some (GB gn 0)) V.num.length cn):=(il.o.new iL.o).aq.cell 1;have gJ:=(il.o.new iL.o).aq.lt;have Hj:=iL.o.size;have aqK:=lu.o.size;have ajL:(k:Int)<(V.aP.length:Int):=(by omega);have ajM:¬((V.aP.length:Int)<=(k:Int)):=(by omega);have aqB:¬((M.length:Int)<=(s:Int)):=(by omega);have aqC:¬((V.num.length:Int)<=(mn:Int)):=(by omega);have aqD:¬((V.num.length:Int)<=(mo:Int)):=(by omega);have kA:aa ai wr ((wr.alloc (.cells #[GW m.kind,.slice bV cA bY,GW bM,GW fF,GW (mn:Int),GW (mo:Int)] 113)).drew):=((aa.refl ai wr).alloc _).drew;have kB:aa ai wr ((wr.alloc (.cells #[GW m.kind,.slice bV cA bY,GW bM,GW fF,GW un,GW (mo:Int)] 113)).drew):=((aa.refl ai wr).alloc _).drew;have PSA:Hid (Ul (w.heap.size+1) wr.heap.size gn mn mo (.slice (some (GB gn 0)) V.num.length cn) un uo ((wr.alloc (.cells #[GW m.kind,.slice bV cA bY,GW bM,GW fF,GW (mn:Int),GW (mo:Int)] 113)).drew)):=⟨⟨(kA.cell (p:=⟨w.heap.size+1,1,none⟩) gJ (fun hx=>hx)).trans eb,(au.new wr #[GW m.kind,.slice bV cA bY,GW bM,GW fF,GW (mn:Int),GW (mo:Int)] 113).drew.cell 5⟩,(kA.cell (p:=(GB gn mn)) (by show gn<_;omega) (fun hx=>hx)).trans e1,(kA.cell (p:=(GB gn mo)) (by show gn<_;omega) (fun hx=>hx)).trans e2⟩;have PSB:Hid (Ul (w.heap.size+1) wr.heap.size gn mn mo (.slice (some (GB gn 0)) V.num.length cn) un uo ((wr.alloc (.cells #[GW m.kind,.slice bV cA bY,GW bM,GW fF,GW un,GW (mo:Int)] 113)).drew)):=⟨⟨(kB.cell (p:=⟨w.heap.size+1,1,none⟩) gJ (fun hx=>hx)).trans eb,(au.new wr #[GW m.kind,.slice bV cA bY,GW bM,GW fF,GW un,GW (mo:Int)] 113).drew.cell 5⟩,(kB.cell (p:=(GB gn mn)) (by show gn<_;omega) (fun hx=>hx)).trans e1,(kB.cell (p:=(GB gn mo)) (by show gn<_;omega) (fun hx=>hx)).trans e2⟩;have HSQ:=ab (jc.lr un uo);have aac:=ab mH;clear wk jc mH qc o4 o5 n4 n5 cn1 cn2 kA kB ab3 K2;go_wp2_with fail;refine gD (S:=Ul (w.heap.size+1) wr.heap.size gn mn mo (.slice (some (GB gn 0)) V.num.length cn) un uo) 19 (by kernel_rfl) rfl rfl rfl (by kernel_rfl) (by kernel_rfl) ?_;have ak:=PSA.o;refine aj 0 62 (.pointer (some ⟨w.heap.size+1,0,none⟩)) ak ?_;refine aj 1 63 (.pointer (some ⟨w.heap.size+1,0,none⟩)) ak ?_;refine aj 2 64 (.pointer (some ⟨w.heap.size+1,1,none⟩)) ak ?_;refine aj 3 65 (.slice (some (GB gn 0)) V.num.length cn) ak ?_;refine aj 4 66 (BT wr.heap.size 4) ak ?_;refine aj 8 70 (.pointer (some ⟨w.heap.size+1,0,none⟩)) ak ?_;refine aj 9 71 (.pointer (some ⟨w.heap.size+1,0,none⟩)) ak ?_;refine aj 10 72 (.pointer (some ⟨w.heap.size+1,1,none⟩)) ak ?_;refine aj 11 73 (.slice (some (GB gn 0)) V.num.length cn) ak ?_;refine aj 12 74 (BT wr.heap.size 5) ak ?_;refine aj 13 75 (GW (mo:Int)) ak ?_;refine aj 14 76 (BT gn mo) ak ?_;refine aj 15 77 (GW uo) ak ?_;simp only[Act.put,Aa,Ad,Ac];refine bR 5 fun K hK=>?_
       go_simp;refine hK.o _ _ ak (fun _=>?_);clear hK K;refine aj 6 68 (BT gn mn) ak ?_;refine aj 7 69 (GW un) ak ?_;refine aj 16 78 (BT wr.heap.size 4) ak ?_;simp only[Act.put,Aa,Ad,Ac];refine bR 17 fun K hK=>?_
       go_simp;have fe:=PSB.o;refine hK.o _ _ fe (fun _=>?_);clear hK K;refine aj 18 79 (BT wr.heap.size 5) fe ?_;simp only[Act.put,Aa,Ad,Ac];refine At (by kernel_rfl) ?_ _;unfold eo;clear ak fe PSA PSB;simp only[Ak,Ag,Ah];go_simp;have Z_:Hid (∀W,aa ai wr W->W.ownsRow w.heap.size 113 6 u8 k (jB ws)):=(fun W kW=>bU xk.o kW (fun i _ hx=>hx));obtain⟨i1,Wm,Xc,RN,hy2⟩:=Bo Tryz.acX;obtain⟨LZ,c8,rfl⟩:=cw xk.o;go_wp2_with (at_builtin;refine Ao _ rfl _ _ 71 rfl w.heap.size 113 i1 _ 6 64 underlying71 Wm Xc RN hy2 rfl (by decide) _ _ _ rfl (Z_.o _ ((((aa.refl _ _).alloc _).alloc _).drew)) _ 1 1 (Sv.cells ⟨m.kind,bV,cA,bY,bM,fF,un,uo⟩).toList rfl rfl ?c1 ?c2 ?c3 ?c4 ?c5 ?_)
       case c1=>exact ape _ ⟨m.kind,bV,cA,bY,bM,fF,un,uo⟩ _ (by simp)
       case c2=>exact Sv.one _
       case c3=>unfold maxLen;omega
       case c4=>omega
       case c5=>simp;omega
       intro v' w7 bL cy eF cI;obtain⟨jl,c',rfl⟩:=cw bL;have kg:aa (fun i=>(Value.slice LZ k c8).ownBlock=some i) wr w7:=(((((aa.refl (fun i=>(Value.slice LZ k c8).ownBlock=some i) wr).alloc _).alloc _).drew)).eP cy (fun j hj=>Or.inl hj);have kg2:aa ai w2 w7:=iL.o.b_ kg (fun i hi hx=>by have:=ER.o i hx;omega);have mF:∀i,lo<=i->i<hi->¬((Value.slice LZ k c8).ownBlock=some i):=fun i _ h2 hx=>by have:=ER.o i hx;omega
       have aA:Hid (w7.ownsRow w.heap.size 113 6 (.slice jl (k+1) c') (k+1) (jB (ws++[⟨m.kind,bV,cA,bY,bM,fF,un,uo⟩]))):=by
        show World.ownsRow _ _ _ _ _ _ _
        rw[abD];simpa[jB]using bL
       have FO:Hid (∀i,(Value.slice jl (k+1) c').ownBlock=some i->w2.heap.size<=i):=by
        intro i hi';rcases cI with hl|hl
        ·exact ER.o i (hl▸hi')
        ·rw[hl]at hi';cases hi';first|omega|(simp;omega)
       have FV:Hid (∀i,(h:i<(ws++[(⟨m.kind,bV,cA,bY,bM,fF,un,uo⟩:Sv)]).length)->(h':i<(sorted M V).length)->gG w7 lo hi (ws++[(⟨m.kind,bV,cA,bY,bM,fF,un,uo⟩:Sv)])[i] (sorted M V)[i]):=by
        intro i h1 h2;by_cases hi':i<ws.length
        ·have e1:(ws++[(⟨m.kind,bV,cA,bY,bM,fF,un,uo⟩:Sv)])[i]=ws[i]:=C1 _;rw[e1];exact(PG.o i hi' h2).kept kg mF (by omega)
        ·have e:i=k:=by simp at h1;omega
         subst e;have e1:(ws++[(⟨m.kind,bV,cA,bY,bM,fF,un,uo⟩:Sv)])[i]=⟨m.kind,bV,cA,bY,bM,fF,un,uo⟩:=(by simp[<-rl]);rw[e1,aac.o];exact HSQ.o.kept kg mF (by omega)
       have FK:=ab kg2;clear kg kg2 mF bL cy eF cI xk Z_ ER PG iL HSQ aac;go_wp2_with fail;go_roundg (V.aP.length-(k+1))
       case measure=>omega
       case rel=>exact⟨k+1,_,by simp,by omega,rfl,by simp[rl],aA,FO,FV,FK⟩
      ·have cS:k=V.aP.length:=(by omega);subst cS;have wk:=Lp.o;obtain⟨gn,cn,pF,n1,n2,n3,n4,n5⟩:=mO il.o.num (by omega);subst pF;have cs1:wr.cell? (GB gn start)=some (GW (V.num.getD start 0)):=(iL.o.cell (p:=(GB gn start)) n2 (fun hx=>hx)).trans (by rw[n4 start (by omega)];simp[cQ,show start<V.num.length by omega]);have eb:wr.cell? ⟨w.heap.size+1,1,none⟩=some (.slice (some (GB gn 0)) V.num.length cn):=(il.o.new iL.o).aq.cell 1;have ajL:¬((V.aP.length:Int)<(V.aP.length:Int)):=(by omega);have ajM:¬((V.num.length:Int)<=(start:Int)):=(by omega);obtain⟨LZ,c8,rfl⟩:=cw xk.o;have PR:Hid (∀W,aa ai wr W->aa ai w W/\W.ownsRow w.heap.size 113 6 (.slice LZ V.aP.length c8) V.aP.length (jB ws)/\∀i,(h:i<ws.length)->(h':i<(sorted M V).length)->gG W lo hi ws[i] (sorted M V)[i]):=(fun W kW=>⟨(lu.o.trans iL.o).trans kW,bU xk.o kW (fun i _ hx=>hx),fun i h1 h2=>(PG.o i h1 h2).kept kW (fun _ _ _ hx=>hx) (by have:=lu.o.size;have:=iL.o.size;omega)⟩);clear wk n4 n5 xk ER PG iL il lu HM LA nA AH Lp;go_wp2_with fail;go_region;go_wp2_with fail;go_ret2;obtain⟨p1,p2,p3⟩:=PR.o _ ((aa.refl ai wr).drew);exact⟨_,ws,rfl,p1,p2,rl,p3⟩
def dI(s:ByteArray):RS:={next:=0,bA:=s_ s (gT s (s.size+1) 0),aT:=0,names:=[]}
def kX(g:RG)(s:ByteArray):cV:=if 1000<(eJ g (dI s)).2.size then(eJ g (dI s)).1.bA.eN 7 0 else(eJ g (dI s)).1.bA
def pick(F:cV):Int×Int:=
 match F.bF with
 |some p=>(2,p)
 |none=>match F.form with
  |some p=>(3,p)
  |none=>match F.rep with
   |some p=>(4,p)
   |none=>match F.cls with
    |some p=>(5,p)
    |none=>match F.DO with
     |some p=>(6,p)
     |none=>match F.vF with
      |some p=>(7,p)
      |none=>(0,0)
theorem aeH{j:Int}(h2:2<=j)(h7:j<=7)(az:∀i,2<=i->i<j->F.get i=none)(h:F.get j=some p):pick F=(j,p):=by
 have:j=2\/j=3\/j=4\/j=5\/j=6\/j=7:=by omega
 have g2:F.get 2=F.bF:=rfl;have g3:F.get 3=F.form:=rfl;have g4:F.get 4=F.rep:=rfl;have g5:F.get 5=F.cls:=rfl;have g6:F.get 6=F.DO:=rfl;have g7:F.get 7=F.vF:=rfl;rcases this with rfl|rfl|rfl|rfl|rfl|rfl
 ·rw[g2]at h;simp[pick,h]
 ·rw[g3]at h;have a:=az 2 (by omega) (by omega);rw[g2]at a;simp[pick,h,a]
 ·rw[g4]at h;have a:=az 2 (by omega) (by omega);have b:=az 3 (by omega) (by omega);rw[g2]at a;rw[g3]at b;simp[pick,h,a,b]
 ·rw[g5]at h;have a:=az 2 (by omega) (by omega);have b:=az 3 (by omega) (by omega);have c:=az 4 (by omega) (by omega);rw[g2]at a;rw[g3]at b;rw[g4]at c;simp[pick,h,a,b,c]
 ·rw[g6]at h;have a:=az 2 (by omega) (by omega);have b:=az 3 (by omega) (by omega);have c:=az 4 (by omega) (by omega);have d:=az 5 (by omega) (by omega);rw[g2]at a;rw[g3]at b;rw[g4]at c;rw[g5]at d;simp[pick,h,a,b,c,d]
 ·rw[g7]at h;have a:=az 2 (by omega) (by omega);have b:=az 3 (by omega) (by omega);have c:=az 4 (by omega) (by omega);have d:=az 5 (by omega) (by omega);have e:=az 6 (by omega) (by omega);rw[g2]at a;rw[g3]at b;rw[g4]at c;rw[g5]at d;rw[g6]at e;simp[pick,h,a,b,c,d,e]
theorem aeI(az:∀i,2<=i->i<8->F.get i=none):pick F=(0,0):=by
 have a:=az 2 (by omega) (by omega);have b:=az 3 (by omega) (by omega);have c:=az 4 (by omega) (by omega);have d:=az 5 (by omega) (by omega);have e:=az 6 (by omega) (by omega);have f:=az 7 (by omega) (by omega);change F.bF=none at a;change F.form=none at b;change F.rep=none at c;change F.cls=none at d;change F.DO=none at e;change F.vF=none at f;simp[pick,a,b,c,d,e,f]
theorem Sf{g:RG}{i:Nat}(h:g.ay i):g.use i:=by rcases h with h|h|h<;>simp[RG.use,h]
def gC(q:Nv)(x:Int)(y:Option Nat):Array Value:=#[GW q.k,.slice q.pa q.pn q.pc,.slice q.sa q.sn q.sc,GW q.ed,GW q.gr,GW q.lo,GW q.hi,.bool q.lz,GW x,.map y]
def pM(q:Nv)(x:Int)(y:Option Nat):Value:=.agg (gC q x y)
def yf(w:World)(b:Nat)(q:Nv)(x:Int)(y:Option Nat):World:=((gy w b q).setCell (GB b 8) (GW x)).setCell (GB b 9) (.map y)
theorem Sz(w:World)(b:Nat)(q:Nv)(x:Int)(y:Option Nat):aa (fun i=>i=b) w (yf w b q x y):=
 ((Kp w b q).setCell (p:=(GB b 8)) (Or.inl rfl) _).setCell (p:=(GB b 9)) (Or.inl rfl) _
theorem Sy{p:Nv}{x0:Int}{y0:Option Nat}(h:au w b (gC p x0 y0) t)(q:Nv):au (yf w b q x y) b (gC q x y) t:=by
 have h8:=(((((((((h.setCell 0 (GW q.k)).setCell 1 (.slice q.pa q.pn q.pc)).setCell 2 (.slice q.sa q.sn q.sc)).setCell 3 (GW q.ed)).setCell 4 (GW q.gr)).setCell 5 (GW q.lo)).setCell 6 (GW q.hi)).setCell 7 (.bool q.lz)).setCell 8 (GW x)).setCell 9 (.map y);have e:((((((((((gC p x0 y0).setIfInBounds 0 (GW q.k)).setIfInBounds 1 (.slice q.pa q.pn q.pc)).setIfInBounds 2 (.slice q.sa q.sn q.sc)).setIfInBounds 3 (GW q.ed)).setIfInBounds 4 (GW q.gr)).setIfInBounds 5 (GW q.lo)).setIfInBounds 6 (GW q.hi)).setIfInBounds 7 (.bool q.lz)).setIfInBounds 8 (GW x)).setIfInBounds 9 (.map y)=gC q x y:=by simp[gC]
 rw[e]at h8;exact h8
theorem au.OQ(h:au w b (gC q x y) t):
 w.cell? (GB b 0)=some (GW q.k)/\w.cell? (GB b 1)=some (.slice q.pa q.pn q.pc)/\w.cell? (GB b 2)=some (.slice q.sa q.sn q.sc)/\w.cell? (GB b 3)=some (GW q.ed)/\w.cell? (GB b 4)=some (GW q.gr)/\w.cell? (GB b 5)=some (GW q.lo)/\w.cell? (GB b 6)=some (GW q.hi)/\w.cell? (GB b 7)=some (.bool q.lz)/\w.cell? (GB b 8)=some (GW x)/\w.cell? (GB b 9)=some (.map y):=
 ⟨h.cell 0,h.cell 1,h.cell 2,h.cell 3,h.cell 4,h.cell 5,h.cell 6,h.cell 7,h.cell 8,h.cell 9⟩
theorem St{Q:Ending->World->Prop}{a:Act}{e:Int}(h2:a.tmps.getD 2 undef=BT b 0)(h3:a.tmps.getD 3 undef=GW e)(h4:a.tmps.getD 4 undef=GW p)(hd:a.defers=[])
 (hb:au W b (gC q x y) 67)(hQ:Q (.returned (.tuple #[pM q x y,GW e,GW p])) W):bodyPost prog Tryz.f21 Q Exit.ret a W:=by
 obtain⟨r0,r1,r2,r3,r4,r5,r6,r7,r8,r9⟩:=hb.OQ;have s2:a.tmps[2]?.getD undef=BT b 0:=by simpa using h2
 have s3:a.tmps[3]?.getD undef=GW e:=by simpa using h3
 have s4:a.tmps[4]?.getD undef=GW p:=by simpa using h4
 exact Bm (v:=.tuple #[pM q x y,GW e,GW p]) (by simp[results,results21,go_sem,s2,s3,s4,r0,r1,r2,r3,r4,r5,r6,r7,r8,r9,pM,gC]) hd hQ
theorem aeM(s:ByteArray)(w:World)(hs:300<s.size)(hm:s.size<=maxLen):
 Calls prog 21 #[.string s] w fun e w'=>e=.returned (.tuple #[pM bG 0 none,GW 1,GW 0])/\aa ai w w':=by
 have hb:(300:Int)<(s.size:Int):=by omega
 go_in
 go_wp2_with fail
 exact Bm (v:=.tuple #[pM bG 0 none,GW 1,GW 0]) (by simp[results,results21,go_sem,pM,gC,bG]) rfl ⟨rfl,(aa.refl _ _).alloc _⟩
theorem aeN(s:ByteArray)(w:World)(hs:s.size<=300):
 Calls prog 21 #[.string s] w fun e w'=>∃(g:RG) (q:Nv) (x:Int) (y:Option Nat) (st:RS),g.rs=(gT s (s.size+1) 0).map (·.2)/\g.ps=(gT s (s.size+1) 0).map (fun p=>(p.1:Int))++[(s.size:Int)]/\
  e=.returned (.tuple #[pM q x y,GW (pick (kX g s)).1,GW (pick (kX g s)).2])/\aa ai w w'/\st=(eJ g (dI s)).1/\
  ((pick (kX g s)).1=0->x=st.aT/\y=some g.bn/\aV w' g false {st with bA:=kX g s}/\cJ w' w.heap.size w'.heap.size q (eJ g (dI s)).2 (pk g (dI s))/\∀i,g.use i->w.heap.size<=i):=by
 have hb:¬(300:Int)<(s.size:Int):=by omega
 go_in
 go_wp2_with fail
 refine(al3 s (w.alloc (.cells (gC bG 0 none) 67)) hs).mono ?_;rintro e w1 ⟨g,rfl,dM,He,hR,xR,aU⟩;go_wp2_with fail;refine(apY hR).mono ?_;rintro e w2 ⟨q,rfl,h2,acB,aS⟩;have qW:cJ w2 w1.heap.size w2.heap.size q (eJ g (dI s)).2 (pk g (dI s)):=acB;clear acB;have bq2:=au.new w2 q.cells 64;have Xq:aa ai w2 (w2.alloc (.cells q.cells 64)):=(aa.refl _ _).alloc _;have WK:=qW.kept Xq (fun _ _ _ hx=>hx) (Ab _);have aW:Calls prog 39 #[Nv.val q] (w2.alloc (.cells q.cells 64)) fun e qx=>e=.returned (GW (eJ g (dI s)).2.size)/\aa ai (w2.alloc (.cells q.cells 64)) qx:=aoF WK (by simp) _ (aa.refl _ _)
 simp only[Nv.val,Nv.cells]at aW⊢;go_wp2_with fail;refine aW.mono ?_;rintro e w3 ⟨rfl,bm⟩;have h3:=(h2.nil Xq).nil bm;have Qq:=bq2.kept bm (fun hx=>hx);have Rz:=WK.kept bm (fun _ _ _ hx=>hx) (by simp);have Rj:aa g.ay w1 w3:=aS.trans ((Xq.trans bm).mono (fun _ hx=>hx.elim));have tL:=aS.size;clear aW qW WK bq2 h2;by_cases acb:1000<(eJ g (dI s)).2.size
 ·have qd:kX g s=(eJ g (dI s)).1.bA.eN 7 0:=by simp[kX,acb]
  go_wp2_with fail
  refine(Iu h3 7 0 (by omega) (by omega)).mono ?_;rintro e w4 ⟨rfl,Vs,dJ⟩;have h4:aV w4 g false {(eJ g (dI s)).1 with bA:=kX g s}:=by rw[qd];exact Vs
  have xI:=Rj.trans dJ;have WE:∀i,w1.heap.size<=i->¬g.ay i:=fun i hi ho=>by have:=hR.ic ho;omega
  have AY:=Qq.kept dJ (WE _ tL);have s23:=bm.size;have RA:=Rz.kept dJ (fun i hi _=>WE i hi) (by simp at s23;omega);have Yp:w2.heap.size<=w4.heap.size:=Nat.le_of_lt AY.lt;clear Vs dJ Rj h3 qd Qq Rz
  have wB:aa ai w w4:=((((aa.refl ai w).alloc (.cells (gC bG 0 none) 67)).trans aU).b_ (xI) (fun i hi ho=>by
   have:=xR i (Sf ho);simp at this;omega))
  have Ib:∀i,g.use i->w.heap.size+1<=i:=fun i hi=>by have:=xR i hi;simpa using this
  have JT:¬g.ay w.heap.size:=fun ho=>by have:=Ib _ (Sf ho);omega
  have b4:au w4 w.heap.size (gC bG 0 none) 67:=((au.new w (gC bG 0 none) 67).kept aU (fun hx=>hx)).kept xI JT;have s1:w.heap.size+1<=w1.heap.size:=by have:=aU.size;simpa using this
  have s24:=xI.size;have WM:w2.heap.size<w4.heap.size:=AY.lt;clear aU aS bm xI;obtain⟨D,hD,hF⟩:=h4.fm;generalize yX:kX g s=F at*;simp only at hF;go_wp2_with fail;go_loopg [7] 6 (fun kk v wr=>∃j:Int,v=GW j/\2<=j/\j<=8/\kk=(8-j).toNat/\Hid (∀i,2<=i->i<j->F.get i=none)/\wr=w4)
  case atStart=>exact⟨2,rfl,by omega,by omega,rfl,fun i h1 h2=>by omega,rfl⟩
  case round=>
   obtain⟨j,rfl,lY,hj8,rfl,HN,rfl⟩:=hrel;have c3:wr.cell? (GB g.b 3)=some (.map (some g.bf)):=h4.aq.cell 3;obtain⟨e0,e1,e2,e3,e4,e5,e6,e7,e8,e9⟩:=b4.OQ;obtain⟨f0,f1,f2,f3,f4,f5,f6,f7⟩:=b4.nZ;have f8:=b4.frozen 8;have f9:=b4.frozen 9;simp only[bG]at e0 e1 e2 e3 e4 e5 e6 e7 e8 e9;by_cases hj:j<=7
   ·have jr:keyOf prog 25 (.int .i64 j)=some (.int .i64 j):=keyOf_int_mk underlying25 (Dd (by omega))
    cases lg:F.get j with
    |none=>
     have hh:has D (.int .i64 j)=false:=by rw[hF.has,lg];rfl
     go_wp2_with (at_lookup;refine By _ rfl _ _ 97 rfl 25 3 .i64 xY underlying97 underlying3 (yp _) g.bf _ D rfl hD _ _ rfl jr ?_;intro c jC zv)
     go_roundg (8-(j+1)).toNat
     case measure=>omega
     case rel=>
      refine⟨j+1,rfl,by omega,by omega,rfl,?_,rfl⟩;intro i h1 h2;by_cases hi:i=j
      ·rw[hi];exact lg
      ·exact HN.o i h1 (by omega)
    |some pl=>
     have hh:has D (.int .i64 j)=true:=by rw[hF.has,lg];rfl
     have tA:=hF.val j pl lg;have wm:=aeH lY hj HN.o lg;have yB:Hid (pick F=(j,pl)):=wm;have Ua:Hid (D.atKey (.int .i64 j) (.lit (.int .i64 0))=.lit (.int .i64 pl)):=tA;clear wm tA;go_wp2_with (at_lookup;refine By _ rfl _ _ 97 rfl 25 3 .i64 xY underlying97 underlying3 (yp _) g.bf _ D rfl hD _ _ rfl jr ?_;intro c jC zv);have kz:=Sz wr w.heap.size bG 0 none;have wC:=wB.b_ kz (fun i hi he=>by omega)
     have za:c=pl:=by
      have h1:=jC;rw[Ua.o]at h1;simpa using h1.symm
     have bz:=Sy (x:=0) (y:=none) b4 bG;simp only[yf,gy,bG]at bz wC;refine St (b:=w.heap.size) (q:=bG) (x:=0) (y:=none) (e:=j) (p:=c) rfl rfl rfl rfl bz ?_;refine⟨g,bG,0,none,_,dM,He,?_,wC,rfl,?_⟩
     ·rw[yX,yB.o,za]
     ·rw[yX,yB.o];intro h0;simp only at h0;omega
   ·have ej:j=8:=(by omega);have wm:=aeI (F:=F) (fun i h1 h2=>HN.o i h1 (by omega));have yB:Hid (pick F=(0,0)):=wm;clear wm HN;subst ej;have c5:wr.cell? (GB g.b 5)=some (GW (eJ g (dI s)).1.aT):=h4.aq.cell 5;have c6:wr.cell? (GB g.b 6)=some (.map (some g.bn)):=h4.aq.cell 6;obtain⟨d0,d1,d2,d3,d4,d5,d6,d7⟩:=AY.iq;go_wp2_with fail;go_region;all_goals go_wp2_with fail
    all_goals
     have kz:=(Sz wr w.heap.size q (eJ g (dI s)).1.aT (some g.bn)).drew;have wC:=wB.b_ kz (fun i hi he=>by omega);have bz:=(Sy (x:=(eJ g (dI s)).1.aT) (y:=some g.bn) b4 q).drew;have szz:=kz.size;have Ms:=h4.kept kz (fun i hi he=>by have:=Ib i hi;omega);have Mt:cJ (yf wr w.heap.size q (eJ g (dI s)).1.aT (some g.bn)).drew w.heap.size (yf wr w.heap.size q (eJ g (dI s)).1.aT (some g.bn)).drew.heap.size q (eJ g (dI s)).2 (pk g (dI s)):=(RA.kept kz (fun i h1 _ he=>by omega) Yp).IN (by omega) (by omega);simp only[yf,gy]at bz wC Ms Mt;refine St (b:=w.heap.size) (q:=q) (x:=(eJ g (dI s)).1.aT) (y:=some g.bn) (e:=0) (p:=0) rfl rfl rfl rfl bz ?_;refine⟨g,q,(eJ g (dI s)).1.aT,some g.bn,_,dM,He,?_,wC,rfl,?_⟩
     ·rw[yX,yB.o]
     ·intro _;refine⟨rfl,rfl,?_,Mt,fun i hi=>by have:=Ib i hi;omega⟩;rw[yX];exact Ms
 ·have qd:kX g s=(eJ g (dI s)).1.bA:=by simp[kX,acb]
  have h4:aV w3 g false {(eJ g (dI s)).1 with bA:=kX g s}:=by rw[qd];exact h3
  obtain⟨w4,J3⟩:∃w4,w4=w3:=⟨_,rfl⟩
  have xI:=Rj;have AY:=Qq;have RA:=Rz;rw[<-J3]at h4 xI AY RA⊢;have Yp:w2.heap.size<=w4.heap.size:=Nat.le_of_lt AY.lt;clear Rj h3 qd J3 Qq Rz
  have wB:aa ai w w4:=((((aa.refl ai w).alloc (.cells (gC bG 0 none) 67)).trans aU).b_ (xI) (fun i hi ho=>by
   have:=xR i (Sf ho);simp at this;omega))
  have Ib:∀i,g.use i->w.heap.size+1<=i:=fun i hi=>by have:=xR i hi;simpa using this
  have JT:¬g.ay w.heap.size:=fun ho=>by have:=Ib _ (Sf ho);omega
  have b4:au w4 w.heap.size (gC bG 0 none) 67:=((au.new w (gC bG 0 none) 67).kept aU (fun hx=>hx)).kept xI JT;have s1:w.heap.size+1<=w1.heap.size:=by have:=aU.size;simpa using this
  have s24:=xI.size;have WM:w2.heap.size<w4.heap.size:=AY.lt;clear aU aS bm xI;obtain⟨D,hD,hF⟩:=h4.fm;generalize yX:kX g s=F at*;simp only at hF;go_wp2_with fail;go_loopg [7] 6 (fun kk v wr=>∃j:Int,v=GW j/\2<=j/\j<=8/\kk=(8-j).toNat/\Hid (∀i,2<=i->i<j->F.get i=none)/\wr=w4)
  case atStart=>exact⟨2,rfl,by omega,by omega,rfl,fun i h1 h2=>by omega,rfl⟩
  case round=>
   obtain⟨j,rfl,lY,hj8,rfl,HN,rfl⟩:=hrel;have c3:wr.cell? (GB g.b 3)=some (.map (some g.bf)):=h4.aq.cell 3;obtain⟨e0,e1,e2,e3,e4,e5,e6,e7,e8,e9⟩:=b4.OQ;obtain⟨f0,f1,f2,f3,f4,f5,f6,f7⟩:=b4.nZ;have f8:=b4.frozen 8;have f9:=b4.frozen 9;simp only[bG]at e0 e1 e2 e3 e4 e5 e6 e7 e8 e9;by_cases hj:j<=7
   ·have jr:keyOf prog 25 (.int .i64 j)=some (.int .i64 j):=keyOf_int_mk underlying25 (Dd (by omega))
    cases lg:F.get j with
    |none=>
     have hh:has D (.int .i64 j)=false:=by rw[hF.has,lg];rfl
     go_wp2_with (at_lookup;refine By _ rfl _ _ 97 rfl 25 3 .i64 xY underlying97 underlying3 (yp _) g.bf _ D rfl hD _ _ rfl jr ?_;intro c jC zv)
     go_roundg (8-(j+1)).toNat
     case measure=>omega
     case rel=>
      refine⟨j+1,rfl,by omega,by omega,rfl,?_,rfl⟩;intro i h1 h2;by_cases hi:i=j
      ·rw[hi];exact lg
      ·exact HN.o i h1 (by omega)
    |some pl=>
     have hh:has D (.int .i64 j)=true:=by rw[hF.has,lg];rfl
     have tA:=hF.val j pl lg;have wm:=aeH lY hj HN.o lg;have yB:Hid (pick F=(j,pl)):=wm;have Ua:Hid (D.atKey (.int .i64 j) (.lit (.int .i64 0))=.lit (.int .i64 pl)):=tA;clear wm tA;go_wp2_with (at_lookup;refine By _ rfl _ _ 97 rfl 25 3 .i64 xY underlying97 underlying3 (yp _) g.bf _ D rfl hD _ _ rfl jr ?_;intro c jC zv);have kz:=Sz wr w.heap.size bG 0 none;have wC:=wB.b_ kz (fun i hi he=>by omega)
     have za:c=pl:=by
      have h1:=jC;rw[Ua.o]at h1;simpa using h1.symm
     have bz:=Sy (x:=0) (y:=none) b4 bG;simp only[yf,gy,bG]at bz wC;refine St (b:=w.heap.size) (q:=bG) (x:=0) (y:=none) (e:=j) (p:=c) rfl rfl rfl rfl bz ?_;refine⟨g,bG,0,none,_,dM,He,?_,wC,rfl,?_⟩
     ·rw[yX,yB.o,za]
     ·rw[yX,yB.o];intro h0;simp only at h0;omega
   ·have ej:j=8:=(by omega);have wm:=aeI (F:=F) (fun i h1 h2=>HN.o i h1 (by omega));have yB:Hid (pick F=(0,0)):=wm;clear wm HN;subst ej;have c5:wr.cell? (GB g.b 5)=some (GW (eJ g (dI s)).1.aT):=h4.aq.cell 5;have c6:wr.cell? (GB g.b 6)=some (.map (some g.bn)):=h4.aq.cell 6;obtain⟨d0,d1,d2,d3,d4,d5,d6,d7⟩:=AY.iq;go_wp2_with fail;go_region;all_goals go_wp2_with fail
    all_goals
     have kz:=(Sz wr w.heap.size q (eJ g (dI s)).1.aT (some g.bn)).drew;have wC:=wB.b_ kz (fun i hi he=>by omega);have bz:=(Sy (x:=(eJ g (dI s)).1.aT) (y:=some g.bn) b4 q).drew;have szz:=kz.size;have Ms:=h4.kept kz (fun i hi he=>by have:=Ib i hi;omega);have Mt:cJ (yf wr w.heap.size q (eJ g (dI s)).1.aT (some g.bn)).drew w.heap.size (yf wr w.heap.size q (eJ g (dI s)).1.aT (some g.bn)).drew.heap.size q (eJ g (dI s)).2 (pk g (dI s)):=(RA.kept kz (fun i h1 _ he=>by omega) Yp).IN (by omega) (by omega);simp only[yf,gy]at bz wC Ms Mt;refine St (b:=w.heap.size) (q:=q) (x:=(eJ g (dI s)).1.aT) (y:=some g.bn) (e:=0) (p:=0) rfl rfl rfl rfl bz ?_;refine⟨g,q,(eJ g (dI s)).1.aT,some g.bn,_,dM,He,?_,wC,rfl,?_⟩
     ·rw[yX,yB.o]
     ·intro _;refine⟨rfl,rfl,?_,Mt,fun i hi=>by have:=Ib i hi;omega⟩;rw[yX];exact Ms
