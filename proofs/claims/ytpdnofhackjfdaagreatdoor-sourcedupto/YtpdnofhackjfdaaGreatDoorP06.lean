/- The reader of th -/
import Derived.Test.YtpdnofhackjfdaaGreatDoorP05
set_option linter.all false
set_option maxRecDepth 100000
set_option maxHeartbeats 8000000
namespace Go.Proofs.YtpdnofhackjfdaaGreatDoor
open Go.Proofs.Tryz
open Go.RowKit Go.Maps
variable {fo rS:Bool} {C:CT} {hi i lo:Nat} {S:Nat->Prop} {q:Nv} {T:PT} {g:RG} {st ln:RS} {l:bI} {v:Value} {w w0 wz:World}
theorem aV.aoC(h:aV w g fo st)(m:Nat)(hm:m<=st.next)(hg:st.aT<=m):aV (w.setCell (GB g.b 5) (GW m)) g fo {st with aT:=m} where
 aq:=h.aq.setCell 5 _
 isSome:=h.isSome
 gS i hi:=by
  rw[Cc (w:=w) (Cx w _ _ g.br (fun e=>h.apart.1 e.symm))];exact h.gS i hi
 places i hi:=by
  rw[Cc (w:=w) (Cx w _ _ g.bp (fun e=>h.apart.2.1 e.symm))];exact h.places i hi
 ow:=by have:=h.ow;simpa[World.setCell]using this
 ou:=by have:=h.ou;simpa[World.setCell]using this
 ni:=h.ni
 rC:=h.rC
 fm:=by obtain⟨D,hD,hF⟩:=h.fm;exact⟨D,hD.setCell (a:=(GB g.b 5)) (fun e=>h.apart.2.2.1 e.symm) _,hF⟩
 nm:=by obtain⟨D,hD,hF⟩:=h.nm;exact⟨D,hD.setCell (a:=(GB g.b 5)) (fun e=>h.apart.2.2.2.1 e.symm) _,hF⟩
 len:=h.len
 nM:=h.nM
 next:=h.next
 aT:=hm
 names:=by have:=h.names;simp;omega
 apart:=h.apart
theorem aV.afU(h:aV w g fo st)(hi:g.use i):i<w.heap.size:=by
 obtain⟨D,hD,_⟩:=h.fm;obtain⟨D',hD',_⟩:=h.nm;rcases hi with rfl|rfl|rfl|rfl|rfl
 ·exact h.Qp
 ·exact hD.lt
 ·exact hD'.lt
 ·exact h.ow
 ·exact h.ou
theorem aV.ic(h:aV w g fo st)(hi:g.ay i):i<w.heap.size:=h.afU (by rcases hi with h|h|h<;>simp[RG.use,h])
theorem aV.new{w':World}{fo0:Bool}{dI:RS}(h:aV w g fo st)(h0:aV w0 g fo0 dI)(k:aa S w w')(hs:∀i,S i->w0.heap.size<=i):aV w' g fo st:=
 h.kept k (fun i hi hx=>by have:=h0.afU hi;have:=hs i hx;omega)
theorem fP(w:World)(o:Obj):(w.alloc o).heap.size=w.heap.size+1:=by simp
theorem Om(h:aV w g fo st)(h2:aV wz g rS ln)(hp:cJ wz lo hi q T C)(nc:w.heap.size<lo)(lX:hi<=wz.heap.size)(k1:aa g.ay w wz):
 aV (gy wz w.heap.size q) g rS ln/\cJ (gy wz w.heap.size q) w.heap.size (gy wz w.heap.size q).heap.size q T C/\aa g.ay w (gy wz w.heap.size q):=by
 have sz:=Ox wz w.heap.size q;have kq:=Kp wz w.heap.size q;refine⟨h2.new h kq (fun i hi=>by omega),?_,k1.b_ kq (fun i hi he=>by omega)⟩;exact(hp.kept kq (fun i h1 _ he=>by omega) lX).IN (by omega) (by omega)
theorem It(h:aV w g fo st)(h2:aV wz g rS ln)(hp:cJ wz lo hi q T C)(nc:w.heap.size<lo)(lX:hi<=wz.heap.size)(k1:aa g.ay w wz){p:Nv}(b:au wz w.heap.size p.cells 64)
 {f:Func}{Q:Ending->World->Prop}{a:Act}(mH:f.results=#[ResultVar.cell i 64])(tz:a.tmps.getD i undef=BT w.heap.size 0)(hd:a.defers=[])
 (hQ:∀e w',(∃q,e=.returned (Nv.val q)/\aV w' g rS ln/\cJ w' w.heap.size w'.heap.size q T C/\aa g.ay w w')->Q e w'):bodyPost prog f Q Exit.ret a (gy wz w.heap.size q):=
 wJ (i:=i) (b:=w.heap.size) (q:=q) mH tz hd (wN b q) (hQ _ _ ⟨_,rfl,Om h h2 hp nc lX k1⟩)
theorem amG{base:Nat}(h:w.ownsRow base 219 2 v l.length (dj l)):∃ao b cap,v=.slice ao l.length cap/\(l≠ []->ao=some (GB b 0))/\gj w b l/\(l≠ []->b<w.heap.size):=by
 by_cases aB:l=[]
 ·subst aB;obtain⟨ao,cap,rfl⟩:=Sg h;exact⟨ao,0,cap,rfl,fun h=>absurd rfl h,gj.nil _ _,fun h=>absurd rfl h⟩
 ·obtain⟨g,cap,rfl,_,h2,h3,_⟩:=xx h aB;exact⟨_,g,cap,rfl,fun _=>rfl,h3,fun _=>h2⟩
theorem aaL(h:l≠ []):pZ l≠ []:=by
 have:∀(l aF:bI),aF.length<=(l.foldl iC aF).length:=by
  intro l;induction l with
  |nil=>intro aF;exact Ab _
  |cons s l ih=>
   intro aF;have h1:=ih (iC aF s);have h2:=(YA aF s).1;have h3:=(abX (mj aF s) s).1;have h4:aF.length<=(iC aF s).length:=by unfold iC;omega
   rw[D2];omega
 have h1:=this l l;intro e;have h2:(l.foldl iC l).length=0:=by rw[show l.foldl iC l=[]from e];rfl
 have:l.length=0:=by omega
 exact h (Aw.1 this)
theorem cJ.adk{S sp:bI}(_:aV w0 g fo st)(nt:Bool)(h:w.ownsRow lo 219 2 v S.length (dj S))(hS:vA S sp fo nt)(hr:dH sp)(hl:sp.length<=1900):
 ∃sa sc,v=.slice sa S.length sc/\cJ w lo w.heap.size (uW sa S.length sc) np (mx sp fo nt):=cJ.alj h hS hr hl
theorem FX(h:aV w g fo st){b cap:Nat}(nt:Bool)(hc:gj w b l)(hr:dH l)(hl:l.length<=1900)(aB:l≠ [])(hb:b<w.heap.size):
 Calls prog 134 #[BT g.b 0,.slice (some (GB b 0)) l.length cap,.bool nt] w fun e w'=>∃q,e=.returned (Nv.val q)/\aV w' g fo st/\cJ w' w.heap.size w'.heap.size q np (mx l fo nt)/\aa g.ay w w':=by
 have ha:=h.nil ((aa.refl ai w).alloc (.cells bG.cells 64));have c4:(w.alloc (.cells bG.cells 64)).cell? (GB g.b 4)=some (.bool fo):=ha.aq.cell 4;have b0:=au.new w bG.cells 64;have ka:aa ai w (w.alloc (.cells bG.cells 64)):=(aa.refl ai w).alloc _;have nQ:=hc.kept ka hb (fun hx=>hx);have s0:(w.alloc (.cells bG.cells 64)).heap.size=w.heap.size+1:=fP _ _;simp only[Nv.cells,bG]at c4;go_in
 cases fo
 case' false=>
  go_wp2_with fail
  have Q9:=And.intro hr hl;have aU:aa ai w (w.alloc (.cells bG.cells 64)):=ka;have bz:=b0;refine(XO (w:=w.alloc (.cells bG.cells 64)) (cap:=cap) nQ hr (by omega) aB (by omega)).mono ?_;rintro e w2 ⟨l',v2,hp,hs,rfl,nV,aS⟩;have Hk:l'.length<=5700:=by have:=hp.length_eq;omega
  have cZ:w.heap.size+1<=(w.alloc (.cells bG.cells 64)).heap.size:=by omega
 case' true=>
  go_wp2_with fail
  refine(agY (w:=w.alloc (.cells bG.cells 64)) (cap:=cap) nQ hr (by omega) aB (by omega)).mono ?_;rintro e w1 ⟨v1,rfl,mI,uy⟩;have Q9:=UK l l hr hr;obtain⟨b1,ahs,akq,VX,ajl,nR,_⟩:=xx mI (aaL aB);have aU:=ka.trans uy;have bz:=b0.kept uy (fun hx=>hx);rw[akq];go_wp2_with fail;refine(XO (cap:=ahs) nR Q9.1 (by show(pZ l).length<=_;unfold pZ;omega) (aaL aB) ajl).mono ?_;rintro e w2 ⟨l',v2,hp,hs,rfl,nV,aS⟩;have Hk:l'.length<=5700:=by have:=hp.length_eq;have:=Q9.2;simp only[pZ]at*;omega
  have cZ:w.heap.size+1<=w1.heap.size:=by have:=aU.size;have:=uy.size;omega
 all_goals
  have kF:dH l':=fun s h=>(Q9.1) s (hp.mem_iff.1 h)
  have zn:=R7 l' kF;have kz:=aU.trans aS;have bz:=bz.kept aS (fun hx=>hx)
  cases nt
  case' true=>
   obtain⟨Jf,b2',aht,akr,x1,x2,x3⟩:=amG nV;rw[akr];go_wp2_with fail;refine(amA (cap:=aht) x1 x2 zn.1 (by omega) x3).mono ?_;rintro e w3 ⟨v3,rfl,lj,bm⟩;have kz:=kz.trans bm;have bz:=bz.kept bm (fun hx=>hx);have gg:w.heap.size+1<=w2.heap.size:=by have:=aS.size;omega
   obtain⟨sa,sc,acM,xM⟩:=cJ.adk (sp:=l) h true (DR lj gg) ⟨l',by simpa using hp,hs,rfl⟩ hr hl
  case' false=>
   obtain⟨sa,sc,acM,xM⟩:=cJ.adk (sp:=l) h false (DR nV cZ) ⟨l',by simpa using hp,hs,rfl⟩ hr hl
  all_goals
   rw[acM];obtain⟨e0,e1,e2,e3,e4,e5,e6,e7⟩:=bz.iq;obtain⟨g0,g1,g2,g3,g4,g5,g6,g7⟩:=bz.nZ;simp only[bG]at e0 e1 e2 e3 e4 e5 e6 e7;have qh:=bz.lt;go_wp2_with fail;exact It (i:=6) h (h.nil kz) xM (by omega) (Ab _) (kz.mono (fun _ hx=>hx.elim)) bz results134 rfl rfl (fun _ _ h=>h)
theorem Kh(k:aa S w wz)(x y:Int):(wz.alloc (.cells #[.int .i32 x,.int .i32 y] 219)).ownsRow w.heap.size 219 2 (.slice (some (GB wz.heap.size 0)) 1 1) 1 (dj [(x,y)]):=
 DR (Oq wz [(x,y)] (by simp)) k.size
theorem akU(h:aV w g fo st)(hb:aK gA (aC g st)=true)(hs:aK mJ (aC g {st with next:=st.next+1})=true):
 Calls prog 166 #[BT g.b 0] w fun e w'=>∃v,e=.returned v/\aV w' g fo (gi g st)/\w'.ownsRow w.heap.size 219 2 v (iN g st).length (dj (iN g st))/\aa g.ay w w':=by
 have e1:gi g st={st with next:=st.next+2}:=by unfold gi;rw[if_pos ⟨hb,hs⟩]
 have e2:iN g st=mi (aC g {st with next:=st.next+1}):=by unfold iN;rw[if_pos ⟨hb,hs⟩]
 rw[e1,e2];clear e1 e2;go_in;go_wp2_with fail;refine(Su h).mono ?_;rintro e w1 ⟨rfl,h1,aU⟩;go_wp2_with fail;refine(jz h1 _ gA (by rfl) (by decide) hb).mono ?_;rintro e w2 ⟨rfl,h2,aS⟩;go_wp2_with fail;refine(nY h2).mono ?_;rintro e w3 ⟨rfl,h3,bm⟩;go_wp2_with fail;refine(jz h3 _ mJ (by rfl) (by decide) hs).mono ?_;rintro e w4 ⟨rfl,h4,dJ⟩;go_wp2_with fail;refine(SL _ w4).mono ?_;rintro e w5 ⟨v,rfl,hv,cS⟩;go_wp2_with fail;go_ret;have kk:=((aU.trans aS).trans bm).trans dJ;exact⟨v,rfl,h4.nil cS,DR hv kk.size,kk.trans (cS.mono (fun _ hx=>hx.elim))⟩
theorem akT(h:aV w g fo st)(hb:aK gA (aC g st)=false):
 Calls prog 166 #[BT g.b 0] w fun e w'=>∃v,e=.returned v/\aV w' g fo (gi g st)/\w'.ownsRow w.heap.size 219 2 v (iN g st).length (dj (iN g st))/\aa g.ay w w':=by
 have hp:0<=rB g st/\rB g st<=300:=h.ni st.next
 have vq:Hid (¬(aK gA (aC g st)=true/\aK mJ (aC g {st with next:=st.next+1})=true)):=by show¬_;rw[hb];simp
 have ex:dq g st=l9 g false (fG g gA st):=by simp[dq,hb]
 have et:fG g gA st=st:=by simp[fG,hb]
 rw[et]at ex;clear et;have EX:Hid (dq g st=l9 g false st):=ex;clear ex;go_in;go_wp2_with fail;refine(Su h).mono ?_;rintro e w1 ⟨rfl,h1,aU⟩;go_wp2_with fail;refine(jf h1 _ gA (by rfl) (by decide) hb).mono ?_;rintro e w2 ⟨rfl,h2,aS⟩;go_wp2_with fail;refine(nY h2).mono ?_;rintro e w3 ⟨rfl,h3,bm⟩;go_wp2_with fail;refine(XT false h3).mono ?_;rintro e w4 ⟨rfl,h4,dJ⟩;rw[<-EX.o]at h4⊢;go_wp2_with fail
 cases hd:aK xW (aC g (dq g st).1)
 ·have EC:Hid (iN g st=[((dq g st).2,(dq g st).2)]):=by show _=_;unfold iN;rw[if_neg vq.o,if_neg (by rw[hd];simp)]
  refine(jf h4 _ xW (by rfl) (by decide) hd).mono ?_;rintro e w5 ⟨rfl,h5,cS⟩;go_wp2_with fail;go_ret;have kk:=(((aU.trans aS).trans bm).trans dJ).trans cS;refine⟨_,rfl,?_,by rw[EC.o];exact Kh kk _ _,kk.alloc _⟩;rw[show gi g st=(dq g st).1 by unfold gi;rw[if_neg vq.o];unfold rA;rw[if_neg (by simp[hd])]];exact h5.nil ((aa.refl _ _).alloc _)
 ·have EC:Hid (iN g st=[((dq g st).2,(dq g {(dq g st).1 with next:=(dq g st).1.next+1}).2)]):=by show _=_;unfold iN;rw[if_neg vq.o,if_pos hd]
  refine(jz h4 _ xW (by rfl) (by decide) hd).mono ?_;rintro e w5 ⟨rfl,h5,cS⟩;go_wp2_with fail;refine(Tb h5 _ gA (by rfl) (by decide)).mono ?_;rintro e w6 ⟨rfl,h6,gQ⟩;go_wp2_with fail;refine(adW h6).mono ?_;rintro e w7 ⟨rfl,h7,iP⟩;by_cases az:(dq g {(dq g st).1 with next:=(dq g st).1.next+1}).2<(dq g st).2
  ·go_wp2_with fail
   refine(Iu h7 5 _ (by omega) hp).mono ?_;rintro e w8 ⟨rfl,h8,Hi⟩;go_wp2_with fail;go_ret;have kk:=((((((aU.trans aS).trans bm).trans dJ).trans cS).trans gQ).trans iP).trans Hi;refine⟨_,rfl,?_,by rw[EC.o];exact Kh kk _ _,kk.alloc _⟩;rw[show gi g st=(dq g {(dq g st).1 with next:=(dq g st).1.next+1}).1.eN 5 (rB g st) by unfold gi;rw[if_neg vq.o];unfold rA;rw[if_pos hd,if_pos az]];exact h8.nil ((aa.refl _ _).alloc _)
  ·go_wp2_with fail
   go_ret
   have kk:=(((((aU.trans aS).trans bm).trans dJ).trans cS).trans gQ).trans iP;refine⟨_,rfl,?_,by rw[EC.o];exact Kh kk _ _,kk.alloc _⟩;rw[show gi g st=(dq g {(dq g st).1 with next:=(dq g st).1.next+1}).1 by unfold gi;rw[if_neg vq.o];unfold rA;rw[if_pos hd,if_neg (Int.not_lt.2 az)]];exact h7.nil ((aa.refl _ _).alloc _)
theorem akS(h:aV w g fo st)(hb:aK gA (aC g st)=true)(hs:aK mJ (aC g {st with next:=st.next+1})=false):
 Calls prog 166 #[BT g.b 0] w fun e w'=>∃v,e=.returned v/\aV w' g fo (gi g st)/\w'.ownsRow w.heap.size 219 2 v (iN g st).length (dj (iN g st))/\aa g.ay w w':=by
 have hp:0<=rB g st/\rB g st<=300:=h.ni st.next
 have vq:Hid (¬(aK gA (aC g st)=true/\aK mJ (aC g {st with next:=st.next+1})=true)):=by show¬_;rw[hs];simp
 have ex:dq g st=l9 g true (fG g gA st):=by simp[dq,hb]
 have et:fG g gA st={st with next:=st.next+1}:=by simp[fG,hb]
 rw[et]at ex;clear et;have EX:Hid (dq g st=l9 g true {st with next:=st.next+1}):=ex;clear ex;go_in;go_wp2_with fail;refine(Su h).mono ?_;rintro e w1 ⟨rfl,h1,aU⟩;go_wp2_with fail;refine(jz h1 _ gA (by rfl) (by decide) hb).mono ?_;rintro e w2 ⟨rfl,h2,aS⟩;go_wp2_with fail;refine(nY h2).mono ?_;rintro e w3 ⟨rfl,h3,bm⟩;go_wp2_with fail;refine(jf h3 _ mJ (by rfl) (by decide) hs).mono ?_;rintro e w3' ⟨rfl,yW,CN⟩;go_wp2_with fail;refine(XT true yW).mono ?_;rintro e w4 ⟨rfl,h4,dJ⟩;rw[<-EX.o]at h4⊢;go_wp2_with fail
 cases hd:aK xW (aC g (dq g st).1)
 ·have EC:Hid (iN g st=[((dq g st).2,(dq g st).2)]):=by show _=_;unfold iN;rw[if_neg vq.o,if_neg (by rw[hd];simp)]
  refine(jf h4 _ xW (by rfl) (by decide) hd).mono ?_;rintro e w5 ⟨rfl,h5,cS⟩;go_wp2_with fail;go_ret;have kk:=((((aU.trans aS).trans bm).trans CN).trans dJ).trans cS;refine⟨_,rfl,?_,by rw[EC.o];exact Kh kk _ _,kk.alloc _⟩;rw[show gi g st=(dq g st).1 by unfold gi;rw[if_neg vq.o];unfold rA;rw[if_neg (by simp[hd])]];exact h5.nil ((aa.refl _ _).alloc _)
 ·have EC:Hid (iN g st=[((dq g st).2,(dq g {(dq g st).1 with next:=(dq g st).1.next+1}).2)]):=by show _=_;unfold iN;rw[if_neg vq.o,if_pos hd]
  refine(jz h4 _ xW (by rfl) (by decide) hd).mono ?_;rintro e w5 ⟨rfl,h5,cS⟩;go_wp2_with fail;refine(Tb h5 _ gA (by rfl) (by decide)).mono ?_;rintro e w6 ⟨rfl,h6,gQ⟩;go_wp2_with fail;refine(adW h6).mono ?_;rintro e w7 ⟨rfl,h7,iP⟩;by_cases az:(dq g {(dq g st).1 with next:=(dq g st).1.next+1}).2<(dq g st).2
  ·go_wp2_with fail
   refine(Iu h7 5 _ (by omega) hp).mono ?_;rintro e w8 ⟨rfl,h8,Hi⟩;go_wp2_with fail;go_ret;have kk:=(((((((aU.trans aS).trans bm).trans CN).trans dJ).trans cS).trans gQ).trans iP).trans Hi;refine⟨_,rfl,?_,by rw[EC.o];exact Kh kk _ _,kk.alloc _⟩;rw[show gi g st=(dq g {(dq g st).1 with next:=(dq g st).1.next+1}).1.eN 5 (rB g st) by unfold gi;rw[if_neg vq.o];unfold rA;rw[if_pos hd,if_pos az]];exact h8.nil ((aa.refl _ _).alloc _)
  ·go_wp2_with fail
   go_ret
   have kk:=((((((aU.trans aS).trans bm).trans CN).trans dJ).trans cS).trans gQ).trans iP;refine⟨_,rfl,?_,by rw[EC.o];exact Kh kk _ _,kk.alloc _⟩;rw[show gi g st=(dq g {(dq g st).1 with next:=(dq g st).1.next+1}).1 by unfold gi;rw[if_neg vq.o];unfold rA;rw[if_pos hd,if_neg (Int.not_lt.2 az)]];exact h7.nil ((aa.refl _ _).alloc _)
theorem ac2(h:aV w g fo st):
 Calls prog 166 #[BT g.b 0] w fun e w'=>∃v,e=.returned v/\aV w' g fo (gi g st)/\w'.ownsRow w.heap.size 219 2 v (iN g st).length (dj (iN g st))/\aa g.ay w w':=by
 cases hb:aK gA (aC g st)
 ·exact akT h hb
 ·cases hs:aK mJ (aC g {st with next:=st.next+1})
  ·exact akS h hb hs
  ·exact akU h hb hs
theorem ahE(h:aV w g fo st):
 Calls prog 132 #[BT g.b 0] w fun e w'=>∃q,e=.returned (Nv.val q)/\aV w' g fo (sD g st)/\cJ w' w.heap.size w'.heap.size q np (Me g fo st)/\aa g.ay w w':=by
 obtain⟨i0,cW,dm,du,de⟩:=Bo Tryz.J7;have xP:∀st:RS,-1<=aC g st/\aC g st<=1114111:=h.Ks
 have dc:=h.len;have bQ:∀i,w.heap.size<=i->¬g.ay i:=fun i hi hx=>by have:=h.ic hx;omega
 have ha:=h.nil ((aa.refl ai w).alloc (.cells bG.cells 64));have b0:=au.new w bG.cells 64;have ka:aa g.ay w (w.alloc (.cells bG.cells 64)):=(aa.refl _ w).alloc _;have s0:(w.alloc (.cells bG.cells 64)).heap.size=w.heap.size+1:=fP _ _;unfold sD Me;go_in;go_wp2_with fail;refine(Tb ha _ tF (by rfl) (by decide)).mono ?_;rintro e w1 ⟨rfl,h1,aU⟩;go_wp2_with fail;refine(ac2 h1).mono ?_;rintro e w2 ⟨v2,rfl,h2,nV,aS⟩;go_wp2_with fail;have acp:=(ka.trans aU).trans aS;have b2:=(b0.kept aU (bQ _ (Ab _))).kept aS (bQ _ (Ab _));have s1:=aU.size;have W8:=DR (base':=w.heap.size+1) nV (by omega);have V8:=aaS xP (fG g tF st);clear aU aS h1 ha nV b0 ka;generalize bD:gi g (fG g tF st)=dI at h2;have lS:Hid (gi g (fG g tF st)=dI):=bD;clear bD;generalize vU:iN g (fG g tF st)=Qe at W8 V8;have Zj:Hid (iN g (fG g tF st)=Qe):=vU;clear vU;go_loopg [4] (g.rs.length-dI.next) (fun k v wr=>∃aD m aF,aV wr g fo aD/\Hid (mM g m aD=mM g (g.rs.length+1) dI)/\Hid (rO g m aD aF=rO g (g.rs.length+1) dI Qe)/\k=g.rs.length-aD.next/\k<m/\aa g.ay w wr/\wr.ownsRow (w.heap.size+1) 219 2 v aF.length (dj aF)/\dH aF/\1<=aF.length/\aF.length<=4*aD.next+4/\au wr w.heap.size bG.cells 64)
 case atStart=>exact⟨dI,g.rs.length+1,Qe,h2,rfl,rfl,rfl,by omega,acp,W8,V8.1,V8.2.1,by omega,b2⟩
 case round=>
  obtain⟨aD,m,aF,hr,HP,HC,rfl,hm,hk,bC,kH,pD,uB,CG⟩:=hrel;have hle:=hr.next
  have Hj:=hk.size;clear h2 acp W8 b2;by_cases qd:aC g aD= -1\/aK qn (aC g aD)=true
  ·have Z9:Hid (aD=mM g (g.rs.length+1) dI):=by show _=_;rw[<-HP.o,amU g m aD qd]
   have ZF:Hid (aF=rO g (g.rs.length+1) dI Qe):=by show _=_;rw[<-HC.o,ahi g m aD aF qd]
   have aB:aF≠ []:=by intro e;subst e;simp at pD
   have kC:∀{wx:World},aV wx g fo aD->aa g.ay wr wx->True:=(fun _ _=>trivial);clear HP HC
   obtain⟨gb,rT,C_,zg,qS,jD,_⟩:=xx bC aB;by_cases gx:aC g aD= -1
   ·have hb:(aC g aD != -1)=false:=(by simp[gx]);clear gx qd;go_wp2_with fail;refine(nY hr).mono ?_;rintro e w3 ⟨rfl,h3,bm⟩;go_wp2_with fail;refine(tH h3 _ qn (by rfl) (by decide)).mono ?_;rintro e w4 ⟨rfl,h4,dJ⟩;have kk:=bm.trans dJ;have Rx:¬g.ay gb:=bQ _ (by omega);have V6:=jD.kept kk qS Rx;have b4:=CG.kept kk (bQ _ (Ab _));have wB:=hk.trans kk;have s4:=kk.size;try rw[C_]
    go_wp2_with fail
    refine(FX (cap:=rT) h4 (aK tF (aC g st)) V6 kH (by omega) aB (by omega)).mono ?_;rintro e w5 ⟨q,rfl,h5,Hv,cS⟩;have b5:=b4.kept cS (bQ _ (Ab _));obtain⟨e0,e1,e2,e3,e4,e5,e6,e7⟩:=b5.iq;obtain⟨g0,g1,g2,g3,g4,g5,g6,g7⟩:=b5.nZ;simp only[bG]at e0 e1 e2 e3 e4 e5 e6 e7;have qh:w.heap.size<w5.heap.size:=b5.lt;have sh:w.heap.size<w4.heap.size:=b4.lt;simp only[Nv.val,Nv.cells];go_wp2_with fail;have gw:=Om h h5 Hv (by omega) (Ab _) (wB.trans cS);have lD:=wN b5 q;simp only[gy]at gw lD;refine wJ (i:=2) (b:=w.heap.size) (q:=q) results132 ?_ ?_ ?_ ?_
    ·rfl
    ·rfl
    ·exact lD
    ·rw[lS.o,Zj.o,<-Z9.o,<-ZF.o];exact⟨_,rfl,gw⟩
   ·have hb:(aC g aD != -1)=true:=(by simp[gx]);have oK:aK qn (aC g aD)=true:=qd.resolve_left gx;clear gx qd;go_wp2_with fail;refine(nY hr).mono ?_;rintro e w3' ⟨rfl,yW,CN⟩;go_wp2_with fail;refine(yg yW _ qn (by rfl) (by decide)).mono ?_;rintro e w3 ⟨rfl,h3,ajP⟩;have bm:=CN.trans ajP;rw[oK];go_wp2_with fail;refine(tH h3 _ qn (by rfl) (by decide)).mono ?_;rintro e w4 ⟨rfl,h4,dJ⟩;have kk:=bm.trans dJ;have Rx:¬g.ay gb:=bQ _ (by omega);have V6:=jD.kept kk qS Rx;have b4:=CG.kept kk (bQ _ (Ab _));have wB:=hk.trans kk;have s4:=kk.size;try rw[C_]
    go_wp2_with fail
    refine(FX (cap:=rT) h4 (aK tF (aC g st)) V6 kH (by omega) aB (by omega)).mono ?_;rintro e w5 ⟨q,rfl,h5,Hv,cS⟩;have b5:=b4.kept cS (bQ _ (Ab _));obtain⟨e0,e1,e2,e3,e4,e5,e6,e7⟩:=b5.iq;obtain⟨g0,g1,g2,g3,g4,g5,g6,g7⟩:=b5.nZ;simp only[bG]at e0 e1 e2 e3 e4 e5 e6 e7;have qh:w.heap.size<w5.heap.size:=b5.lt;have sh:w.heap.size<w4.heap.size:=b4.lt;simp only[Nv.val,Nv.cells];go_wp2_with fail;have gw:=Om h h5 Hv (by omega) (Ab _) (wB.trans cS);have lD:=wN b5 q;simp only[gy]at gw lD;refine wJ (i:=2) (b:=w.heap.size) (q:=q) results132 ?_ ?_ ?_ ?_
    ·rfl
    ·rfl
    ·exact lD
    ·rw[lS.o,Zj.o,<-Z9.o,<-ZF.o];exact⟨_,rfl,gw⟩
  ·rw[not_or]at qd;have hb:(aC g aD != -1)=true:=(by simp[qd.1]);have az:=XE qd.1;have oK:aK qn (aC g aD)=false:=(by simpa using qd.2);clear qd;have JH:=aaS xP aD;go_wp2_with fail;refine(nY hr).mono ?_;rintro e w3 ⟨rfl,h3,bm⟩;go_wp2_with fail;refine(yg h3 _ qn (by rfl) (by decide)).mono ?_;rintro e w4 ⟨rfl,h4,dJ⟩;rw[oK];go_wp2_with fail;refine(ac2 h4).mono ?_;rintro e w5 ⟨v5,rfl,h5,ib,cS⟩;have kk:=(bm.trans dJ).trans cS;have tp:=X0 bC kk (fun b kZ hx=>by have:=(uV bC kZ).1;exact bQ b (by omega) hx);have V5:=CG.kept kk (bQ _ (Ab _));have hn:=X9 g aD (by omega);have l7:=hn.2.2 az;have aj1:iN g aD≠ []:=by intro e;rw[e]at JH;simp at JH
   have ET:Hid (mM g m aD=mM g (m-1) (gi g aD)/\rO g m aD aF=rO g (m-1) (gi g aD) (aF++iN g aD)):=by
    obtain⟨m',rfl⟩:∃m',m=m'+1:=⟨m-1,by omega⟩
    have GQ:¬(aC g aD= -1\/aK qn (aC g aD)=true):=by simp[oK];simpa using hb
    exact⟨by show(if _ then _ else _)=_;rw[if_neg GQ];rfl,by show(if _ then _ else _)=_;rw[if_neg GQ];rfl⟩
   have s5:=kk.size;generalize iN g aD=new at*;obtain⟨gb,rT,C_,zg,qS,jD,_⟩:=xx ib aj1;try rw[C_]
   go_wp2_with (at_builtin;refine Ao _ rfl _ _ 60 rfl (w.heap.size+1) 219 i0 _ 2 8 underlying60 cW dm du de rfl (by decide) _ aF.length _ rfl tp (GB gb 0) new.length rT (dj new) rfl (BF new) (aaZ jD) (abC new) ?c3 ?c4 ?c5 ?_)
   case c3=>unfold maxLen;omega
   case c4=>omega
   case c5=>have:=V5.lt;omega
   intro v' w7 bL cy eF cI;have k7:aa (fun i=>u4.ownBlock=some i) w5 w7:=(aa.refl _ w5).eP cy (fun j hj=>Or.inl hj);have gW:∀i,u4.ownBlock=some i->w.heap.size+1<=i:=(fun i hi=>(uV bC hi).1);have h7:=h5.new h k7 (fun i hi=>by have:=gW i hi;omega)
   have N4:=(hk.trans kk).b_ k7 (fun i hi he=>by have:=gW i he;omega);have ajo:=V5.kept k7 (fun he=>by have:=gW _ he;omega);have j0:w7.ownsRow (w.heap.size+1) 219 2 v' (aF++new).length (dj (aF++new)):=by rw[Mv,Aj];exact bL
   clear bL cy cI eF tp bC cS dJ bm kk k7 CG V5 jD ib;go_wp2_with fail;go_roundg (g.rs.length-(gi g aD).next)
   case measure=>omega
   case rel=>
    exact⟨gi g aD,m-1,aF++new,h7,(ET.o.1.symm.trans HP.o),(ET.o.2.symm.trans HC.o),rfl,by omega,N4,j0,kH.append JH.1,by simp;omega,by simp;omega,ajo⟩
theorem XC(w:World)(x y:Int):gj (w.alloc (.cells #[.int .i32 x,.int .i32 y] 219)) w.heap.size [(x,y)]:=by
 intro i hi;have e:i=0:=by simp at hi;omega
 subst e;exact⟨(au.new w #[.int .i32 x,.int .i32 y] 219).cell 0,(au.new w #[.int .i32 x,.int .i32 y] 219).cell 1⟩
theorem abe(r:Int):0<=sY r/\sY r<=3:=by
 unfold sY;split
 ·omega
 ·split
  ·omega
  ·split<;>omega
theorem QC(r:Int):aK rq r=(aK Ip r||(aK mJ r||(aK xX r||aK uN r))):=by
 have e:rq=Ip++[100,68,119,87,115,83,98,66]:=rfl;have h:aK rq r=(aK Ip r||aK [100,68,119,87,115,83,98,66] r):=by rw[e];unfold aK;rw[List.any_append]
 rw[h];congr 1;rw[Bi];simp[aK,mJ,xX,uN];omega
theorem amz{r:Int}(h:aK xX r=true):65<=r/\r<=90:=by
 simp[aK,xX]at h
 omega
theorem XM{l:List UInt8}(h:aK l (aC g st)=true):eY g l st={st with next:=st.next+1}:=by unfold eY;rw[if_pos h]
theorem aik(hR:aV w g fo st)(c1:aK uN (aC g st)=true):
 Calls prog 133 #[BT g.b 0] w fun e w'=>∃q,e=.returned (Nv.val q)/\aV w' g fo (eY g rq st)/\cJ w' w.heap.size w'.heap.size q np (ox fo (aC g st))/\aa g.ay w w':=by
 rw[XM (show aK rq (aC g st)=true by rw[QC,c1];simp),show ox fo (aC g st)=vH (sY (aC g st)) by unfold ox;rw[if_pos c1]];have bQ:∀i,w.heap.size<=i->¬g.ay i:=fun i hi hx=>by have:=hR.ic hx;omega
 have xP:∀st:RS,-1<=aC g st/\aC g st<=1114111:=hR.Ks
 have ha:=hR.nil ((aa.refl ai w).alloc (.cells bG.cells 64));have b0:=au.new w bG.cells 64;have ka:aa g.ay w (w.alloc (.cells bG.cells 64)):=(aa.refl _ w).alloc _;have s0:(w.alloc (.cells bG.cells 64)).heap.size=w.heap.size+1:=fP _ _;go_in;go_wp2_with fail;refine(nY ha).mono ?_;rintro e w1 ⟨rfl,h1,aU⟩;go_wp2_with fail;refine(jz h1 _ uN (by rfl) (by decide) c1).mono ?_;rintro e w2 ⟨rfl,h2,aS⟩;go_wp2_with fail;refine(abf _ _).mono ?_;rintro e w3 ⟨rfl,rfl⟩;have kk:=(ka.trans aU).trans aS;have bz:=(b0.kept aU (bQ _ (Ab _))).kept aS (bQ _ (Ab _));have qX:=cJ.eM w3 (w.heap.size+1) w3.heap.size (sY (aC g st)) (abe _);obtain⟨e0,e1,e2,e3,e4,e5,e6,e7⟩:=bz.iq;obtain⟨g0,g1,g2,g3,g4,g5,g6,g7⟩:=bz.nZ;simp only[bG]at e0 e1 e2 e3 e4 e5 e6 e7;have qh:w.heap.size<w3.heap.size:=bz.lt;go_wp2_with fail;exact It (i:=2) hR h2 qX (by omega) (Ab _) kk bz results133 rfl rfl (fun _ _ h=>h)
theorem aio(hR:aV w g fo st)(c1:aK uN (aC g st)=false)(c2:aK mJ (aC g st)=true):
 Calls prog 133 #[BT g.b 0] w fun e w'=>∃q,e=.returned (Nv.val q)/\aV w' g fo (eY g rq st)/\cJ w' w.heap.size w'.heap.size q np (ox fo (aC g st))/\aa g.ay w w':=by
 rw[XM (show aK rq (aC g st)=true by rw[QC,c2];simp),show ox fo (aC g st)=mx (mi (aC g st)) fo false by unfold ox;rw[if_neg (by rw[c1];simp),if_pos c2]];have bQ:∀i,w.heap.size<=i->¬g.ay i:=fun i hi hx=>by have:=hR.ic hx;omega
 have xP:∀st:RS,-1<=aC g st/\aC g st<=1114111:=hR.Ks
 have ha:=hR.nil ((aa.refl ai w).alloc (.cells bG.cells 64));have b0:=au.new w bG.cells 64;have ka:aa g.ay w (w.alloc (.cells bG.cells 64)):=(aa.refl _ w).alloc _;have s0:(w.alloc (.cells bG.cells 64)).heap.size=w.heap.size+1:=fP _ _;go_in;go_wp2_with fail;refine(nY ha).mono ?_;rintro e w1 ⟨rfl,h1,aU⟩;go_wp2_with fail;refine(jf h1 _ uN (by rfl) (by decide) c1).mono ?_;rintro e w2 ⟨rfl,h2,aS⟩;go_wp2_with fail;refine(jz h2 _ mJ (by rfl) (by decide) c2).mono ?_;rintro e w3 ⟨rfl,h3,bm⟩;go_wp2_with fail;have kk:=((ka.trans aU).trans aS).trans bm;have b3:=((b0.kept aU (bQ _ (Ab _))).kept aS (bQ _ (Ab _))).kept bm (bQ _ (Ab _));refine(SL _ w3).mono ?_;rintro e w6 ⟨v,rfl,hv,gQ⟩;have bD:=SM (aC g st);obtain⟨gb,rT,C_,zg,qS,jD,_⟩:=xx hv (by intro e;rw[e]at bD;simp at bD);have NY:=kk.trans (gQ.mono (fun _ hx=>hx.elim));have b6:=b3.kept gQ (fun hx=>hx);have s6:=NY.size;try rw[C_]
 go_wp2_with fail
 refine(FX (cap:=rT) (h3.nil gQ) false jD bD.1 (by omega) (by intro e;rw[e]at bD;simp at bD) qS).mono ?_;rintro e wz ⟨q,rfl,hz,qX,tj⟩;have bz:=b6.kept tj (bQ _ (Ab _));have kz:=NY.trans tj;have sh:w.heap.size<w6.heap.size:=b6.lt;obtain⟨e0,e1,e2,e3,e4,e5,e6,e7⟩:=bz.iq;obtain⟨g0,g1,g2,g3,g4,g5,g6,g7⟩:=bz.nZ;simp only[bG]at e0 e1 e2 e3 e4 e5 e6 e7;have qh:w.heap.size<wz.heap.size:=bz.lt;simp only[Nv.val,Nv.cells];go_wp2_with fail;exact It (i:=2) hR hz qX (by omega) (Ab _) kz bz results133 rfl rfl (fun _ _ h=>h)
theorem ail(hR:aV w g fo st)(c1:aK uN (aC g st)=false)(c2:aK mJ (aC g st)=false)(c3:aK xX (aC g st)=true):
 Calls prog 133 #[BT g.b 0] w fun e w'=>∃q,e=.returned (Nv.val q)/\aV w' g fo (eY g rq st)/\cJ w' w.heap.size w'.heap.size q np (ox fo (aC g st))/\aa g.ay w w':=by
 rw[XM (show aK rq (aC g st)=true by rw[QC,c3];simp),show ox fo (aC g st)=mx (mi (aC g st+32)) fo true by unfold ox;rw[if_neg (by rw[c1];simp),if_neg (by rw[c2];simp),if_pos c3]];have bQ:∀i,w.heap.size<=i->¬g.ay i:=fun i hi hx=>by have:=hR.ic hx;omega
 have xP:∀st:RS,-1<=aC g st/\aC g st<=1114111:=hR.Ks
 have ha:=hR.nil ((aa.refl ai w).alloc (.cells bG.cells 64));have b0:=au.new w bG.cells 64;have ka:aa g.ay w (w.alloc (.cells bG.cells 64)):=(aa.refl _ w).alloc _;have s0:(w.alloc (.cells bG.cells 64)).heap.size=w.heap.size+1:=fP _ _;go_in;go_wp2_with fail;refine(nY ha).mono ?_;rintro e w1 ⟨rfl,h1,aU⟩;go_wp2_with fail;refine(jf h1 _ uN (by rfl) (by decide) c1).mono ?_;rintro e w2 ⟨rfl,h2,aS⟩;go_wp2_with fail;refine(jf h2 _ mJ (by rfl) (by decide) c2).mono ?_;rintro e w3 ⟨rfl,h3,bm⟩;go_wp2_with fail;refine(jz h3 _ xX (by rfl) (by decide) c3).mono ?_;rintro e w4 ⟨rfl,h4,dJ⟩;go_wp2_with fail;have kk:=(((ka.trans aU).trans aS).trans bm).trans dJ;have b4:=(((b0.kept aU (bQ _ (Ab _))).kept aS (bQ _ (Ab _))).kept bm (bQ _ (Ab _))).kept dJ (bQ _ (Ab _));refine(apy _ w4 (amz c3)).mono ?_;rintro e w5 ⟨rfl,rfl⟩;go_wp2_with fail;refine(SL _ w5).mono ?_;rintro e w6 ⟨v,rfl,hv,gQ⟩;have bD:=SM (aC g st+32);obtain⟨gb,rT,C_,zg,qS,jD,_⟩:=xx hv (by intro e;rw[e]at bD;simp at bD);have NY:=kk.trans (gQ.mono (fun _ hx=>hx.elim));have b6:=b4.kept gQ (fun hx=>hx);have s6:=NY.size;try rw[C_]
 go_wp2_with fail
 refine(FX (cap:=rT) (h4.nil gQ) true jD bD.1 (by omega) (by intro e;rw[e]at bD;simp at bD) qS).mono ?_;rintro e wz ⟨q,rfl,hz,qX,tj⟩;have bz:=b6.kept tj (bQ _ (Ab _));have kz:=NY.trans tj;have sh:w.heap.size<w6.heap.size:=b6.lt;obtain⟨e0,e1,e2,e3,e4,e5,e6,e7⟩:=bz.iq;obtain⟨g0,g1,g2,g3,g4,g5,g6,g7⟩:=bz.nZ;simp only[bG]at e0 e1 e2 e3 e4 e5 e6 e7;have qh:w.heap.size<wz.heap.size:=bz.lt;simp only[Nv.val,Nv.cells];go_wp2_with fail;exact It (i:=2) hR hz qX (by omega) (Ab _) kz bz results133 rfl rfl (fun _ _ h=>h)
theorem ain(hR:aV w g fo st)(c1:aK uN (aC g st)=false)(c2:aK mJ (aC g st)=false)(c3:aK xX (aC g st)=false):
 Calls prog 133 #[BT g.b 0] w fun e w'=>∃q,e=.returned (Nv.val q)/\aV w' g fo (eY g rq st)/\cJ w' w.heap.size w'.heap.size q np (ox fo (aC g st))/\aa g.ay w w':=by
 rw[show eY g rq st=eY g Ip st by unfold eY;rw[QC,c1,c2,c3];simp,show ox fo (aC g st)=mx [(qN (aC g st),qN (aC g st))] fo false by unfold ox;rw[if_neg (by rw[c1];simp),if_neg (by rw[c2];simp),if_neg (by rw[c3];simp)]];have bQ:∀i,w.heap.size<=i->¬g.ay i:=fun i hi hx=>by have:=hR.ic hx;omega
 have xP:∀st:RS,-1<=aC g st/\aC g st<=1114111:=hR.Ks
 have ha:=hR.nil ((aa.refl ai w).alloc (.cells bG.cells 64));have b0:=au.new w bG.cells 64;have ka:aa g.ay w (w.alloc (.cells bG.cells 64)):=(aa.refl _ w).alloc _;have s0:(w.alloc (.cells bG.cells 64)).heap.size=w.heap.size+1:=fP _ _;have WR:=abq (xP st);generalize her:qN (aC g st)=er at WR⊢;have HER:Hid (qN (aC g st)=er):=her;clear her;go_in;go_wp2_with fail;refine(nY ha).mono ?_;rintro e w1 ⟨rfl,h1,aU⟩;go_wp2_with fail;refine(jf h1 _ uN (by rfl) (by decide) c1).mono ?_;rintro e w2 ⟨rfl,h2,aS⟩;go_wp2_with fail;refine(jf h2 _ mJ (by rfl) (by decide) c2).mono ?_;rintro e w3 ⟨rfl,h3,bm⟩;go_wp2_with fail;refine(jf h3 _ xX (by rfl) (by decide) c3).mono ?_;rintro e w4 ⟨rfl,h4,dJ⟩;go_wp2_with fail;have kk:=(((ka.trans aU).trans aS).trans bm).trans dJ;have b4:=(((b0.kept aU (bQ _ (Ab _))).kept aS (bQ _ (Ab _))).kept bm (bQ _ (Ab _))).kept dJ (bQ _ (Ab _));refine(abr h4).mono ?_;rintro e w5 ⟨rfl,h5,cS⟩;have kk5:=kk.trans cS;have b5:=b4.kept cS (bQ _ (Ab _));rw[HER.o];go_wp2_with fail;have fC:=XC w5 er er;have ba:=b5.alloc (.cells #[.int .i32 er,.int .i32 er] 219);have kka:=kk5.alloc (.cells #[.int .i32 er,.int .i32 er] 219);have sa:=fP w5 (.cells #[.int .i32 er,.int .i32 er] 219);have sh:w.heap.size<w5.heap.size:=b5.lt;refine(FX (l:=[(er,er)]) (cap:=1) (h5.nil ((aa.refl ai w5).alloc (.cells #[.int .i32 er,.int .i32 er] 219))) false fC (dH.one WR WR) (by simp) (by simp) (by omega)).mono ?_;rintro e wz ⟨q,rfl,hz,qX,tj⟩;have bz:=ba.kept tj (bQ _ (Ab _));have kz:=kka.trans tj;obtain⟨e0,e1,e2,e3,e4,e5,e6,e7⟩:=bz.iq;obtain⟨g0,g1,g2,g3,g4,g5,g6,g7⟩:=bz.nZ;simp only[bG]at e0 e1 e2 e3 e4 e5 e6 e7;have qh:w.heap.size<wz.heap.size:=bz.lt;simp only[Nv.val,Nv.cells];go_wp2_with fail;exact It (i:=2) hR hz qX (by omega) (Ab _) kz bz results133 rfl rfl (fun _ _ h=>h)
theorem aim(hR:aV w g fo st):
 Calls prog 133 #[BT g.b 0] w fun e w'=>∃q,e=.returned (Nv.val q)/\aV w' g fo (eY g rq st)/\cJ w' w.heap.size w'.heap.size q np (ox fo (aC g st))/\aa g.ay w w':=by
 cases c1:aK uN (aC g st)
 ·cases c2:aK mJ (aC g st)
  ·cases c3:aK xX (aC g st)
   ·exact ain hR c1 c2 c3
   ·exact ail hR c1 c2 c3
  ·exact aio hR c1 c2
 ·exact aik hR c1
