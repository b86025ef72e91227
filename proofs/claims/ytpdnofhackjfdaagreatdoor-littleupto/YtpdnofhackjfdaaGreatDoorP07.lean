/- The reader of th -/
import Derived.Test.YtpdnofhackjfdaaGreatDoorP06
set_option linter.all false
set_option maxRecDepth 100000
set_option maxHeartbeats 16000000
namespace Go.Proofs.YtpdnofhackjfdaaGreatDoor
open Go.Proofs.Tryz
open Go.RowKit Go.Maps
variable {a:Act} {fo ry fo2:Bool} {CA:CT} {Q:Ending->World->Prop} {f:Func} {H L gr:Int} {b b2 hi i k lo:Nat} {q:Nv} {A:PT} {g:RG} {ST st k_:RS} {t:TypeId} {w w1 w2 w4 wz:World}
def Hz(g:RG)(k:Nat):Prop:=∀(w:World) (fo:Bool) (st:RS),aS w g fo st->g.rs.length-st.next<k->
 Calls prog 56 #[.pointer (some ⟨g.b,0,none⟩)] w fun e w'=>∃q,e=.returned (Nv.val q)/\aS w' g fo (aQ g k st).1/\cI w' w.heap.size w'.heap.size q (aQ g k st).2 (dh g k fo st)/\aa g.au w w'
theorem adz(g:RG)(st:RS)(h:st.next<=g.rs.length):st.next<=(iu g st).next/\(iu g st).next<=g.rs.length:=by
 unfold iu
 cases hq:aG ic (ay g st)
 ·simp;exact h
 ·have h1:=j0 hq;simp only[Bool.true_eq_false,if_false]
  cases hl:aG CG (ay g {st with next:=st.next+1})
  ·have h2:=JY g lI {st with next:=st.next+1} (by simp;omega);have h3:=xu g G6 _ h2.2;simp at*;omega
  ·have h2:=j0 hl;simp only at h2;have h3:=amt g {st with next:=st.next+2,aR:=st.aR+1} (by simp;omega);simp at*;omega
theorem acZ(h:aS w g fo st)(hg:st.aR<st.next):
 Calls prog 164 #[.pointer (some ⟨g.b,0,none⟩)] w fun e w'=>e=.returned (.int .i64 ((st.aR:Int)+1))/\aS w' g fo {st with aR:=st.aR+1}/\aa g.au w w':=by
 have c5:w.cell? ⟨g.b,5,none⟩=some (.int .i64 st.aR):=h.aj.cell 5;have f5:=h.aj.frozen 5;have hl:=h.len;have hn:=h.next
 go_in
 go_wp2
 go_ret
 have:=h.anZ (st.aR+1) (by omega) (by omega);exact⟨rfl,by simpa using this,by simpa using yT g 5 (.int .i64 ((st.aR:Int)+1))⟩
def Hw:Nv:=⟨2,none,0,0,none,0,0,0,0,0,0,false⟩
def Hv(gr:Int):Nv:=⟨2,none,0,0,none,0,0,0,gr,0,0,false⟩
def ED(w:World):World:=(w.alloc (.cells bB.cells 64)).alloc (.cells Hw.cells 64)
theorem Z3(w:World)(S:Nat->Prop):aa S w (ED w):=((aa.refl S w).alloc _).alloc _
theorem agm(w:World):(ED w).heap.size=w.heap.size+2:=by simp[ED]
theorem agk(w:World):aq (ED w) w.heap.size bB.cells 64:=(aq.new w _ _).alloc _
theorem agl(w:World):aq (ED w) (w.heap.size+1) Hw.cells 64:=by
 have:=aq.new (w.alloc (.cells bB.cells 64)) Hw.cells 64;rw[fO]at this;exact this
theorem ae2(h:aq w b Hw.cells t)(gr:Int):aq (w.setCell ⟨b,4,none⟩ (.int .i64 gr)) b (Hv gr).cells t:=by
 have:=h.setCell 4 (.int .i64 gr);rw[show Hw.cells.setIfInBounds 4 (.int .i64 gr)=(Hv gr).cells by simp[Nv.cells,Hw,Hv]]at this;exact this
theorem alR(h:aq w b (Hv gr).cells t):aq (w.setCell ⟨b,1,none⟩ (.slice (some ⟨b2,0,none⟩) 1 1)) b (oM 2 b2 1 gr 0 0 false).cells t:=by
 have:=h.setCell 1 (.slice (some ⟨b2,0,none⟩) 1 1);rw[show(Hv gr).cells.setIfInBounds 1 (.slice (some ⟨b2,0,none⟩) 1 1)=(oM 2 b2 1 gr 0 0 false).cells by simp[Nv.cells,Hv,oM]]at this;exact this
theorem agi{T:PT}{C:CT}(h:aS w g fo st)(h4:aS w4 g fo2 k_)(pR:w.heap.size+2<=w1.heap.size)
 (hp:cI w2 w1.heap.size w2.heap.size q T C)(ab5:w1.heap.size<=w2.heap.size)(k1:aa g.au w w4)(k2:aa (fun i=>g.au i\/i=w.heap.size+1) w2 w4)(bq:aq w4 w2.heap.size q.cells 64)(dN:0<=gr/\gr<=300):
 aS (ga (w4.setCell ⟨g.b,4,none⟩ (.bool fo)) w.heap.size (oM 2 w2.heap.size 1 gr 0 0 false)) g fo k_/\
 cI (ga (w4.setCell ⟨g.b,4,none⟩ (.bool fo)) w.heap.size (oM 2 w2.heap.size 1 gr 0 0 false)) w.heap.size (ga (w4.setCell ⟨g.b,4,none⟩ (.bool fo)) w.heap.size (oM 2 w2.heap.size 1 gr 0 0 false)).heap.size (oM 2 w2.heap.size 1 gr 0 0 false) (.node 1 [T] 0 0) (.node 2 [] false false 0 gr 0 0 false [C])/\
 aa g.au w (ga (w4.setCell ⟨g.b,4,none⟩ (.bool fo)) w.heap.size (oM 2 w2.heap.size 1 gr 0 0 false)):=by
 have h5:=h4.Xl fo;have k5:aa g.au w4 (w4.setCell ⟨g.b,4,none⟩ (.bool fo)):=yT g 4 _;generalize w4.setCell ⟨g.b,4,none⟩ (.bool fo)=w5 at*;generalize hQ:oM 2 w2.heap.size 1 gr 0 0 false=Q;have sz:=Nt w5 w.heap.size Q;have kq:=JO w5 w.heap.size Q;have s5:=k5.size;have O5:=bq.lt;refine⟨h5.new h kq (fun i hi=>by omega),?_,(k1.trans k5).bZ kq (fun i hi he=>by omega)⟩;rw[<-hQ]at*;refine cI.wrap (S:=fun i=>g.au i\/i=w.heap.size\/i=w.heap.size+1) (q:=q) hp (Ab _) (((k2.mono (fun i hi=>by rcases hi with hi|hi;exact Or.inl hi;exact Or.inr (Or.inr hi))).trans (k5.mono (fun i hi=>Or.inl hi))).trans (kq.mono (fun i hi=>Or.inr (Or.inl hi)))) (fun i hi=>?_) ((bq.kept k5 (fun hx=>by have:=h.gR hx;omega)).kept kq (by omega)) (by omega) (by omega) ⟨by omega,by omega⟩ ⟨by omega,by omega,dN⟩ (Or.inl ⟨rfl,rfl⟩);rcases hi with hi|hi|hi
 ·have:=h.gR hi;omega
 ·omega
 ·omega
structure H5(g:RG)(fo:Bool)(st:RS)(k:Nat)(H:RS)(F:Bool)(GR:Int):Prop where
 h:iu g st=H
 c:sC g (dh g k) fo st=.node 2 [] false false 0 GR 0 0 false [dh g k F H]
 r:0<=GR/\GR<=300
 n:g.rs.length-H.next<k
theorem H5.fZ{F:Bool}{H:RS}{GR:Int}(E:H5 g fo st k H F GR)(h:aS w g fo st)(h4:aS w4 g fo2 (eM g JD (aQ g k H).1))(pR:w.heap.size+2<=w1.heap.size)
 (hp:cI w2 w1.heap.size w2.heap.size q (aQ g k H).2 (dh g k F H))(ab5:w1.heap.size<=w2.heap.size)(k1:aa g.au w w4)(k2:aa (fun i=>g.au i\/i=w.heap.size+1) w2 w4)(bq:aq w4 w2.heap.size q.cells 64)(t0:aq w4 w.heap.size bB.cells 64)
 (mw:f.results=#[ResultVar.cell i 64])(sZ:a.tmps.getD i undef=.pointer (some ⟨w.heap.size,0,none⟩))(hd:a.defers=[])
 (hQ:∀e w',(∃q,e=.returned (Nv.val q)/\aS w' g fo (vU g (aQ g k) st).1/\cI w' w.heap.size w'.heap.size q (vU g (aQ g k) st).2 (sC g (dh g k) fo st)/\aa g.au w w')->Q e w'):bodyPost prog f Q Exit.ret a (ga (w4.setCell ⟨g.b,4,none⟩ (.bool fo)) w.heap.size (oM 2 w2.heap.size 1 GR 0 0 false)):=by
 refine vQ (i:=i) (b:=w.heap.size) (q:=oM 2 w2.heap.size 1 GR 0 0 false) mw sZ hd (vV (t0.kept (yT g 4 (.bool fo)) (fun hx=>by have:=h.gR hx;omega)) _) (hQ _ _ ?_);unfold vU;rw[E.h,E.c];exact⟨_,rfl,agi (fo:=fo) h h4 pR hp ab5 k1 k2 bq E.r⟩
theorem aS.aaR(h:aS w g fo st):w.cell? ⟨g.b,4,none⟩=some (.bool fo)/\w.frozen? ⟨g.b,4,none⟩=false:=⟨h.aj.cell 4,h.aj.frozen 4⟩
theorem agj(hA:Hz g k)(hR:aS w g fo st)(hg:st.aR<st.next)(Vy:g.rs.length-st.next<k):
 Calls prog 131 #[.pointer (some ⟨g.b,0,none⟩)] w fun e w'=>∃q,e=.returned (Nv.val q)/\aS w' g fo (vU g (aQ g k) st).1/\cI w' w.heap.size w'.heap.size q (vU g (aQ g k) st).2 (sC g (dh g k) fo st)/\aa g.au w w':=by
 have Vx:=adz g st hR.next
 have hl:=hR.len;have lQ:=hR.next
 have Mt:=hR.names;have bM:∀i,w.heap.size<=i->¬g.au i:=fun i hi hx=>by have:=hR.gR hx;omega
 have ha:=hR.nil (Z3 w af);have ka:=Z3 w g.au;have sb:=agm w;have x0:=agk w;have x1:=agl w;have c4:(ED w).cell? ⟨g.b,4,none⟩=some (.bool fo):=ha.aj.cell 4;simp only[ED,Nv.cells,bB,Hw]at c4;go_in;go_wp2_with fail
 cases hq:aG ic (ay g st)
 case' false=>
  have EQ:Hid (H5 g fo st k {st with aR:=st.aR+1} fo ((st.aR:Int)+1)):=⟨by simp[iu,hq],by unfold sC;rw[if_pos hq];simp[iu,hq],by omega,by simp;omega⟩;refine(ja ha _ ic (by rfl) (by decide) hq).mono ?_;rintro e w1 ⟨rfl,h1,aU⟩;go_wp2_with fail;refine(acZ h1 hg).mono ?_;rintro e zn ⟨rfl,gO,t_⟩;have kk:=(ka.trans aU).trans t_;have o1:=(x1.kept aU (bM _ (by omega))).kept t_ (bM _ (by omega));have o0:=(x0.kept aU (bM _ (by omega))).kept t_ (bM _ (by omega));have d4:zn.cell? ⟨w.heap.size+1,4,none⟩=some (.int .i64 0):=o1.cell 4;have f4:=o1.frozen 4;have n1:=ae2 o1 ((st.aR:Int)+1);have CF:aa (fun i=>i=w.heap.size+1) zn (zn.setCell ⟨w.heap.size+1,4,none⟩ (.int .i64 ((st.aR:Int)+1))):=(aa.refl (fun i=>i=w.heap.size+1) zn).setCell (p:=⟨w.heap.size+1,4,none⟩) (Or.inl rfl) _;have n0:=o0.kept CF (by omega);have cU:=gO.new hR CF (fun i hi=>by omega);have kn:=kk.bZ CF (fun i hi he=>by omega)
 case' true=>
  have hlq:=j0 hq;refine(js ha _ ic (by rfl) (by decide) hq).mono ?_;rintro e wa ⟨rfl,h1a,abG⟩;go_wp2_with fail
  cases hs:aG CG (ay g {st with next:=st.next+1})
  case' true=>
   have sS:=j0 hs;simp only at sS
   have EQ:Hid (H5 g fo st k (pz g {st with next:=st.next+1+1,aR:=st.aR+1}) fo ((st.aR:Int)+1)):=by
    have e:iu g st=pz g {st with next:=st.next+1+1,aR:=st.aR+1}:=(by simp[iu,hq,hs]);exact⟨e,by unfold sC;rw[if_neg (by rw[hq];simp),if_pos hs,e],by omega,by rw[<-e];omega⟩
   refine(js h1a _ CG (by rfl) (by decide) hs).mono ?_;rintro e w1 ⟨rfl,h1,Vb⟩;have aU:=abG.trans Vb;go_wp2_with fail;refine(acZ h1 (by simp;omega)).mono ?_;rintro e zn ⟨rfl,gO,t_⟩;have kk:=(ka.trans aU).trans t_;have o1:=(x1.kept aU (bM _ (by omega))).kept t_ (bM _ (by omega));have o0:=(x0.kept aU (bM _ (by omega))).kept t_ (bM _ (by omega));have d4:zn.cell? ⟨w.heap.size+1,4,none⟩=some (.int .i64 0):=o1.cell 4;have f4:=o1.frozen 4;have n1a:=ae2 o1 ((st.aR:Int)+1);have CF:aa (fun i=>i=w.heap.size+1) zn (zn.setCell ⟨w.heap.size+1,4,none⟩ (.int .i64 ((st.aR:Int)+1))):=(aa.refl (fun i=>i=w.heap.size+1) zn).setCell (p:=⟨w.heap.size+1,4,none⟩) (Or.inl rfl) _;have n0a:=o0.kept CF (by omega);have abV:=gO.new hR CF (fun i hi=>by omega);have kna:=kk.bZ CF (fun i hi he=>by omega);have sk:=aU.size;have sk':=t_.size;have aqW:=CF.size;go_wp2_with fail;refine(alm abV (by omega) (by simp;omega)).mono ?_;rintro e wn ⟨rfl,cU,rH⟩;have n1:=n1a.kept rH (bM _ (by omega));have n0:=n0a.kept rH (bM _ (by omega));have kn:=kna.trans rH
  case' false=>
   refine(ja h1a _ CG (by rfl) (by decide) hs).mono ?_;rintro e wb ⟨rfl,h1b,Vb⟩;go_wp2_with fail
   cases hi:aG lI (ay g {st with next:=st.next+1})
   case' false=>
    have EQ:Hid (H5 g fo st k (eM g G6 {st with next:=st.next+1}) fo 0):=by
     have e:iu g st=eM g G6 {st with next:=st.next+1}:=(by simp[iu,hq,hs,fq,hi]);exact⟨e,by unfold sC;rw[if_neg (by rw[hq];simp),if_neg (by rw[hs];simp),hi,e];simp only[Bool.false_or],by omega,by rw[<-e];omega⟩
    refine(ja h1b _ lI (by rfl) (by decide) hi).mono ?_;rintro e w1 ⟨rfl,h1,abH⟩;have hsf:=h1.Xl fo;have QP:aa g.au w1 (w1.setCell ⟨g.b,4,none⟩ (.bool fo)):=yT g 4 _
   case' true=>
    have EQ:Hid (H5 g fo st k (eM g G6 {st with next:=st.next+1+1}) true 0):=by
     have e:iu g st=eM g G6 {st with next:=st.next+1+1}:=(by simp[iu,hq,hs,fq,hi]);exact⟨e,by unfold sC;rw[if_neg (by rw[hq];simp),if_neg (by rw[hs];simp),hi,e];simp only[Bool.true_or],by omega,by rw[<-e];omega⟩
    refine(js h1b _ lI (by rfl) (by decide) hi).mono ?_;rintro e w1 ⟨rfl,h1,abH⟩;have hsf:=h1.Xl true;have QP:aa g.au w1 (w1.setCell ⟨g.b,4,none⟩ (.bool true)):=yT g 4 _
   all_goals
    have aU:=(abG.trans Vb).trans abH;have kk:=ka.trans aU;obtain⟨c4a,f4a⟩:=h1.aaR;have o1:=x1.kept aU (bM _ (by omega));have o0:=x0.kept aU (bM _ (by omega));go_wp2_with fail;refine(tn hsf _ G6 (by rfl) (by decide)).mono ?_;rintro e wn ⟨rfl,cU,rH⟩;have n1:aq wn (w.heap.size+1) (Hv 0).cells 64:=(o1.kept QP (bM _ (by omega))).kept rH (bM _ (by omega));have n0:=(o0.kept QP (bM _ (by omega))).kept rH (bM _ (by omega));have kn:=(kk.trans QP).trans rH
 all_goals
  clear x0 x1 ha o0 o1;go_wp2_with fail;have sz1:=kn.size;have szn:=n1.lt;refine(hA _ _ _ cU EQ.o.n).mono ?_;rintro e w2 ⟨q,rfl,h2,hp,aN⟩;have y1:=n1.kept aN (bM _ (by omega));have y0:=n0.kept aN (bM _ (by omega));have d1:w2.cell? ⟨w.heap.size+1,1,none⟩=some (.slice none 0 0):=y1.cell 1;have f1:=y1.frozen 1;have s2:=aN.size;have aqo:w.heap.size+1<w2.heap.size:=y1.lt;have z1:=(alR (b2:=w2.heap.size) y1).alloc (.cells q.cells 64);have akx:aa (fun i=>i=w.heap.size+1) w2 (w2.setCell ⟨w.heap.size+1,1,none⟩ (.slice (some ⟨w2.heap.size,0,none⟩) 1 1)):=(aa.refl (fun i=>i=w.heap.size+1) w2).setCell (p:=⟨w.heap.size+1,1,none⟩) (Or.inl rfl) _;have MX:=akx.alloc (.cells q.cells 64);have z0:=y0.kept MX (by omega);have ssz:(w2.setCell ⟨w.heap.size+1,1,none⟩ (.slice (some ⟨w2.heap.size,0,none⟩) 1 1)).heap.size=w2.heap.size:=by simp[World.setCell]
  have zq:=aq.new (w2.setCell ⟨w.heap.size+1,1,none⟩ (.slice (some ⟨w2.heap.size,0,none⟩) 1 1)) q.cells 64;rw[ssz]at zq;have h3:=h2.new hR MX (fun i hi=>by omega);have kF:=kn.trans aN;have G5:=kF.bZ MX (fun i hi he=>by omega);clear y0 y1;simp only[Nv.val,Nv.cells];go_wp2_with fail;refine(tn h3 _ JD (by rfl) (by decide)).mono ?_;rintro e w4 ⟨rfl,h4,dC⟩;have t1:=z1.kept dC (bM _ (by omega));have t0:=z0.kept dC (bM _ (by omega));have tq:=zq.kept dC (bM _ (by omega));have MR:aa (fun i=>g.au i\/i=w.heap.size+1) w2 w4:=(MX.mono (fun i hi=>Or.inr hi)).trans (dC.mono (fun i hi=>Or.inl hi));have vK:=G5.trans dC;have s4:=dC.size;have sa3:=MX.size;obtain⟨c4',f4'⟩:=h4.aaR;have kT:g.b<w.heap.size:=hR.O5;obtain⟨p0,p1,p2,p3,p4,p5,p6,p7⟩:=t1.gZ;obtain⟨e0,e1,e2,e3,e4,e5,e6,e7⟩:=t0.gZ;obtain⟨g0,g1,g2,g3,g4,g5,g6,g7⟩:=t0.nU;simp only[bB,oM]at e0 e1 e2 e3 e4 e5 e6 e7 p0 p1 p2 p3 p4 p5 p6 p7;have pO:w.heap.size<w4.heap.size:=t0.lt;have rJ:w.heap.size+1<w4.heap.size:=t1.lt;have aqq:g.b≠w.heap.size:=by omega
  have aqr:g.b≠w.heap.size+1:=by omega
  go_wp2_with fail
  exact EQ.o.fZ (i:=2) hR h4 (by omega) hp s2 vK MR tq t0 results131 rfl rfl (fun e w' h=>h)
def lW(b:Nat)(l h:Int)(lz:Bool):Nv:=oM 5 b 1 0 l h lz
def Nx(w:World)(q:Nv):World:=
 (((w.alloc (.cells q.cells 64)).alloc (.cells bB.cells 64)).alloc (.cells q.cells 64)).alloc (.cells (lW (w.heap.size+1+1) 0 0 false).cells 64)
theorem ad_(w:World)(q:Nv)(S:Nat->Prop):aa S w (Nx w q):=((((aa.refl S w).alloc _).alloc _).alloc _).alloc _
theorem anu(w:World)(q:Nv):aq (Nx w q) w.heap.size q.cells 64:=(((aq.new w _ _).alloc _).alloc _).alloc _
theorem anv(w:World)(q:Nv):aq (Nx w q) (w.heap.size+1) bB.cells 64:=by
 have:=((aq.new (w.alloc (.cells q.cells 64)) bB.cells 64).alloc (.cells q.cells 64)).alloc (.cells (lW (w.heap.size+1+1) 0 0 false).cells 64);rw[fO]at this;exact this
theorem anw(w:World)(q:Nv):aq (Nx w q) (w.heap.size+1+1) q.cells 64:=by
 have:=(aq.new ((w.alloc (.cells q.cells 64)).alloc (.cells bB.cells 64)) q.cells 64).alloc (.cells (lW (w.heap.size+1+1) 0 0 false).cells 64);rw[fO,fO]at this;exact this
theorem anx(w:World)(q:Nv):aq (Nx w q) (w.heap.size+1+1+1) (lW (w.heap.size+1+1) 0 0 false).cells 64:=by
 have:=aq.new (((w.alloc (.cells q.cells 64)).alloc (.cells bB.cells 64)).alloc (.cells q.cells 64)) (lW (w.heap.size+1+1) 0 0 false).cells 64;rw[fO,fO,fO]at this;exact this
theorem ant(h:aq w b (lW b2 0 0 false).cells t)(l hh:Int):aq ((w.setCell ⟨b,5,none⟩ (.int .i64 l)).setCell ⟨b,6,none⟩ (.int .i64 hh)) b (lW b2 l hh false).cells t:=by
 have:=(h.setCell 5 (.int .i64 l)).setCell 6 (.int .i64 hh);rw[show((lW b2 0 0 false).cells.setIfInBounds 5 (.int .i64 l)).setIfInBounds 6 (.int .i64 hh)=(lW b2 l hh false).cells by simp[Nv.cells,lW,oM]]at this;exact this
theorem anz{low high:Int}{lz:Bool}(hR:aS w g fo st)(hz:aS wz g ry k_)(hp:cI w lo hi q A CA)(lM:hi<=w.heap.size)(Qk:lo<=w.heap.size)(bt:∀i,g.au i->i<lo)
 (k1:aa g.au w wz)(b2:aq wz (w.heap.size+1+1) q.cells 64)(hl:(-1<=low/\low<=99)/\(-1<=high/\high<=99)):
 aS (ga wz (w.heap.size+1) (lW (w.heap.size+1+1) low high lz)) g ry k_/\
 cI (ga wz (w.heap.size+1) (lW (w.heap.size+1+1) low high lz)) lo (ga wz (w.heap.size+1) (lW (w.heap.size+1+1) low high lz)).heap.size (lW (w.heap.size+1+1) low high lz) (.node 4 [A] low high) (tO CA low high lz)/\
 aa g.au w (ga wz (w.heap.size+1) (lW (w.heap.size+1+1) low high lz)):=by
 have sz:=Nt wz (w.heap.size+1) (lW (w.heap.size+1+1) low high lz);have kq:=JO wz (w.heap.size+1) (lW (w.heap.size+1+1) low high lz);have O5:=b2.lt;have kk:=k1.bZ kq (fun i hi he=>by omega);refine⟨hz.new hR kq (fun i hi=>by omega),?_,kk⟩;exact cI.wrap (q:=q) hp lM kk (fun i hi=>Or.inl (bt i hi)) (b2.kept kq (by omega)) (Ab _) (by omega) ⟨by omega,by omega⟩ ⟨hl.1,hl.2,by omega⟩ (Or.inr ⟨rfl,rfl⟩)
theorem anA(hR:aS w g fo st)(hz:aS wz g ry k_)(hp:cI w lo hi q A CA)(lM:hi<=w.heap.size)(bt:∀i,g.au i->i<lo)
 (k1:aa g.au w wz):
 aS (ga wz (w.heap.size+1) q) g ry k_/\cI (ga wz (w.heap.size+1) q) lo (ga wz (w.heap.size+1) q).heap.size q A CA/\aa g.au w (ga wz (w.heap.size+1) q):=by
 have sz:=Nt wz (w.heap.size+1) q;have kq:=JO wz (w.heap.size+1) q;have s1:=k1.size;have kk:=k1.bZ kq (fun i hi he=>by omega);exact⟨hz.new hR kq (fun i hi=>by omega),(hp.kept kk (fun i h1 _ hx=>by have:=bt i hx;omega) lM).Hy (Ab _) (by omega),kk⟩
theorem amg(g:RG)(st:RS):(0<=(eF g st).2.1/\(eF g st).2.1<=99)/\(-1<=(eF g st).2.2/\(eF g st).2.2<=99):=by
 have r1:=Ri g st;have r2:=Ri g {(fD g st).1 with next:=(fD g st).1.next+1};unfold eF;split
 ·unfold rZ;split
  ·simp;omega
  ·simp only at r2⊢;omega
 ·simp only;omega
theorem I9{p:Prop}(h:p):Hid p:=h
structure uS(g:RG)(A:PT)(CA:CT)(st ST:RS)(L H:Int):Prop where
 p:gJ g A st=(fq g ic ST,.node 4 [A] L H)
 c:mh g CA st=tO CA L H (aG ic (ay g ST))
 r:(-1<=L/\L<=99)/\(-1<=H/\H<=99)
theorem uS.set(_:uS g A CA st ST L H)(h:aq w b (lW b2 0 0 false).cells t):aq ((w.setCell ⟨b,5,none⟩ (.int .i64 L)).setCell ⟨b,6,none⟩ (.int .i64 H)) b (lW b2 L H false).cells t/\aa (fun i=>i=b) w ((w.setCell ⟨b,5,none⟩ (.int .i64 L)).setCell ⟨b,6,none⟩ (.int .i64 H)):=
 ⟨ant h L H,((aa.refl (fun i=>i=b) w).setCell (p:=⟨b,5,none⟩) (Or.inl rfl) _).setCell (p:=⟨b,6,none⟩) (Or.inl rfl) _⟩
theorem uS.lz(_:uS g A CA st ST L H):∃lz,aG ic (ay g ST)=lz:=⟨_,rfl⟩
theorem uS.fZ{lz:Bool}(h:uS g A CA st ST L H)(Mn:aG ic (ay g ST)=lz)(hR:aS w g fo st)(hz:aS wz g ry (fq g ic ST))(hp:cI w lo hi q A CA)(lM:hi<=w.heap.size)(Qk:lo<=w.heap.size)(bt:∀i,g.au i->i<lo)
 (k1:aa g.au w wz)(b1:aq wz (w.heap.size+1) bB.cells 64)(b2:aq wz (w.heap.size+1+1) q.cells 64)(mw:f.results=#[ResultVar.cell i 64])(sZ:a.tmps.getD i undef=.pointer (some ⟨w.heap.size+1,0,none⟩))(hd:a.defers=[])
 (hQ:∀e w',(∃q',e=.returned (Nv.val q')/\aS w' g ry (gJ g A st).1/\cI w' lo w'.heap.size q' (gJ g A st).2 (mh g CA st)/\aa g.au w w')->Q e w'):bodyPost prog f Q Exit.ret a (ga wz (w.heap.size+1) (lW (w.heap.size+1+1) L H lz)):=by
 refine vQ (i:=i) (b:=w.heap.size+1) (q:=lW (w.heap.size+1+1) L H lz) mw sZ hd (vV b1 _) (hQ _ _ ?_);rw[h.p,h.c,Mn];exact⟨_,rfl,anz hR hz hp lM Qk bt k1 b2 h.r⟩
theorem anD(hR:aS w g fo st)(hp:cI w lo hi q A CA)(lM:hi<=w.heap.size)(Qk:lo<=w.heap.size)(bt:∀i,g.au i->i<lo):
 Calls prog 108 #[.pointer (some ⟨g.b,0,none⟩),Nv.val q] w fun e w'=>∃q',e=.returned (Nv.val q')/\aS w' g fo (gJ g A st).1/\cI w' lo w'.heap.size q' (gJ g A st).2 (mh g CA st)/\aa g.au w w':=by
 have aqz:=amg g {st with next:=st.next+1};have ME:0<=qQ g st/\qQ g st<=300:=hR.nc st.next
 have cT:=hR.len;have lQ:=hR.next
 have kw:=ad_ w q g.au;have hW:=hR.nil (ad_ w q af);have x0:=anu w q;have x1:=anv w q;have x2:=anw w q;have x3:=anx w q;have bM:∀i,w.heap.size<=i->¬g.au i:=fun i hi hx=>by have:=hR.gR hx;omega
 simp only[Nv.val,Nv.cells];go_in;go_wp2_with fail;refine(Rn hW).mono ?_;rintro e w1 ⟨rfl,h1,aU⟩;have y0:=x0.kept aU (bM _ (by omega));have y1:=x1.kept aU (bM _ (by omega));have y2:=x2.kept aU (bM _ (by omega));have y3:=x3.kept aU (bM _ (by omega));have k0:=kw.trans aU;clear x0 x1 x2 x3 kw hW aU;go_wp2_with fail
 cases c1:aG JE (ay g st)
 case' true=>
  have EQ:Hid (uS g A CA st {st with next:=st.next+1} 0 (-1)):=⟨by unfold gJ;rw[if_pos c1],by unfold mh;rw[if_pos c1],by omega⟩;refine(js h1 _ JE (by rfl) (by decide) c1).mono ?_;rintro e w6 ⟨rfl,h6,eZ⟩
 case' false=>
  refine(ja h1 _ JE (by rfl) (by decide) c1).mono ?_;rintro e w2 ⟨rfl,h2,aN⟩;go_wp2_with fail
  cases c2:aG JC (ay g st)
  case' true=>
   have EQ:Hid (uS g A CA st {st with next:=st.next+1} 1 (-1)):=⟨by unfold gJ;rw[if_neg (by rw[c1];simp),if_pos c2],by unfold mh;rw[if_neg (by rw[c1];simp),if_pos c2],by omega⟩;refine(js h2 _ JC (by rfl) (by decide) c2).mono ?_;rintro e w6 ⟨rfl,h6,bA⟩;have eZ:=aN.trans bA
  case' false=>
   refine(ja h2 _ JC (by rfl) (by decide) c2).mono ?_;rintro e w3 ⟨rfl,h3,bA⟩;go_wp2_with fail
   cases c3:aG ic (ay g st)
   case' true=>
    have EQ:Hid (uS g A CA st {st with next:=st.next+1} 0 1):=⟨by unfold gJ;rw[if_neg (by rw[c1];simp),if_neg (by rw[c2];simp),if_pos c3],by unfold mh;rw[if_neg (by rw[c1];simp),if_neg (by rw[c2];simp),if_pos c3],by omega⟩;refine(js h3 _ ic (by rfl) (by decide) c3).mono ?_;rintro e w6 ⟨rfl,h6,dC⟩;have eZ:=(aN.trans bA).trans dC
   case' false=>
    refine(ja h3 _ ic (by rfl) (by decide) c3).mono ?_;rintro e w4 ⟨rfl,h4,dC⟩;go_wp2_with fail
    cases c4:aG JA (ay g st)
    case false=>
     have EQ:Hid (gJ g A st=(st,A)/\mh g CA st=CA):=⟨by unfold gJ;rw[if_neg (by rw[c1];simp),if_neg (by rw[c2];simp),if_neg (by rw[c3];simp),if_neg (by rw[c4];simp)],by unfold mh;rw[if_neg (by rw[c1];simp),if_neg (by rw[c2];simp),if_neg (by rw[c3];simp),if_neg (by rw[c4];simp)]⟩;refine(ja h4 _ JA (by rfl) (by decide) c4).mono ?_;rintro e w5 ⟨rfl,h5,cW⟩;have eZ:=(((aN.trans bA).trans dC).trans cW);have ka:=k0.trans eZ;have z0:=y0.kept eZ (bM _ (by omega));have z1:=y1.kept eZ (bM _ (by omega));clear y0 y1 y2 y3;obtain⟨p0,p1,p2,p3,p4,p5,p6,p7⟩:=z0.gZ;obtain⟨e0,e1,e2,e3,e4,e5,e6,e7⟩:=z1.gZ;obtain⟨g0,g1,g2,g3,g4,g5,g6,g7⟩:=z1.nU;simp only[bB]at e0 e1 e2 e3 e4 e5 e6 e7;have pO:w.heap.size+1<w5.heap.size:=z1.lt;go_wp2_with fail;have fZ:=anA hR h5 hp lM bt ka;have ln:=vV z1 q;simp only[ga]at fZ ln;refine vQ (i:=4) (b:=w.heap.size+1) (q:=q) results108 ?_ ?_ ?_ ?_
     ·rfl
     ·rfl
     ·exact ln
     ·rw[EQ.o.1,EQ.o.2];exact⟨_,rfl,fZ⟩
    case' true=>
     refine(js h4 _ JA (by rfl) (by decide) c4).mono ?_;rintro e w5 ⟨rfl,h5,cW⟩;go_wp2_with fail;refine(age h5).mono ?_;rintro e w6 ⟨rfl,h6,gE⟩;have eZ:=((((aN.trans bA).trans dC).trans cW).trans gE)
     have EN:Hid ((20<(eF g {st with next:=st.next+1}).2.1\/20<(eF g {st with next:=st.next+1}).2.2\/((eF g {st with next:=st.next+1}).2.2≠ -1/\(eF g {st with next:=st.next+1}).2.2<(eF g {st with next:=st.next+1}).2.1))->uS g A CA st ((eF g {st with next:=st.next+1}).1.eo 4 (qQ g st)) (eF g {st with next:=st.next+1}).2.1 (eF g {st with next:=st.next+1}).2.2):=fun hx=>⟨by
      unfold gJ;rw[if_neg (by rw[c1];simp),if_neg (by rw[c2];simp),if_neg (by rw[c3];simp),if_pos c4];simp only;rw[if_pos (by first|omega|(simp at*;omega))],by
      unfold mh;rw[if_neg (by rw[c1];simp),if_neg (by rw[c2];simp),if_neg (by rw[c3];simp),if_pos c4];rfl,by omega⟩
     have EY:Hid (¬(20<(eF g {st with next:=st.next+1}).2.1\/20<(eF g {st with next:=st.next+1}).2.2\/((eF g {st with next:=st.next+1}).2.2≠ -1/\(eF g {st with next:=st.next+1}).2.2<(eF g {st with next:=st.next+1}).2.1))->uS g A CA st (eF g {st with next:=st.next+1}).1 (eF g {st with next:=st.next+1}).2.1 (eF g {st with next:=st.next+1}).2.2):=fun hx=>⟨by
      unfold gJ;rw[if_neg (by rw[c1];simp),if_neg (by rw[c2];simp),if_neg (by rw[c3];simp),if_pos c4];simp only;rw[if_neg (by first|omega|(simp at*;omega))],by
      unfold mh;rw[if_neg (by rw[c1];simp),if_neg (by rw[c2];simp),if_neg (by rw[c3];simp),if_pos c4],by omega⟩
     generalize(eF g {st with next:=st.next+1}).2.1=L at*
     generalize(eF g {st with next:=st.next+1}).2.2=Hh at*
     by_cases t1:20<L
     case' pos=>have EQ:=I9 (EN.o (Or.inl t1))
     case' neg=>
      by_cases t2:20<Hh
      case' pos=>have EQ:=I9 (EN.o (Or.inr (Or.inl t2)))
      case' neg=>
       by_cases RM:Hh= -1
       case' pos=>
        have EQ:=I9 (EY.o (by omega));have t3:(Hh != -1)=false:=(by simp[RM]);clear RM
       case' neg=>
        have t3:(Hh != -1)=true:=(by simp[RM]);by_cases t4:Hh<L
        case' pos=>have EQ:=I9 (EN.o (Or.inr (Or.inr ⟨RM,t4⟩)))
        case' neg=>have EQ:=I9 (EY.o (by omega))
     all_goals clear EN EY
 all_goals
  have ka:=k0.trans eZ;have z1:=y1.kept eZ (bM _ (by omega));have z2:=y2.kept eZ (bM _ (by omega));have z3:=y3.kept eZ (bM _ (by omega));clear y0 y1 y2 y3;have e5:w6.cell? ⟨w.heap.size+1+1+1,5,none⟩=some (.int .i64 0):=z3.cell 5;have e6:w6.cell? ⟨w.heap.size+1+1+1,6,none⟩=some (.int .i64 0):=z3.cell 6;have f5:=z3.frozen 5;have f6:=z3.frozen 6;go_wp2_with fail;obtain⟨RZ,ks⟩:=EQ.o.set z3;have hs:=h6.new hR ks (fun i hi=>by omega);have kb:=ka.bZ ks (fun i hi he=>by omega);have RX:=z1.kept ks (by omega);have RY:=z2.kept ks (by omega);clear z1 z2 z3 e5 e6 f5 f6 ks
  try
   refine(He hs 4 _ (by omega) ME).mono ?_;rintro e w7 ⟨rfl,h7,gP⟩;have RX:=RX.kept gP (bM _ (by omega));have RY:=RY.kept gP (bM _ (by omega));have RZ:=RZ.kept gP (bM _ (by omega));have kb:=kb.trans gP;have hs:=h7;go_wp2_with fail
  refine(RO hs _ ic (by rfl) (by decide)).mono ?_;rintro e wy ⟨rfl,hy,Ml⟩;have t1:=RX.kept Ml (bM _ (by omega));have t2:=RY.kept Ml (bM _ (by omega));have t3:=RZ.kept Ml (bM _ (by omega));have ky:=kb.trans Ml;clear RX RY RZ kb Ml ka;obtain⟨lz,Mn⟩:=EQ.o.lz;rw[Mn];have HLZ:=I9 Mn;clear Mn;have d7:wy.cell? ⟨w.heap.size+1+1+1,7,none⟩=some (.bool false):=t3.cell 7;have f7:=t3.frozen 7;obtain⟨e0,e1,e2,e3,e4,e5,e6,e7⟩:=t1.gZ;obtain⟨g0,g1,g2,g3,g4,g5,g6,g7⟩:=t1.nU;obtain⟨d0,d1,d2,d3,d4,d5,d6,_⟩:=t3.gZ;simp only[bB,lW,oM]at e0 e1 e2 e3 e4 e5 e6 e7 d0 d1 d2 d3 d4 d5 d6;have pO:w.heap.size+1<wy.heap.size:=t1.lt;have rJ:w.heap.size+1+1+1<wy.heap.size:=t3.lt;go_wp2_with fail;have kl:aa (fun i=>i=w.heap.size+1+1+1) wy (wy.setCell ⟨w.heap.size+1+1+1,7,none⟩ (.bool lz)):=(aa.refl (fun i=>i=w.heap.size+1+1+1) wy).setCell (p:=⟨w.heap.size+1+1+1,7,none⟩) (Or.inl rfl) _;exact EQ.o.fZ (i:=4) HLZ.o hR (hy.new hR kl (fun i hi=>by omega)) hp lM Qk bt (ky.bZ kl (fun i hi he=>by omega)) (t1.kept kl (by omega)) (t2.kept kl (by omega)) results108 rfl rfl (fun e w' h=>h)
