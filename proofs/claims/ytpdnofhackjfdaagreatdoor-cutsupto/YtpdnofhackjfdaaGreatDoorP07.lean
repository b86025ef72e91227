/- The reader of the program -/
import Derived.Test.YtpdnofhackjfdaaGreatDoorP06
set_option linter.all false
set_option maxRecDepth 100000
set_option maxHeartbeats 16000000
namespace Go.Proofs.YtpdnofhackjfdaaGreatDoor
open Go.Proofs.Tryz
open Go.RowKit Go.Maps
variable {a:Act} {fo ru fo2:Bool} {CA:CT} {Q:Ending->World->Prop} {f:Func} {H L gr:Int} {b b2 hi i k lo:Nat} {q:Nv} {A:PT} {g:RG} {ST st kX:RS} {t:TypeId} {w w1 w2 w4 wz:World}
def Hl(g:RG)(k:Nat):Prop:=∀(w:World) (fo:Bool) (st:RS),aR w g fo st->g.rs.length-st.next<k->
 Calls prog 56 #[.pointer (some ⟨g.b,0,none⟩)] w fun e w'=>∃q,e=.returned (Nv.val q)/\aR w' g fo (aV g k st).1/\cy w' w.heap.size w'.heap.size q (aV g k st).2 (dI g k fo st)/\aa g.au w w'
theorem adA(g:RG)(st:RS)(h:st.next<=g.rs.length):st.next<=(ix g st).next/\(ix g st).next<=g.rs.length:=by
 unfold ix
 cases hq:aG iq (ay g st)
 ·simp;exact h
 ·have h1:=jU hq;simp only[Bool.true_eq_false,if_false]
  cases hl:aG BJ (ay g {st with next:=st.next+1})
  ·have h2:=JG g lI {st with next:=st.next+1} (by simp;omega);have h3:=xr g GG _ h2.2;simp at*;omega
  ·have h2:=jU hl;simp only at h2;have h3:=al5 g {st with next:=st.next+2,aQ:=st.aQ+1} (by simp;omega);simp at*;omega
theorem ac1(h:aR w g fo st)(hg:st.aQ<st.next):
 Calls prog 164 #[.pointer (some ⟨g.b,0,none⟩)] w fun e w'=>e=.returned (.int .i64 ((st.aQ:Int)+1))/\aR w' g fo {st with aQ:=st.aQ+1}/\aa g.au w w':=by
 have c5:w.cell? ⟨g.b,5,none⟩=some (.int .i64 st.aQ):=h.ak.cell 5;have f5:=h.ak.frozen 5;have hl:=h.len;have hn:=h.next
 go_in
 go_wp2
 go_ret
 have:=h.anz (st.aQ+1) (by omega) (by omega);exact⟨rfl,by simpa using this,by simpa using yT g 5 (.int .i64 ((st.aQ:Int)+1))⟩
def Hi:Nv:=⟨2,none,0,0,none,0,0,0,0,0,0,false⟩
def Hg(gr:Int):Nv:=⟨2,none,0,0,none,0,0,0,gr,0,0,false⟩
def DK(w:World):World:=(w.alloc (.cells bB.cells 64)).alloc (.cells Hi.cells 64)
theorem Z5(w:World)(S:Nat->Prop):aa S w (DK w):=((aa.refl S w).alloc _).alloc _
theorem ago(w:World):(DK w).heap.size=w.heap.size+2:=by simp[DK]
theorem agm(w:World):aq (DK w) w.heap.size bB.cells 64:=(aq.new w _ _).alloc _
theorem agn(w:World):aq (DK w) (w.heap.size+1) Hi.cells 64:=by
 have:=aq.new (w.alloc (.cells bB.cells 64)) Hi.cells 64;rw[fF]at this;exact this
theorem ae7(h:aq w b Hi.cells t)(gr:Int):aq (w.setCell ⟨b,4,none⟩ (.int .i64 gr)) b (Hg gr).cells t:=by
 have:=h.setCell 4 (.int .i64 gr);rw[show Hi.cells.setIfInBounds 4 (.int .i64 gr)=(Hg gr).cells by simp[Nv.cells,Hi,Hg]]at this;exact this
theorem als(h:aq w b (Hg gr).cells t):aq (w.setCell ⟨b,1,none⟩ (.slice (some ⟨b2,0,none⟩) 1 1)) b (oD 2 b2 1 gr 0 0 false).cells t:=by
 have:=h.setCell 1 (.slice (some ⟨b2,0,none⟩) 1 1);rw[show(Hg gr).cells.setIfInBounds 1 (.slice (some ⟨b2,0,none⟩) 1 1)=(oD 2 b2 1 gr 0 0 false).cells by simp[Nv.cells,Hg,oD]]at this;exact this
theorem agk{T:PT}{C:CT}(h:aR w g fo st)(h4:aR w4 g fo2 kX)(pO:w.heap.size+2<=w1.heap.size)
 (hp:cy w2 w1.heap.size w2.heap.size q T C)(ab8:w1.heap.size<=w2.heap.size)(k1:aa g.au w w4)(k2:aa (fun i=>g.au i\/i=w.heap.size+1) w2 w4)(bq:aq w4 w2.heap.size q.cells 64)(dK:0<=gr/\gr<=300):
 aR (gg (w4.setCell ⟨g.b,4,none⟩ (.bool fo)) w.heap.size (oD 2 w2.heap.size 1 gr 0 0 false)) g fo kX/\
 cy (gg (w4.setCell ⟨g.b,4,none⟩ (.bool fo)) w.heap.size (oD 2 w2.heap.size 1 gr 0 0 false)) w.heap.size (gg (w4.setCell ⟨g.b,4,none⟩ (.bool fo)) w.heap.size (oD 2 w2.heap.size 1 gr 0 0 false)).heap.size (oD 2 w2.heap.size 1 gr 0 0 false) (.node 1 [T] 0 0) (.node 2 [] false false 0 gr 0 0 false [C])/\
 aa g.au w (gg (w4.setCell ⟨g.b,4,none⟩ (.bool fo)) w.heap.size (oD 2 w2.heap.size 1 gr 0 0 false)):=by
 have h5:=h4.Xa fo;have k5:aa g.au w4 (w4.setCell ⟨g.b,4,none⟩ (.bool fo)):=yT g 4 _;generalize w4.setCell ⟨g.b,4,none⟩ (.bool fo)=w5 at*;generalize hQ:oD 2 w2.heap.size 1 gr 0 0 false=Q;have sz:=Nh w5 w.heap.size Q;have kq:=Jy w5 w.heap.size Q;have s5:=k5.size;have OP:=bq.lt;refine⟨h5.new h kq (fun i hi=>by omega),?_,(k1.trans k5).bV kq (fun i hi he=>by omega)⟩;rw[<-hQ]at*;refine cy.wrap (S:=fun i=>g.au i\/i=w.heap.size\/i=w.heap.size+1) (q:=q) hp (Ab _) (((k2.mono (fun i hi=>by rcases hi with hi|hi;exact Or.inl hi;exact Or.inr (Or.inr hi))).trans (k5.mono (fun i hi=>Or.inl hi))).trans (kq.mono (fun i hi=>Or.inr (Or.inl hi)))) (fun i hi=>?_) ((bq.kept k5 (fun hx=>by have:=h.gT hx;omega)).kept kq (by omega)) (by omega) (by omega) ⟨by omega,by omega⟩ ⟨by omega,by omega,dK⟩ (Or.inl ⟨rfl,rfl⟩);rcases hi with hi|hi|hi
 ·have:=h.gT hi;omega
 ·omega
 ·omega
structure Hm(g:RG)(fo:Bool)(st:RS)(k:Nat)(H:RS)(F:Bool)(GR:Int):Prop where
 h:ix g st=H
 c:sE g (dI g k) fo st=.node 2 [] false false 0 GR 0 0 false [dI g k F H]
 r:0<=GR/\GR<=300
 n:g.rs.length-H.next<k
theorem Hm.fZ{F:Bool}{H:RS}{GR:Int}(E:Hm g fo st k H F GR)(h:aR w g fo st)(h4:aR w4 g fo2 (eI g Jn (aV g k H).1))(pO:w.heap.size+2<=w1.heap.size)
 (hp:cy w2 w1.heap.size w2.heap.size q (aV g k H).2 (dI g k F H))(ab8:w1.heap.size<=w2.heap.size)(k1:aa g.au w w4)(k2:aa (fun i=>g.au i\/i=w.heap.size+1) w2 w4)(bq:aq w4 w2.heap.size q.cells 64)(t0:aq w4 w.heap.size bB.cells 64)
 (mj:f.results=#[ResultVar.cell i 64])(sY:a.tmps.getD i undef=.pointer (some ⟨w.heap.size,0,none⟩))(hd:a.defers=[])
 (hQ:∀e w',(∃q,e=.returned (Nv.val q)/\aR w' g fo (vU g (aV g k) st).1/\cy w' w.heap.size w'.heap.size q (vU g (aV g k) st).2 (sE g (dI g k) fo st)/\aa g.au w w')->Q e w'):bodyPost prog f Q Exit.ret a (gg (w4.setCell ⟨g.b,4,none⟩ (.bool fo)) w.heap.size (oD 2 w2.heap.size 1 GR 0 0 false)):=by
 refine vS (i:=i) (b:=w.heap.size) (q:=oD 2 w2.heap.size 1 GR 0 0 false) mj sY hd (vV (t0.kept (yT g 4 (.bool fo)) (fun hx=>by have:=h.gT hx;omega)) _) (hQ _ _ ?_);unfold vU;rw[E.h,E.c];exact⟨_,rfl,agk (fo:=fo) h h4 pO hp ab8 k1 k2 bq E.r⟩
theorem aR.aaY(h:aR w g fo st):w.cell? ⟨g.b,4,none⟩=some (.bool fo)/\w.frozen? ⟨g.b,4,none⟩=false:=⟨h.ak.cell 4,h.ak.frozen 4⟩
theorem agl(hA:Hl g k)(hR:aR w g fo st)(hg:st.aQ<st.next)(Vk:g.rs.length-st.next<k):
 Calls prog 131 #[.pointer (some ⟨g.b,0,none⟩)] w fun e w'=>∃q,e=.returned (Nv.val q)/\aR w' g fo (vU g (aV g k) st).1/\cy w' w.heap.size w'.heap.size q (vU g (aV g k) st).2 (sE g (dI g k) fo st)/\aa g.au w w':=by
 have Vi:=adA g st hR.next
 have hl:=hR.len;have lN:=hR.next
 have Me:=hR.names;have bJ:∀i,w.heap.size<=i->¬g.au i:=fun i hi hx=>by have:=hR.gT hx;omega
 have ha:=hR.nil (Z5 w af);have ka:=Z5 w g.au;have sb:=ago w;have x0:=agm w;have x1:=agn w;have c4:(DK w).cell? ⟨g.b,4,none⟩=some (.bool fo):=ha.ak.cell 4;simp only[DK,Nv.cells,bB,Hi]at c4;go_in;go_wp2_with fail
 cases hq:aG iq (ay g st)
 case' false=>
  have EQ:Hid (Hm g fo st k {st with aQ:=st.aQ+1} fo ((st.aQ:Int)+1)):=⟨by simp[ix,hq],by unfold sE;rw[if_pos hq];simp[ix,hq],by omega,by simp;omega⟩;refine(iX ha _ iq (by rfl) (by decide) hq).mono ?_;rintro e w1 ⟨rfl,h1,aT⟩;go_wp2_with fail;refine(ac1 h1 hg).mono ?_;rintro e zj ⟨rfl,gP,tX⟩;have kk:=(ka.trans aT).trans tX;have o1:=(x1.kept aT (bJ _ (by omega))).kept tX (bJ _ (by omega));have o0:=(x0.kept aT (bJ _ (by omega))).kept tX (bJ _ (by omega));have d4:zj.cell? ⟨w.heap.size+1,4,none⟩=some (.int .i64 0):=o1.cell 4;have f4:=o1.frozen 4;have n1:=ae7 o1 ((st.aQ:Int)+1);have BH:aa (fun i=>i=w.heap.size+1) zj (zj.setCell ⟨w.heap.size+1,4,none⟩ (.int .i64 ((st.aQ:Int)+1))):=(aa.refl (fun i=>i=w.heap.size+1) zj).setCell (p:=⟨w.heap.size+1,4,none⟩) (Or.inl rfl) _;have n0:=o0.kept BH (by omega);have cR:=gP.new hR BH (fun i hi=>by omega);have kn:=kk.bV BH (fun i hi he=>by omega)
 case' true=>
  have hlq:=jU hq;refine(jr ha _ iq (by rfl) (by decide) hq).mono ?_;rintro e wa ⟨rfl,h1a,abK⟩;go_wp2_with fail
  cases hs:aG BJ (ay g {st with next:=st.next+1})
  case' true=>
   have sS:=jU hs;simp only at sS
   have EQ:Hid (Hm g fo st k (pg g {st with next:=st.next+1+1,aQ:=st.aQ+1}) fo ((st.aQ:Int)+1)):=by
    have e:ix g st=pg g {st with next:=st.next+1+1,aQ:=st.aQ+1}:=(by simp[ix,hq,hs]);exact⟨e,by unfold sE;rw[if_neg (by rw[hq];simp),if_pos hs,e],by omega,by rw[<-e];omega⟩
   refine(jr h1a _ BJ (by rfl) (by decide) hs).mono ?_;rintro e w1 ⟨rfl,h1,UX⟩;have aT:=abK.trans UX;go_wp2_with fail;refine(ac1 h1 (by simp;omega)).mono ?_;rintro e zj ⟨rfl,gP,tX⟩;have kk:=(ka.trans aT).trans tX;have o1:=(x1.kept aT (bJ _ (by omega))).kept tX (bJ _ (by omega));have o0:=(x0.kept aT (bJ _ (by omega))).kept tX (bJ _ (by omega));have d4:zj.cell? ⟨w.heap.size+1,4,none⟩=some (.int .i64 0):=o1.cell 4;have f4:=o1.frozen 4;have n1a:=ae7 o1 ((st.aQ:Int)+1);have BH:aa (fun i=>i=w.heap.size+1) zj (zj.setCell ⟨w.heap.size+1,4,none⟩ (.int .i64 ((st.aQ:Int)+1))):=(aa.refl (fun i=>i=w.heap.size+1) zj).setCell (p:=⟨w.heap.size+1,4,none⟩) (Or.inl rfl) _;have n0a:=o0.kept BH (by omega);have abY:=gP.new hR BH (fun i hi=>by omega);have kna:=kk.bV BH (fun i hi he=>by omega);have sk:=aT.size;have sk':=tX.size;have aqt:=BH.size;go_wp2_with fail;refine(ak1 abY (by omega) (by simp;omega)).mono ?_;rintro e wn ⟨rfl,cR,tZ⟩;have n1:=n1a.kept tZ (bJ _ (by omega));have n0:=n0a.kept tZ (bJ _ (by omega));have kn:=kna.trans tZ
  case' false=>
   refine(iX h1a _ BJ (by rfl) (by decide) hs).mono ?_;rintro e wb ⟨rfl,h1b,UX⟩;go_wp2_with fail
   cases hi:aG lI (ay g {st with next:=st.next+1})
   case' false=>
    have EQ:Hid (Hm g fo st k (eI g GG {st with next:=st.next+1}) fo 0):=by
     have e:ix g st=eI g GG {st with next:=st.next+1}:=(by simp[ix,hq,hs,fg,hi]);exact⟨e,by unfold sE;rw[if_neg (by rw[hq];simp),if_neg (by rw[hs];simp),hi,e];simp only[Bool.false_or],by omega,by rw[<-e];omega⟩
    refine(iX h1b _ lI (by rfl) (by decide) hi).mono ?_;rintro e w1 ⟨rfl,h1,abL⟩;have hsf:=h1.Xa fo;have QC:aa g.au w1 (w1.setCell ⟨g.b,4,none⟩ (.bool fo)):=yT g 4 _
   case' true=>
    have EQ:Hid (Hm g fo st k (eI g GG {st with next:=st.next+1+1}) true 0):=by
     have e:ix g st=eI g GG {st with next:=st.next+1+1}:=(by simp[ix,hq,hs,fg,hi]);exact⟨e,by unfold sE;rw[if_neg (by rw[hq];simp),if_neg (by rw[hs];simp),hi,e];simp only[Bool.true_or],by omega,by rw[<-e];omega⟩
    refine(jr h1b _ lI (by rfl) (by decide) hi).mono ?_;rintro e w1 ⟨rfl,h1,abL⟩;have hsf:=h1.Xa true;have QC:aa g.au w1 (w1.setCell ⟨g.b,4,none⟩ (.bool true)):=yT g 4 _
   all_goals
    have aT:=(abK.trans UX).trans abL;have kk:=ka.trans aT;obtain⟨c4a,f4a⟩:=h1.aaY;have o1:=x1.kept aT (bJ _ (by omega));have o0:=x0.kept aT (bJ _ (by omega));go_wp2_with fail;refine(tf hsf _ GG (by rfl) (by decide)).mono ?_;rintro e wn ⟨rfl,cR,tZ⟩;have n1:aq wn (w.heap.size+1) (Hg 0).cells 64:=(o1.kept QC (bJ _ (by omega))).kept tZ (bJ _ (by omega));have n0:=(o0.kept QC (bJ _ (by omega))).kept tZ (bJ _ (by omega));have kn:=(kk.trans QC).trans tZ
 all_goals
  clear x0 x1 ha o0 o1;go_wp2_with fail;have sz1:=kn.size;have szn:=n1.lt;refine(hA _ _ _ cR EQ.out.n).mono ?_;rintro e w2 ⟨q,rfl,h2,hp,aO⟩;have y1:=n1.kept aO (bJ _ (by omega));have y0:=n0.kept aO (bJ _ (by omega));have d1:w2.cell? ⟨w.heap.size+1,1,none⟩=some (.slice none 0 0):=y1.cell 1;have f1:=y1.frozen 1;have s2:=aO.size;have apS:w.heap.size+1<w2.heap.size:=y1.lt;have z1:=(als (b2:=w2.heap.size) y1).alloc (.cells q.cells 64);have akj:aa (fun i=>i=w.heap.size+1) w2 (w2.setCell ⟨w.heap.size+1,1,none⟩ (.slice (some ⟨w2.heap.size,0,none⟩) 1 1)):=(aa.refl (fun i=>i=w.heap.size+1) w2).setCell (p:=⟨w.heap.size+1,1,none⟩) (Or.inl rfl) _;have MJ:=akj.alloc (.cells q.cells 64);have z0:=y0.kept MJ (by omega);have ssz:(w2.setCell ⟨w.heap.size+1,1,none⟩ (.slice (some ⟨w2.heap.size,0,none⟩) 1 1)).heap.size=w2.heap.size:=by simp[World.setCell]
  have zq:=aq.new (w2.setCell ⟨w.heap.size+1,1,none⟩ (.slice (some ⟨w2.heap.size,0,none⟩) 1 1)) q.cells 64;rw[ssz]at zq;have h3:=h2.new hR MJ (fun i hi=>by omega);have kx:=kn.trans aO;have GF:=kx.bV MJ (fun i hi he=>by omega);clear y0 y1;simp only[Nv.val,Nv.cells];go_wp2_with fail;refine(tf h3 _ Jn (by rfl) (by decide)).mono ?_;rintro e w4 ⟨rfl,h4,dA⟩;have t1:=z1.kept dA (bJ _ (by omega));have t0:=z0.kept dA (bJ _ (by omega));have tq:=zq.kept dA (bJ _ (by omega));have ME:aa (fun i=>g.au i\/i=w.heap.size+1) w2 w4:=(MJ.mono (fun i hi=>Or.inr hi)).trans (dA.mono (fun i hi=>Or.inl hi));have vL:=GF.trans dA;have s4:=dA.size;have sa3:=MJ.size;obtain⟨c4',f4'⟩:=h4.aaY;have kO:g.b<w.heap.size:=hR.OP;obtain⟨p0,p1,p2,p3,p4,p5,p6,p7⟩:=t1.gZ;obtain⟨e0,e1,e2,e3,e4,e5,e6,e7⟩:=t0.gZ;obtain⟨g0,g1,g2,g3,g4,g5,g6,g7⟩:=t0.nN;simp only[bB,oD]at e0 e1 e2 e3 e4 e5 e6 e7 p0 p1 p2 p3 p4 p5 p6 p7;have pL:w.heap.size<w4.heap.size:=t0.lt;have rI:w.heap.size+1<w4.heap.size:=t1.lt;have apT:g.b≠w.heap.size:=by omega
  have apU:g.b≠w.heap.size+1:=by omega
  go_wp2_with fail
  exact EQ.out.fZ (i:=2) hR h4 (by omega) hp s2 vL ME tq t0 results131 rfl rfl (fun e w' h=>h)
def lT(b:Nat)(l h:Int)(lz:Bool):Nv:=oD 5 b 1 0 l h lz
def Nk(w:World)(q:Nv):World:=
 (((w.alloc (.cells q.cells 64)).alloc (.cells bB.cells 64)).alloc (.cells q.cells 64)).alloc (.cells (lT (w.heap.size+1+1) 0 0 false).cells 64)
theorem aea(w:World)(q:Nv)(S:Nat->Prop):aa S w (Nk w q):=((((aa.refl S w).alloc _).alloc _).alloc _).alloc _
theorem am0(w:World)(q:Nv):aq (Nk w q) w.heap.size q.cells 64:=(((aq.new w _ _).alloc _).alloc _).alloc _
theorem am1(w:World)(q:Nv):aq (Nk w q) (w.heap.size+1) bB.cells 64:=by
 have:=((aq.new (w.alloc (.cells q.cells 64)) bB.cells 64).alloc (.cells q.cells 64)).alloc (.cells (lT (w.heap.size+1+1) 0 0 false).cells 64);rw[fF]at this;exact this
theorem am2(w:World)(q:Nv):aq (Nk w q) (w.heap.size+1+1) q.cells 64:=by
 have:=(aq.new ((w.alloc (.cells q.cells 64)).alloc (.cells bB.cells 64)) q.cells 64).alloc (.cells (lT (w.heap.size+1+1) 0 0 false).cells 64);rw[fF,fF]at this;exact this
theorem am3(w:World)(q:Nv):aq (Nk w q) (w.heap.size+1+1+1) (lT (w.heap.size+1+1) 0 0 false).cells 64:=by
 have:=aq.new (((w.alloc (.cells q.cells 64)).alloc (.cells bB.cells 64)).alloc (.cells q.cells 64)) (lT (w.heap.size+1+1) 0 0 false).cells 64;rw[fF,fF,fF]at this;exact this
theorem amZ(h:aq w b (lT b2 0 0 false).cells t)(l hh:Int):aq ((w.setCell ⟨b,5,none⟩ (.int .i64 l)).setCell ⟨b,6,none⟩ (.int .i64 hh)) b (lT b2 l hh false).cells t:=by
 have:=(h.setCell 5 (.int .i64 l)).setCell 6 (.int .i64 hh);rw[show((lT b2 0 0 false).cells.setIfInBounds 5 (.int .i64 l)).setIfInBounds 6 (.int .i64 hh)=(lT b2 l hh false).cells by simp[Nv.cells,lT,oD]]at this;exact this
theorem am4{low high:Int}{lz:Bool}(hR:aR w g fo st)(hz:aR wz g ru kX)(hp:cy w lo hi q A CA)(lK:hi<=w.heap.size)(P_:lo<=w.heap.size)(bk:∀i,g.au i->i<lo)
 (k1:aa g.au w wz)(b2:aq wz (w.heap.size+1+1) q.cells 64)(hl:(-1<=low/\low<=99)/\(-1<=high/\high<=99)):
 aR (gg wz (w.heap.size+1) (lT (w.heap.size+1+1) low high lz)) g ru kX/\
 cy (gg wz (w.heap.size+1) (lT (w.heap.size+1+1) low high lz)) lo (gg wz (w.heap.size+1) (lT (w.heap.size+1+1) low high lz)).heap.size (lT (w.heap.size+1+1) low high lz) (.node 4 [A] low high) (tK CA low high lz)/\
 aa g.au w (gg wz (w.heap.size+1) (lT (w.heap.size+1+1) low high lz)):=by
 have sz:=Nh wz (w.heap.size+1) (lT (w.heap.size+1+1) low high lz);have kq:=Jy wz (w.heap.size+1) (lT (w.heap.size+1+1) low high lz);have OP:=b2.lt;have kk:=k1.bV kq (fun i hi he=>by omega);refine⟨hz.new hR kq (fun i hi=>by omega),?_,kk⟩;exact cy.wrap (q:=q) hp lK kk (fun i hi=>Or.inl (bk i hi)) (b2.kept kq (by omega)) (Ab _) (by omega) ⟨by omega,by omega⟩ ⟨hl.1,hl.2,by omega⟩ (Or.inr ⟨rfl,rfl⟩)
theorem am5(hR:aR w g fo st)(hz:aR wz g ru kX)(hp:cy w lo hi q A CA)(lK:hi<=w.heap.size)(bk:∀i,g.au i->i<lo)
 (k1:aa g.au w wz):
 aR (gg wz (w.heap.size+1) q) g ru kX/\cy (gg wz (w.heap.size+1) q) lo (gg wz (w.heap.size+1) q).heap.size q A CA/\aa g.au w (gg wz (w.heap.size+1) q):=by
 have sz:=Nh wz (w.heap.size+1) q;have kq:=Jy wz (w.heap.size+1) q;have s1:=k1.size;have kk:=k1.bV kq (fun i hi he=>by omega);exact⟨hz.new hR kq (fun i hi=>by omega),(hp.kept kk (fun i h1 _ hx=>by have:=bk i hx;omega) lK).Hk (Ab _) (by omega),kk⟩
theorem alS(g:RG)(st:RS):(0<=(ey g st).2.1/\(ey g st).2.1<=99)/\(-1<=(ey g st).2.2/\(ey g st).2.2<=99):=by
 have r1:=Q3 g st;have r2:=Q3 g {(fA g st).1 with next:=(fA g st).1.next+1};unfold ey;split
 ·unfold r_;split
  ·simp;omega
  ·simp only at r2⊢;omega
 ·simp only;omega
theorem IU{p:Prop}(h:p):Hid p:=h
structure uU(g:RG)(A:PT)(CA:CT)(st ST:RS)(L H:Int):Prop where
 p:h_ g A st=(fg g iq ST,.node 4 [A] L H)
 c:ni g CA st=tK CA L H (aG iq (ay g ST))
 r:(-1<=L/\L<=99)/\(-1<=H/\H<=99)
theorem uU.set(_:uU g A CA st ST L H)(h:aq w b (lT b2 0 0 false).cells t):aq ((w.setCell ⟨b,5,none⟩ (.int .i64 L)).setCell ⟨b,6,none⟩ (.int .i64 H)) b (lT b2 L H false).cells t/\aa (fun i=>i=b) w ((w.setCell ⟨b,5,none⟩ (.int .i64 L)).setCell ⟨b,6,none⟩ (.int .i64 H)):=
 ⟨amZ h L H,((aa.refl (fun i=>i=b) w).setCell (p:=⟨b,5,none⟩) (Or.inl rfl) _).setCell (p:=⟨b,6,none⟩) (Or.inl rfl) _⟩
theorem uU.lz(_:uU g A CA st ST L H):∃lz,aG iq (ay g ST)=lz:=⟨_,rfl⟩
theorem uU.fZ{lz:Bool}(h:uU g A CA st ST L H)(L9:aG iq (ay g ST)=lz)(hR:aR w g fo st)(hz:aR wz g ru (fg g iq ST))(hp:cy w lo hi q A CA)(lK:hi<=w.heap.size)(P_:lo<=w.heap.size)(bk:∀i,g.au i->i<lo)
 (k1:aa g.au w wz)(b1:aq wz (w.heap.size+1) bB.cells 64)(b2:aq wz (w.heap.size+1+1) q.cells 64)(mj:f.results=#[ResultVar.cell i 64])(sY:a.tmps.getD i undef=.pointer (some ⟨w.heap.size+1,0,none⟩))(hd:a.defers=[])
 (hQ:∀e w',(∃q',e=.returned (Nv.val q')/\aR w' g ru (h_ g A st).1/\cy w' lo w'.heap.size q' (h_ g A st).2 (ni g CA st)/\aa g.au w w')->Q e w'):bodyPost prog f Q Exit.ret a (gg wz (w.heap.size+1) (lT (w.heap.size+1+1) L H lz)):=by
 refine vS (i:=i) (b:=w.heap.size+1) (q:=lT (w.heap.size+1+1) L H lz) mj sY hd (vV b1 _) (hQ _ _ ?_);rw[h.p,h.c,L9];exact⟨_,rfl,am4 hR hz hp lK P_ bk k1 b2 h.r⟩
theorem am8(hR:aR w g fo st)(hp:cy w lo hi q A CA)(lK:hi<=w.heap.size)(P_:lo<=w.heap.size)(bk:∀i,g.au i->i<lo):
 Calls prog 108 #[.pointer (some ⟨g.b,0,none⟩),Nv.val q] w fun e w'=>∃q',e=.returned (Nv.val q')/\aR w' g fo (h_ g A st).1/\cy w' lo w'.heap.size q' (h_ g A st).2 (ni g CA st)/\aa g.au w w':=by
 have ap6:=alS g {st with next:=st.next+1};have Mp:0<=qP g st/\qP g st<=300:=hR.mP st.next
 have cT:=hR.len;have lN:=hR.next
 have kw:=aea w q g.au;have hW:=hR.nil (aea w q af);have x0:=am0 w q;have x1:=am1 w q;have x2:=am2 w q;have x3:=am3 w q;have bJ:∀i,w.heap.size<=i->¬g.au i:=fun i hi hx=>by have:=hR.gT hx;omega
 simp only[Nv.val,Nv.cells];go_in;go_wp2_with fail;refine(Q_ hW).mono ?_;rintro e w1 ⟨rfl,h1,aT⟩;have y0:=x0.kept aT (bJ _ (by omega));have y1:=x1.kept aT (bJ _ (by omega));have y2:=x2.kept aT (bJ _ (by omega));have y3:=x3.kept aT (bJ _ (by omega));have k0:=kw.trans aT;clear x0 x1 x2 x3 kw hW aT;go_wp2_with fail
 cases c1:aG MR (ay g st)
 case' true=>
  have EQ:Hid (uU g A CA st {st with next:=st.next+1} 0 (-1)):=⟨by unfold h_;rw[if_pos c1],by unfold ni;rw[if_pos c1],by omega⟩;refine(jr h1 _ MR (by rfl) (by decide) c1).mono ?_;rintro e w6 ⟨rfl,h6,eT⟩
 case' false=>
  refine(iX h1 _ MR (by rfl) (by decide) c1).mono ?_;rintro e w2 ⟨rfl,h2,aO⟩;go_wp2_with fail
  cases c2:aG MP (ay g st)
  case' true=>
   have EQ:Hid (uU g A CA st {st with next:=st.next+1} 1 (-1)):=⟨by unfold h_;rw[if_neg (by rw[c1];simp),if_pos c2],by unfold ni;rw[if_neg (by rw[c1];simp),if_pos c2],by omega⟩;refine(jr h2 _ MP (by rfl) (by decide) c2).mono ?_;rintro e w6 ⟨rfl,h6,bA⟩;have eT:=aO.trans bA
  case' false=>
   refine(iX h2 _ MP (by rfl) (by decide) c2).mono ?_;rintro e w3 ⟨rfl,h3,bA⟩;go_wp2_with fail
   cases c3:aG iq (ay g st)
   case' true=>
    have EQ:Hid (uU g A CA st {st with next:=st.next+1} 0 1):=⟨by unfold h_;rw[if_neg (by rw[c1];simp),if_neg (by rw[c2];simp),if_pos c3],by unfold ni;rw[if_neg (by rw[c1];simp),if_neg (by rw[c2];simp),if_pos c3],by omega⟩;refine(jr h3 _ iq (by rfl) (by decide) c3).mono ?_;rintro e w6 ⟨rfl,h6,dA⟩;have eT:=(aO.trans bA).trans dA
   case' false=>
    refine(iX h3 _ iq (by rfl) (by decide) c3).mono ?_;rintro e w4 ⟨rfl,h4,dA⟩;go_wp2_with fail
    cases c4:aG MN (ay g st)
    case false=>
     have EQ:Hid (h_ g A st=(st,A)/\ni g CA st=CA):=⟨by unfold h_;rw[if_neg (by rw[c1];simp),if_neg (by rw[c2];simp),if_neg (by rw[c3];simp),if_neg (by rw[c4];simp)],by unfold ni;rw[if_neg (by rw[c1];simp),if_neg (by rw[c2];simp),if_neg (by rw[c3];simp),if_neg (by rw[c4];simp)]⟩;refine(iX h4 _ MN (by rfl) (by decide) c4).mono ?_;rintro e w5 ⟨rfl,h5,cV⟩;have eT:=(((aO.trans bA).trans dA).trans cV);have ka:=k0.trans eT;have z0:=y0.kept eT (bJ _ (by omega));have z1:=y1.kept eT (bJ _ (by omega));clear y0 y1 y2 y3;obtain⟨p0,p1,p2,p3,p4,p5,p6,p7⟩:=z0.gZ;obtain⟨e0,e1,e2,e3,e4,e5,e6,e7⟩:=z1.gZ;obtain⟨g0,g1,g2,g3,g4,g5,g6,g7⟩:=z1.nN;simp only[bB]at e0 e1 e2 e3 e4 e5 e6 e7;have pL:w.heap.size+1<w5.heap.size:=z1.lt;go_wp2_with fail;have fZ:=am5 hR h5 hp lK bk ka;have lk:=vV z1 q;simp only[gg]at fZ lk;refine vS (i:=4) (b:=w.heap.size+1) (q:=q) results108 ?_ ?_ ?_ ?_
     ·rfl
     ·rfl
     ·exact lk
     ·rw[EQ.out.1,EQ.out.2];exact⟨_,rfl,fZ⟩
    case' true=>
     refine(jr h4 _ MN (by rfl) (by decide) c4).mono ?_;rintro e w5 ⟨rfl,h5,cV⟩;go_wp2_with fail;refine(agh h5).mono ?_;rintro e w6 ⟨rfl,h6,gF⟩;have eT:=((((aO.trans bA).trans dA).trans cV).trans gF)
     have EN:Hid ((20<(ey g {st with next:=st.next+1}).2.1\/20<(ey g {st with next:=st.next+1}).2.2\/((ey g {st with next:=st.next+1}).2.2≠ -1/\(ey g {st with next:=st.next+1}).2.2<(ey g {st with next:=st.next+1}).2.1))->uU g A CA st ((ey g {st with next:=st.next+1}).1.eu 4 (qP g st)) (ey g {st with next:=st.next+1}).2.1 (ey g {st with next:=st.next+1}).2.2):=fun hx=>⟨by
      unfold h_;rw[if_neg (by rw[c1];simp),if_neg (by rw[c2];simp),if_neg (by rw[c3];simp),if_pos c4];simp only;rw[if_pos (by first|omega|(simp at*;omega))],by
      unfold ni;rw[if_neg (by rw[c1];simp),if_neg (by rw[c2];simp),if_neg (by rw[c3];simp),if_pos c4];rfl,by omega⟩
     have EY:Hid (¬(20<(ey g {st with next:=st.next+1}).2.1\/20<(ey g {st with next:=st.next+1}).2.2\/((ey g {st with next:=st.next+1}).2.2≠ -1/\(ey g {st with next:=st.next+1}).2.2<(ey g {st with next:=st.next+1}).2.1))->uU g A CA st (ey g {st with next:=st.next+1}).1 (ey g {st with next:=st.next+1}).2.1 (ey g {st with next:=st.next+1}).2.2):=fun hx=>⟨by
      unfold h_;rw[if_neg (by rw[c1];simp),if_neg (by rw[c2];simp),if_neg (by rw[c3];simp),if_pos c4];simp only;rw[if_neg (by first|omega|(simp at*;omega))],by
      unfold ni;rw[if_neg (by rw[c1];simp),if_neg (by rw[c2];simp),if_neg (by rw[c3];simp),if_pos c4],by omega⟩
     generalize(ey g {st with next:=st.next+1}).2.1=L at*
     generalize(ey g {st with next:=st.next+1}).2.2=Hh at*
     by_cases t1:20<L
     case' pos=>have EQ:=IU (EN.out (Or.inl t1))
     case' neg=>
      by_cases t2:20<Hh
      case' pos=>have EQ:=IU (EN.out (Or.inr (Or.inl t2)))
      case' neg=>
       by_cases Rz:Hh= -1
       case' pos=>
        have EQ:=IU (EY.out (by omega));have t3:(Hh != -1)=false:=(by simp[Rz]);clear Rz
       case' neg=>
        have t3:(Hh != -1)=true:=(by simp[Rz]);by_cases t4:Hh<L
        case' pos=>have EQ:=IU (EN.out (Or.inr (Or.inr ⟨Rz,t4⟩)))
        case' neg=>have EQ:=IU (EY.out (by omega))
     all_goals clear EN EY
 all_goals
  have ka:=k0.trans eT;have z1:=y1.kept eT (bJ _ (by omega));have z2:=y2.kept eT (bJ _ (by omega));have z3:=y3.kept eT (bJ _ (by omega));clear y0 y1 y2 y3;have e5:w6.cell? ⟨w.heap.size+1+1+1,5,none⟩=some (.int .i64 0):=z3.cell 5;have e6:w6.cell? ⟨w.heap.size+1+1+1,6,none⟩=some (.int .i64 0):=z3.cell 6;have f5:=z3.frozen 5;have f6:=z3.frozen 6;go_wp2_with fail;obtain⟨RM,ks⟩:=EQ.out.set z3;have hs:=h6.new hR ks (fun i hi=>by omega);have kb:=ka.bV ks (fun i hi he=>by omega);have RK:=z1.kept ks (by omega);have RL:=z2.kept ks (by omega);clear z1 z2 z3 e5 e6 f5 f6 ks
  try
   refine(GM hs 4 _ (by omega) Mp).mono ?_;rintro e w7 ⟨rfl,h7,iE⟩;have RK:=RK.kept iE (bJ _ (by omega));have RL:=RL.kept iE (bJ _ (by omega));have RM:=RM.kept iE (bJ _ (by omega));have kb:=kb.trans iE;have hs:=h7;go_wp2_with fail
  refine(RB hs _ iq (by rfl) (by decide)).mono ?_;rintro e wy ⟨rfl,hy,L7⟩;have t1:=RK.kept L7 (bJ _ (by omega));have t2:=RL.kept L7 (bJ _ (by omega));have t3:=RM.kept L7 (bJ _ (by omega));have ky:=kb.trans L7;clear RK RL RM kb L7 ka;obtain⟨lz,L9⟩:=EQ.out.lz;rw[L9];have HLZ:=IU L9;clear L9;have d7:wy.cell? ⟨w.heap.size+1+1+1,7,none⟩=some (.bool false):=t3.cell 7;have f7:=t3.frozen 7;obtain⟨e0,e1,e2,e3,e4,e5,e6,e7⟩:=t1.gZ;obtain⟨g0,g1,g2,g3,g4,g5,g6,g7⟩:=t1.nN;obtain⟨d0,d1,d2,d3,d4,d5,d6,_⟩:=t3.gZ;simp only[bB,lT,oD]at e0 e1 e2 e3 e4 e5 e6 e7 d0 d1 d2 d3 d4 d5 d6;have pL:w.heap.size+1<wy.heap.size:=t1.lt;have rI:w.heap.size+1+1+1<wy.heap.size:=t3.lt;go_wp2_with fail;have kl:aa (fun i=>i=w.heap.size+1+1+1) wy (wy.setCell ⟨w.heap.size+1+1+1,7,none⟩ (.bool lz)):=(aa.refl (fun i=>i=w.heap.size+1+1+1) wy).setCell (p:=⟨w.heap.size+1+1+1,7,none⟩) (Or.inl rfl) _;exact EQ.out.fZ (i:=4) HLZ.out hR (hy.new hR kl (fun i hi=>by omega)) hp lK P_ bk (ky.bV kl (fun i hi he=>by omega)) (t1.kept kl (by omega)) (t2.kept kl (by omega)) results108 rfl rfl (fun e w' h=>h)
end Go.Proofs.YtpdnofhackjfdaaGreatDoor
