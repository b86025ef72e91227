/- The reader of th -/
import Derived.Test.YtpdnofhackjfdaaGreatDoorP06
set_option linter.all false
set_option maxRecDepth 100000
set_option maxHeartbeats 16000000
namespace Go.Proofs.YtpdnofhackjfdaaGreatDoor
open Go.Proofs.Tryz
open Go.RowKit Go.Maps
variable {a:Act} {fo rS fo2:Bool} {CA:CT} {Q:Ending->World->Prop} {f:Func} {H L gr:Int} {b b2 hi i k lo:Nat} {q:Nv} {A:PT} {g:RG} {ST st ln:RS} {t:TypeId} {w w1 w2 w4 wz:World}
def IP(g:RG)(k:Nat):Prop:=∀(w:World) (fo:Bool) (st:RS),aV w g fo st->g.rs.length-st.next<k->
 Calls prog 56 #[BT g.b 0] w fun e w'=>∃q,e=.returned (Nv.val q)/\aV w' g fo (aY g k st).1/\cJ w' w.heap.size w'.heap.size q (aY g k st).2 (dR g k fo st)/\aa g.ay w w'
theorem aef(g:RG)(st:RS)(h:st.next<=g.rs.length):st.next<=(iH g st).next/\(iH g st).next<=g.rs.length:=by
 unfold iH
 cases hq:aK iE (aC g st)
 ·simp;exact h
 ·have h1:=j8 hq;simp only[Bool.true_eq_false,if_false]
  cases hl:aK DL (aC g {st with next:=st.next+1})
  ·have h2:=Kx g lI {st with next:=st.next+1} (by simp;omega);have h3:=xZ g Io _ h2.2;simp at*;omega
  ·have h2:=j8 hl;simp only at h2;have h3:=amZ g {st with next:=st.next+2,aT:=st.aT+1} (by simp;omega);simp at*;omega
theorem adK(h:aV w g fo st)(hg:st.aT<st.next):
 Calls prog 164 #[BT g.b 0] w fun e w'=>e=.returned (GW ((st.aT:Int)+1))/\aV w' g fo {st with aT:=st.aT+1}/\aa g.ay w w':=by
 have c5:w.cell? ⟨g.b,5,none⟩=some (GW st.aT):=h.aq.cell 5;have f5:=h.aq.frozen 5;have hl:=h.len;have hn:=h.next
 go_in
 go_wp2
 go_ret
 have:=h.aoC (st.aT+1) (by omega) (by omega);exact⟨rfl,by simpa using this,by simpa using zJ g 5 (GW ((st.aT:Int)+1))⟩
def IL:Nv:=⟨2,none,0,0,none,0,0,0,0,0,0,false⟩
def IK(gr:Int):Nv:=⟨2,none,0,0,none,0,0,0,gr,0,0,false⟩
def FY(w:World):World:=(w.alloc (.cells bG.cells 64)).alloc (.cells IL.cells 64)
theorem aaN(w:World)(S:Nat->Prop):aa S w (FY w):=((aa.refl S w).alloc _).alloc _
theorem aha(w:World):(FY w).heap.size=w.heap.size+2:=by simp[FY]
theorem ag9(w:World):au (FY w) w.heap.size bG.cells 64:=(au.new w _ _).alloc _
theorem ag_(w:World):au (FY w) (w.heap.size+1) IL.cells 64:=by
 have:=au.new (w.alloc (.cells bG.cells 64)) IL.cells 64;rw[fP]at this;exact this
theorem afQ(h:au w b IL.cells t)(gr:Int):au (w.setCell ⟨b,4,none⟩ (GW gr)) b (IK gr).cells t:=by
 have:=h.setCell 4 (GW gr);rw[show IL.cells.setIfInBounds 4 (GW gr)=(IK gr).cells by simp[Nv.cells,IL,IK]]at this;exact this
theorem amm(h:au w b (IK gr).cells t):au (w.setCell ⟨b,1,none⟩ (.slice (some ⟨b2,0,none⟩) 1 1)) b (oT 2 b2 1 gr 0 0 false).cells t:=by
 have:=h.setCell 1 (.slice (some ⟨b2,0,none⟩) 1 1);rw[show(IK gr).cells.setIfInBounds 1 (.slice (some ⟨b2,0,none⟩) 1 1)=(oT 2 b2 1 gr 0 0 false).cells by simp[Nv.cells,IK,oT]]at this;exact this
theorem ag7{T:PT}{C:CT}(h:aV w g fo st)(h4:aV w4 g fo2 ln)(oM:w.heap.size+2<=w1.heap.size)
 (hp:cJ w2 w1.heap.size w2.heap.size q T C)(acP:w1.heap.size<=w2.heap.size)(k1:aa g.ay w w4)(k2:aa (fun i=>g.ay i\/i=w.heap.size+1) w2 w4)(bq:au w4 w2.heap.size q.cells 64)(dM:0<=gr/\gr<=300):
 aV (gy (w4.setCell ⟨g.b,4,none⟩ (.bool fo)) w.heap.size (oT 2 w2.heap.size 1 gr 0 0 false)) g fo ln/\
 cJ (gy (w4.setCell ⟨g.b,4,none⟩ (.bool fo)) w.heap.size (oT 2 w2.heap.size 1 gr 0 0 false)) w.heap.size (gy (w4.setCell ⟨g.b,4,none⟩ (.bool fo)) w.heap.size (oT 2 w2.heap.size 1 gr 0 0 false)).heap.size (oT 2 w2.heap.size 1 gr 0 0 false) (.node 1 [T] 0 0) (.node 2 [] false false 0 gr 0 0 false [C])/\
 aa g.ay w (gy (w4.setCell ⟨g.b,4,none⟩ (.bool fo)) w.heap.size (oT 2 w2.heap.size 1 gr 0 0 false)):=by
 have h5:=h4.Yx fo;have k5:aa g.ay w4 (w4.setCell ⟨g.b,4,none⟩ (.bool fo)):=zJ g 4 _;generalize w4.setCell ⟨g.b,4,none⟩ (.bool fo)=w5 at*;generalize hQ:oT 2 w2.heap.size 1 gr 0 0 false=Q;have sz:=Ox w5 w.heap.size Q;have kq:=Kp w5 w.heap.size Q;have s5:=k5.size;have Qp:=bq.lt;refine⟨h5.new h kq (fun i hi=>by omega),?_,(k1.trans k5).b_ kq (fun i hi he=>by omega)⟩;rw[<-hQ]at*;refine cJ.wrap (S:=fun i=>g.ay i\/i=w.heap.size\/i=w.heap.size+1) (q:=q) hp (Ab _) (((k2.mono (fun i hi=>by rcases hi with hi|hi;exact Or.inl hi;exact Or.inr (Or.inr hi))).trans (k5.mono (fun i hi=>Or.inl hi))).trans (kq.mono (fun i hi=>Or.inr (Or.inl hi)))) (fun i hi=>?_) ((bq.kept k5 (fun hx=>by have:=h.ic hx;omega)).kept kq (by omega)) (by omega) (by omega) ⟨by omega,by omega⟩ ⟨by omega,by omega,dM⟩ (Or.inl ⟨rfl,rfl⟩);rcases hi with hi|hi|hi
 ·have:=h.ic hi;omega
 ·omega
 ·omega
structure IQ(g:RG)(fo:Bool)(st:RS)(k:Nat)(H:RS)(F:Bool)(GR:Int):Prop where
 h:iH g st=H
 c:sV g (dR g k) fo st=.node 2 [] false false 0 GR 0 0 false [dR g k F H]
 r:0<=GR/\GR<=300
 n:g.rs.length-H.next<k
theorem IQ.gw{F:Bool}{H:RS}{GR:Int}(E:IQ g fo st k H F GR)(h:aV w g fo st)(h4:aV w4 g fo2 (eY g Kf (aY g k H).1))(oM:w.heap.size+2<=w1.heap.size)
 (hp:cJ w2 w1.heap.size w2.heap.size q (aY g k H).2 (dR g k F H))(acP:w1.heap.size<=w2.heap.size)(k1:aa g.ay w w4)(k2:aa (fun i=>g.ay i\/i=w.heap.size+1) w2 w4)(bq:au w4 w2.heap.size q.cells 64)(t0:au w4 w.heap.size bG.cells 64)
 (mH:f.results=#[ResultVar.cell i 64])(tz:a.tmps.getD i undef=BT w.heap.size 0)(hd:a.defers=[])
 (hQ:∀e w',(∃q,e=.returned (Nv.val q)/\aV w' g fo (wM g (aY g k) st).1/\cJ w' w.heap.size w'.heap.size q (wM g (aY g k) st).2 (sV g (dR g k) fo st)/\aa g.ay w w')->Q e w'):bodyPost prog f Q Exit.ret a (gy (w4.setCell ⟨g.b,4,none⟩ (.bool fo)) w.heap.size (oT 2 w2.heap.size 1 GR 0 0 false)):=by
 refine wJ (i:=i) (b:=w.heap.size) (q:=oT 2 w2.heap.size 1 GR 0 0 false) mH tz hd (wN (t0.kept (zJ g 4 (.bool fo)) (fun hx=>by have:=h.ic hx;omega)) _) (hQ _ _ ?_);unfold wM;rw[E.h,E.c];exact⟨_,rfl,ag7 (fo:=fo) h h4 oM hp acP k1 k2 bq E.r⟩
theorem aV.abE(h:aV w g fo st):w.cell? ⟨g.b,4,none⟩=some (.bool fo)/\w.frozen? ⟨g.b,4,none⟩=false:=⟨h.aq.cell 4,h.aq.frozen 4⟩
theorem ag8(hA:IP g k)(hR:aV w g fo st)(hg:st.aT<st.next)(WQ:g.rs.length-st.next<k):
 Calls prog 131 #[BT g.b 0] w fun e w'=>∃q,e=.returned (Nv.val q)/\aV w' g fo (wM g (aY g k) st).1/\cJ w' w.heap.size w'.heap.size q (wM g (aY g k) st).2 (sV g (dR g k) fo st)/\aa g.ay w w':=by
 have WL:=aef g st hR.next
 have hl:=hR.len;have l7:=hR.next
 have No:=hR.names;have bQ:∀i,w.heap.size<=i->¬g.ay i:=fun i hi hx=>by have:=hR.ic hx;omega
 have ha:=hR.nil (aaN w ai);have ka:=aaN w g.ay;have sb:=aha w;have x0:=ag9 w;have x1:=ag_ w;have c4:(FY w).cell? ⟨g.b,4,none⟩=some (.bool fo):=ha.aq.cell 4;simp only[FY,Nv.cells,bG,IL]at c4;go_in;go_wp2_with fail
 cases hq:aK iE (aC g st)
 case' false=>
  have EQ:Hid (IQ g fo st k {st with aT:=st.aT+1} fo ((st.aT:Int)+1)):=⟨by simp[iH,hq],by unfold sV;rw[if_pos hq];simp[iH,hq],by omega,by simp;omega⟩;refine(jf ha _ iE (by rfl) (by decide) hq).mono ?_;rintro e w1 ⟨rfl,h1,aU⟩;go_wp2_with fail;refine(adK h1 hg).mono ?_;rintro e An ⟨rfl,h_,uy⟩;have kk:=(ka.trans aU).trans uy;have o1:=(x1.kept aU (bQ _ (by omega))).kept uy (bQ _ (by omega));have o0:=(x0.kept aU (bQ _ (by omega))).kept uy (bQ _ (by omega));have d4:An.cell? ⟨w.heap.size+1,4,none⟩=some (GW 0):=o1.cell 4;have f4:=o1.frozen 4;have n1:=afQ o1 ((st.aT:Int)+1);have DK:aa (fun i=>i=w.heap.size+1) An (An.setCell ⟨w.heap.size+1,4,none⟩ (GW ((st.aT:Int)+1))):=(aa.refl (fun i=>i=w.heap.size+1) An).setCell (p:=⟨w.heap.size+1,4,none⟩) (Or.inl rfl) _;have n0:=o0.kept DK (by omega);have cZ:=h_.new hR DK (fun i hi=>by omega);have kn:=kk.b_ DK (fun i hi he=>by omega)
 case' true=>
  have hlq:=j8 hq;refine(jz ha _ iE (by rfl) (by decide) hq).mono ?_;rintro e wa ⟨rfl,h1a,acq⟩;go_wp2_with fail
  cases hs:aK DL (aC g {st with next:=st.next+1})
  case' true=>
   have tn:=j8 hs;simp only at tn
   have EQ:Hid (IQ g fo st k (pL g {st with next:=st.next+1+1,aT:=st.aT+1}) fo ((st.aT:Int)+1)):=by
    have e:iH g st=pL g {st with next:=st.next+1+1,aT:=st.aT+1}:=(by simp[iH,hq,hs]);exact⟨e,by unfold sV;rw[if_neg (by rw[hq];simp),if_pos hs,e],by omega,by rw[<-e];omega⟩
   refine(jz h1a _ DL (by rfl) (by decide) hs).mono ?_;rintro e w1 ⟨rfl,h1,Wp⟩;have aU:=acq.trans Wp;go_wp2_with fail;refine(adK h1 (by simp;omega)).mono ?_;rintro e An ⟨rfl,h_,uy⟩;have kk:=(ka.trans aU).trans uy;have o1:=(x1.kept aU (bQ _ (by omega))).kept uy (bQ _ (by omega));have o0:=(x0.kept aU (bQ _ (by omega))).kept uy (bQ _ (by omega));have d4:An.cell? ⟨w.heap.size+1,4,none⟩=some (GW 0):=o1.cell 4;have f4:=o1.frozen 4;have n1a:=afQ o1 ((st.aT:Int)+1);have DK:aa (fun i=>i=w.heap.size+1) An (An.setCell ⟨w.heap.size+1,4,none⟩ (GW ((st.aT:Int)+1))):=(aa.refl (fun i=>i=w.heap.size+1) An).setCell (p:=⟨w.heap.size+1,4,none⟩) (Or.inl rfl) _;have n0a:=o0.kept DK (by omega);have acF:=h_.new hR DK (fun i hi=>by omega);have kna:=kk.b_ DK (fun i hi he=>by omega);have sk:=aU.size;have sk':=uy.size;have arv:=DK.size;go_wp2_with fail;refine(alV acF (by omega) (by simp;omega)).mono ?_;rintro e wn ⟨rfl,cZ,uA⟩;have n1:=n1a.kept uA (bQ _ (by omega));have n0:=n0a.kept uA (bQ _ (by omega));have kn:=kna.trans uA
  case' false=>
   refine(jf h1a _ DL (by rfl) (by decide) hs).mono ?_;rintro e wb ⟨rfl,h1b,Wp⟩;go_wp2_with fail
   cases hi:aK lI (aC g {st with next:=st.next+1})
   case' false=>
    have EQ:Hid (IQ g fo st k (eY g Io {st with next:=st.next+1}) fo 0):=by
     have e:iH g st=eY g Io {st with next:=st.next+1}:=(by simp[iH,hq,hs,fG,hi]);exact⟨e,by unfold sV;rw[if_neg (by rw[hq];simp),if_neg (by rw[hs];simp),hi,e];simp only[Bool.false_or],by omega,by rw[<-e];omega⟩
    refine(jf h1b _ lI (by rfl) (by decide) hi).mono ?_;rintro e w1 ⟨rfl,h1,acr⟩;have hsf:=h1.Yx fo;have RW:aa g.ay w1 (w1.setCell ⟨g.b,4,none⟩ (.bool fo)):=zJ g 4 _
   case' true=>
    have EQ:Hid (IQ g fo st k (eY g Io {st with next:=st.next+1+1}) true 0):=by
     have e:iH g st=eY g Io {st with next:=st.next+1+1}:=(by simp[iH,hq,hs,fG,hi]);exact⟨e,by unfold sV;rw[if_neg (by rw[hq];simp),if_neg (by rw[hs];simp),hi,e];simp only[Bool.true_or],by omega,by rw[<-e];omega⟩
    refine(jz h1b _ lI (by rfl) (by decide) hi).mono ?_;rintro e w1 ⟨rfl,h1,acr⟩;have hsf:=h1.Yx true;have RW:aa g.ay w1 (w1.setCell ⟨g.b,4,none⟩ (.bool true)):=zJ g 4 _
   all_goals
    have aU:=(acq.trans Wp).trans acr;have kk:=ka.trans aU;obtain⟨c4a,f4a⟩:=h1.abE;have o1:=x1.kept aU (bQ _ (by omega));have o0:=x0.kept aU (bQ _ (by omega));go_wp2_with fail;refine(tH hsf _ Io (by rfl) (by decide)).mono ?_;rintro e wn ⟨rfl,cZ,uA⟩;have n1:au wn (w.heap.size+1) (IK 0).cells 64:=(o1.kept RW (bQ _ (by omega))).kept uA (bQ _ (by omega));have n0:=(o0.kept RW (bQ _ (by omega))).kept uA (bQ _ (by omega));have kn:=(kk.trans RW).trans uA
 all_goals
  clear x0 x1 ha o0 o1;go_wp2_with fail;have sz1:=kn.size;have szn:=n1.lt;refine(hA _ _ _ cZ EQ.o.n).mono ?_;rintro e w2 ⟨q,rfl,h2,hp,aS⟩;have y1:=n1.kept aS (bQ _ (by omega));have y0:=n0.kept aS (bQ _ (by omega));have d1:w2.cell? ⟨w.heap.size+1,1,none⟩=some (.slice none 0 0):=y1.cell 1;have f1:=y1.frozen 1;have s2:=aS.size;have aqU:w.heap.size+1<w2.heap.size:=y1.lt;have z1:=(amm (b2:=w2.heap.size) y1).alloc (.cells q.cells 64);have alc:aa (fun i=>i=w.heap.size+1) w2 (w2.setCell ⟨w.heap.size+1,1,none⟩ (.slice (some ⟨w2.heap.size,0,none⟩) 1 1)):=(aa.refl (fun i=>i=w.heap.size+1) w2).setCell (p:=⟨w.heap.size+1,1,none⟩) (Or.inl rfl) _;have NZ:=alc.alloc (.cells q.cells 64);have z0:=y0.kept NZ (by omega);have ssz:(w2.setCell ⟨w.heap.size+1,1,none⟩ (.slice (some ⟨w2.heap.size,0,none⟩) 1 1)).heap.size=w2.heap.size:=by simp[World.setCell]
  have zq:=au.new (w2.setCell ⟨w.heap.size+1,1,none⟩ (.slice (some ⟨w2.heap.size,0,none⟩) 1 1)) q.cells 64;rw[ssz]at zq;have h3:=h2.new hR NZ (fun i hi=>by omega);have kJ:=kn.trans aS;have Im:=kJ.b_ NZ (fun i hi he=>by omega);clear y0 y1;simp only[Nv.val,Nv.cells];go_wp2_with fail;refine(tH h3 _ Kf (by rfl) (by decide)).mono ?_;rintro e w4 ⟨rfl,h4,dJ⟩;have t1:=z1.kept dJ (bQ _ (by omega));have t0:=z0.kept dJ (bQ _ (by omega));have tq:=zq.kept dJ (bQ _ (by omega));have NS:aa (fun i=>g.ay i\/i=w.heap.size+1) w2 w4:=(NZ.mono (fun i hi=>Or.inr hi)).trans (dJ.mono (fun i hi=>Or.inl hi));have wB:=Im.trans dJ;have s4:=dJ.size;have sa3:=NZ.size;obtain⟨c4',f4'⟩:=h4.abE;have k_:g.b<w.heap.size:=hR.Qp;obtain⟨p0,p1,p2,p3,p4,p5,p6,p7⟩:=t1.iq;obtain⟨e0,e1,e2,e3,e4,e5,e6,e7⟩:=t0.iq;obtain⟨g0,g1,g2,g3,g4,g5,g6,g7⟩:=t0.nZ;simp only[bG,oT]at e0 e1 e2 e3 e4 e5 e6 e7 p0 p1 p2 p3 p4 p5 p6 p7;have qh:w.heap.size<w4.heap.size:=t0.lt;have sh:w.heap.size+1<w4.heap.size:=t1.lt;have aqV:g.b≠w.heap.size:=by omega
  have aqW:g.b≠w.heap.size+1:=by omega
  go_wp2_with fail
  exact EQ.o.gw (i:=2) hR h4 (by omega) hp s2 wB NS tq t0 results131 rfl rfl (fun e w' h=>h)
def mg(b:Nat)(l h:Int)(lz:Bool):Nv:=oT 5 b 1 0 l h lz
def OA(w:World)(q:Nv):World:=
 (((w.alloc (.cells q.cells 64)).alloc (.cells bG.cells 64)).alloc (.cells q.cells 64)).alloc (.cells (mg (w.heap.size+1+1) 0 0 false).cells 64)
theorem aeV(w:World)(q:Nv)(S:Nat->Prop):aa S w (OA w q):=((((aa.refl S w).alloc _).alloc _).alloc _).alloc _
theorem anZ(w:World)(q:Nv):au (OA w q) w.heap.size q.cells 64:=(((au.new w _ _).alloc _).alloc _).alloc _
theorem an0(w:World)(q:Nv):au (OA w q) (w.heap.size+1) bG.cells 64:=by
 have:=((au.new (w.alloc (.cells q.cells 64)) bG.cells 64).alloc (.cells q.cells 64)).alloc (.cells (mg (w.heap.size+1+1) 0 0 false).cells 64);rw[fP]at this;exact this
theorem an1(w:World)(q:Nv):au (OA w q) (w.heap.size+1+1) q.cells 64:=by
 have:=(au.new ((w.alloc (.cells q.cells 64)).alloc (.cells bG.cells 64)) q.cells 64).alloc (.cells (mg (w.heap.size+1+1) 0 0 false).cells 64);rw[fP,fP]at this;exact this
theorem an2(w:World)(q:Nv):au (OA w q) (w.heap.size+1+1+1) (mg (w.heap.size+1+1) 0 0 false).cells 64:=by
 have:=au.new (((w.alloc (.cells q.cells 64)).alloc (.cells bG.cells 64)).alloc (.cells q.cells 64)) (mg (w.heap.size+1+1) 0 0 false).cells 64;rw[fP,fP,fP]at this;exact this
theorem anY(h:au w b (mg b2 0 0 false).cells t)(l hh:Int):au ((w.setCell ⟨b,5,none⟩ (GW l)).setCell ⟨b,6,none⟩ (GW hh)) b (mg b2 l hh false).cells t:=by
 have:=(h.setCell 5 (GW l)).setCell 6 (GW hh);rw[show((mg b2 0 0 false).cells.setIfInBounds 5 (GW l)).setIfInBounds 6 (GW hh)=(mg b2 l hh false).cells by simp[Nv.cells,mg,oT]]at this;exact this
theorem an3{low high:Int}{lz:Bool}(hR:aV w g fo st)(hz:aV wz g rS ln)(hp:cJ w lo hi q A CA)(lX:hi<=w.heap.size)(Ro:lo<=w.heap.size)(bC:∀i,g.ay i->i<lo)
 (k1:aa g.ay w wz)(b2:au wz (w.heap.size+1+1) q.cells 64)(hl:(-1<=low/\low<=99)/\(-1<=high/\high<=99)):
 aV (gy wz (w.heap.size+1) (mg (w.heap.size+1+1) low high lz)) g rS ln/\
 cJ (gy wz (w.heap.size+1) (mg (w.heap.size+1+1) low high lz)) lo (gy wz (w.heap.size+1) (mg (w.heap.size+1+1) low high lz)).heap.size (mg (w.heap.size+1+1) low high lz) (.node 4 [A] low high) (ud CA low high lz)/\
 aa g.ay w (gy wz (w.heap.size+1) (mg (w.heap.size+1+1) low high lz)):=by
 have sz:=Ox wz (w.heap.size+1) (mg (w.heap.size+1+1) low high lz);have kq:=Kp wz (w.heap.size+1) (mg (w.heap.size+1+1) low high lz);have Qp:=b2.lt;have kk:=k1.b_ kq (fun i hi he=>by omega);refine⟨hz.new hR kq (fun i hi=>by omega),?_,kk⟩;exact cJ.wrap (q:=q) hp lX kk (fun i hi=>Or.inl (bC i hi)) (b2.kept kq (by omega)) (Ab _) (by omega) ⟨by omega,by omega⟩ ⟨hl.1,hl.2,by omega⟩ (Or.inr ⟨rfl,rfl⟩)
theorem an4(hR:aV w g fo st)(hz:aV wz g rS ln)(hp:cJ w lo hi q A CA)(lX:hi<=w.heap.size)(bC:∀i,g.ay i->i<lo)
 (k1:aa g.ay w wz):
 aV (gy wz (w.heap.size+1) q) g rS ln/\cJ (gy wz (w.heap.size+1) q) lo (gy wz (w.heap.size+1) q).heap.size q A CA/\aa g.ay w (gy wz (w.heap.size+1) q):=by
 have sz:=Ox wz (w.heap.size+1) q;have kq:=Kp wz (w.heap.size+1) q;have s1:=k1.size;have kk:=k1.b_ kq (fun i hi he=>by omega);exact⟨hz.new hR kq (fun i hi=>by omega),(hp.kept kk (fun i h1 _ hx=>by have:=bC i hx;omega) lX).IN (Ab _) (by omega),kk⟩
theorem amM(g:RG)(st:RS):(0<=(eO g st).2.1/\(eO g st).2.1<=99)/\(-1<=(eO g st).2.2/\(eO g st).2.2<=99):=by
 have r1:=So g st;have r2:=So g {(fL g st).1 with next:=(fL g st).1.next+1};unfold eO;split
 ·unfold sE;split
  ·simp;omega
  ·simp only at r2⊢;omega
 ·simp only;omega
theorem JM{p:Prop}(h:p):Hid p:=h
structure vx(g:RG)(A:PT)(CA:CT)(st ST:RS)(L H:Int):Prop where
 p:iw g A st=(fG g iE ST,.node 4 [A] L H)
 c:nK g CA st=ud CA L H (aK iE (aC g ST))
 r:(-1<=L/\L<=99)/\(-1<=H/\H<=99)
theorem vx.set(_:vx g A CA st ST L H)(h:au w b (mg b2 0 0 false).cells t):au ((w.setCell ⟨b,5,none⟩ (GW L)).setCell ⟨b,6,none⟩ (GW H)) b (mg b2 L H false).cells t/\aa (fun i=>i=b) w ((w.setCell ⟨b,5,none⟩ (GW L)).setCell ⟨b,6,none⟩ (GW H)):=
 ⟨anY h L H,((aa.refl (fun i=>i=b) w).setCell (p:=⟨b,5,none⟩) (Or.inl rfl) _).setCell (p:=⟨b,6,none⟩) (Or.inl rfl) _⟩
theorem vx.lz(_:vx g A CA st ST L H):∃lz,aK iE (aC g ST)=lz:=⟨_,rfl⟩
theorem vx.gw{lz:Bool}(h:vx g A CA st ST L H)(Ni:aK iE (aC g ST)=lz)(hR:aV w g fo st)(hz:aV wz g rS (fG g iE ST))(hp:cJ w lo hi q A CA)(lX:hi<=w.heap.size)(Ro:lo<=w.heap.size)(bC:∀i,g.ay i->i<lo)
 (k1:aa g.ay w wz)(b1:au wz (w.heap.size+1) bG.cells 64)(b2:au wz (w.heap.size+1+1) q.cells 64)(mH:f.results=#[ResultVar.cell i 64])(tz:a.tmps.getD i undef=.pointer (some ⟨w.heap.size+1,0,none⟩))(hd:a.defers=[])
 (hQ:∀e w',(∃q',e=.returned (Nv.val q')/\aV w' g rS (iw g A st).1/\cJ w' lo w'.heap.size q' (iw g A st).2 (nK g CA st)/\aa g.ay w w')->Q e w'):bodyPost prog f Q Exit.ret a (gy wz (w.heap.size+1) (mg (w.heap.size+1+1) L H lz)):=by
 refine wJ (i:=i) (b:=w.heap.size+1) (q:=mg (w.heap.size+1+1) L H lz) mH tz hd (wN b1 _) (hQ _ _ ?_);rw[h.p,h.c,Ni];exact⟨_,rfl,an3 hR hz hp lX Ro bC k1 b2 h.r⟩
theorem an7(hR:aV w g fo st)(hp:cJ w lo hi q A CA)(lX:hi<=w.heap.size)(Ro:lo<=w.heap.size)(bC:∀i,g.ay i->i<lo):
 Calls prog 108 #[BT g.b 0,Nv.val q] w fun e w'=>∃q',e=.returned (Nv.val q')/\aV w' g fo (iw g A st).1/\cJ w' lo w'.heap.size q' (iw g A st).2 (nK g CA st)/\aa g.ay w w':=by
 have aq4:=amM g {st with next:=st.next+1};have NB:0<=rB g st/\rB g st<=300:=hR.ni st.next
 have dc:=hR.len;have l7:=hR.next
 have kw:=aeV w q g.ay;have hW:=hR.nil (aeV w q ai);have x0:=anZ w q;have x1:=an0 w q;have x2:=an1 w q;have x3:=an2 w q;have bQ:∀i,w.heap.size<=i->¬g.ay i:=fun i hi hx=>by have:=hR.ic hx;omega
 simp only[Nv.val,Nv.cells];go_in;go_wp2_with fail;refine(Su hW).mono ?_;rintro e w1 ⟨rfl,h1,aU⟩;have y0:=x0.kept aU (bQ _ (by omega));have y1:=x1.kept aU (bQ _ (by omega));have y2:=x2.kept aU (bQ _ (by omega));have y3:=x3.kept aU (bQ _ (by omega));have k0:=kw.trans aU;clear x0 x1 x2 x3 kw hW aU;go_wp2_with fail
 cases c1:aK Oa (aC g st)
 case' true=>
  have EQ:Hid (vx g A CA st {st with next:=st.next+1} 0 (-1)):=⟨by unfold iw;rw[if_pos c1],by unfold nK;rw[if_pos c1],by omega⟩;refine(jz h1 _ Oa (by rfl) (by decide) c1).mono ?_;rintro e w6 ⟨rfl,h6,eE⟩
 case' false=>
  refine(jf h1 _ Oa (by rfl) (by decide) c1).mono ?_;rintro e w2 ⟨rfl,h2,aS⟩;go_wp2_with fail
  cases c2:aK N_ (aC g st)
  case' true=>
   have EQ:Hid (vx g A CA st {st with next:=st.next+1} 1 (-1)):=⟨by unfold iw;rw[if_neg (by rw[c1];simp),if_pos c2],by unfold nK;rw[if_neg (by rw[c1];simp),if_pos c2],by omega⟩;refine(jz h2 _ N_ (by rfl) (by decide) c2).mono ?_;rintro e w6 ⟨rfl,h6,bm⟩;have eE:=aS.trans bm
  case' false=>
   refine(jf h2 _ N_ (by rfl) (by decide) c2).mono ?_;rintro e w3 ⟨rfl,h3,bm⟩;go_wp2_with fail
   cases c3:aK iE (aC g st)
   case' true=>
    have EQ:Hid (vx g A CA st {st with next:=st.next+1} 0 1):=⟨by unfold iw;rw[if_neg (by rw[c1];simp),if_neg (by rw[c2];simp),if_pos c3],by unfold nK;rw[if_neg (by rw[c1];simp),if_neg (by rw[c2];simp),if_pos c3],by omega⟩;refine(jz h3 _ iE (by rfl) (by decide) c3).mono ?_;rintro e w6 ⟨rfl,h6,dJ⟩;have eE:=(aS.trans bm).trans dJ
   case' false=>
    refine(jf h3 _ iE (by rfl) (by decide) c3).mono ?_;rintro e w4 ⟨rfl,h4,dJ⟩;go_wp2_with fail
    cases c4:aK N7 (aC g st)
    case false=>
     have EQ:Hid (iw g A st=(st,A)/\nK g CA st=CA):=⟨by unfold iw;rw[if_neg (by rw[c1];simp),if_neg (by rw[c2];simp),if_neg (by rw[c3];simp),if_neg (by rw[c4];simp)],by unfold nK;rw[if_neg (by rw[c1];simp),if_neg (by rw[c2];simp),if_neg (by rw[c3];simp),if_neg (by rw[c4];simp)]⟩;refine(jf h4 _ N7 (by rfl) (by decide) c4).mono ?_;rintro e w5 ⟨rfl,h5,cS⟩;have eE:=(((aS.trans bm).trans dJ).trans cS);have ka:=k0.trans eE;have z0:=y0.kept eE (bQ _ (by omega));have z1:=y1.kept eE (bQ _ (by omega));clear y0 y1 y2 y3;obtain⟨p0,p1,p2,p3,p4,p5,p6,p7⟩:=z0.iq;obtain⟨e0,e1,e2,e3,e4,e5,e6,e7⟩:=z1.iq;obtain⟨g0,g1,g2,g3,g4,g5,g6,g7⟩:=z1.nZ;simp only[bG]at e0 e1 e2 e3 e4 e5 e6 e7;have qh:w.heap.size+1<w5.heap.size:=z1.lt;go_wp2_with fail;have gw:=an4 hR h5 hp lX bC ka;have lD:=wN z1 q;simp only[gy]at gw lD;refine wJ (i:=4) (b:=w.heap.size+1) (q:=q) results108 ?_ ?_ ?_ ?_
     ·rfl
     ·rfl
     ·exact lD
     ·rw[EQ.o.1,EQ.o.2];exact⟨_,rfl,gw⟩
    case' true=>
     refine(jz h4 _ N7 (by rfl) (by decide) c4).mono ?_;rintro e w5 ⟨rfl,h5,cS⟩;go_wp2_with fail;refine(ag4 h5).mono ?_;rintro e w6 ⟨rfl,h6,gQ⟩;have eE:=((((aS.trans bm).trans dJ).trans cS).trans gQ)
     have EN:Hid ((20<(eO g {st with next:=st.next+1}).2.1\/20<(eO g {st with next:=st.next+1}).2.2\/((eO g {st with next:=st.next+1}).2.2≠ -1/\(eO g {st with next:=st.next+1}).2.2<(eO g {st with next:=st.next+1}).2.1))->vx g A CA st ((eO g {st with next:=st.next+1}).1.eN 4 (rB g st)) (eO g {st with next:=st.next+1}).2.1 (eO g {st with next:=st.next+1}).2.2):=fun hx=>⟨by
      unfold iw;rw[if_neg (by rw[c1];simp),if_neg (by rw[c2];simp),if_neg (by rw[c3];simp),if_pos c4];simp only;rw[if_pos (by first|omega|(simp at*;omega))],by
      unfold nK;rw[if_neg (by rw[c1];simp),if_neg (by rw[c2];simp),if_neg (by rw[c3];simp),if_pos c4];rfl,by omega⟩
     have EY:Hid (¬(20<(eO g {st with next:=st.next+1}).2.1\/20<(eO g {st with next:=st.next+1}).2.2\/((eO g {st with next:=st.next+1}).2.2≠ -1/\(eO g {st with next:=st.next+1}).2.2<(eO g {st with next:=st.next+1}).2.1))->vx g A CA st (eO g {st with next:=st.next+1}).1 (eO g {st with next:=st.next+1}).2.1 (eO g {st with next:=st.next+1}).2.2):=fun hx=>⟨by
      unfold iw;rw[if_neg (by rw[c1];simp),if_neg (by rw[c2];simp),if_neg (by rw[c3];simp),if_pos c4];simp only;rw[if_neg (by first|omega|(simp at*;omega))],by
      unfold nK;rw[if_neg (by rw[c1];simp),if_neg (by rw[c2];simp),if_neg (by rw[c3];simp),if_pos c4],by omega⟩
     generalize(eO g {st with next:=st.next+1}).2.1=L at*
     generalize(eO g {st with next:=st.next+1}).2.2=Hh at*
     by_cases t1:20<L
     case' pos=>have EQ:=JM (EN.o (Or.inl t1))
     case' neg=>
      by_cases t2:20<Hh
      case' pos=>have EQ:=JM (EN.o (Or.inr (Or.inl t2)))
      case' neg=>
       by_cases S_:Hh= -1
       case' pos=>
        have EQ:=JM (EY.o (by omega));have t3:(Hh != -1)=false:=(by simp[S_]);clear S_
       case' neg=>
        have t3:(Hh != -1)=true:=(by simp[S_]);by_cases t4:Hh<L
        case' pos=>have EQ:=JM (EN.o (Or.inr (Or.inr ⟨S_,t4⟩)))
        case' neg=>have EQ:=JM (EY.o (by omega))
     all_goals clear EN EY
 all_goals
  have ka:=k0.trans eE;have z1:=y1.kept eE (bQ _ (by omega));have z2:=y2.kept eE (bQ _ (by omega));have z3:=y3.kept eE (bQ _ (by omega));clear y0 y1 y2 y3;have e5:w6.cell? ⟨w.heap.size+1+1+1,5,none⟩=some (GW 0):=z3.cell 5;have e6:w6.cell? ⟨w.heap.size+1+1+1,6,none⟩=some (GW 0):=z3.cell 6;have f5:=z3.frozen 5;have f6:=z3.frozen 6;go_wp2_with fail;obtain⟨Tl,ks⟩:=EQ.o.set z3;have hs:=h6.new hR ks (fun i hi=>by omega);have kb:=ka.b_ ks (fun i hi he=>by omega);have Tj:=z1.kept ks (by omega);have Tk:=z2.kept ks (by omega);clear z1 z2 z3 e5 e6 f5 f6 ks
  try
   refine(Iu hs 4 _ (by omega) NB).mono ?_;rintro e w7 ⟨rfl,h7,iP⟩;have Tj:=Tj.kept iP (bQ _ (by omega));have Tk:=Tk.kept iP (bQ _ (by omega));have Tl:=Tl.kept iP (bQ _ (by omega));have kb:=kb.trans iP;have hs:=h7;go_wp2_with fail
  refine(Tb hs _ iE (by rfl) (by decide)).mono ?_;rintro e wy ⟨rfl,hy,Nf⟩;have t1:=Tj.kept Nf (bQ _ (by omega));have t2:=Tk.kept Nf (bQ _ (by omega));have t3:=Tl.kept Nf (bQ _ (by omega));have ky:=kb.trans Nf;clear Tj Tk Tl kb Nf ka;obtain⟨lz,Ni⟩:=EQ.o.lz;rw[Ni];have HLZ:=JM Ni;clear Ni;have d7:wy.cell? ⟨w.heap.size+1+1+1,7,none⟩=some (.bool false):=t3.cell 7;have f7:=t3.frozen 7;obtain⟨e0,e1,e2,e3,e4,e5,e6,e7⟩:=t1.iq;obtain⟨g0,g1,g2,g3,g4,g5,g6,g7⟩:=t1.nZ;obtain⟨d0,d1,d2,d3,d4,d5,d6,_⟩:=t3.iq;simp only[bG,mg,oT]at e0 e1 e2 e3 e4 e5 e6 e7 d0 d1 d2 d3 d4 d5 d6;have qh:w.heap.size+1<wy.heap.size:=t1.lt;have sh:w.heap.size+1+1+1<wy.heap.size:=t3.lt;go_wp2_with fail;have kl:aa (fun i=>i=w.heap.size+1+1+1) wy (wy.setCell ⟨w.heap.size+1+1+1,7,none⟩ (.bool lz)):=(aa.refl (fun i=>i=w.heap.size+1+1+1) wy).setCell (p:=⟨w.heap.size+1+1+1,7,none⟩) (Or.inl rfl) _;exact EQ.o.gw (i:=4) HLZ.o hR (hy.new hR kl (fun i hi=>by omega)) hp lX Ro bC (ky.b_ kl (fun i hi he=>by omega)) (t1.kept kl (by omega)) (t2.kept kl (by omega)) results108 rfl rfl (fun e w' h=>h)
