/- More of it -/
import Derived.Test.YtmbpfhlnifdhgaaGreatDoorP03
set_option linter.unusedVariables false
set_option linter.unusedSimpArgs false
set_option maxRecDepth 100000
set_option maxHeartbeats 16000000
namespace Go.Proofs.YtmbpfhlnifdhgaaGreatDoor
open Go.Proofs.Tryz
open Go.RowKit Go.Maps
variable {a:Act} {fo wE lz:Bool} {C CA:CT} {Q:Ending->World->Prop} {f:Func} {gr:Int} {cs:List CT} {ts:List PT} {xs:List Value} {b b2 base cap e hi i lo n size:Nat} {S:Nat->Prop} {A T:PT} {g:RG} {st iL:RS} {l sp:bN} {t:TypeId} {v:Value} {W w w' w0 w1 wz:World}
theorem ako(h:aZ w g fo st)(hb:ak dC (aa g st)=true)(hs:ak fc (aa g {st with next:=st.next+1})=false):
 Calls prog 132 #[.pointer (some ⟨g.b,0,none⟩)] w fun e w'=>∃v,e=.returned v/\aZ w' g fo (cK g st)/\w'.ownsRow w.heap.size 181 2 v (gS g st).length (dF (gS g st))/\I g.aN w w':=by
 have hp:0<=cx g st/\cx g st<=300:=h.oc st.next
 have vX:Hid (¬(ak dC (aa g st)=true/\ak fc (aa g {st with next:=st.next+1})=true)):=by show¬_;rw[hs];simp
 have ex:a_ g st=je g true (bT g dC st):=by simp[a_,hb]
 have et:bT g dC st={st with next:=st.next+1}:=by simp[bT,hb]
 rw[et]at ex;clear et;have EX:Hid (a_ g st=je g true {st with next:=st.next+1}):=ex;clear ex;go_in;go_wp2_with fail;refine(RN h).mono ?_;rintro e w1 ⟨rfl,h1,aI⟩;go_wp2_with fail;refine(iq h1 _ dC (by rfl) (by decide) hb).mono ?_;rintro e w2 ⟨rfl,h2,aG⟩;go_wp2_with fail;refine(oY h2).mono ?_;rintro e w3 ⟨rfl,h3,aQ⟩;go_wp2_with fail;refine(gE h3 _ fc (by rfl) (by decide) hs).mono ?_;rintro e w3' ⟨rfl,CP,Gw⟩;go_wp2_with fail;refine(Xc true CP).mono ?_;rintro e w4 ⟨rfl,h4,cQ⟩;rw[<-EX.out]at h4⊢;go_wp2_with fail
 cases hd:ak qV (aa g (a_ g st).1)
 ·have EC:Hid (gS g st=[((a_ g st).2,(a_ g st).2)]):=by show _=_;unfold gS;rw[if_neg vX.out,if_neg (by rw[hd];simp)]
  refine(gE h4 _ qV (by rfl) (by decide) hd).mono ?_;rintro e w5 ⟨rfl,h5,bI⟩;go_wp2_with fail;go_ret;have kk:=((((aI.trans aG).trans aQ).trans Gw).trans cQ).trans bI;refine⟨_,rfl,?_,by rw[EC.out];exact JB kk _ _,kk.alloc _⟩;rw[show cK g st=(a_ g st).1 by unfold cK;rw[if_neg vX.out];unfold jT;rw[if_neg (by simp[hd])]];exact h5.nil ((I.refl _ _).alloc _)
 ·have EC:Hid (gS g st=[((a_ g st).2,(a_ g {(a_ g st).1 with next:=(a_ g st).1.next+1}).2)]):=by show _=_;unfold gS;rw[if_neg vX.out,if_pos hd]
  refine(iq h4 _ qV (by rfl) (by decide) hd).mono ?_;rintro e w5 ⟨rfl,h5,bI⟩;go_wp2_with fail;refine(Sf h5 _ dC (by rfl) (by decide)).mono ?_;rintro e w6 ⟨rfl,h6,bU⟩;go_wp2_with fail;refine(adD h6).mono ?_;rintro e w7 ⟨rfl,h7,fA⟩;by_cases ar:(a_ g {(a_ g st).1 with next:=(a_ g st).1.next+1}).2<(a_ g st).2
  ·go_wp2_with fail
   refine(He h7 5 _ (by omega) hp).mono ?_;rintro e w8 ⟨rfl,h8,ly⟩;go_wp2_with fail;go_ret;have kk:=(((((((aI.trans aG).trans aQ).trans Gw).trans cQ).trans bI).trans bU).trans fA).trans ly;refine⟨_,rfl,?_,by rw[EC.out];exact JB kk _ _,kk.alloc _⟩;rw[show cK g st=(a_ g {(a_ g st).1 with next:=(a_ g st).1.next+1}).1.bG 5 (cx g st) by unfold cK;rw[if_neg vX.out];unfold jT;rw[if_pos hd,if_pos ar]];exact h8.nil ((I.refl _ _).alloc _)
  ·go_wp2_with fail
   go_ret
   have kk:=((((((aI.trans aG).trans aQ).trans Gw).trans cQ).trans bI).trans bU).trans fA;refine⟨_,rfl,?_,by rw[EC.out];exact JB kk _ _,kk.alloc _⟩;rw[show cK g st=(a_ g {(a_ g st).1 with next:=(a_ g st).1.next+1}).1 by unfold cK;rw[if_neg vX.out];unfold jT;rw[if_pos hd,if_neg (Int.not_lt.2 ar)]];exact h7.nil ((I.refl _ _).alloc _)
theorem acV(h:aZ w g fo st):
 Calls prog 132 #[.pointer (some ⟨g.b,0,none⟩)] w fun e w'=>∃v,e=.returned v/\aZ w' g fo (cK g st)/\w'.ownsRow w.heap.size 181 2 v (gS g st).length (dF (gS g st))/\I g.aN w w':=by
 cases hb:ak dC (aa g st)
 ·exact akp h hb
 ·cases hs:ak fc (aa g {st with next:=st.next+1})
  ·exact ako h hb hs
  ·exact akq h hb hs
theorem aht(h:aZ w g fo st):
 Calls prog 114 #[.pointer (some ⟨g.b,0,none⟩)] w fun e w'=>∃q,e=.returned (Nv.val q)/\aZ w' g fo (iT g st)/\c_ w' w.heap.size w'.heap.size q gX (Le g fo st)/\I g.aN w w':=by
 obtain⟨i0,b_,cE,cI,cH⟩:=A7 Tryz.Ju;have qN:∀st:RS,-1<=aa g st/\aa g st<=1114111:=h.JU
 have dA:=h.len;have cw:∀i,w.heap.size<=i->¬g.aN i:=fun i hi hx=>by have:=h.mH hx;omega
 have ha:=h.nil ((I.refl aq w).alloc (.cells bZ.cells 43));have b0:=ay.new w bZ.cells 43;have ka:I g.aN w (w.alloc (.cells bZ.cells 43)):=(I.refl _ w).alloc _;have s0:(w.alloc (.cells bZ.cells 43)).heap.size=w.heap.size+1:=cR _ _;unfold iT Le;go_in;go_wp2_with fail;refine(Sf ha _ ij (by rfl) (by decide)).mono ?_;rintro e w1 ⟨rfl,h1,aI⟩;go_wp2_with fail;refine(acV h1).mono ?_;rintro e w2 ⟨v2,rfl,h2,tf,aG⟩;go_wp2_with fail;have ab2:=(ka.trans aI).trans aG;have b2:=(b0.kept aI (cw _ (Aa _))).kept aG (cw _ (Aa _));have s1:=aI.size;have Wd:=Hj (base':=w.heap.size+1) tf (by omega);have Vd:=aar qN (bT g ij st);clear aI aG h1 ha tf b0 ka;generalize cS:cK g (bT g ij st)=bP at h2;have iU:Hid (cK g (bT g ij st)=bP):=cS;clear cS;generalize wK:gS g (bT g ij st)=OU at Wd Vd;have YE:Hid (gS g (bT g ij st)=OU):=wK;clear wK;go_loopg [4] (g.rs.length-bP.next) (fun k v wr=>∃ab m aA,aZ wr g fo ab/\Hid (fu g m ab=fu g (g.rs.length+1) bP)/\Hid (p9 g m ab aA=p9 g (g.rs.length+1) bP OU)/\k=g.rs.length-ab.next/\k<m/\I g.aN w wr/\wr.ownsRow (w.heap.size+1) 181 2 v aA.length (dF aA)/\eh aA/\1<=aA.length/\aA.length<=4*ab.next+4/\ay wr w.heap.size bZ.cells 43)
 case atStart=>exact⟨bP,g.rs.length+1,OU,h2,rfl,rfl,rfl,by omega,ab2,Wd,Vd.1,Vd.2.1,by omega,b2⟩
 case round=>
  obtain⟨ab,m,aA,hr,HP,HC,rfl,hm,hk,a8,uj,nT,yk,P7⟩:=hrel;have hle:=hr.next
  have wT:=hk.size;clear h2 ab2 Wd b2;by_cases mw:aa g ab= -1\/ak fQ (aa g ab)=true
  ·have Zb:Hid (ab=fu g (g.rs.length+1) bP):=by show _=_;rw[<-HP.out,Xk g m ab mw]
   have YY:Hid (aA=p9 g (g.rs.length+1) bP OU):=by show _=_;rw[<-HC.out,ahe g m ab aA mw]
   have aF:aA≠ []:=by intro e;subst e;simp at nT
   have sX:∀{wx:World},aZ wx g fo ab->I g.aN wr wx->True:=(fun _ _=>trivial);clear HP HC
   obtain⟨gb,sN,DT,uc,py,mr,_⟩:=CF a8 aF;by_cases dX:aa g ab= -1
   ·have hb:(aa g ab != -1)=false:=(by simp[dX]);clear dX mw;go_wp2_with fail;refine(oY hr).mono ?_;rintro e w3 ⟨rfl,h3,aQ⟩;go_wp2_with fail;refine(uB h3 _ fQ (by rfl) (by decide)).mono ?_;rintro e w4 ⟨rfl,h4,cQ⟩;have kk:=aQ.trans cQ;have Mr:¬g.aN gb:=cw _ (by omega);have Vb:=mr.kept kk py Mr;have b4:=P7.kept kk (cw _ (Aa _));have xl:=hk.trans kk;have s4:=kk.size;try rw[DT]
    go_wp2_with fail
    refine(FA (cap:=sN) h4 (ak ij (aa g st)) Vb uj (by omega) aF (by omega)).mono ?_;rintro e w5 ⟨q,rfl,h5,GI,bI⟩;have b5:=b4.kept bI (cw _ (Aa _));obtain⟨e0,e1,e2,e3,e4,e5,e6,e7⟩:=b5.ib;obtain⟨g0,g1,g2,g3,g4,g5,g6,g7⟩:=b5.o7;simp only[bZ]at e0 e1 e2 e3 e4 e5 e6 e7;have pA:w.heap.size<w5.heap.size:=b5.lt;have sY:w.heap.size<w4.heap.size:=b4.lt;simp only[Nv.val,Nv.cells];go_wp2_with fail;have fS:=Np h h5 GI (by omega) (Aa _) (xl.trans bI);have lN:=AE b5 q;simp only[gq]at fS lN;refine zY (i:=2) (b:=w.heap.size) (q:=q) results114 ?_ ?_ ?_ ?_
    ·rfl
    ·rfl
    ·exact lN
    ·rw[iU.out,YE.out,<-Zb.out,<-YY.out];exact⟨_,rfl,fS⟩
   ·have hb:(aa g ab != -1)=true:=(by simp[dX]);have nW:ak fQ (aa g ab)=true:=mw.resolve_left dX;clear dX mw;go_wp2_with fail;refine(oY hr).mono ?_;rintro e w3' ⟨rfl,CP,Gw⟩;go_wp2_with fail;refine(yJ CP _ fQ (by rfl) (by decide)).mono ?_;rintro e w3 ⟨rfl,h3,ajm⟩;have aQ:=Gw.trans ajm;rw[nW];go_wp2_with fail;refine(uB h3 _ fQ (by rfl) (by decide)).mono ?_;rintro e w4 ⟨rfl,h4,cQ⟩;have kk:=aQ.trans cQ;have Mr:¬g.aN gb:=cw _ (by omega);have Vb:=mr.kept kk py Mr;have b4:=P7.kept kk (cw _ (Aa _));have xl:=hk.trans kk;have s4:=kk.size;try rw[DT]
    go_wp2_with fail
    refine(FA (cap:=sN) h4 (ak ij (aa g st)) Vb uj (by omega) aF (by omega)).mono ?_;rintro e w5 ⟨q,rfl,h5,GI,bI⟩;have b5:=b4.kept bI (cw _ (Aa _));obtain⟨e0,e1,e2,e3,e4,e5,e6,e7⟩:=b5.ib;obtain⟨g0,g1,g2,g3,g4,g5,g6,g7⟩:=b5.o7;simp only[bZ]at e0 e1 e2 e3 e4 e5 e6 e7;have pA:w.heap.size<w5.heap.size:=b5.lt;have sY:w.heap.size<w4.heap.size:=b4.lt;simp only[Nv.val,Nv.cells];go_wp2_with fail;have fS:=Np h h5 GI (by omega) (Aa _) (xl.trans bI);have lN:=AE b5 q;simp only[gq]at fS lN;refine zY (i:=2) (b:=w.heap.size) (q:=q) results114 ?_ ?_ ?_ ?_
    ·rfl
    ·rfl
    ·exact lN
    ·rw[iU.out,YE.out,<-Zb.out,<-YY.out];exact⟨_,rfl,fS⟩
  ·rw[not_or]at mw;have hb:(aa g ab != -1)=true:=(by simp[mw.1]);have ar:=gI mw.1;have nW:ak fQ (aa g ab)=false:=(by simpa using mw.2);clear mw;have yg:=aar qN ab;go_wp2_with fail;refine(oY hr).mono ?_;rintro e w3 ⟨rfl,h3,aQ⟩;go_wp2_with fail;refine(yJ h3 _ fQ (by rfl) (by decide)).mono ?_;rintro e w4 ⟨rfl,h4,cQ⟩;rw[nW];go_wp2_with fail;refine(acV h4).mono ?_;rintro e w5 ⟨v5,rfl,h5,lC,bI⟩;have kk:=(aQ.trans cQ).trans bI;have ym:=Xe a8 kk (fun b fg hx=>by have:=(vI a8 fg).1;exact cw b (by omega) hx);have Va:=P7.kept kk (cw _ (Aa _));have hn:=JJ g ab (by omega);have mA:=hn.2.2 ar;have ajw:gS g ab≠ []:=by intro e;rw[e]at yg;simp at yg
   have Y_:Hid (fu g m ab=fu g (m-1) (cK g ab)/\p9 g m ab aA=p9 g (m-1) (cK g ab) (aA++gS g ab)):=by
    obtain⟨m',rfl⟩:∃m',m=m'+1:=⟨m-1,by omega⟩
    have rO:¬(aa g ab= -1\/ak fQ (aa g ab)=true):=by simp[nW];simpa using hb
    exact⟨by show(if _ then _ else _)=_;rw[if_neg rO];rfl,by show(if _ then _ else _)=_;rw[if_neg rO];rfl⟩
   have s5:=kk.size;generalize gS g ab=new at*;obtain⟨gb,sN,DT,uc,py,mr,_⟩:=CF lC ajw;try rw[DT]
   go_wp2_with (at_builtin;refine Ad _ rfl _ _ 39 rfl (w.heap.size+1) 181 i0 _ 2 8 underlying39 b_ cE cI cH rfl (by decide) _ aA.length _ rfl ym ⟨gb,0,none⟩ new.length sN (dF new) rfl (CO new) (aaw mr) (abe new) ?c3 ?c4 ?c5 ?_)
   case c3=>unfold maxLen;omega
   case c4=>omega
   case c5=>have:=Va.lt;omega
   intro v' w7 bE aX cJ bH;have k7:I (fun i=>u4.ownBlock=some i) w5 w7:=(I.refl _ w5).dn aX (fun j hj=>Or.inl hj);have iR:∀i,u4.ownBlock=some i->w.heap.size+1<=i:=(fun i hi=>(vI a8 hi).1);have h7:=h5.new h k7 (fun i hi=>by have:=iR i hi;omega)
   have MZ:=(hk.trans kk).bY k7 (fun i hi he=>by have:=iR i he;omega);have ai4:=Va.kept k7 (fun he=>by have:=iR _ he;omega);have vy:w7.ownsRow (w.heap.size+1) 181 2 v' (aA++new).length (dF (aA++new)):=by rw[Lv,Ao];exact bE
   clear bE aX bH cJ ym a8 bI cQ aQ kk k7 P7 Va mr lC;go_wp2_with fail;go_roundg (g.rs.length-(cK g ab).next)
   case measure=>omega
   case rel=>
    exact⟨cK g ab,m-1,aA++new,h7,(Y_.out.1.symm.trans HP.out),(Y_.out.2.symm.trans HC.out),rfl,by omega,MZ,vy,uj.append yg.1,by simp;omega,by simp;omega,ai4⟩
theorem WN(w:World)(x y:Int):gF (w.alloc (.cells #[.int .i32 x,.int .i32 y] 181)) w.heap.size [(x,y)]:=by
 intro i hi;have e:i=0:=by simp at hi;omega
 subst e;exact⟨(ay.new w #[.int .i32 x,.int .i32 y] 181).cell 0,(ay.new w #[.int .i32 x,.int .i32 y] 181).cell 1⟩
theorem aaQ(r:Int):0<=tQ r/\tQ r<=3:=by
 unfold tQ;split
 ·omega
 ·split
  ·omega
  ·split<;>omega
theorem Pl(r:Int):ak oQ r=(ak zR r||(ak fc r||(ak ux r||ak tj r))):=by
 have e:oQ=zR++[100,68,119,87,115,83,98,66]:=rfl;have h:ak oQ r=(ak zR r||ak [100,68,119,87,115,83,98,66] r):=by rw[e];unfold ak;rw[Cl]
 rw[h];congr 1;rw[Av];simp[ak,fc,ux,tj];omega
theorem alK{r:Int}(h:ak ux r=true):65<=r/\r<=90:=by
 simp[ak,ux]at h
 omega
theorem WW{l:List UInt8}(h:ak l (aa g st)=true):di g l st={st with next:=st.next+1}:=by unfold di;rw[if_pos h]
theorem ah3(hR:aZ w g fo st)(c1:ak tj (aa g st)=true):
 Calls prog 115 #[.pointer (some ⟨g.b,0,none⟩)] w fun e w'=>∃q,e=.returned (Nv.val q)/\aZ w' g fo (di g oQ st)/\c_ w' w.heap.size w'.heap.size q gX (mi fo (aa g st))/\I g.aN w w':=by
 rw[WW (show ak oQ (aa g st)=true by rw[Pl,c1];simp),show mi fo (aa g st)=sJ (tQ (aa g st)) by unfold mi;rw[if_pos c1]];have cw:∀i,w.heap.size<=i->¬g.aN i:=fun i hi hx=>by have:=hR.mH hx;omega
 have qN:∀st:RS,-1<=aa g st/\aa g st<=1114111:=hR.JU
 have ha:=hR.nil ((I.refl aq w).alloc (.cells bZ.cells 43));have b0:=ay.new w bZ.cells 43;have ka:I g.aN w (w.alloc (.cells bZ.cells 43)):=(I.refl _ w).alloc _;have s0:(w.alloc (.cells bZ.cells 43)).heap.size=w.heap.size+1:=cR _ _;go_in;go_wp2_with fail;refine(oY ha).mono ?_;rintro e w1 ⟨rfl,h1,aI⟩;go_wp2_with fail;refine(iq h1 _ tj (by rfl) (by decide) c1).mono ?_;rintro e w2 ⟨rfl,h2,aG⟩;go_wp2_with fail;refine(aaR _ _).mono ?_;rintro e w3 ⟨rfl,rfl⟩;have kk:=(ka.trans aI).trans aG;have bz:=(b0.kept aI (cw _ (Aa _))).kept aG (cw _ (Aa _));have rV:=c_.kN w3 (w.heap.size+1) w3.heap.size (tQ (aa g st)) (aaQ _);obtain⟨e0,e1,e2,e3,e4,e5,e6,e7⟩:=bz.ib;obtain⟨g0,g1,g2,g3,g4,g5,g6,g7⟩:=bz.o7;simp only[bZ]at e0 e1 e2 e3 e4 e5 e6 e7;have pA:w.heap.size<w3.heap.size:=bz.lt;go_wp2_with fail;exact Hd (i:=2) (q:=CJ _) hR h2 rV (by omega) (Aa _) kk bz results115 rfl rfl (fun _ _ h=>h)
theorem ah7(hR:aZ w g fo st)(c1:ak tj (aa g st)=false)(c2:ak fc (aa g st)=true):
 Calls prog 115 #[.pointer (some ⟨g.b,0,none⟩)] w fun e w'=>∃q,e=.returned (Nv.val q)/\aZ w' g fo (di g oQ st)/\c_ w' w.heap.size w'.heap.size q gX (mi fo (aa g st))/\I g.aN w w':=by
 rw[WW (show ak oQ (aa g st)=true by rw[Pl,c2];simp),show mi fo (aa g st)=kM (k_ (aa g st)) fo false by unfold mi;rw[if_neg (by rw[c1];simp),if_pos c2]];have cw:∀i,w.heap.size<=i->¬g.aN i:=fun i hi hx=>by have:=hR.mH hx;omega
 have qN:∀st:RS,-1<=aa g st/\aa g st<=1114111:=hR.JU
 have ha:=hR.nil ((I.refl aq w).alloc (.cells bZ.cells 43));have b0:=ay.new w bZ.cells 43;have ka:I g.aN w (w.alloc (.cells bZ.cells 43)):=(I.refl _ w).alloc _;have s0:(w.alloc (.cells bZ.cells 43)).heap.size=w.heap.size+1:=cR _ _;go_in;go_wp2_with fail;refine(oY ha).mono ?_;rintro e w1 ⟨rfl,h1,aI⟩;go_wp2_with fail;refine(gE h1 _ tj (by rfl) (by decide) c1).mono ?_;rintro e w2 ⟨rfl,h2,aG⟩;go_wp2_with fail;refine(iq h2 _ fc (by rfl) (by decide) c2).mono ?_;rintro e w3 ⟨rfl,h3,aQ⟩;go_wp2_with fail;have kk:=((ka.trans aI).trans aG).trans aQ;have b3:=((b0.kept aI (cw _ (Aa _))).kept aG (cw _ (Aa _))).kept aQ (cw _ (Aa _));refine(XX _ w3).mono ?_;rintro e w6 ⟨v,rfl,hv,bU⟩;have cS:=XZ (aa g st);obtain⟨gb,sN,DT,uc,py,mr,_⟩:=CF hv (by intro e;rw[e]at cS;simp at cS);have MW:=kk.trans (bU.mono (fun _ hx=>hx.elim));have b6:=b3.kept bU (fun hx=>hx);have s6:=MW.size;try rw[DT]
 go_wp2_with fail
 refine(FA (cap:=sN) (h3.nil bU) false mr cS.1 (by omega) (by intro e;rw[e]at cS;simp at cS) py).mono ?_;rintro e wz ⟨q,rfl,hz,rV,ug⟩;have bz:=b6.kept ug (cw _ (Aa _));have kz:=MW.trans ug;have sY:w.heap.size<w6.heap.size:=b6.lt;obtain⟨e0,e1,e2,e3,e4,e5,e6,e7⟩:=bz.ib;obtain⟨g0,g1,g2,g3,g4,g5,g6,g7⟩:=bz.o7;simp only[bZ]at e0 e1 e2 e3 e4 e5 e6 e7;have pA:w.heap.size<wz.heap.size:=bz.lt;simp only[Nv.val,Nv.cells];go_wp2_with fail;exact Hd (i:=2) hR hz rV (by omega) (Aa _) kz bz results115 rfl rfl (fun _ _ h=>h)
theorem ah4(hR:aZ w g fo st)(c1:ak tj (aa g st)=false)(c2:ak fc (aa g st)=false)(c3:ak ux (aa g st)=true):
 Calls prog 115 #[.pointer (some ⟨g.b,0,none⟩)] w fun e w'=>∃q,e=.returned (Nv.val q)/\aZ w' g fo (di g oQ st)/\c_ w' w.heap.size w'.heap.size q gX (mi fo (aa g st))/\I g.aN w w':=by
 rw[WW (show ak oQ (aa g st)=true by rw[Pl,c3];simp),show mi fo (aa g st)=kM (k_ (aa g st+32)) fo true by unfold mi;rw[if_neg (by rw[c1];simp),if_neg (by rw[c2];simp),if_pos c3]];have cw:∀i,w.heap.size<=i->¬g.aN i:=fun i hi hx=>by have:=hR.mH hx;omega
 have qN:∀st:RS,-1<=aa g st/\aa g st<=1114111:=hR.JU
 have ha:=hR.nil ((I.refl aq w).alloc (.cells bZ.cells 43));have b0:=ay.new w bZ.cells 43;have ka:I g.aN w (w.alloc (.cells bZ.cells 43)):=(I.refl _ w).alloc _;have s0:(w.alloc (.cells bZ.cells 43)).heap.size=w.heap.size+1:=cR _ _;go_in;go_wp2_with fail;refine(oY ha).mono ?_;rintro e w1 ⟨rfl,h1,aI⟩;go_wp2_with fail;refine(gE h1 _ tj (by rfl) (by decide) c1).mono ?_;rintro e w2 ⟨rfl,h2,aG⟩;go_wp2_with fail;refine(gE h2 _ fc (by rfl) (by decide) c2).mono ?_;rintro e w3 ⟨rfl,h3,aQ⟩;go_wp2_with fail;refine(iq h3 _ ux (by rfl) (by decide) c3).mono ?_;rintro e w4 ⟨rfl,h4,cQ⟩;go_wp2_with fail;have kk:=(((ka.trans aI).trans aG).trans aQ).trans cQ;have b4:=(((b0.kept aI (cw _ (Aa _))).kept aG (cw _ (Aa _))).kept aQ (cw _ (Aa _))).kept cQ (cw _ (Aa _));refine(aoz _ w4 (alK c3)).mono ?_;rintro e w5 ⟨rfl,rfl⟩;go_wp2_with fail;refine(XX _ w5).mono ?_;rintro e w6 ⟨v,rfl,hv,bU⟩;have cS:=XZ (aa g st+32);obtain⟨gb,sN,DT,uc,py,mr,_⟩:=CF hv (by intro e;rw[e]at cS;simp at cS);have MW:=kk.trans (bU.mono (fun _ hx=>hx.elim));have b6:=b4.kept bU (fun hx=>hx);have s6:=MW.size;try rw[DT]
 go_wp2_with fail
 refine(FA (cap:=sN) (h4.nil bU) true mr cS.1 (by omega) (by intro e;rw[e]at cS;simp at cS) py).mono ?_;rintro e wz ⟨q,rfl,hz,rV,ug⟩;have bz:=b6.kept ug (cw _ (Aa _));have kz:=MW.trans ug;have sY:w.heap.size<w6.heap.size:=b6.lt;obtain⟨e0,e1,e2,e3,e4,e5,e6,e7⟩:=bz.ib;obtain⟨g0,g1,g2,g3,g4,g5,g6,g7⟩:=bz.o7;simp only[bZ]at e0 e1 e2 e3 e4 e5 e6 e7;have pA:w.heap.size<wz.heap.size:=bz.lt;simp only[Nv.val,Nv.cells];go_wp2_with fail;exact Hd (i:=2) hR hz rV (by omega) (Aa _) kz bz results115 rfl rfl (fun _ _ h=>h)
theorem ah6(hR:aZ w g fo st)(c1:ak tj (aa g st)=false)(c2:ak fc (aa g st)=false)(c3:ak ux (aa g st)=false):
 Calls prog 115 #[.pointer (some ⟨g.b,0,none⟩)] w fun e w'=>∃q,e=.returned (Nv.val q)/\aZ w' g fo (di g oQ st)/\c_ w' w.heap.size w'.heap.size q gX (mi fo (aa g st))/\I g.aN w w':=by
 rw[show di g oQ st=di g zR st by unfold di;rw[Pl,c1,c2,c3];simp,show mi fo (aa g st)=kM [(lr (aa g st),lr (aa g st))] fo false by unfold mi;rw[if_neg (by rw[c1];simp),if_neg (by rw[c2];simp),if_neg (by rw[c3];simp)]];have cw:∀i,w.heap.size<=i->¬g.aN i:=fun i hi hx=>by have:=hR.mH hx;omega
 have qN:∀st:RS,-1<=aa g st/\aa g st<=1114111:=hR.JU
 have ha:=hR.nil ((I.refl aq w).alloc (.cells bZ.cells 43));have b0:=ay.new w bZ.cells 43;have ka:I g.aN w (w.alloc (.cells bZ.cells 43)):=(I.refl _ w).alloc _;have s0:(w.alloc (.cells bZ.cells 43)).heap.size=w.heap.size+1:=cR _ _;have VV:=aa1 (qN st);generalize her:lr (aa g st)=er at VV⊢;have SN:Hid (lr (aa g st)=er):=her;clear her;go_in;go_wp2_with fail;refine(oY ha).mono ?_;rintro e w1 ⟨rfl,h1,aI⟩;go_wp2_with fail;refine(gE h1 _ tj (by rfl) (by decide) c1).mono ?_;rintro e w2 ⟨rfl,h2,aG⟩;go_wp2_with fail;refine(gE h2 _ fc (by rfl) (by decide) c2).mono ?_;rintro e w3 ⟨rfl,h3,aQ⟩;go_wp2_with fail;refine(gE h3 _ ux (by rfl) (by decide) c3).mono ?_;rintro e w4 ⟨rfl,h4,cQ⟩;go_wp2_with fail;have kk:=(((ka.trans aI).trans aG).trans aQ).trans cQ;have b4:=(((b0.kept aI (cw _ (Aa _))).kept aG (cw _ (Aa _))).kept aQ (cw _ (Aa _))).kept cQ (cw _ (Aa _));refine(aa3 h4).mono ?_;rintro e w5 ⟨rfl,h5,bI⟩;have kk5:=kk.trans bI;have b5:=b4.kept bI (cw _ (Aa _));rw[SN.out];go_wp2_with fail;have gU:=WN w5 er er;have ba:=b5.alloc (.cells #[.int .i32 er,.int .i32 er] 181);have kka:=kk5.alloc (.cells #[.int .i32 er,.int .i32 er] 181);have sa:=cR w5 (.cells #[.int .i32 er,.int .i32 er] 181);have sY:w.heap.size<w5.heap.size:=b5.lt;refine(FA (l:=[(er,er)]) (cap:=1) (h5.nil ((I.refl aq w5).alloc (.cells #[.int .i32 er,.int .i32 er] 181))) false gU (eh.one VV VV) (by simp) (by simp) (by omega)).mono ?_;rintro e wz ⟨q,rfl,hz,rV,ug⟩;have bz:=ba.kept ug (cw _ (Aa _));have kz:=kka.trans ug;obtain⟨e0,e1,e2,e3,e4,e5,e6,e7⟩:=bz.ib;obtain⟨g0,g1,g2,g3,g4,g5,g6,g7⟩:=bz.o7;simp only[bZ]at e0 e1 e2 e3 e4 e5 e6 e7;have pA:w.heap.size<wz.heap.size:=bz.lt;simp only[Nv.val,Nv.cells];go_wp2_with fail;exact Hd (i:=2) hR hz rV (by omega) (Aa _) kz bz results115 rfl rfl (fun _ _ h=>h)
theorem ah5(hR:aZ w g fo st):
 Calls prog 115 #[.pointer (some ⟨g.b,0,none⟩)] w fun e w'=>∃q,e=.returned (Nv.val q)/\aZ w' g fo (di g oQ st)/\c_ w' w.heap.size w'.heap.size q gX (mi fo (aa g st))/\I g.aN w w':=by
 cases c1:ak tj (aa g st)
 ·cases c2:ak fc (aa g st)
  ·cases c3:ak ux (aa g st)
   ·exact ah6 hR c1 c2 c3
   ·exact ah4 hR c1 c2 c3
  ·exact ah7 hR c1 c2
 ·exact ah3 hR c1
def Hy(g:RG)(k:Nat):Prop:=∀(w:World) (fo:Bool) (st:RS),aZ w g fo st->g.rs.length-st.next<k->
 Calls prog 41 #[.pointer (some ⟨g.b,0,none⟩)] w fun e w'=>∃q,e=.returned (Nv.val q)/\aZ w' g fo (aE g k st).1/\c_ w' w.heap.size w'.heap.size q (aE g k st).2 (dW g k fo st)/\I g.aN w w'
theorem RH(g:RG)(st:RS)(h:st.next<=g.rs.length):st.next<=(dy g st).next/\(dy g st).next<=g.rs.length:=by
 unfold dy
 cases hq:ak dG (aa g st)
 ·simp;exact h
 ·have h1:=fj hq;simp only[Dv,if_false]
  cases hl:ak pH (aa g {st with next:=st.next+1})
  ·have h2:=J0 g lI {st with next:=st.next+1} (by simp;omega);have h3:=xo g zP _ h2.2;simp at*;omega
  ·have h2:=fj hl;simp only at h2;have h3:=al9 g {st with next:=st.next+2,aC:=st.aC+1} (by simp;omega);simp at*;omega
theorem adm(h:aZ w g fo st)(hg:st.aC<st.next):
 Calls prog 130 #[.pointer (some ⟨g.b,0,none⟩)] w fun e w'=>e=.returned (.int .i64 ((st.aC:Int)+1))/\aZ w' g fo {st with aC:=st.aC+1}/\I g.aN w w':=by
 have c5:w.cell? ⟨g.b,5,none⟩=some (.int .i64 st.aC):=h.ae.cell 5;have f5:=h.ae.frozen 5;have hl:=h.len;have hn:=h.next
 go_in
 go_wp2
 go_ret
 have:=h.anJ (st.aC+1) (by omega) (by omega);exact⟨rfl,by simpa using this,by simpa using EM g 5 (.int .i64 ((st.aC:Int)+1))⟩
def Ht:Nv:=⟨2,none,0,0,none,0,0,0,0,0,0,false⟩
def Hs(gr:Int):Nv:=⟨2,none,0,0,none,0,0,0,gr,0,0,false⟩
def FJ(w:World):World:=(w.alloc (.cells bZ.cells 43)).alloc (.cells Ht.cells 43)
theorem aam(w:World)(S:Nat->Prop):I S w (FJ w):=((I.refl S w).alloc _).alloc _
theorem ag5(w:World):(FJ w).heap.size=w.heap.size+2:=by simp[FJ]
theorem ag3(w:World):ay (FJ w) w.heap.size bZ.cells 43:=(ay.new w _ _).alloc _
theorem ag4(w:World):ay (FJ w) (w.heap.size+1) Ht.cells 43:=by
 have:=ay.new (w.alloc (.cells bZ.cells 43)) Ht.cells 43;rw[cR]at this;exact this
theorem afn(h:ay w b Ht.cells t)(gr:Int):ay (w.setCell ⟨b,4,none⟩ (.int .i64 gr)) b (Hs gr).cells t:=by
 have:=h.setCell 4 (.int .i64 gr);rw[show Ht.cells.setIfInBounds 4 (.int .i64 gr)=(Hs gr).cells by simp[Nv.cells,Ht,Hs]]at this;exact this
theorem alB(h:ay w b (Hs gr).cells t):ay (w.setCell ⟨b,1,none⟩ (.slice (some ⟨b2,0,none⟩) 1 1)) b (qX 2 b2 1 gr 0 0 false).cells t:=by
 have:=h.setCell 1 (.slice (some ⟨b2,0,none⟩) 1 1);rw[show(Hs gr).cells.setIfInBounds 1 (.slice (some ⟨b2,0,none⟩) 1 1)=(qX 2 b2 1 gr 0 0 false).cells by simp[Nv.cells,Hs,qX]]at this;exact this
theorem apE{w2 w4:World}{fo2:Bool}{q:Nv}(h:aZ w g fo st)(h4:aZ w4 g fo2 iL)(mC:w.heap.size+2<=w1.heap.size)
 (hp:c_ w2 w1.heap.size w2.heap.size q T C)(aqV:w1.heap.size<=w2.heap.size)(k1:I g.aN w w4)(k2:I (fun i=>g.aN i\/i=w.heap.size+1) w2 w4)(bq:ay w4 w2.heap.size q.cells 43)(km:0<=gr/\gr<=300):
 aZ (gq (w4.setCell ⟨g.b,4,none⟩ (.bool fo)) w.heap.size (qX 2 w2.heap.size 1 gr 0 0 false)) g fo iL/\
 c_ (gq (w4.setCell ⟨g.b,4,none⟩ (.bool fo)) w.heap.size (qX 2 w2.heap.size 1 gr 0 0 false)) w.heap.size (gq (w4.setCell ⟨g.b,4,none⟩ (.bool fo)) w.heap.size (qX 2 w2.heap.size 1 gr 0 0 false)).heap.size (qX 2 w2.heap.size 1 gr 0 0 false) (.node 1 [T] 0 0) (.node 2 [] false false 0 gr 0 0 false [C])/\
 I g.aN w (gq (w4.setCell ⟨g.b,4,none⟩ (.bool fo)) w.heap.size (qX 2 w2.heap.size 1 gr 0 0 false)):=by
 have h5:=h4.vO fo;have k5:I g.aN w4 (w4.setCell ⟨g.b,4,none⟩ (.bool fo)):=EM g 4 _;generalize w4.setCell ⟨g.b,4,none⟩ (.bool fo)=w5 at*;generalize hQ:qX 2 w2.heap.size 1 gr 0 0 false=Q;have sz:=NJ w5 w.heap.size Q;have kq:=JN w5 w.heap.size Q;have s5:=k5.size;have gR:=bq.lt;refine⟨h5.new h kq (fun i hi=>by omega),?_,(k1.trans k5).bY kq (fun i hi he=>by omega)⟩;rw[<-hQ]at*;refine c_.wrap (S:=fun i=>g.aN i\/i=w.heap.size\/i=w.heap.size+1) (q:=q) hp (Aa _) (((k2.mono (fun i hi=>by rcases hi with hi|hi;exact Or.inl hi;exact Or.inr (Or.inr hi))).trans (k5.mono (fun i hi=>Or.inl hi))).trans (kq.mono (fun i hi=>Or.inr (Or.inl hi)))) (fun i hi=>?_) ((bq.kept k5 (fun hx=>by have:=h.mH hx;omega)).kept kq (by omega)) (by omega) (by omega) ⟨by omega,by omega⟩ ⟨by omega,by omega,km⟩ (Or.inl ⟨rfl,rfl⟩);rcases hi with hi|hi|hi
 ·have:=h.mH hi;omega
 ·omega
 ·omega
structure Of(g:RG)(fo:Bool)(st:RS)(k:Nat)(H:RS)(F:Bool)(GR:Int):Prop where
 h:dy g st=H
 c:tO g (dW g k) fo st=.node 2 [] false false 0 GR 0 0 false [dW g k F H]
 r:0<=GR/\GR<=300
 n:g.rs.length-H.next<k
theorem Of.fS {w w1 w2 w4:World}{g:RG}{fo fo2 F:Bool}{st H:RS}{k:Nat}{q:Nv}{GR:Int}(E:Of g fo st k H F GR)(h:aZ w g fo st)(h4:aZ w4 g fo2 (di g vD (aE g k H).1))(mC:w.heap.size+2<=w1.heap.size)(hp:c_ w2 w1.heap.size w2.heap.size q (aE g k H).2 (dW g k F H))(aqV:w1.heap.size<=w2.heap.size)(k1:I g.aN w w4)(k2:I (fun i=>g.aN i\/i=w.heap.size+1) w2 w4)(bq:ay w4 w2.heap.size q.cells 43)(t0:ay w4 w.heap.size bZ.cells 43){f:Func}{Q:Ending->World->Prop}{a:Act}{i:Nat}(mZ:f.results=#[ResultVar.cell i 43])(zE:a.tmps.getD i undef=.pointer (some ⟨w.heap.size,0,none⟩))(hd:a.defers=[])(hQ:∀ e w',(∃ q,e=.returned (Nv.val q)/\aZ w' g fo (jr g (aE g k) st).1/\c_ w' w.heap.size w'.heap.size q (jr g (aE g k) st).2 (tO g (dW g k) fo st)/\I g.aN w w')->Q e w'):bodyPost prog f Q Exit.ret a (gq (w4.setCell ⟨g.b,4,none⟩ (.bool fo)) w.heap.size (qX 2 w2.heap.size 1 GR 0 0 false)):=by
 refine zY (i:=i) (b:=w.heap.size) (q:=qX 2 w2.heap.size 1 GR 0 0 false) mZ zE hd (AE (t0.kept (EM g 4 (.bool fo)) (fun hx=>by have:=h.mH hx; omega)) _) (hQ _ _ ?_)
 unfold jr
 rw [E.h,E.c]
 exact ⟨_,rfl,apE (fo:=fo) h h4 mC hp aqV k1 k2 bq E.r⟩
theorem aZ.aiu {w:World}{g:RG}{fo:Bool}{st:RS}(h:aZ w g fo st):w.cell? ⟨g.b,4,none⟩=some (.bool fo)/\w.frozen? ⟨g.b,4,none⟩=false:=⟨h.ae.cell 4,h.ae.frozen 4⟩
theorem ag1{k:Nat}(hA:Hy g k)(hR:aZ w g fo st)(hg:st.aC<st.next)(rX:g.rs.length-st.next<k):
 Calls prog 113 #[.pointer (some ⟨g.b,0,none⟩)] w fun e w'=>∃q,e=.returned (Nv.val q)/\aZ w' g fo (jr g (aE g k) st).1/\c_ w' w.heap.size w'.heap.size q (jr g (aE g k) st).2 (tO g (dW g k) fo st)/\I g.aN w w':=by
 have oI:=RH g st hR.next
 have hl:=hR.len;have mA:=hR.next
 have Jd:=hR.names;have cw:∀i,w.heap.size<=i->¬g.aN i:=fun i hi hx=>by have:=hR.mH hx;omega
 have ha:=hR.nil (aam w aq);have ka:=aam w g.aN;have sb:=ag5 w;have x0:=ag3 w;have x1:=ag4 w;have c4:(FJ w).cell? ⟨g.b,4,none⟩=some (.bool fo):=ha.ae.cell 4;simp only[FJ,Nv.cells,bZ,Ht]at c4;go_in;go_wp2_with fail
 cases hq:ak dG (aa g st)
 case' false=>
  have EQ:Hid (Of g fo st k {st with aC:=st.aC+1} fo ((st.aC:Int)+1)):=⟨by simp[dy,hq],by unfold tO;rw[if_pos hq];simp[dy,hq],by omega,by simp;omega⟩;refine(gE ha _ dG (by rfl) (by decide) hq).mono ?_;rintro e w1 ⟨rfl,h1,aI⟩;go_wp2_with fail;refine(adm h1 hg).mono ?_;rintro e AV ⟨rfl,jx,vu⟩;have kk:=(ka.trans aI).trans vu;have o1:=(x1.kept aI (cw _ (by omega))).kept vu (cw _ (by omega));have o0:=(x0.kept aI (cw _ (by omega))).kept vu (cw _ (by omega));have d4:AV.cell? ⟨w.heap.size+1,4,none⟩=some (.int .i64 0):=o1.cell 4;have f4:=o1.frozen 4;have n1:=afn o1 ((st.aC:Int)+1);have DY:I (fun i=>i=w.heap.size+1) AV (AV.setCell ⟨w.heap.size+1,4,none⟩ (.int .i64 ((st.aC:Int)+1))):=(I.refl (fun i=>i=w.heap.size+1) AV).setCell (p:=⟨w.heap.size+1,4,none⟩) (Or.inl rfl) _;have n0:=o0.kept DY (by omega);have ew:=jx.new hR DY (fun i hi=>by omega);have kn:=kk.bY DY (fun i hi he=>by omega)
 case' true=>
  have hlq:=fj hq;refine(iq ha _ dG (by rfl) (by decide) hq).mono ?_;rintro e wa ⟨rfl,IE,I6⟩;go_wp2_with fail
  cases hs:ak pH (aa g {st with next:=st.next+1})
  case' true=>
   have yl:=fj hs;simp only at yl
   have EQ:Hid (Of g fo st k (jS g {st with next:=st.next+1+1,aC:=st.aC+1}) fo ((st.aC:Int)+1)):=by
    have e:dy g st=jS g {st with next:=st.next+1+1,aC:=st.aC+1}:=(by simp[dy,hq,hs]);exact⟨e,by unfold tO;rw[if_neg (by rw[hq];simp),if_pos hs,e],by omega,by rw[<-e];omega⟩
   refine(iq IE _ pH (by rfl) (by decide) hs).mono ?_;rintro e w1 ⟨rfl,h1,Vs⟩;have aI:=I6.trans Vs;go_wp2_with fail;refine(adm h1 (by simp;omega)).mono ?_;rintro e AV ⟨rfl,jx,vu⟩;have kk:=(ka.trans aI).trans vu;have o1:=(x1.kept aI (cw _ (by omega))).kept vu (cw _ (by omega));have o0:=(x0.kept aI (cw _ (by omega))).kept vu (cw _ (by omega));have d4:AV.cell? ⟨w.heap.size+1,4,none⟩=some (.int .i64 0):=o1.cell 4;have f4:=o1.frozen 4;have n1a:=afn o1 ((st.aC:Int)+1);have DY:I (fun i=>i=w.heap.size+1) AV (AV.setCell ⟨w.heap.size+1,4,none⟩ (.int .i64 ((st.aC:Int)+1))):=(I.refl (fun i=>i=w.heap.size+1) AV).setCell (p:=⟨w.heap.size+1,4,none⟩) (Or.inl rfl) _;have n0a:=o0.kept DY (by omega);have ach:=jx.new hR DY (fun i hi=>by omega);have kna:=kk.bY DY (fun i hi he=>by omega);have sk:=aI.size;have sk':=vu.size;have aq1:=DY.size;go_wp2_with fail;refine(ak9 ach (by omega) (by simp;omega)).mono ?_;rintro e wn ⟨rfl,ew,lU⟩;have n1:=n1a.kept lU (cw _ (by omega));have n0:=n0a.kept lU (cw _ (by omega));have kn:=kna.trans lU
  case' false=>
   refine(gE IE _ pH (by rfl) (by decide) hs).mono ?_;rintro e wb ⟨rfl,h1b,Vs⟩;go_wp2_with fail
   cases hi:ak lI (aa g {st with next:=st.next+1})
   case' false=>
    have EQ:Hid (Of g fo st k (di g zP {st with next:=st.next+1}) fo 0):=by
     have e:dy g st=di g zP {st with next:=st.next+1}:=(by simp[dy,hq,hs,bT,hi]);exact⟨e,by unfold tO;rw[if_neg (by rw[hq];simp),if_neg (by rw[hs];simp),hi,e];simp only[Bool.false_or],by omega,by rw[<-e];omega⟩
    refine(gE h1b _ lI (by rfl) (by decide) hi).mono ?_;rintro e w1 ⟨rfl,h1,ab3⟩;have hsf:=h1.vO fo;have Q7:I g.aN w1 (w1.setCell ⟨g.b,4,none⟩ (.bool fo)):=EM g 4 _
   case' true=>
    have EQ:Hid (Of g fo st k (di g zP {st with next:=st.next+1+1}) true 0):=by
     have e:dy g st=di g zP {st with next:=st.next+1+1}:=(by simp[dy,hq,hs,bT,hi]);exact⟨e,by unfold tO;rw[if_neg (by rw[hq];simp),if_neg (by rw[hs];simp),hi,e];simp only[Bool.true_or],by omega,by rw[<-e];omega⟩
    refine(iq h1b _ lI (by rfl) (by decide) hi).mono ?_;rintro e w1 ⟨rfl,h1,ab3⟩;have hsf:=h1.vO true;have Q7:I g.aN w1 (w1.setCell ⟨g.b,4,none⟩ (.bool true)):=EM g 4 _
   all_goals
    have aI:=(I6.trans Vs).trans ab3;have kk:=ka.trans aI;obtain⟨c4a,f4a⟩:=h1.aiu;have o1:=x1.kept aI (cw _ (by omega));have o0:=x0.kept aI (cw _ (by omega));go_wp2_with fail;refine(uB hsf _ zP (by rfl) (by decide)).mono ?_;rintro e wn ⟨rfl,ew,lU⟩;have n1:ay wn (w.heap.size+1) (Hs 0).cells 43:=(o1.kept Q7 (cw _ (by omega))).kept lU (cw _ (by omega));have n0:=(o0.kept Q7 (cw _ (by omega))).kept lU (cw _ (by omega));have kn:=(kk.trans Q7).trans lU
 all_goals
  clear x0 x1 ha o0 o1;go_wp2_with fail;have sz1:=kn.size;have szn:=n1.lt;refine(hA _ _ _ ew EQ.out.n).mono ?_;rintro e w2 ⟨q,rfl,h2,hp,aG⟩;have y1:=n1.kept aG (cw _ (by omega));have y0:=n0.kept aG (cw _ (by omega));have d1:w2.cell? ⟨w.heap.size+1,1,none⟩=some (.slice none 0 0):=y1.cell 1;have f1:=y1.frozen 1;have s2:=aG.size;have aqo:w.heap.size+1<w2.heap.size:=y1.lt;have z1:=(alB (b2:=w2.heap.size) y1).alloc (.cells q.cells 43);have akw:I (fun i=>i=w.heap.size+1) w2 (w2.setCell ⟨w.heap.size+1,1,none⟩ (.slice (some ⟨w2.heap.size,0,none⟩) 1 1)):=(I.refl (fun i=>i=w.heap.size+1) w2).setCell (p:=⟨w.heap.size+1,1,none⟩) (Or.inl rfl) _;have MX:=akw.alloc (.cells q.cells 43);have z0:=y0.kept MX (by omega);have ssz:(w2.setCell ⟨w.heap.size+1,1,none⟩ (.slice (some ⟨w2.heap.size,0,none⟩) 1 1)).heap.size=w2.heap.size:=by simp[World.setCell]
  have zq:=ay.new (w2.setCell ⟨w.heap.size+1,1,none⟩ (.slice (some ⟨w2.heap.size,0,none⟩) 1 1)) q.cells 43;rw[ssz]at zq;have h3:=h2.new hR MX (fun i hi=>by omega);have qT:=kn.trans aG;have kE:=qT.bY MX (fun i hi he=>by omega);clear y0 y1;simp only[Nv.val,Nv.cells];go_wp2_with fail;refine(uB h3 _ vD (by rfl) (by decide)).mono ?_;rintro e w4 ⟨rfl,h4,cQ⟩;have t1:=z1.kept cQ (cw _ (by omega));have t0:=z0.kept cQ (cw _ (by omega));have tq:=zq.kept cQ (cw _ (by omega));have k24:I (fun i=>g.aN i\/i=w.heap.size+1) w2 w4:=(MX.mono (fun i hi=>Or.inr hi)).trans (cQ.mono (fun i hi=>Or.inl hi));have xl:=kE.trans cQ;have s4:=cQ.size;have sa3:=MX.size;obtain⟨c4',f4'⟩:=h4.aiu;have kj:g.b<w.heap.size:=hR.gR;obtain⟨p0,p1,p2,p3,p4,p5,p6,p7⟩:=t1.ib;obtain⟨e0,e1,e2,e3,e4,e5,e6,e7⟩:=t0.ib;obtain⟨g0,g1,g2,g3,g4,g5,g6,g7⟩:=t0.o7;simp only[bZ,qX]at e0 e1 e2 e3 e4 e5 e6 e7 p0 p1 p2 p3 p4 p5 p6 p7;have pA:w.heap.size<w4.heap.size:=t0.lt;have sY:w.heap.size+1<w4.heap.size:=t1.lt;have aqv:g.b≠w.heap.size:=by omega
  have aqw:g.b≠w.heap.size+1:=by omega
  go_wp2_with fail
  exact EQ.out.fS (i:=2) hR h4 (by omega) hp s2 xl k24 tq t0 results113 rfl rfl (fun e w' h=>h)
def pL(b:Nat)(l h:Int)(lz:Bool):Nv:=qX 5 b 1 0 l h lz
def NM(w:World)(q:Nv):World:=
 (((w.alloc (.cells q.cells 43)).alloc (.cells bZ.cells 43)).alloc (.cells q.cells 43)).alloc (.cells (pL (w.heap.size+1+1) 0 0 false).cells 43)
theorem aeK(w:World)(q:Nv)(S:Nat->Prop):I S w (NM w q):=((((I.refl S w).alloc _).alloc _).alloc _).alloc _
theorem am4(w:World)(q:Nv):ay (NM w q) w.heap.size q.cells 43:=(((ay.new w _ _).alloc _).alloc _).alloc _
theorem am5(w:World)(q:Nv):ay (NM w q) (w.heap.size+1) bZ.cells 43:=by
 have:=((ay.new (w.alloc (.cells q.cells 43)) bZ.cells 43).alloc (.cells q.cells 43)).alloc (.cells (pL (w.heap.size+1+1) 0 0 false).cells 43);rw[cR]at this;exact this
theorem am6(w:World)(q:Nv):ay (NM w q) (w.heap.size+1+1) q.cells 43:=by
 have:=(ay.new ((w.alloc (.cells q.cells 43)).alloc (.cells bZ.cells 43)) q.cells 43).alloc (.cells (pL (w.heap.size+1+1) 0 0 false).cells 43);rw[cR,cR]at this;exact this
theorem am7(w:World)(q:Nv):ay (NM w q) (w.heap.size+1+1+1) (pL (w.heap.size+1+1) 0 0 false).cells 43:=by
 have:=ay.new (((w.alloc (.cells q.cells 43)).alloc (.cells bZ.cells 43)).alloc (.cells q.cells 43)) (pL (w.heap.size+1+1) 0 0 false).cells 43;rw[cR,cR,cR]at this;exact this
theorem aqZ(h:ay w b (pL b2 0 0 false).cells t)(l hh:Int):ay ((w.setCell ⟨b,5,none⟩ (.int .i64 l)).setCell ⟨b,6,none⟩ (.int .i64 hh)) b (pL b2 l hh false).cells t:=by
 have:=(h.setCell 5 (.int .i64 l)).setCell 6 (.int .i64 hh);rw[show((pL b2 0 0 false).cells.setIfInBounds 5 (.int .i64 l)).setIfInBounds 6 (.int .i64 hh)=(pL b2 l hh false).cells by simp[Nv.cells,pL,qX]]at this;exact this
theorem aq0{q:Nv}{low high:Int}(hR:aZ w g fo st)(hz:aZ wz g wE iL)(hp:c_ w lo hi q A CA)(fX:hi<=w.heap.size)(I9:lo<=w.heap.size)(a8:∀i,g.aN i->i<lo)
 (k1:I g.aN w wz)(b2:ay wz (w.heap.size+1+1) q.cells 43)(hl:(-1<=low/\low<=99)/\(-1<=high/\high<=99)):
 aZ (gq wz (w.heap.size+1) (pL (w.heap.size+1+1) low high lz)) g wE iL/\
 c_ (gq wz (w.heap.size+1) (pL (w.heap.size+1+1) low high lz)) lo (gq wz (w.heap.size+1) (pL (w.heap.size+1+1) low high lz)).heap.size (pL (w.heap.size+1+1) low high lz) (.node 4 [A] low high) (pj CA low high lz)/\
 I g.aN w (gq wz (w.heap.size+1) (pL (w.heap.size+1+1) low high lz)):=by
 have sz:=NJ wz (w.heap.size+1) (pL (w.heap.size+1+1) low high lz);have kq:=JN wz (w.heap.size+1) (pL (w.heap.size+1+1) low high lz);have gR:=b2.lt;have kk:=k1.bY kq (fun i hi he=>by omega);refine⟨hz.new hR kq (fun i hi=>by omega),?_,kk⟩;exact c_.wrap (q:=q) hp fX kk (fun i hi=>Or.inl (a8 i hi)) (b2.kept kq (by omega)) (Aa _) (by omega) ⟨by omega,by omega⟩ ⟨hl.1,hl.2,by omega⟩ (Or.inr ⟨rfl,rfl⟩)
theorem am8{q:Nv}(hR:aZ w g fo st)(hz:aZ wz g wE iL)(hp:c_ w lo hi q A CA)(fX:hi<=w.heap.size)(a8:∀i,g.aN i->i<lo)
 (k1:I g.aN w wz):
 aZ (gq wz (w.heap.size+1) q) g wE iL/\c_ (gq wz (w.heap.size+1) q) lo (gq wz (w.heap.size+1) q).heap.size q A CA/\I g.aN w (gq wz (w.heap.size+1) q):=by
 have sz:=NJ wz (w.heap.size+1) q;have kq:=JN wz (w.heap.size+1) q;have s1:=k1.size;have kk:=k1.bY kq (fun i hi he=>by omega);exact⟨hz.new hR kq (fun i hi=>by omega),(hp.kept kk (fun i h1 _ hx=>by have:=a8 i hx;omega) fX).np (Aa _) (by omega),kk⟩
theorem alR(g:RG)(st:RS):(0<=(cT g st).2.1/\(cT g st).2.1<=99)/\(-1<=(cT g st).2.2/\(cT g st).2.2<=99):=by
 have r1:=ER g st;have r2:=ER g {(aK g st).1 with next:=(aK g st).1.next+1};unfold cT;split
 ·unfold n_;split
  ·simp;omega
  ·simp only at r2⊢;omega
 ·simp only;omega
theorem I2{p:Prop}(h:p):Hid p:=h
structure KM(g:RG)(A:PT)(CA:CT)(st ST:RS)(L H:Int):Prop where
 p:dU g A st=(bT g dG ST,.node 4 [A] L H)
 c:nH g CA st=pj CA L H (ak dG (aa g ST))
 r:(-1<=L/\L<=99)/\(-1<=H/\H<=99)
theorem KM.set {g:RG}{A:PT}{CA:CT}{st ST:RS}{L H:Int}(_:KM g A CA st ST L H){w:World}{b b2:Nat}{t:TypeId}(h:ay w b (pL b2 0 0 false).cells t):ay ((w.setCell ⟨b,5,none⟩ (.int .i64 L)).setCell ⟨b,6,none⟩ (.int .i64 H)) b (pL b2 L H false).cells t/\I (fun i=>i=b) w ((w.setCell ⟨b,5,none⟩ (.int .i64 L)).setCell ⟨b,6,none⟩ (.int .i64 H)) :=
 ⟨aqZ h L H,((I.refl (fun i=>i=b) w).setCell (p:=⟨b,5,none⟩) (Or.inl rfl) _).setCell (p:=⟨b,6,none⟩) (Or.inl rfl) _⟩
theorem KM.lzz {g:RG}{A:PT}{CA:CT}{st ST:RS}{L H:Int}(_:KM g A CA st ST L H):∃z,ak dG (aa g ST)=z:=⟨_,rfl⟩
theorem KM.fS {w wz:World}{g:RG}{fo wE:Bool}{st ST:RS}{q:Nv}{A:PT}{CA:CT}{lo hi:Nat}{L H:Int}{lz:Bool}(h:KM g A CA st ST L H)(iZ:ak dG (aa g ST)=lz)(hR:aZ w g fo st)(hz:aZ wz g wE (bT g dG ST))(hp:c_ w lo hi q A CA)(fX:hi<=w.heap.size)(I9:lo<=w.heap.size)(a8:∀ i,g.aN i->i < lo)(k1:I g.aN w wz)(b1:ay wz (w.heap.size+1) bZ.cells 43)(b2:ay wz (w.heap.size+1+1) q.cells 43){f:Func}{Q:Ending->World->Prop}{a:Act}{i:Nat}(mZ:f.results=#[ResultVar.cell i 43])(zE:a.tmps.getD i undef=.pointer (some ⟨w.heap.size+1,0,none⟩))(hd:a.defers=[])(hQ:∀ e w',(∃ q',e=.returned (Nv.val q')/\aZ w' g wE (dU g A st).1/\c_ w' lo w'.heap.size q' (dU g A st).2 (nH g CA st)/\I g.aN w w')->Q e w'):bodyPost prog f Q Exit.ret a (gq wz (w.heap.size+1) (pL (w.heap.size+1+1) L H lz)):=by
 refine zY (i:=i) (b:=w.heap.size+1) (q:=pL (w.heap.size+1+1) L H lz) mZ zE hd (AE b1 _) (hQ _ _ ?_)
 rw [h.p,h.c,iZ]
 exact ⟨_,rfl,aq0 hR hz hp fX I9 a8 k1 b2 h.r⟩
theorem anc{q:Nv}(hR:aZ w g fo st)(hp:c_ w lo hi q A CA)(fX:hi<=w.heap.size)(I9:lo<=w.heap.size)(a8:∀i,g.aN i->i<lo):
 Calls prog 98 #[.pointer (some ⟨g.b,0,none⟩),Nv.val q] w fun e w'=>∃q',e=.returned (Nv.val q')/\aZ w' g fo (dU g A st).1/\c_ w' lo w'.heap.size q' (dU g A st).2 (nH g CA st)/\I g.aN w w':=by
 have ajG:=alR g {st with next:=st.next+1};have qM:0<=cx g st/\cx g st<=300:=hR.oc st.next
 have dA:=hR.len;have mA:=hR.next
 have kw:=aeK w q g.aN;have hW:=hR.nil (aeK w q aq);have x0:=am4 w q;have x1:=am5 w q;have x2:=am6 w q;have x3:=am7 w q;have cw:∀i,w.heap.size<=i->¬g.aN i:=fun i hi hx=>by have:=hR.mH hx;omega
 simp only[Nv.val,Nv.cells];go_in;go_wp2_with fail;refine(RN hW).mono ?_;rintro e w1 ⟨rfl,h1,aI⟩;have y0:=x0.kept aI (cw _ (by omega));have y1:=x1.kept aI (cw _ (by omega));have y2:=x2.kept aI (cw _ (by omega));have y3:=x3.kept aI (cw _ (by omega));have k0:=kw.trans aI;clear x0 x1 x2 x3 kw hW aI;go_wp2_with fail
 cases c1:ak EB (aa g st)
 case' true=>
  have EQ:Hid (KM g A CA st {st with next:=st.next+1} 0 (-1)):=⟨by unfold dU;rw[if_pos c1],by unfold nH;rw[if_pos c1],by omega⟩;refine(iq h1 _ EB (by rfl) (by decide) c1).mono ?_;rintro e w6 ⟨rfl,h6,gH⟩
 case' false=>
  refine(gE h1 _ EB (by rfl) (by decide) c1).mono ?_;rintro e w2 ⟨rfl,h2,aG⟩;go_wp2_with fail
  cases c2:ak EA (aa g st)
  case' true=>
   have EQ:Hid (KM g A CA st {st with next:=st.next+1} 1 (-1)):=⟨by unfold dU;rw[if_neg (by rw[c1];simp),if_pos c2],by unfold nH;rw[if_neg (by rw[c1];simp),if_pos c2],by omega⟩;refine(iq h2 _ EA (by rfl) (by decide) c2).mono ?_;rintro e w6 ⟨rfl,h6,aQ⟩;have gH:=aG.trans aQ
  case' false=>
   refine(gE h2 _ EA (by rfl) (by decide) c2).mono ?_;rintro e w3 ⟨rfl,h3,aQ⟩;go_wp2_with fail
   cases c3:ak dG (aa g st)
   case' true=>
    have EQ:Hid (KM g A CA st {st with next:=st.next+1} 0 1):=⟨by unfold dU;rw[if_neg (by rw[c1];simp),if_neg (by rw[c2];simp),if_pos c3],by unfold nH;rw[if_neg (by rw[c1];simp),if_neg (by rw[c2];simp),if_pos c3],by omega⟩;refine(iq h3 _ dG (by rfl) (by decide) c3).mono ?_;rintro e w6 ⟨rfl,h6,cQ⟩;have gH:=(aG.trans aQ).trans cQ
   case' false=>
    refine(gE h3 _ dG (by rfl) (by decide) c3).mono ?_;rintro e w4 ⟨rfl,h4,cQ⟩;go_wp2_with fail
    cases c4:ak D_ (aa g st)
    case false=>
     have EQ:Hid (dU g A st=(st,A)/\nH g CA st=CA):=⟨by unfold dU;rw[if_neg (by rw[c1];simp),if_neg (by rw[c2];simp),if_neg (by rw[c3];simp),if_neg (by rw[c4];simp)],by unfold nH;rw[if_neg (by rw[c1];simp),if_neg (by rw[c2];simp),if_neg (by rw[c3];simp),if_neg (by rw[c4];simp)]⟩;refine(gE h4 _ D_ (by rfl) (by decide) c4).mono ?_;rintro e w5 ⟨rfl,h5,bI⟩;have gH:=(((aG.trans aQ).trans cQ).trans bI);have ka:=k0.trans gH;have z0:=y0.kept gH (cw _ (by omega));have z1:=y1.kept gH (cw _ (by omega));clear y0 y1 y2 y3;obtain⟨p0,p1,p2,p3,p4,p5,p6,p7⟩:=z0.ib;obtain⟨e0,e1,e2,e3,e4,e5,e6,e7⟩:=z1.ib;obtain⟨g0,g1,g2,g3,g4,g5,g6,g7⟩:=z1.o7;simp only[bZ]at e0 e1 e2 e3 e4 e5 e6 e7;have pA:w.heap.size+1<w5.heap.size:=z1.lt;go_wp2_with fail;have fS:=am8 hR h5 hp fX a8 ka;have lN:=AE z1 q;simp only[gq]at fS lN;refine zY (i:=4) (b:=w.heap.size+1) (q:=q) results98 ?_ ?_ ?_ ?_
     ·rfl
     ·rfl
     ·exact lN
     ·rw[EQ.out.1,EQ.out.2];exact⟨_,rfl,fS⟩
    case' true=>
     refine(iq h4 _ D_ (by rfl) (by decide) c4).mono ?_;rintro e w5 ⟨rfl,h5,bI⟩;go_wp2_with fail;refine(agQ h5).mono ?_;rintro e w6 ⟨rfl,h6,bU⟩;have gH:=((((aG.trans aQ).trans cQ).trans bI).trans bU)
     have EN:Hid ((20<(cT g {st with next:=st.next+1}).2.1\/20<(cT g {st with next:=st.next+1}).2.2\/((cT g {st with next:=st.next+1}).2.2≠ -1/\(cT g {st with next:=st.next+1}).2.2<(cT g {st with next:=st.next+1}).2.1))->KM g A CA st ((cT g {st with next:=st.next+1}).1.bG 4 (cx g st)) (cT g {st with next:=st.next+1}).2.1 (cT g {st with next:=st.next+1}).2.2):=fun hx=>⟨by
      unfold dU;rw[if_neg (by rw[c1];simp),if_neg (by rw[c2];simp),if_neg (by rw[c3];simp),if_pos c4];simp only;rw[if_pos (by first|omega|(simp at*;omega))],by
      unfold nH;rw[if_neg (by rw[c1];simp),if_neg (by rw[c2];simp),if_neg (by rw[c3];simp),if_pos c4];rfl,by omega⟩
     have EY:Hid (¬(20<(cT g {st with next:=st.next+1}).2.1\/20<(cT g {st with next:=st.next+1}).2.2\/((cT g {st with next:=st.next+1}).2.2≠ -1/\(cT g {st with next:=st.next+1}).2.2<(cT g {st with next:=st.next+1}).2.1))->KM g A CA st (cT g {st with next:=st.next+1}).1 (cT g {st with next:=st.next+1}).2.1 (cT g {st with next:=st.next+1}).2.2):=fun hx=>⟨by
      unfold dU;rw[if_neg (by rw[c1];simp),if_neg (by rw[c2];simp),if_neg (by rw[c3];simp),if_pos c4];simp only;rw[if_neg (by first|omega|(simp at*;omega))],by
      unfold nH;rw[if_neg (by rw[c1];simp),if_neg (by rw[c2];simp),if_neg (by rw[c3];simp),if_pos c4],by omega⟩
     generalize(cT g {st with next:=st.next+1}).2.1=L at*
     generalize(cT g {st with next:=st.next+1}).2.2=Hh at*
     by_cases t1:20<L
     case' pos=>have EQ:=I2 (EN.out (Or.inl t1))
     case' neg=>
      by_cases t2:20<Hh
      case' pos=>have EQ:=I2 (EN.out (Or.inr (Or.inl t2)))
      case' neg=>
       by_cases Sd:Hh= -1
       case' pos=>
        have EQ:=I2 (EY.out (by omega));have t3:(Hh != -1)=false:=(by simp[Sd]);clear Sd
       case' neg=>
        have t3:(Hh != -1)=true:=(by simp[Sd]);by_cases t4:Hh<L
        case' pos=>have EQ:=I2 (EN.out (Or.inr (Or.inr ⟨Sd,t4⟩)))
        case' neg=>have EQ:=I2 (EY.out (by omega))
     all_goals clear EN EY
 all_goals
  have ka:=k0.trans gH;have z1:=y1.kept gH (cw _ (by omega));have z2:=y2.kept gH (cw _ (by omega));have z3:=y3.kept gH (cw _ (by omega));clear y0 y1 y2 y3;have e5:w6.cell? ⟨w.heap.size+1+1+1,5,none⟩=some (.int .i64 0):=z3.cell 5;have e6:w6.cell? ⟨w.heap.size+1+1+1,6,none⟩=some (.int .i64 0):=z3.cell 6;have f5:=z3.frozen 5;have f6:=z3.frozen 6;go_wp2_with fail;obtain⟨St,ks⟩:=EQ.out.set z3;have hs:=h6.new hR ks (fun i hi=>by omega);have kb:=ka.bY ks (fun i hi he=>by omega);have Sr:=z1.kept ks (by omega);have Ss:=z2.kept ks (by omega);clear z1 z2 z3 e5 e6 f5 f6 ks
  try
   refine(He hs 4 _ (by omega) qM).mono ?_;rintro e w7 ⟨rfl,h7,fA⟩;have Sr:=Sr.kept fA (cw _ (by omega));have Ss:=Ss.kept fA (cw _ (by omega));have St:=St.kept fA (cw _ (by omega));have kb:=kb.trans fA;have hs:=h7;go_wp2_with fail
  refine(Sf hs _ dG (by rfl) (by decide)).mono ?_;rintro e wy ⟨rfl,hy,Mj⟩;have t1:=Sr.kept Mj (cw _ (by omega));have t2:=Ss.kept Mj (cw _ (by omega));have t3:=St.kept Mj (cw _ (by omega));have ky:=kb.trans Mj;clear Sr Ss St kb Mj ka;obtain⟨lz,iZ⟩:=EQ.out.lzz;rw[iZ];have HLZ:=I2 iZ;clear iZ;have d7:wy.cell? ⟨w.heap.size+1+1+1,7,none⟩=some (.bool false):=t3.cell 7;have f7:=t3.frozen 7;obtain⟨e0,e1,e2,e3,e4,e5,e6,e7⟩:=t1.ib;obtain⟨g0,g1,g2,g3,g4,g5,g6,g7⟩:=t1.o7;obtain⟨d0,d1,d2,d3,d4,d5,d6,_⟩:=t3.ib;simp only[bZ,pL,qX]at e0 e1 e2 e3 e4 e5 e6 e7 d0 d1 d2 d3 d4 d5 d6;have pA:w.heap.size+1<wy.heap.size:=t1.lt;have sY:w.heap.size+1+1+1<wy.heap.size:=t3.lt;go_wp2_with fail;have kl:I (fun i=>i=w.heap.size+1+1+1) wy (wy.setCell ⟨w.heap.size+1+1+1,7,none⟩ (.bool lz)):=(I.refl (fun i=>i=w.heap.size+1+1+1) wy).setCell (p:=⟨w.heap.size+1+1+1,7,none⟩) (Or.inl rfl) _;exact EQ.out.fS (i:=4) HLZ.out hR (hy.new hR kl (fun i hi=>by omega)) hp fX I9 a8 (ky.bY kl (fun i hi he=>by omega)) (t1.kept kl (by omega)) (t2.kept kl (by omega)) results98 rfl rfl (fun e w' h=>h)
end Go.Proofs.YtmbpfhlnifdhgaaGreatDoor
