/- The reader of th -/
import Derived.Test.YtpdnofhackjfdaaGreatDoorP05
set_option linter.all false
set_option maxRecDepth 100000
set_option maxHeartbeats 8000000
namespace Go.Proofs.YtpdnofhackjfdaaGreatDoor
open Go.Proofs.Tryz
open Go.RowKit Go.Maps
variable {fo ry:Bool} {C:CT} {hi i lo:Nat} {S:Nat->Prop} {q:Nv} {T:PT} {g:RG} {st k_:RS} {l:bF} {v:Value} {w w0 wz:World}
theorem aS.anZ(h:aS w g fo st)(m:Nat)(hm:m<=st.next)(hg:st.aR<=m):aS (w.setCell ⟨g.b,5,none⟩ (.int .i64 m)) g fo {st with aR:=m} where
 aj:=h.aj.setCell 5 _
 isSome:=h.isSome
 gF i hi:=by
  rw[Bz (w:=w) (Ct w _ _ g.br (fun e=>h.apart.1 e.symm))];exact h.gF i hi
 places i hi:=by
  rw[Bz (w:=w) (Ct w _ _ g.bp (fun e=>h.apart.2.1 e.symm))];exact h.places i hi
 og:=by have:=h.og;simpa[World.setCell]using this
 oe:=by have:=h.oe;simpa[World.setCell]using this
 nc:=h.nc
 qR:=h.qR
 fm:=by obtain⟨D,hD,hF⟩:=h.fm;exact⟨D,hD.setCell (a:=⟨g.b,5,none⟩) (fun e=>h.apart.2.2.1 e.symm) _,hF⟩
 nm:=by obtain⟨D,hD,hF⟩:=h.nm;exact⟨D,hD.setCell (a:=⟨g.b,5,none⟩) (fun e=>h.apart.2.2.2.1 e.symm) _,hF⟩
 len:=h.len
 nD:=h.nD
 next:=h.next
 aR:=hm
 names:=by have:=h.names;simp;omega
 apart:=h.apart
theorem aS.ae6(h:aS w g fo st)(hi:g.use i):i<w.heap.size:=by
 obtain⟨D,hD,_⟩:=h.fm;obtain⟨D',hD',_⟩:=h.nm;rcases hi with rfl|rfl|rfl|rfl|rfl
 ·exact h.O5
 ·exact hD.lt
 ·exact hD'.lt
 ·exact h.og
 ·exact h.oe
theorem aS.gR(h:aS w g fo st)(hi:g.au i):i<w.heap.size:=h.ae6 (by rcases hi with h|h|h<;>simp[RG.use,h])
theorem aS.new{w':World}{fo0:Bool}{di:RS}(h:aS w g fo st)(h0:aS w0 g fo0 di)(k:aa S w w')(hs:∀i,S i->w0.heap.size<=i):aS w' g fo st:=
 h.kept k (fun i hi hx=>by have:=h0.ae6 hi;have:=hs i hx;omega)
theorem fO(w:World)(o:Obj):(w.alloc o).heap.size=w.heap.size+1:=by simp
theorem Nj(h:aS w g fo st)(h2:aS wz g ry k_)(hp:cI wz lo hi q T C)(mW:w.heap.size<lo)(lM:hi<=wz.heap.size)(k1:aa g.au w wz):
 aS (ga wz w.heap.size q) g ry k_/\cI (ga wz w.heap.size q) w.heap.size (ga wz w.heap.size q).heap.size q T C/\aa g.au w (ga wz w.heap.size q):=by
 have sz:=Nt wz w.heap.size q;have kq:=JO wz w.heap.size q;refine⟨h2.new h kq (fun i hi=>by omega),?_,k1.bZ kq (fun i hi he=>by omega)⟩;exact(hp.kept kq (fun i h1 _ he=>by omega) lM).Hy (by omega) (by omega)
theorem Hd(h:aS w g fo st)(h2:aS wz g ry k_)(hp:cI wz lo hi q T C)(mW:w.heap.size<lo)(lM:hi<=wz.heap.size)(k1:aa g.au w wz){p:Nv}(b:aq wz w.heap.size p.cells 64)
 {f:Func}{Q:Ending->World->Prop}{a:Act}(mw:f.results=#[ResultVar.cell i 64])(sZ:a.tmps.getD i undef=.pointer (some ⟨w.heap.size,0,none⟩))(hd:a.defers=[])
 (hQ:∀e w',(∃q,e=.returned (Nv.val q)/\aS w' g ry k_/\cI w' w.heap.size w'.heap.size q T C/\aa g.au w w')->Q e w'):bodyPost prog f Q Exit.ret a (ga wz w.heap.size q):=
 vQ (i:=i) (b:=w.heap.size) (q:=q) mw sZ hd (vV b q) (hQ _ _ ⟨_,rfl,Nj h h2 hp mW lM k1⟩)
theorem ama{base:Nat}(h:w.ownsRow base 219 2 v l.length (dd l)):∃ao b cap,v=.slice ao l.length cap/\(l≠ []->ao=some ⟨b,0,none⟩)/\fV w b l/\(l≠ []->b<w.heap.size):=by
 by_cases az:l=[]
 ·subst az;obtain⟨ao,cap,rfl⟩:=Q_ h;exact⟨ao,0,cap,rfl,fun h=>absurd rfl h,fV.nil _ _,fun h=>absurd rfl h⟩
 ·obtain⟨g,cap,rfl,_,h2,h3,_⟩:=wN h az;exact⟨_,g,cap,rfl,fun _=>rfl,h3,fun _=>h2⟩
theorem ZZ(h:l≠ []):pK l≠ []:=by
 have:∀(l aA:bF),aA.length<=(l.foldl im aA).length:=by
  intro l;induction l with
  |nil=>intro aA;exact Ab _
  |cons s l ih=>
   intro aA;have h1:=ih (im aA s);have h2:=(Xo aA s).1;have h3:=(abd (lZ aA s) s).1;have h4:aA.length<=(im aA s).length:=by unfold im;omega
   rw[Dn];omega
 have h1:=this l l;intro e;have h2:(l.foldl im l).length=0:=by rw[show l.foldl im l=[]from e];rfl
 have:l.length=0:=by omega
 exact h (Ax.1 this)
theorem cI.acA{S sp:bF}(_:aS w0 g fo st)(nt:Bool)(h:w.ownsRow lo 219 2 v S.length (dd S))(hS:uV S sp fo nt)(hr:dz sp)(hl:sp.length<=1900):
 ∃sa sc,v=.slice sa S.length sc/\cI w lo w.heap.size (uB sa S.length sc) gG (kj sp fo nt):=cI.akE h hS hr hl
theorem EB(h:aS w g fo st){b cap:Nat}(nt:Bool)(hc:fV w b l)(hr:dz l)(hl:l.length<=1900)(az:l≠ [])(hb:b<w.heap.size):
 Calls prog 134 #[.pointer (some ⟨g.b,0,none⟩),.slice (some ⟨b,0,none⟩) l.length cap,.bool nt] w fun e w'=>∃q,e=.returned (Nv.val q)/\aS w' g fo st/\cI w' w.heap.size w'.heap.size q gG (kj l fo nt)/\aa g.au w w':=by
 have ha:=h.nil ((aa.refl af w).alloc (.cells bB.cells 64));have c4:(w.alloc (.cells bB.cells 64)).cell? ⟨g.b,4,none⟩=some (.bool fo):=ha.aj.cell 4;have b0:=aq.new w bB.cells 64;have ka:aa af w (w.alloc (.cells bB.cells 64)):=(aa.refl af w).alloc _;have nH:=hc.kept ka hb (fun hx=>hx);have s0:(w.alloc (.cells bB.cells 64)).heap.size=w.heap.size+1:=fO _ _;simp only[Nv.cells,bB]at c4;go_in
 cases fo
 case' false=>
  go_wp2_with fail
  have PR:=And.intro hr hl;have aU:aa af w (w.alloc (.cells bB.cells 64)):=ka;have bz:=b0;refine(Wu (w:=w.alloc (.cells bB.cells 64)) (cap:=cap) nH hr (by omega) az (by omega)).mono ?_;rintro e w2 ⟨l',v2,hp,hs,rfl,nP,aN⟩;have Qi:l'.length<=5700:=by have:=hp.length_eq;omega
  have cU:w.heap.size+1<=(w.alloc (.cells bB.cells 64)).heap.size:=by omega
 case' true=>
  go_wp2_with fail
  refine(af9 (w:=w.alloc (.cells bB.cells 64)) (cap:=cap) nH hr (by omega) az (by omega)).mono ?_;rintro e w1 ⟨v1,rfl,mx,t_⟩;have PR:=Tw l l hr hr;obtain⟨b1,agE,ajP,UK,aiJ,nI,_⟩:=wN mx (ZZ az);have aU:=ka.trans t_;have bz:=b0.kept t_ (fun hx=>hx);rw[ajP];go_wp2_with fail;refine(Wu (cap:=agE) nI PR.1 (by show(pK l).length<=_;unfold pK;omega) (ZZ az) aiJ).mono ?_;rintro e w2 ⟨l',v2,hp,hs,rfl,nP,aN⟩;have Qi:l'.length<=5700:=by have:=hp.length_eq;have:=PR.2;simp only[pK]at*;omega
  have cU:w.heap.size+1<=w1.heap.size:=by have:=aU.size;have:=t_.size;omega
 all_goals
  have kD:dz l':=fun s h=>(PR.1) s (hp.mem_iff.1 h)
  have yz:=QT l' kD;have kz:=aU.trans aN;have bz:=bz.kept aN (fun hx=>hx)
  cases nt
  case' true=>
   obtain⟨IC,b2',agF,ajQ,x1,x2,x3⟩:=ama nP;rw[ajQ];go_wp2_with fail;refine(al7 (cap:=agF) x1 x2 yz.1 (by omega) x3).mono ?_;rintro e w3 ⟨v3,rfl,kX,bA⟩;have kz:=kz.trans bA;have bz:=bz.kept bA (fun hx=>hx);have gg:w.heap.size+1<=w2.heap.size:=by have:=aN.size;omega
   obtain⟨sa,sc,ab2,xi⟩:=cI.acA (sp:=l) h true (CM kX gg) ⟨l',by simpa using hp,hs,rfl⟩ hr hl
  case' false=>
   obtain⟨sa,sc,ab2,xi⟩:=cI.acA (sp:=l) h false (CM nP cU) ⟨l',by simpa using hp,hs,rfl⟩ hr hl
  all_goals
   rw[ab2];obtain⟨e0,e1,e2,e3,e4,e5,e6,e7⟩:=bz.gZ;obtain⟨g0,g1,g2,g3,g4,g5,g6,g7⟩:=bz.nU;simp only[bB]at e0 e1 e2 e3 e4 e5 e6 e7;have pO:=bz.lt;go_wp2_with fail;exact Hd (i:=6) h (h.nil kz) xi (by omega) (Ab _) (kz.mono (fun _ hx=>hx.elim)) bz results134 rfl rfl (fun _ _ h=>h)
theorem JG(k:aa S w wz)(x y:Int):(wz.alloc (.cells #[.int .i32 x,.int .i32 y] 219)).ownsRow w.heap.size 219 2 (.slice (some ⟨wz.heap.size,0,none⟩) 1 1) 1 (dd [(x,y)]):=
 CM (No wz [(x,y)] (by simp)) k.size
theorem aki(h:aS w g fo st)(hb:aG f_ (ay g st)=true)(hs:aG my (ay g {st with next:=st.next+1})=true):
 Calls prog 166 #[.pointer (some ⟨g.b,0,none⟩)] w fun e w'=>∃v,e=.returned v/\aS w' g fo (fU g st)/\w'.ownsRow w.heap.size 219 2 v (iy g st).length (dd (iy g st))/\aa g.au w w':=by
 have e1:fU g st={st with next:=st.next+2}:=by unfold fU;rw[if_pos ⟨hb,hs⟩]
 have e2:iy g st=lY (ay g {st with next:=st.next+1}):=by unfold iy;rw[if_pos ⟨hb,hs⟩]
 rw[e1,e2];clear e1 e2;go_in;go_wp2_with fail;refine(Rn h).mono ?_;rintro e w1 ⟨rfl,h1,aU⟩;go_wp2_with fail;refine(js h1 _ f_ (by rfl) (by decide) hb).mono ?_;rintro e w2 ⟨rfl,h2,aN⟩;go_wp2_with fail;refine(nS h2).mono ?_;rintro e w3 ⟨rfl,h3,bA⟩;go_wp2_with fail;refine(js h3 _ my (by rfl) (by decide) hs).mono ?_;rintro e w4 ⟨rfl,h4,dC⟩;go_wp2_with fail;refine(RA _ w4).mono ?_;rintro e w5 ⟨v,rfl,hv,cW⟩;go_wp2_with fail;go_ret;have kk:=((aU.trans aN).trans bA).trans dC;exact⟨v,rfl,h4.nil cW,CM hv kk.size,kk.trans (cW.mono (fun _ hx=>hx.elim))⟩
theorem akh(h:aS w g fo st)(hb:aG f_ (ay g st)=false):
 Calls prog 166 #[.pointer (some ⟨g.b,0,none⟩)] w fun e w'=>∃v,e=.returned v/\aS w' g fo (fU g st)/\w'.ownsRow w.heap.size 219 2 v (iy g st).length (dd (iy g st))/\aa g.au w w':=by
 have hp:0<=qQ g st/\qQ g st<=300:=h.nc st.next
 have uN:Hid (¬(aG f_ (ay g st)=true/\aG my (ay g {st with next:=st.next+1})=true)):=by show¬_;rw[hb];simp
 have ex:df g st=lT g false (fq g f_ st):=by simp[df,hb]
 have et:fq g f_ st=st:=by simp[fq,hb]
 rw[et]at ex;clear et;have EX:Hid (df g st=lT g false st):=ex;clear ex;go_in;go_wp2_with fail;refine(Rn h).mono ?_;rintro e w1 ⟨rfl,h1,aU⟩;go_wp2_with fail;refine(ja h1 _ f_ (by rfl) (by decide) hb).mono ?_;rintro e w2 ⟨rfl,h2,aN⟩;go_wp2_with fail;refine(nS h2).mono ?_;rintro e w3 ⟨rfl,h3,bA⟩;go_wp2_with fail;refine(Wz false h3).mono ?_;rintro e w4 ⟨rfl,h4,dC⟩;rw[<-EX.o]at h4⊢;go_wp2_with fail
 cases hd:aG xq (ay g (df g st).1)
 ·have EC:Hid (iy g st=[((df g st).2,(df g st).2)]):=by show _=_;unfold iy;rw[if_neg uN.o,if_neg (by rw[hd];simp)]
  refine(ja h4 _ xq (by rfl) (by decide) hd).mono ?_;rintro e w5 ⟨rfl,h5,cW⟩;go_wp2_with fail;go_ret;have kk:=(((aU.trans aN).trans bA).trans dC).trans cW;refine⟨_,rfl,?_,by rw[EC.o];exact JG kk _ _,kk.alloc _⟩;rw[show fU g st=(df g st).1 by unfold fU;rw[if_neg uN.o];unfold qO;rw[if_neg (by simp[hd])]];exact h5.nil ((aa.refl _ _).alloc _)
 ·have EC:Hid (iy g st=[((df g st).2,(df g {(df g st).1 with next:=(df g st).1.next+1}).2)]):=by show _=_;unfold iy;rw[if_neg uN.o,if_pos hd]
  refine(js h4 _ xq (by rfl) (by decide) hd).mono ?_;rintro e w5 ⟨rfl,h5,cW⟩;go_wp2_with fail;refine(RO h5 _ f_ (by rfl) (by decide)).mono ?_;rintro e w6 ⟨rfl,h6,gE⟩;go_wp2_with fail;refine(ada h6).mono ?_;rintro e w7 ⟨rfl,h7,gP⟩;by_cases aw:(df g {(df g st).1 with next:=(df g st).1.next+1}).2<(df g st).2
  ·go_wp2_with fail
   refine(He h7 5 _ (by omega) hp).mono ?_;rintro e w8 ⟨rfl,h8,Gv⟩;go_wp2_with fail;go_ret;have kk:=((((((aU.trans aN).trans bA).trans dC).trans cW).trans gE).trans gP).trans Gv;refine⟨_,rfl,?_,by rw[EC.o];exact JG kk _ _,kk.alloc _⟩;rw[show fU g st=(df g {(df g st).1 with next:=(df g st).1.next+1}).1.eo 5 (qQ g st) by unfold fU;rw[if_neg uN.o];unfold qO;rw[if_pos hd,if_pos aw]];exact h8.nil ((aa.refl _ _).alloc _)
  ·go_wp2_with fail
   go_ret
   have kk:=(((((aU.trans aN).trans bA).trans dC).trans cW).trans gE).trans gP;refine⟨_,rfl,?_,by rw[EC.o];exact JG kk _ _,kk.alloc _⟩;rw[show fU g st=(df g {(df g st).1 with next:=(df g st).1.next+1}).1 by unfold fU;rw[if_neg uN.o];unfold qO;rw[if_pos hd,if_neg (Int.not_lt.2 aw)]];exact h7.nil ((aa.refl _ _).alloc _)
theorem akg(h:aS w g fo st)(hb:aG f_ (ay g st)=true)(hs:aG my (ay g {st with next:=st.next+1})=false):
 Calls prog 166 #[.pointer (some ⟨g.b,0,none⟩)] w fun e w'=>∃v,e=.returned v/\aS w' g fo (fU g st)/\w'.ownsRow w.heap.size 219 2 v (iy g st).length (dd (iy g st))/\aa g.au w w':=by
 have hp:0<=qQ g st/\qQ g st<=300:=h.nc st.next
 have uN:Hid (¬(aG f_ (ay g st)=true/\aG my (ay g {st with next:=st.next+1})=true)):=by show¬_;rw[hs];simp
 have ex:df g st=lT g true (fq g f_ st):=by simp[df,hb]
 have et:fq g f_ st={st with next:=st.next+1}:=by simp[fq,hb]
 rw[et]at ex;clear et;have EX:Hid (df g st=lT g true {st with next:=st.next+1}):=ex;clear ex;go_in;go_wp2_with fail;refine(Rn h).mono ?_;rintro e w1 ⟨rfl,h1,aU⟩;go_wp2_with fail;refine(js h1 _ f_ (by rfl) (by decide) hb).mono ?_;rintro e w2 ⟨rfl,h2,aN⟩;go_wp2_with fail;refine(nS h2).mono ?_;rintro e w3 ⟨rfl,h3,bA⟩;go_wp2_with fail;refine(ja h3 _ my (by rfl) (by decide) hs).mono ?_;rintro e w3' ⟨rfl,yl,Gu⟩;go_wp2_with fail;refine(Wz true yl).mono ?_;rintro e w4 ⟨rfl,h4,dC⟩;rw[<-EX.o]at h4⊢;go_wp2_with fail
 cases hd:aG xq (ay g (df g st).1)
 ·have EC:Hid (iy g st=[((df g st).2,(df g st).2)]):=by show _=_;unfold iy;rw[if_neg uN.o,if_neg (by rw[hd];simp)]
  refine(ja h4 _ xq (by rfl) (by decide) hd).mono ?_;rintro e w5 ⟨rfl,h5,cW⟩;go_wp2_with fail;go_ret;have kk:=((((aU.trans aN).trans bA).trans Gu).trans dC).trans cW;refine⟨_,rfl,?_,by rw[EC.o];exact JG kk _ _,kk.alloc _⟩;rw[show fU g st=(df g st).1 by unfold fU;rw[if_neg uN.o];unfold qO;rw[if_neg (by simp[hd])]];exact h5.nil ((aa.refl _ _).alloc _)
 ·have EC:Hid (iy g st=[((df g st).2,(df g {(df g st).1 with next:=(df g st).1.next+1}).2)]):=by show _=_;unfold iy;rw[if_neg uN.o,if_pos hd]
  refine(js h4 _ xq (by rfl) (by decide) hd).mono ?_;rintro e w5 ⟨rfl,h5,cW⟩;go_wp2_with fail;refine(RO h5 _ f_ (by rfl) (by decide)).mono ?_;rintro e w6 ⟨rfl,h6,gE⟩;go_wp2_with fail;refine(ada h6).mono ?_;rintro e w7 ⟨rfl,h7,gP⟩;by_cases aw:(df g {(df g st).1 with next:=(df g st).1.next+1}).2<(df g st).2
  ·go_wp2_with fail
   refine(He h7 5 _ (by omega) hp).mono ?_;rintro e w8 ⟨rfl,h8,Gv⟩;go_wp2_with fail;go_ret;have kk:=(((((((aU.trans aN).trans bA).trans Gu).trans dC).trans cW).trans gE).trans gP).trans Gv;refine⟨_,rfl,?_,by rw[EC.o];exact JG kk _ _,kk.alloc _⟩;rw[show fU g st=(df g {(df g st).1 with next:=(df g st).1.next+1}).1.eo 5 (qQ g st) by unfold fU;rw[if_neg uN.o];unfold qO;rw[if_pos hd,if_pos aw]];exact h8.nil ((aa.refl _ _).alloc _)
  ·go_wp2_with fail
   go_ret
   have kk:=((((((aU.trans aN).trans bA).trans Gu).trans dC).trans cW).trans gE).trans gP;refine⟨_,rfl,?_,by rw[EC.o];exact JG kk _ _,kk.alloc _⟩;rw[show fU g st=(df g {(df g st).1 with next:=(df g st).1.next+1}).1 by unfold fU;rw[if_neg uN.o];unfold qO;rw[if_pos hd,if_neg (Int.not_lt.2 aw)]];exact h7.nil ((aa.refl _ _).alloc _)
theorem aci(h:aS w g fo st):
 Calls prog 166 #[.pointer (some ⟨g.b,0,none⟩)] w fun e w'=>∃v,e=.returned v/\aS w' g fo (fU g st)/\w'.ownsRow w.heap.size 219 2 v (iy g st).length (dd (iy g st))/\aa g.au w w':=by
 cases hb:aG f_ (ay g st)
 ·exact akh h hb
 ·cases hs:aG my (ay g {st with next:=st.next+1})
  ·exact akg h hb hs
  ·exact aki h hb hs
theorem agR(h:aS w g fo st):
 Calls prog 132 #[.pointer (some ⟨g.b,0,none⟩)] w fun e w'=>∃q,e=.returned (Nv.val q)/\aS w' g fo (rY g st)/\cI w' w.heap.size w'.heap.size q gG (Ln g fo st)/\aa g.au w w':=by
 obtain⟨i0,cS,dm,dp,c_⟩:=Bp Tryz.Js;have xl:∀st:RS,-1<=ay g st/\ay g st<=1114111:=h.JS
 have cT:=h.len;have bM:∀i,w.heap.size<=i->¬g.au i:=fun i hi hx=>by have:=h.gR hx;omega
 have ha:=h.nil ((aa.refl af w).alloc (.cells bB.cells 64));have b0:=aq.new w bB.cells 64;have ka:aa g.au w (w.alloc (.cells bB.cells 64)):=(aa.refl _ w).alloc _;have s0:(w.alloc (.cells bB.cells 64)).heap.size=w.heap.size+1:=fO _ _;unfold rY Ln;go_in;go_wp2_with fail;refine(RO ha _ tg (by rfl) (by decide)).mono ?_;rintro e w1 ⟨rfl,h1,aU⟩;go_wp2_with fail;refine(aci h1).mono ?_;rintro e w2 ⟨v2,rfl,h2,nP,aN⟩;go_wp2_with fail;have abF:=(ka.trans aU).trans aN;have b2:=(b0.kept aU (bM _ (Ab _))).kept aN (bM _ (Ab _));have s1:=aU.size;have VK:=CM (base':=w.heap.size+1) nP (by omega);have UV:=Z9 xl (fq g tg st);clear aU aN h1 ha nP b0 ka;generalize bC:fU g (fq g tg st)=di at h2;have lF:Hid (fU g (fq g tg st)=di):=bC;clear bC;generalize vu:iy g (fq g tg st)=OP at VK UV;have X8:Hid (iy g (fq g tg st)=OP):=vu;clear vu;go_loopg [4] (g.rs.length-di.next) (fun k v wr=>∃aC m aA,aS wr g fo aC/\Hid (mD g m aC=mD g (g.rs.length+1) di)/\Hid (rp g m aC aA=rp g (g.rs.length+1) di OP)/\k=g.rs.length-aC.next/\k<m/\aa g.au w wr/\wr.ownsRow (w.heap.size+1) 219 2 v aA.length (dd aA)/\dz aA/\1<=aA.length/\aA.length<=4*aC.next+4/\aq wr w.heap.size bB.cells 64)
 case atStart=>exact⟨di,g.rs.length+1,OP,h2,rfl,rfl,rfl,by omega,abF,VK,UV.1,UV.2.1,by omega,b2⟩
 case round=>
  obtain⟨aC,m,aA,hr,HP,HC,rfl,hm,hk,bt,kE,mV,AU,AL⟩:=hrel;have hle:=hr.next
  have Jb:=hk.size;clear h2 abF VK b2;by_cases nK:ay g aC= -1\/aG pU (ay g aC)=true
  ·have YU:Hid (aC=mD g (g.rs.length+1) di):=by show _=_;rw[<-HP.o,amo g m aC nK]
   have Yt:Hid (aA=rp g (g.rs.length+1) di OP):=by show _=_;rw[<-HC.o,agt g m aC aA nK]
   have az:aA≠ []:=by intro e;subst e;simp at mV
   have mq:∀{wx:World},aS wx g fo aC->aa g.au wr wx->True:=(fun _ _=>trivial);clear HP HC
   obtain⟨gb,rz,BR,Gl,tY,jx,_⟩:=wN bt az;by_cases ff:ay g aC= -1
   ·have hb:(ay g aC != -1)=false:=(by simp[ff]);clear ff nK;go_wp2_with fail;refine(nS hr).mono ?_;rintro e w3 ⟨rfl,h3,bA⟩;go_wp2_with fail;refine(tn h3 _ pU (by rfl) (by decide)).mono ?_;rintro e w4 ⟨rfl,h4,dC⟩;have kk:=bA.trans dC;have Qr:¬g.au gb:=bM _ (by omega);have UT:=jx.kept kk tY Qr;have b4:=AL.kept kk (bM _ (Ab _));have vK:=hk.trans kk;have s4:=kk.size;try rw[BR]
    go_wp2_with fail
    refine(EB (cap:=rz) h4 (aG tg (ay g st)) UT kE (by omega) az (by omega)).mono ?_;rintro e w5 ⟨q,rfl,h5,GC,cW⟩;have b5:=b4.kept cW (bM _ (Ab _));obtain⟨e0,e1,e2,e3,e4,e5,e6,e7⟩:=b5.gZ;obtain⟨g0,g1,g2,g3,g4,g5,g6,g7⟩:=b5.nU;simp only[bB]at e0 e1 e2 e3 e4 e5 e6 e7;have pO:w.heap.size<w5.heap.size:=b5.lt;have rJ:w.heap.size<w4.heap.size:=b4.lt;simp only[Nv.val,Nv.cells];go_wp2_with fail;have fZ:=Nj h h5 GC (by omega) (Ab _) (vK.trans cW);have ln:=vV b5 q;simp only[ga]at fZ ln;refine vQ (i:=2) (b:=w.heap.size) (q:=q) results132 ?_ ?_ ?_ ?_
    ·rfl
    ·rfl
    ·exact ln
    ·rw[lF.o,X8.o,<-YU.o,<-Yt.o];exact⟨_,rfl,fZ⟩
   ·have hb:(ay g aC != -1)=true:=(by simp[ff]);have oD:aG pU (ay g aC)=true:=nK.resolve_left ff;clear ff nK;go_wp2_with fail;refine(nS hr).mono ?_;rintro e w3' ⟨rfl,yl,Gu⟩;go_wp2_with fail;refine(xB yl _ pU (by rfl) (by decide)).mono ?_;rintro e w3 ⟨rfl,h3,ajc⟩;have bA:=Gu.trans ajc;rw[oD];go_wp2_with fail;refine(tn h3 _ pU (by rfl) (by decide)).mono ?_;rintro e w4 ⟨rfl,h4,dC⟩;have kk:=bA.trans dC;have Qr:¬g.au gb:=bM _ (by omega);have UT:=jx.kept kk tY Qr;have b4:=AL.kept kk (bM _ (Ab _));have vK:=hk.trans kk;have s4:=kk.size;try rw[BR]
    go_wp2_with fail
    refine(EB (cap:=rz) h4 (aG tg (ay g st)) UT kE (by omega) az (by omega)).mono ?_;rintro e w5 ⟨q,rfl,h5,GC,cW⟩;have b5:=b4.kept cW (bM _ (Ab _));obtain⟨e0,e1,e2,e3,e4,e5,e6,e7⟩:=b5.gZ;obtain⟨g0,g1,g2,g3,g4,g5,g6,g7⟩:=b5.nU;simp only[bB]at e0 e1 e2 e3 e4 e5 e6 e7;have pO:w.heap.size<w5.heap.size:=b5.lt;have rJ:w.heap.size<w4.heap.size:=b4.lt;simp only[Nv.val,Nv.cells];go_wp2_with fail;have fZ:=Nj h h5 GC (by omega) (Ab _) (vK.trans cW);have ln:=vV b5 q;simp only[ga]at fZ ln;refine vQ (i:=2) (b:=w.heap.size) (q:=q) results132 ?_ ?_ ?_ ?_
    ·rfl
    ·rfl
    ·exact ln
    ·rw[lF.o,X8.o,<-YU.o,<-Yt.o];exact⟨_,rfl,fZ⟩
  ·rw[not_or]at nK;have hb:(ay g aC != -1)=true:=(by simp[nK.1]);have aw:=Wj nK.1;have oD:aG pU (ay g aC)=false:=(by simpa using nK.2);clear nK;have I4:=Z9 xl aC;go_wp2_with fail;refine(nS hr).mono ?_;rintro e w3 ⟨rfl,h3,bA⟩;go_wp2_with fail;refine(xB h3 _ pU (by rfl) (by decide)).mono ?_;rintro e w4 ⟨rfl,h4,dC⟩;rw[oD];go_wp2_with fail;refine(aci h4).mono ?_;rintro e w5 ⟨v5,rfl,h5,gQ,cW⟩;have kk:=(bA.trans dC).trans cW;have sU:=WH bt kk (fun b jV hx=>by have:=(uA bt jV).1;exact bM b (by omega) hx);have US:=AL.kept kk (bM _ (Ab _));have hn:=WN g aC (by omega);have lQ:=hn.2.2 aw;have ajq:iy g aC≠ []:=by intro e;rw[e]at I4;simp at I4
   have DN:Hid (mD g m aC=mD g (m-1) (fU g aC)/\rp g m aC aA=rp g (m-1) (fU g aC) (aA++iy g aC)):=by
    obtain⟨m',rfl⟩:∃m',m=m'+1:=⟨m-1,by omega⟩
    have L9:¬(ay g aC= -1\/aG pU (ay g aC)=true):=by simp[oD];simpa using hb
    exact⟨by show(if _ then _ else _)=_;rw[if_neg L9];rfl,by show(if _ then _ else _)=_;rw[if_neg L9];rfl⟩
   have s5:=kk.size;generalize iy g aC=new at*;obtain⟨gb,rz,BR,Gl,tY,jx,_⟩:=wN gQ ajq;try rw[BR]
   go_wp2_with (at_builtin;refine Ap _ rfl _ _ 60 rfl (w.heap.size+1) 219 i0 _ 2 8 underlying60 cS dm dp c_ rfl (by decide) _ aA.length _ rfl sU ⟨gb,0,none⟩ new.length rz (dd new) rfl (zV new) (aae jx) (aaN new) ?c3 ?c4 ?c5 ?_)
   case c3=>unfold maxLen;omega
   case c4=>omega
   case c5=>have:=US.lt;omega
   intro v' w7 bH b_ dS cB;have k7:aa (fun i=>u4.ownBlock=some i) w5 w7:=(aa.refl _ w5).eQ b_ (fun j hj=>Or.inl hj);have ia:∀i,u4.ownBlock=some i->w.heap.size+1<=i:=(fun i hi=>(uA bt hi).1);have h7:=h5.new h k7 (fun i hi=>by have:=ia i hi;omega)
   have MY:=(hk.trans kk).bZ k7 (fun i hi he=>by have:=ia i he;omega);have aiN:=US.kept k7 (fun he=>by have:=ia _ he;omega);have mr:w7.ownsRow (w.heap.size+1) 219 2 v' (aA++new).length (dd (aA++new)):=by rw[LH,Aj];exact bH
   clear bH b_ cB dS sU bt cW dC bA kk k7 AL US jx gQ;go_wp2_with fail;go_roundg (g.rs.length-(fU g aC).next)
   case measure=>omega
   case rel=>
    exact⟨fU g aC,m-1,aA++new,h7,(DN.o.1.symm.trans HP.o),(DN.o.2.symm.trans HC.o),rfl,by omega,MY,mr,kE.append I4.1,by simp;omega,by simp;omega,aiN⟩
theorem Wh(w:World)(x y:Int):fV (w.alloc (.cells #[.int .i32 x,.int .i32 y] 219)) w.heap.size [(x,y)]:=by
 intro i hi;have e:i=0:=by simp at hi;omega
 subst e;exact⟨(aq.new w #[.int .i32 x,.int .i32 y] 219).cell 0,(aq.new w #[.int .i32 x,.int .i32 y] 219).cell 1⟩
theorem aav(r:Int):0<=sF r/\sF r<=3:=by
 unfold sF;split
 ·omega
 ·split
  ·omega
  ·split<;>omega
theorem Pg(r:Int):aG qL r=(aG G9 r||(aG my r||(aG xr r||aG uq r))):=by
 have e:qL=G9++[100,68,119,87,115,83,98,66]:=rfl;have h:aG qL r=(aG G9 r||aG [100,68,119,87,115,83,98,66] r):=by rw[e];unfold aG;rw[List.any_append]
 rw[h];congr 1;rw[Be];simp[aG,my,xr,uq];omega
theorem al6{r:Int}(h:aG xr r=true):65<=r/\r<=90:=by
 simp[aG,xr]at h
 omega
theorem Wr{l:List UInt8}(h:aG l (ay g st)=true):eM g l st={st with next:=st.next+1}:=by unfold eM;rw[if_pos h]
theorem ahu(hR:aS w g fo st)(c1:aG uq (ay g st)=true):
 Calls prog 133 #[.pointer (some ⟨g.b,0,none⟩)] w fun e w'=>∃q,e=.returned (Nv.val q)/\aS w' g fo (eM g qL st)/\cI w' w.heap.size w'.heap.size q gG (oh fo (ay g st))/\aa g.au w w':=by
 rw[Wr (show aG qL (ay g st)=true by rw[Pg,c1];simp),show oh fo (ay g st)=u9 (sF (ay g st)) by unfold oh;rw[if_pos c1]];have bM:∀i,w.heap.size<=i->¬g.au i:=fun i hi hx=>by have:=hR.gR hx;omega
 have xl:∀st:RS,-1<=ay g st/\ay g st<=1114111:=hR.JS
 have ha:=hR.nil ((aa.refl af w).alloc (.cells bB.cells 64));have b0:=aq.new w bB.cells 64;have ka:aa g.au w (w.alloc (.cells bB.cells 64)):=(aa.refl _ w).alloc _;have s0:(w.alloc (.cells bB.cells 64)).heap.size=w.heap.size+1:=fO _ _;go_in;go_wp2_with fail;refine(nS ha).mono ?_;rintro e w1 ⟨rfl,h1,aU⟩;go_wp2_with fail;refine(js h1 _ uq (by rfl) (by decide) c1).mono ?_;rintro e w2 ⟨rfl,h2,aN⟩;go_wp2_with fail;refine(aaw _ _).mono ?_;rintro e w3 ⟨rfl,rfl⟩;have kk:=(ka.trans aU).trans aN;have bz:=(b0.kept aU (bM _ (Ab _))).kept aN (bM _ (Ab _));have pP:=cI.eE w3 (w.heap.size+1) w3.heap.size (sF (ay g st)) (aav _);obtain⟨e0,e1,e2,e3,e4,e5,e6,e7⟩:=bz.gZ;obtain⟨g0,g1,g2,g3,g4,g5,g6,g7⟩:=bz.nU;simp only[bB]at e0 e1 e2 e3 e4 e5 e6 e7;have pO:w.heap.size<w3.heap.size:=bz.lt;go_wp2_with fail;exact Hd (i:=2) hR h2 pP (by omega) (Ab _) kk bz results133 rfl rfl (fun _ _ h=>h)
theorem ahy(hR:aS w g fo st)(c1:aG uq (ay g st)=false)(c2:aG my (ay g st)=true):
 Calls prog 133 #[.pointer (some ⟨g.b,0,none⟩)] w fun e w'=>∃q,e=.returned (Nv.val q)/\aS w' g fo (eM g qL st)/\cI w' w.heap.size w'.heap.size q gG (oh fo (ay g st))/\aa g.au w w':=by
 rw[Wr (show aG qL (ay g st)=true by rw[Pg,c2];simp),show oh fo (ay g st)=kj (lY (ay g st)) fo false by unfold oh;rw[if_neg (by rw[c1];simp),if_pos c2]];have bM:∀i,w.heap.size<=i->¬g.au i:=fun i hi hx=>by have:=hR.gR hx;omega
 have xl:∀st:RS,-1<=ay g st/\ay g st<=1114111:=hR.JS
 have ha:=hR.nil ((aa.refl af w).alloc (.cells bB.cells 64));have b0:=aq.new w bB.cells 64;have ka:aa g.au w (w.alloc (.cells bB.cells 64)):=(aa.refl _ w).alloc _;have s0:(w.alloc (.cells bB.cells 64)).heap.size=w.heap.size+1:=fO _ _;go_in;go_wp2_with fail;refine(nS ha).mono ?_;rintro e w1 ⟨rfl,h1,aU⟩;go_wp2_with fail;refine(ja h1 _ uq (by rfl) (by decide) c1).mono ?_;rintro e w2 ⟨rfl,h2,aN⟩;go_wp2_with fail;refine(js h2 _ my (by rfl) (by decide) c2).mono ?_;rintro e w3 ⟨rfl,h3,bA⟩;go_wp2_with fail;have kk:=((ka.trans aU).trans aN).trans bA;have b3:=((b0.kept aU (bM _ (Ab _))).kept aN (bM _ (Ab _))).kept bA (bM _ (Ab _));refine(RA _ w3).mono ?_;rintro e w6 ⟨v,rfl,hv,gE⟩;have bC:=RB (ay g st);obtain⟨gb,rz,BR,Gl,tY,jx,_⟩:=wN hv (by intro e;rw[e]at bC;simp at bC);have MW:=kk.trans (gE.mono (fun _ hx=>hx.elim));have b6:=b3.kept gE (fun hx=>hx);have s6:=MW.size;try rw[BR]
 go_wp2_with fail
 refine(EB (cap:=rz) (h3.nil gE) false jx bC.1 (by omega) (by intro e;rw[e]at bC;simp at bC) tY).mono ?_;rintro e wz ⟨q,rfl,hz,pP,sR⟩;have bz:=b6.kept sR (bM _ (Ab _));have kz:=MW.trans sR;have rJ:w.heap.size<w6.heap.size:=b6.lt;obtain⟨e0,e1,e2,e3,e4,e5,e6,e7⟩:=bz.gZ;obtain⟨g0,g1,g2,g3,g4,g5,g6,g7⟩:=bz.nU;simp only[bB]at e0 e1 e2 e3 e4 e5 e6 e7;have pO:w.heap.size<wz.heap.size:=bz.lt;simp only[Nv.val,Nv.cells];go_wp2_with fail;exact Hd (i:=2) hR hz pP (by omega) (Ab _) kz bz results133 rfl rfl (fun _ _ h=>h)
theorem ahv(hR:aS w g fo st)(c1:aG uq (ay g st)=false)(c2:aG my (ay g st)=false)(c3:aG xr (ay g st)=true):
 Calls prog 133 #[.pointer (some ⟨g.b,0,none⟩)] w fun e w'=>∃q,e=.returned (Nv.val q)/\aS w' g fo (eM g qL st)/\cI w' w.heap.size w'.heap.size q gG (oh fo (ay g st))/\aa g.au w w':=by
 rw[Wr (show aG qL (ay g st)=true by rw[Pg,c3];simp),show oh fo (ay g st)=kj (lY (ay g st+32)) fo true by unfold oh;rw[if_neg (by rw[c1];simp),if_neg (by rw[c2];simp),if_pos c3]];have bM:∀i,w.heap.size<=i->¬g.au i:=fun i hi hx=>by have:=hR.gR hx;omega
 have xl:∀st:RS,-1<=ay g st/\ay g st<=1114111:=hR.JS
 have ha:=hR.nil ((aa.refl af w).alloc (.cells bB.cells 64));have b0:=aq.new w bB.cells 64;have ka:aa g.au w (w.alloc (.cells bB.cells 64)):=(aa.refl _ w).alloc _;have s0:(w.alloc (.cells bB.cells 64)).heap.size=w.heap.size+1:=fO _ _;go_in;go_wp2_with fail;refine(nS ha).mono ?_;rintro e w1 ⟨rfl,h1,aU⟩;go_wp2_with fail;refine(ja h1 _ uq (by rfl) (by decide) c1).mono ?_;rintro e w2 ⟨rfl,h2,aN⟩;go_wp2_with fail;refine(ja h2 _ my (by rfl) (by decide) c2).mono ?_;rintro e w3 ⟨rfl,h3,bA⟩;go_wp2_with fail;refine(js h3 _ xr (by rfl) (by decide) c3).mono ?_;rintro e w4 ⟨rfl,h4,dC⟩;go_wp2_with fail;have kk:=(((ka.trans aU).trans aN).trans bA).trans dC;have b4:=(((b0.kept aU (bM _ (Ab _))).kept aN (bM _ (Ab _))).kept bA (bM _ (Ab _))).kept dC (bM _ (Ab _));refine(aoV _ w4 (al6 c3)).mono ?_;rintro e w5 ⟨rfl,rfl⟩;go_wp2_with fail;refine(RA _ w5).mono ?_;rintro e w6 ⟨v,rfl,hv,gE⟩;have bC:=RB (ay g st+32);obtain⟨gb,rz,BR,Gl,tY,jx,_⟩:=wN hv (by intro e;rw[e]at bC;simp at bC);have MW:=kk.trans (gE.mono (fun _ hx=>hx.elim));have b6:=b4.kept gE (fun hx=>hx);have s6:=MW.size;try rw[BR]
 go_wp2_with fail
 refine(EB (cap:=rz) (h4.nil gE) true jx bC.1 (by omega) (by intro e;rw[e]at bC;simp at bC) tY).mono ?_;rintro e wz ⟨q,rfl,hz,pP,sR⟩;have bz:=b6.kept sR (bM _ (Ab _));have kz:=MW.trans sR;have rJ:w.heap.size<w6.heap.size:=b6.lt;obtain⟨e0,e1,e2,e3,e4,e5,e6,e7⟩:=bz.gZ;obtain⟨g0,g1,g2,g3,g4,g5,g6,g7⟩:=bz.nU;simp only[bB]at e0 e1 e2 e3 e4 e5 e6 e7;have pO:w.heap.size<wz.heap.size:=bz.lt;simp only[Nv.val,Nv.cells];go_wp2_with fail;exact Hd (i:=2) hR hz pP (by omega) (Ab _) kz bz results133 rfl rfl (fun _ _ h=>h)
theorem ahx(hR:aS w g fo st)(c1:aG uq (ay g st)=false)(c2:aG my (ay g st)=false)(c3:aG xr (ay g st)=false):
 Calls prog 133 #[.pointer (some ⟨g.b,0,none⟩)] w fun e w'=>∃q,e=.returned (Nv.val q)/\aS w' g fo (eM g qL st)/\cI w' w.heap.size w'.heap.size q gG (oh fo (ay g st))/\aa g.au w w':=by
 rw[show eM g qL st=eM g G9 st by unfold eM;rw[Pg,c1,c2,c3];simp,show oh fo (ay g st)=kj [(qv (ay g st),qv (ay g st))] fo false by unfold oh;rw[if_neg (by rw[c1];simp),if_neg (by rw[c2];simp),if_neg (by rw[c3];simp)]];have bM:∀i,w.heap.size<=i->¬g.au i:=fun i hi hx=>by have:=hR.gR hx;omega
 have xl:∀st:RS,-1<=ay g st/\ay g st<=1114111:=hR.JS
 have ha:=hR.nil ((aa.refl af w).alloc (.cells bB.cells 64));have b0:=aq.new w bB.cells 64;have ka:aa g.au w (w.alloc (.cells bB.cells 64)):=(aa.refl _ w).alloc _;have s0:(w.alloc (.cells bB.cells 64)).heap.size=w.heap.size+1:=fO _ _;have Vz:=aaH (xl st);generalize her:qv (ay g st)=er at Vz⊢;have HER:Hid (qv (ay g st)=er):=her;clear her;go_in;go_wp2_with fail;refine(nS ha).mono ?_;rintro e w1 ⟨rfl,h1,aU⟩;go_wp2_with fail;refine(ja h1 _ uq (by rfl) (by decide) c1).mono ?_;rintro e w2 ⟨rfl,h2,aN⟩;go_wp2_with fail;refine(ja h2 _ my (by rfl) (by decide) c2).mono ?_;rintro e w3 ⟨rfl,h3,bA⟩;go_wp2_with fail;refine(ja h3 _ xr (by rfl) (by decide) c3).mono ?_;rintro e w4 ⟨rfl,h4,dC⟩;go_wp2_with fail;have kk:=(((ka.trans aU).trans aN).trans bA).trans dC;have b4:=(((b0.kept aU (bM _ (Ab _))).kept aN (bM _ (Ab _))).kept bA (bM _ (Ab _))).kept dC (bM _ (Ab _));refine(aaI h4).mono ?_;rintro e w5 ⟨rfl,h5,cW⟩;have kk5:=kk.trans cW;have b5:=b4.kept cW (bM _ (Ab _));rw[HER.o];go_wp2_with fail;have fy:=Wh w5 er er;have ba:=b5.alloc (.cells #[.int .i32 er,.int .i32 er] 219);have kka:=kk5.alloc (.cells #[.int .i32 er,.int .i32 er] 219);have sa:=fO w5 (.cells #[.int .i32 er,.int .i32 er] 219);have rJ:w.heap.size<w5.heap.size:=b5.lt;refine(EB (l:=[(er,er)]) (cap:=1) (h5.nil ((aa.refl af w5).alloc (.cells #[.int .i32 er,.int .i32 er] 219))) false fy (dz.one Vz Vz) (by simp) (by simp) (by omega)).mono ?_;rintro e wz ⟨q,rfl,hz,pP,sR⟩;have bz:=ba.kept sR (bM _ (Ab _));have kz:=kka.trans sR;obtain⟨e0,e1,e2,e3,e4,e5,e6,e7⟩:=bz.gZ;obtain⟨g0,g1,g2,g3,g4,g5,g6,g7⟩:=bz.nU;simp only[bB]at e0 e1 e2 e3 e4 e5 e6 e7;have pO:w.heap.size<wz.heap.size:=bz.lt;simp only[Nv.val,Nv.cells];go_wp2_with fail;exact Hd (i:=2) hR hz pP (by omega) (Ab _) kz bz results133 rfl rfl (fun _ _ h=>h)
theorem ahw(hR:aS w g fo st):
 Calls prog 133 #[.pointer (some ⟨g.b,0,none⟩)] w fun e w'=>∃q,e=.returned (Nv.val q)/\aS w' g fo (eM g qL st)/\cI w' w.heap.size w'.heap.size q gG (oh fo (ay g st))/\aa g.au w w':=by
 cases c1:aG uq (ay g st)
 ·cases c2:aG my (ay g st)
  ·cases c3:aG xr (ay g st)
   ·exact ahx hR c1 c2 c3
   ·exact ahv hR c1 c2 c3
  ·exact ahy hR c1 c2
 ·exact ahu hR c1
