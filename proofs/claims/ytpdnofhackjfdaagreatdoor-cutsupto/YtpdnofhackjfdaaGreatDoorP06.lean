/- The reader of the program -/
import Derived.Test.YtpdnofhackjfdaaGreatDoorP05
set_option linter.all false
set_option maxRecDepth 100000
set_option maxHeartbeats 8000000
namespace Go.Proofs.YtpdnofhackjfdaaGreatDoor
open Go.Proofs.Tryz
open Go.RowKit Go.Maps
variable {fo ru:Bool} {C:CT} {hi i lo:Nat} {S:Nat->Prop} {q:Nv} {T:PT} {g:RG} {st kX:RS} {l:bD} {v:Value} {w w0 wz:World}
theorem aR.anz(h:aR w g fo st)(m:Nat)(hm:m<=st.next)(hg:st.aQ<=m):aR (w.setCell ⟨g.b,5,none⟩ (.int .i64 m)) g fo {st with aQ:=m} where
 ak:=h.ak.setCell 5 _
 isSome:=h.isSome
 gI i hi:=by
  rw[Bz (w:=w) (Cr w _ _ g.br (fun e=>h.apart.1 e.symm))];exact h.gI i hi
 places i hi:=by
  rw[Bz (w:=w) (Cr w _ _ g.bp (fun e=>h.apart.2.1 e.symm))];exact h.places i hi
 nX:=by have:=h.nX;simpa[World.setCell]using this
 nW:=by have:=h.nW;simpa[World.setCell]using this
 mP:=h.mP
 qQ:=h.qQ
 fm:=by obtain⟨D,hD,hF⟩:=h.fm;exact⟨D,hD.setCell (a:=⟨g.b,5,none⟩) (fun e=>h.apart.2.2.1 e.symm) _,hF⟩
 nm:=by obtain⟨D,hD,hF⟩:=h.nm;exact⟨D,hD.setCell (a:=⟨g.b,5,none⟩) (fun e=>h.apart.2.2.2.1 e.symm) _,hF⟩
 len:=h.len
 np:=h.np
 next:=h.next
 aQ:=hm
 names:=by have:=h.names;simp;omega
 apart:=h.apart
theorem aR.afb(h:aR w g fo st)(hi:g.use i):i<w.heap.size:=by
 obtain⟨D,hD,_⟩:=h.fm;obtain⟨D',hD',_⟩:=h.nm;rcases hi with rfl|rfl|rfl|rfl|rfl
 ·exact h.OP
 ·exact hD.lt
 ·exact hD'.lt
 ·exact h.nX
 ·exact h.nW
theorem aR.gT(h:aR w g fo st)(hi:g.au i):i<w.heap.size:=h.afb (by rcases hi with h|h|h<;>simp[RG.use,h])
theorem aR.new{w':World}{fo0:Bool}{dz:RS}(h:aR w g fo st)(h0:aR w0 g fo0 dz)(k:aa S w w')(hs:∀i,S i->w0.heap.size<=i):aR w' g fo st:=
 h.kept k (fun i hi hx=>by have:=h0.afb hi;have:=hs i hx;omega)
theorem fF(w:World)(o:Obj):(w.alloc o).heap.size=w.heap.size+1:=by simp
theorem M9(h:aR w g fo st)(h2:aR wz g ru kX)(hp:cy wz lo hi q T C)(mL:w.heap.size<lo)(lK:hi<=wz.heap.size)(k1:aa g.au w wz):
 aR (gg wz w.heap.size q) g ru kX/\cy (gg wz w.heap.size q) w.heap.size (gg wz w.heap.size q).heap.size q T C/\aa g.au w (gg wz w.heap.size q):=by
 have sz:=Nh wz w.heap.size q;have kq:=Jy wz w.heap.size q;refine⟨h2.new h kq (fun i hi=>by omega),?_,k1.bV kq (fun i hi he=>by omega)⟩;exact(hp.kept kq (fun i h1 _ he=>by omega) lK).Hk (by omega) (by omega)
theorem GL(h:aR w g fo st)(h2:aR wz g ru kX)(hp:cy wz lo hi q T C)(mL:w.heap.size<lo)(lK:hi<=wz.heap.size)(k1:aa g.au w wz){p:Nv}(b:aq wz w.heap.size p.cells 64)
 {f:Func}{Q:Ending->World->Prop}{a:Act}(mj:f.results=#[ResultVar.cell i 64])(sY:a.tmps.getD i undef=.pointer (some ⟨w.heap.size,0,none⟩))(hd:a.defers=[])
 (hQ:∀e w',(∃q,e=.returned (Nv.val q)/\aR w' g ru kX/\cy w' w.heap.size w'.heap.size q T C/\aa g.au w w')->Q e w'):bodyPost prog f Q Exit.ret a (gg wz w.heap.size q):=
 vS (i:=i) (b:=w.heap.size) (q:=q) mj sY hd (vV b q) (hQ _ _ ⟨_,rfl,M9 h h2 hp mL lK k1⟩)
theorem alM{base:Nat}(h:w.ownsRow base 219 2 v l.length (db l)):∃ao b cap,v=.slice ao l.length cap/\(l≠ []->ao=some ⟨b,0,none⟩)/\fV w b l/\(l≠ []->b<w.heap.size):=by
 by_cases az:l=[]
 ·subst az;obtain⟨ao,cap,rfl⟩:=QS h;exact⟨ao,0,cap,rfl,fun h=>absurd rfl h,fV.nil _ _,fun h=>absurd rfl h⟩
 ·obtain⟨g,cap,rfl,_,h2,h3,_⟩:=wM h az;exact⟨_,g,cap,rfl,fun _=>rfl,h3,fun _=>h2⟩
theorem Z2(h:l≠ []):pF l≠ []:=by
 have:∀(l aC:bD),aC.length<=(l.foldl il aC).length:=by
  intro l;induction l with
  |nil=>intro aC;exact Ab _
  |cons s l ih=>
   intro aC;have h1:=ih (il aC s);have h2:=(Xd aC s).1;have h3:=(abh (lW aC s) s).1;have h4:aC.length<=(il aC s).length:=by unfold il;omega
   rw[Dw];omega
 have h1:=this l l;intro e;have h2:(l.foldl il l).length=0:=by rw[show l.foldl il l=[]from e];rfl
 have:l.length=0:=by omega
 exact h (Aw.1 this)
theorem cy.acE{S sp:bD}(_:aR w0 g fo st)(nt:Bool)(h:w.ownsRow lo 219 2 v S.length (db S))(hS:uX S sp fo nt)(hr:dy sp)(hl:sp.length<=1900):
 ∃sa sc,v=.slice sa S.length sc/\cy w lo w.heap.size (uB sa S.length sc) mR (l9 sp fo nt):=cy.aks h hS hr hl
theorem DJ(h:aR w g fo st){b cap:Nat}(nt:Bool)(hc:fV w b l)(hr:dy l)(hl:l.length<=1900)(az:l≠ [])(hb:b<w.heap.size):
 Calls prog 134 #[.pointer (some ⟨g.b,0,none⟩),.slice (some ⟨b,0,none⟩) l.length cap,.bool nt] w fun e w'=>∃q,e=.returned (Nv.val q)/\aR w' g fo st/\cy w' w.heap.size w'.heap.size q mR (l9 l fo nt)/\aa g.au w w':=by
 have ha:=h.nil ((aa.refl af w).alloc (.cells bB.cells 64));have c4:(w.alloc (.cells bB.cells 64)).cell? ⟨g.b,4,none⟩=some (.bool fo):=ha.ak.cell 4;have b0:=aq.new w bB.cells 64;have ka:aa af w (w.alloc (.cells bB.cells 64)):=(aa.refl af w).alloc _;have nC:=hc.kept ka hb (fun hx=>hx);have s0:(w.alloc (.cells bB.cells 64)).heap.size=w.heap.size+1:=fF _ _;simp only[Nv.cells,bB]at c4;go_in
 cases fo
 case' false=>
  go_wp2_with fail
  have PA:=And.intro hr hl;have aT:aa af w (w.alloc (.cells bB.cells 64)):=ka;have bz:=b0;refine(We (w:=w.alloc (.cells bB.cells 64)) (cap:=cap) nC hr (by omega) az (by omega)).mono ?_;rintro e w2 ⟨l',v2,hp,hs,rfl,nI,aO⟩;have FN:l'.length<=5700:=by have:=hp.length_eq;omega
  have cR:w.heap.size+1<=(w.alloc (.cells bB.cells 64)).heap.size:=by omega
 case' true=>
  go_wp2_with fail
  refine(aga (w:=w.alloc (.cells bB.cells 64)) (cap:=cap) nC hr (by omega) az (by omega)).mono ?_;rintro e w1 ⟨v1,rfl,ml,tX⟩;have PA:=Tn l l hr hr;obtain⟨b1,agD,ajy,Ux,aiw,nD,_⟩:=wM ml (Z2 az);have aT:=ka.trans tX;have bz:=b0.kept tX (fun hx=>hx);rw[ajy];go_wp2_with fail;refine(We (cap:=agD) nD PA.1 (by show(pF l).length<=_;unfold pF;omega) (Z2 az) aiw).mono ?_;rintro e w2 ⟨l',v2,hp,hs,rfl,nI,aO⟩;have FN:l'.length<=5700:=by have:=hp.length_eq;have:=PA.2;simp only[pF]at*;omega
  have cR:w.heap.size+1<=w1.heap.size:=by have:=aT.size;have:=tX.size;omega
 all_goals
  have ko:dy l':=fun s h=>(PA.1) s (hp.mem_iff.1 h)
  have yB:=QI l' ko;have kz:=aT.trans aO;have bz:=bz.kept aO (fun hx=>hx)
  cases nt
  case' true=>
   obtain⟨Im,b2',agE,ajz,x1,x2,x3⟩:=alM nI;rw[ajz];go_wp2_with fail;refine(alI (cap:=agE) x1 x2 yB.1 (by omega) x3).mono ?_;rintro e w3 ⟨v3,rfl,kT,bA⟩;have kz:=kz.trans bA;have bz:=bz.kept bA (fun hx=>hx);have gi:w.heap.size+1<=w2.heap.size:=by have:=aO.size;omega
   obtain⟨sa,sc,ab5,xd⟩:=cy.acE (sp:=l) h true (BU kT gi) ⟨l',by simpa using hp,hs,rfl⟩ hr hl
  case' false=>
   obtain⟨sa,sc,ab5,xd⟩:=cy.acE (sp:=l) h false (BU nI cR) ⟨l',by simpa using hp,hs,rfl⟩ hr hl
  all_goals
   rw[ab5];obtain⟨e0,e1,e2,e3,e4,e5,e6,e7⟩:=bz.gZ;obtain⟨g0,g1,g2,g3,g4,g5,g6,g7⟩:=bz.nN;simp only[bB]at e0 e1 e2 e3 e4 e5 e6 e7;have pL:=bz.lt;go_wp2_with fail;exact GL (i:=6) h (h.nil kz) xd (by omega) (Ab _) (kz.mono (fun _ hx=>hx.elim)) bz results134 rfl rfl (fun _ _ h=>h)
theorem Jp(k:aa S w wz)(x y:Int):(wz.alloc (.cells #[.int .i32 x,.int .i32 y] 219)).ownsRow w.heap.size 219 2 (.slice (some ⟨wz.heap.size,0,none⟩) 1 1) 1 (db [(x,y)]):=
 BU (Nb wz [(x,y)] (by simp)) k.size
theorem aj1(h:aR w g fo st)(hb:aG gj (ay g st)=true)(hs:aG mq (ay g {st with next:=st.next+1})=true):
 Calls prog 166 #[.pointer (some ⟨g.b,0,none⟩)] w fun e w'=>∃v,e=.returned v/\aR w' g fo (fT g st)/\w'.ownsRow w.heap.size 219 2 v (iB g st).length (db (iB g st))/\aa g.au w w':=by
 have e1:fT g st={st with next:=st.next+2}:=by unfold fT;rw[if_pos ⟨hb,hs⟩]
 have e2:iB g st=lV (ay g {st with next:=st.next+1}):=by unfold iB;rw[if_pos ⟨hb,hs⟩]
 rw[e1,e2];clear e1 e2;go_in;go_wp2_with fail;refine(Q_ h).mono ?_;rintro e w1 ⟨rfl,h1,aT⟩;go_wp2_with fail;refine(jr h1 _ gj (by rfl) (by decide) hb).mono ?_;rintro e w2 ⟨rfl,h2,aO⟩;go_wp2_with fail;refine(nM h2).mono ?_;rintro e w3 ⟨rfl,h3,bA⟩;go_wp2_with fail;refine(jr h3 _ mq (by rfl) (by decide) hs).mono ?_;rintro e w4 ⟨rfl,h4,dA⟩;go_wp2_with fail;refine(Rn _ w4).mono ?_;rintro e w5 ⟨v,rfl,hv,cV⟩;go_wp2_with fail;go_ret;have kk:=((aT.trans aO).trans bA).trans dA;exact⟨v,rfl,h4.nil cV,BU hv kk.size,kk.trans (cV.mono (fun _ hx=>hx.elim))⟩
theorem aj0(h:aR w g fo st)(hb:aG gj (ay g st)=false):
 Calls prog 166 #[.pointer (some ⟨g.b,0,none⟩)] w fun e w'=>∃v,e=.returned v/\aR w' g fo (fT g st)/\w'.ownsRow w.heap.size 219 2 v (iB g st).length (db (iB g st))/\aa g.au w w':=by
 have hp:0<=qP g st/\qP g st<=300:=h.mP st.next
 have uO:Hid (¬(aG gj (ay g st)=true/\aG mq (ay g {st with next:=st.next+1})=true)):=by show¬_;rw[hb];simp
 have ex:dd g st=lQ g false (fg g gj st):=by simp[dd,hb]
 have et:fg g gj st=st:=by simp[fg,hb]
 rw[et]at ex;clear et;have EX:Hid (dd g st=lQ g false st):=ex;clear ex;go_in;go_wp2_with fail;refine(Q_ h).mono ?_;rintro e w1 ⟨rfl,h1,aT⟩;go_wp2_with fail;refine(iX h1 _ gj (by rfl) (by decide) hb).mono ?_;rintro e w2 ⟨rfl,h2,aO⟩;go_wp2_with fail;refine(nM h2).mono ?_;rintro e w3 ⟨rfl,h3,bA⟩;go_wp2_with fail;refine(Wj false h3).mono ?_;rintro e w4 ⟨rfl,h4,dA⟩;rw[<-EX.out]at h4⊢;go_wp2_with fail
 cases hd:aG xo (ay g (dd g st).1)
 ·have EC:Hid (iB g st=[((dd g st).2,(dd g st).2)]):=by show _=_;unfold iB;rw[if_neg uO.out,if_neg (by rw[hd];simp)]
  refine(iX h4 _ xo (by rfl) (by decide) hd).mono ?_;rintro e w5 ⟨rfl,h5,cV⟩;go_wp2_with fail;go_ret;have kk:=(((aT.trans aO).trans bA).trans dA).trans cV;refine⟨_,rfl,?_,by rw[EC.out];exact Jp kk _ _,kk.alloc _⟩;rw[show fT g st=(dd g st).1 by unfold fT;rw[if_neg uO.out];unfold qN;rw[if_neg (by simp[hd])]];exact h5.nil ((aa.refl _ _).alloc _)
 ·have EC:Hid (iB g st=[((dd g st).2,(dd g {(dd g st).1 with next:=(dd g st).1.next+1}).2)]):=by show _=_;unfold iB;rw[if_neg uO.out,if_pos hd]
  refine(jr h4 _ xo (by rfl) (by decide) hd).mono ?_;rintro e w5 ⟨rfl,h5,cV⟩;go_wp2_with fail;refine(RB h5 _ gj (by rfl) (by decide)).mono ?_;rintro e w6 ⟨rfl,h6,gF⟩;go_wp2_with fail;refine(adf h6).mono ?_;rintro e w7 ⟨rfl,h7,iE⟩;by_cases aw:(dd g {(dd g st).1 with next:=(dd g st).1.next+1}).2<(dd g st).2
  ·go_wp2_with fail
   refine(GM h7 5 _ (by omega) hp).mono ?_;rintro e w8 ⟨rfl,h8,FJ⟩;go_wp2_with fail;go_ret;have kk:=((((((aT.trans aO).trans bA).trans dA).trans cV).trans gF).trans iE).trans FJ;refine⟨_,rfl,?_,by rw[EC.out];exact Jp kk _ _,kk.alloc _⟩;rw[show fT g st=(dd g {(dd g st).1 with next:=(dd g st).1.next+1}).1.eu 5 (qP g st) by unfold fT;rw[if_neg uO.out];unfold qN;rw[if_pos hd,if_pos aw]];exact h8.nil ((aa.refl _ _).alloc _)
  ·go_wp2_with fail
   go_ret
   have kk:=(((((aT.trans aO).trans bA).trans dA).trans cV).trans gF).trans iE;refine⟨_,rfl,?_,by rw[EC.out];exact Jp kk _ _,kk.alloc _⟩;rw[show fT g st=(dd g {(dd g st).1 with next:=(dd g st).1.next+1}).1 by unfold fT;rw[if_neg uO.out];unfold qN;rw[if_pos hd,if_neg (Int.not_lt.2 aw)]];exact h7.nil ((aa.refl _ _).alloc _)
theorem ajZ(h:aR w g fo st)(hb:aG gj (ay g st)=true)(hs:aG mq (ay g {st with next:=st.next+1})=false):
 Calls prog 166 #[.pointer (some ⟨g.b,0,none⟩)] w fun e w'=>∃v,e=.returned v/\aR w' g fo (fT g st)/\w'.ownsRow w.heap.size 219 2 v (iB g st).length (db (iB g st))/\aa g.au w w':=by
 have hp:0<=qP g st/\qP g st<=300:=h.mP st.next
 have uO:Hid (¬(aG gj (ay g st)=true/\aG mq (ay g {st with next:=st.next+1})=true)):=by show¬_;rw[hs];simp
 have ex:dd g st=lQ g true (fg g gj st):=by simp[dd,hb]
 have et:fg g gj st={st with next:=st.next+1}:=by simp[fg,hb]
 rw[et]at ex;clear et;have EX:Hid (dd g st=lQ g true {st with next:=st.next+1}):=ex;clear ex;go_in;go_wp2_with fail;refine(Q_ h).mono ?_;rintro e w1 ⟨rfl,h1,aT⟩;go_wp2_with fail;refine(jr h1 _ gj (by rfl) (by decide) hb).mono ?_;rintro e w2 ⟨rfl,h2,aO⟩;go_wp2_with fail;refine(nM h2).mono ?_;rintro e w3 ⟨rfl,h3,bA⟩;go_wp2_with fail;refine(iX h3 _ mq (by rfl) (by decide) hs).mono ?_;rintro e w3' ⟨rfl,yn,FH⟩;go_wp2_with fail;refine(Wj true yn).mono ?_;rintro e w4 ⟨rfl,h4,dA⟩;rw[<-EX.out]at h4⊢;go_wp2_with fail
 cases hd:aG xo (ay g (dd g st).1)
 ·have EC:Hid (iB g st=[((dd g st).2,(dd g st).2)]):=by show _=_;unfold iB;rw[if_neg uO.out,if_neg (by rw[hd];simp)]
  refine(iX h4 _ xo (by rfl) (by decide) hd).mono ?_;rintro e w5 ⟨rfl,h5,cV⟩;go_wp2_with fail;go_ret;have kk:=((((aT.trans aO).trans bA).trans FH).trans dA).trans cV;refine⟨_,rfl,?_,by rw[EC.out];exact Jp kk _ _,kk.alloc _⟩;rw[show fT g st=(dd g st).1 by unfold fT;rw[if_neg uO.out];unfold qN;rw[if_neg (by simp[hd])]];exact h5.nil ((aa.refl _ _).alloc _)
 ·have EC:Hid (iB g st=[((dd g st).2,(dd g {(dd g st).1 with next:=(dd g st).1.next+1}).2)]):=by show _=_;unfold iB;rw[if_neg uO.out,if_pos hd]
  refine(jr h4 _ xo (by rfl) (by decide) hd).mono ?_;rintro e w5 ⟨rfl,h5,cV⟩;go_wp2_with fail;refine(RB h5 _ gj (by rfl) (by decide)).mono ?_;rintro e w6 ⟨rfl,h6,gF⟩;go_wp2_with fail;refine(adf h6).mono ?_;rintro e w7 ⟨rfl,h7,iE⟩;by_cases aw:(dd g {(dd g st).1 with next:=(dd g st).1.next+1}).2<(dd g st).2
  ·go_wp2_with fail
   refine(GM h7 5 _ (by omega) hp).mono ?_;rintro e w8 ⟨rfl,h8,FJ⟩;go_wp2_with fail;go_ret;have kk:=(((((((aT.trans aO).trans bA).trans FH).trans dA).trans cV).trans gF).trans iE).trans FJ;refine⟨_,rfl,?_,by rw[EC.out];exact Jp kk _ _,kk.alloc _⟩;rw[show fT g st=(dd g {(dd g st).1 with next:=(dd g st).1.next+1}).1.eu 5 (qP g st) by unfold fT;rw[if_neg uO.out];unfold qN;rw[if_pos hd,if_pos aw]];exact h8.nil ((aa.refl _ _).alloc _)
  ·go_wp2_with fail
   go_ret
   have kk:=((((((aT.trans aO).trans bA).trans FH).trans dA).trans cV).trans gF).trans iE;refine⟨_,rfl,?_,by rw[EC.out];exact Jp kk _ _,kk.alloc _⟩;rw[show fT g st=(dd g {(dd g st).1 with next:=(dd g st).1.next+1}).1 by unfold fT;rw[if_neg uO.out];unfold qN;rw[if_pos hd,if_neg (Int.not_lt.2 aw)]];exact h7.nil ((aa.refl _ _).alloc _)
theorem acm(h:aR w g fo st):
 Calls prog 166 #[.pointer (some ⟨g.b,0,none⟩)] w fun e w'=>∃v,e=.returned v/\aR w' g fo (fT g st)/\w'.ownsRow w.heap.size 219 2 v (iB g st).length (db (iB g st))/\aa g.au w w':=by
 cases hb:aG gj (ay g st)
 ·exact aj0 h hb
 ·cases hs:aG mq (ay g {st with next:=st.next+1})
  ·exact ajZ h hb hs
  ·exact aj1 h hb hs
theorem agQ(h:aR w g fo st):
 Calls prog 132 #[.pointer (some ⟨g.b,0,none⟩)] w fun e w'=>∃q,e=.returned (Nv.val q)/\aR w' g fo (rZ g st)/\cy w' w.heap.size w'.heap.size q mR (KY g fo st)/\aa g.au w w':=by
 obtain⟨i0,cP,di,dj,cY⟩:=Bo Tryz.Jf;have xh:∀st:RS,-1<=ay g st/\ay g st<=1114111:=h.JB
 have cT:=h.len;have bJ:∀i,w.heap.size<=i->¬g.au i:=fun i hi hx=>by have:=h.gT hx;omega
 have ha:=h.nil ((aa.refl af w).alloc (.cells bB.cells 64));have b0:=aq.new w bB.cells 64;have ka:aa g.au w (w.alloc (.cells bB.cells 64)):=(aa.refl _ w).alloc _;have s0:(w.alloc (.cells bB.cells 64)).heap.size=w.heap.size+1:=fF _ _;unfold rZ KY;go_in;go_wp2_with fail;refine(RB ha _ td (by rfl) (by decide)).mono ?_;rintro e w1 ⟨rfl,h1,aT⟩;go_wp2_with fail;refine(acm h1).mono ?_;rintro e w2 ⟨v2,rfl,h2,nI,aO⟩;go_wp2_with fail;have abJ:=(ka.trans aT).trans aO;have b2:=(b0.kept aT (bJ _ (Ab _))).kept aO (bJ _ (Ab _));have s1:=aT.size;have Vv:=BU (base':=w.heap.size+1) nI (by omega);have UH:=aac xh (fg g td st);clear aT aO h1 ha nI b0 ka;generalize bt:fT g (fg g td st)=dz at h2;have lF:Hid (fT g (fg g td st)=dz):=bt;clear bt;generalize vv:iB g (fg g td st)=OE at Vv UH;have X3:Hid (iB g (fg g td st)=OE):=vv;clear vv;go_loopg [4] (g.rs.length-dz.next) (fun k v wr=>∃aA m aC,aR wr g fo aA/\Hid (mw g m aA=mw g (g.rs.length+1) dz)/\Hid (rj g m aA aC=rj g (g.rs.length+1) dz OE)/\k=g.rs.length-aA.next/\k<m/\aa g.au w wr/\wr.ownsRow (w.heap.size+1) 219 2 v aC.length (db aC)/\dy aC/\1<=aC.length/\aC.length<=4*aA.next+4/\aq wr w.heap.size bB.cells 64)
 case atStart=>exact⟨dz,g.rs.length+1,OE,h2,rfl,rfl,rfl,by omega,abJ,Vv,UH.1,UH.2.1,by omega,b2⟩
 case round=>
  obtain⟨aA,m,aC,hr,HP,HC,rfl,hm,hk,bk,jv,o7,sR,AH⟩:=hrel;have hle:=hr.next
  have IX:=hk.size;clear h2 abJ Vv b2;by_cases pI:ay g aA= -1\/aG pR (ay g aA)=true
  ·have YU:Hid (aA=mw g (g.rs.length+1) dz):=by show _=_;rw[<-HP.out,al0 g m aA pI]
   have Yq:Hid (aC=rj g (g.rs.length+1) dz OE):=by show _=_;rw[<-HC.out,agt g m aA aC pI]
   have az:aC≠ []:=by intro e;subst e;simp at o7
   have kh:∀{wx:World},aR wx g fo aA->aa g.au wr wx->True:=(fun _ _=>trivial);clear HP HC
   obtain⟨gb,ry,AX,yx,qw,ju,_⟩:=wM bk az;by_cases f_:ay g aA= -1
   ·have hb:(ay g aA != -1)=false:=(by simp[f_]);clear f_ pI;go_wp2_with fail;refine(nM hr).mono ?_;rintro e w3 ⟨rfl,h3,bA⟩;go_wp2_with fail;refine(tf h3 _ pR (by rfl) (by decide)).mono ?_;rintro e w4 ⟨rfl,h4,dA⟩;have kk:=bA.trans dA;have Qf:¬g.au gb:=bJ _ (by omega);have UF:=ju.kept kk qw Qf;have b4:=AH.kept kk (bJ _ (Ab _));have vL:=hk.trans kk;have s4:=kk.size;try rw[AX]
    go_wp2_with fail
    refine(DJ (cap:=ry) h4 (aG td (ay g st)) UF jv (by omega) az (by omega)).mono ?_;rintro e w5 ⟨q,rfl,h5,Gf,cV⟩;have b5:=b4.kept cV (bJ _ (Ab _));obtain⟨e0,e1,e2,e3,e4,e5,e6,e7⟩:=b5.gZ;obtain⟨g0,g1,g2,g3,g4,g5,g6,g7⟩:=b5.nN;simp only[bB]at e0 e1 e2 e3 e4 e5 e6 e7;have pL:w.heap.size<w5.heap.size:=b5.lt;have rI:w.heap.size<w4.heap.size:=b4.lt;simp only[Nv.val,Nv.cells];go_wp2_with fail;have fZ:=M9 h h5 Gf (by omega) (Ab _) (vL.trans cV);have lk:=vV b5 q;simp only[gg]at fZ lk;refine vS (i:=2) (b:=w.heap.size) (q:=q) results132 ?_ ?_ ?_ ?_
    ·rfl
    ·rfl
    ·exact lk
    ·rw[lF.out,X3.out,<-YU.out,<-Yq.out];exact⟨_,rfl,fZ⟩
   ·have hb:(ay g aA != -1)=true:=(by simp[f_]);have ow:aG pR (ay g aA)=true:=pI.resolve_left f_;clear f_ pI;go_wp2_with fail;refine(nM hr).mono ?_;rintro e w3' ⟨rfl,yn,FH⟩;go_wp2_with fail;refine(xA yn _ pR (by rfl) (by decide)).mono ?_;rintro e w3 ⟨rfl,h3,aiZ⟩;have bA:=FH.trans aiZ;rw[ow];go_wp2_with fail;refine(tf h3 _ pR (by rfl) (by decide)).mono ?_;rintro e w4 ⟨rfl,h4,dA⟩;have kk:=bA.trans dA;have Qf:¬g.au gb:=bJ _ (by omega);have UF:=ju.kept kk qw Qf;have b4:=AH.kept kk (bJ _ (Ab _));have vL:=hk.trans kk;have s4:=kk.size;try rw[AX]
    go_wp2_with fail
    refine(DJ (cap:=ry) h4 (aG td (ay g st)) UF jv (by omega) az (by omega)).mono ?_;rintro e w5 ⟨q,rfl,h5,Gf,cV⟩;have b5:=b4.kept cV (bJ _ (Ab _));obtain⟨e0,e1,e2,e3,e4,e5,e6,e7⟩:=b5.gZ;obtain⟨g0,g1,g2,g3,g4,g5,g6,g7⟩:=b5.nN;simp only[bB]at e0 e1 e2 e3 e4 e5 e6 e7;have pL:w.heap.size<w5.heap.size:=b5.lt;have rI:w.heap.size<w4.heap.size:=b4.lt;simp only[Nv.val,Nv.cells];go_wp2_with fail;have fZ:=M9 h h5 Gf (by omega) (Ab _) (vL.trans cV);have lk:=vV b5 q;simp only[gg]at fZ lk;refine vS (i:=2) (b:=w.heap.size) (q:=q) results132 ?_ ?_ ?_ ?_
    ·rfl
    ·rfl
    ·exact lk
    ·rw[lF.out,X3.out,<-YU.out,<-Yq.out];exact⟨_,rfl,fZ⟩
  ·rw[not_or]at pI;have hb:(ay g aA != -1)=true:=(by simp[pI.1]);have aw:=V3 pI.1;have ow:aG pR (ay g aA)=false:=(by simpa using pI.2);clear pI;have IP:=aac xh aA;go_wp2_with fail;refine(nM hr).mono ?_;rintro e w3 ⟨rfl,h3,bA⟩;go_wp2_with fail;refine(xA h3 _ pR (by rfl) (by decide)).mono ?_;rintro e w4 ⟨rfl,h4,dA⟩;rw[ow];go_wp2_with fail;refine(acm h4).mono ?_;rintro e w5 ⟨v5,rfl,h5,gR,cV⟩;have kk:=(bA.trans dA).trans cV;have sU:=Wq bk kk (fun b kN hx=>by have:=(uA bk kN).1;exact bJ b (by omega) hx);have UE:=AH.kept kk (bJ _ (Ab _));have hn:=Ww g aA (by omega);have lN:=hn.2.2 aw;have ai_:iB g aA≠ []:=by intro e;rw[e]at IP;simp at IP
   have CU:Hid (mw g m aA=mw g (m-1) (fT g aA)/\rj g m aA aC=rj g (m-1) (fT g aA) (aC++iB g aA)):=by
    obtain⟨m',rfl⟩:∃m',m=m'+1:=⟨m-1,by omega⟩
    have LL:¬(ay g aA= -1\/aG pR (ay g aA)=true):=by simp[ow];simpa using hb
    exact⟨by show(if _ then _ else _)=_;rw[if_neg LL];rfl,by show(if _ then _ else _)=_;rw[if_neg LL];rfl⟩
   have s5:=kk.size;generalize iB g aA=new at*;obtain⟨gb,ry,AX,yx,qw,ju,_⟩:=wM gR ai_;try rw[AX]
   go_wp2_with (at_builtin;refine Ao _ rfl _ _ 60 rfl (w.heap.size+1) 219 i0 _ 2 8 underlying60 cP di dj cY rfl (by decide) _ aC.length _ rfl sU ⟨gb,0,none⟩ new.length ry (db new) rfl (zR new) (aaj ju) (aaW new) ?c3 ?c4 ?c5 ?_)
   case c3=>unfold maxLen;omega
   case c4=>omega
   case c5=>have:=UE.lt;omega
   intro v' w7 bG bY dX cx;have k7:aa (fun i=>u4.ownBlock=some i) w5 w7:=(aa.refl _ w5).eN bY (fun j hj=>Or.inl hj);have im:∀i,u4.ownBlock=some i->w.heap.size+1<=i:=(fun i hi=>(uA bk hi).1);have h7:=h5.new h k7 (fun i hi=>by have:=im i hi;omega)
   have MK:=(hk.trans kk).bV k7 (fun i hi he=>by have:=im i he;omega);have aiz:=UE.kept k7 (fun he=>by have:=im _ he;omega);have kj:w7.ownsRow (w.heap.size+1) 219 2 v' (aC++new).length (db (aC++new)):=by rw[Lo,Aj];exact bG
   clear bG bY cx dX sU bk cV dA bA kk k7 AH UE ju gR;go_wp2_with fail;go_roundg (g.rs.length-(fT g aA).next)
   case measure=>omega
   case rel=>
    exact⟨fT g aA,m-1,aC++new,h7,(CU.out.1.symm.trans HP.out),(CU.out.2.symm.trans HC.out),rfl,by omega,MK,kj,jv.append IP.1,by simp;omega,by simp;omega,aiz⟩
theorem V0(w:World)(x y:Int):fV (w.alloc (.cells #[.int .i32 x,.int .i32 y] 219)) w.heap.size [(x,y)]:=by
 intro i hi;have e:i=0:=by simp at hi;omega
 subst e;exact⟨(aq.new w #[.int .i32 x,.int .i32 y] 219).cell 0,(aq.new w #[.int .i32 x,.int .i32 y] 219).cell 1⟩
theorem aaA(r:Int):0<=sG r/\sG r<=3:=by
 unfold sG;split
 ·omega
 ·split
  ·omega
  ·split<;>omega
theorem O5(r:Int):aG qK r=(aG GH r||(aG mq r||(aG xp r||aG um r))):=by
 have e:qK=GH++[100,68,119,87,115,83,98,66]:=rfl;have h:aG qK r=(aG GH r||aG [100,68,119,87,115,83,98,66] r):=by rw[e];unfold aG;rw[List.any_append]
 rw[h];congr 1;rw[Bg];simp[aG,mq,xp,um];omega
theorem alH{r:Int}(h:aG xp r=true):65<=r/\r<=90:=by
 simp[aG,xp]at h
 omega
theorem Wb{l:List UInt8}(h:aG l (ay g st)=true):eI g l st={st with next:=st.next+1}:=by unfold eI;rw[if_pos h]
theorem aht(hR:aR w g fo st)(c1:aG um (ay g st)=true):
 Calls prog 133 #[.pointer (some ⟨g.b,0,none⟩)] w fun e w'=>∃q,e=.returned (Nv.val q)/\aR w' g fo (eI g qK st)/\cy w' w.heap.size w'.heap.size q mR (nY fo (ay g st))/\aa g.au w w':=by
 rw[Wb (show aG qK (ay g st)=true by rw[O5,c1];simp),show nY fo (ay g st)=u9 (sG (ay g st)) by unfold nY;rw[if_pos c1]];have bJ:∀i,w.heap.size<=i->¬g.au i:=fun i hi hx=>by have:=hR.gT hx;omega
 have xh:∀st:RS,-1<=ay g st/\ay g st<=1114111:=hR.JB
 have ha:=hR.nil ((aa.refl af w).alloc (.cells bB.cells 64));have b0:=aq.new w bB.cells 64;have ka:aa g.au w (w.alloc (.cells bB.cells 64)):=(aa.refl _ w).alloc _;have s0:(w.alloc (.cells bB.cells 64)).heap.size=w.heap.size+1:=fF _ _;go_in;go_wp2_with fail;refine(nM ha).mono ?_;rintro e w1 ⟨rfl,h1,aT⟩;go_wp2_with fail;refine(jr h1 _ um (by rfl) (by decide) c1).mono ?_;rintro e w2 ⟨rfl,h2,aO⟩;go_wp2_with fail;refine(aaB _ _).mono ?_;rintro e w3 ⟨rfl,rfl⟩;have kk:=(ka.trans aT).trans aO;have bz:=(b0.kept aT (bJ _ (Ab _))).kept aO (bJ _ (Ab _));have qC:=cy.eo w3 (w.heap.size+1) w3.heap.size (sG (ay g st)) (aaA _);obtain⟨e0,e1,e2,e3,e4,e5,e6,e7⟩:=bz.gZ;obtain⟨g0,g1,g2,g3,g4,g5,g6,g7⟩:=bz.nN;simp only[bB]at e0 e1 e2 e3 e4 e5 e6 e7;have pL:w.heap.size<w3.heap.size:=bz.lt;go_wp2_with fail;exact GL (i:=2) hR h2 qC (by omega) (Ab _) kk bz results133 rfl rfl (fun _ _ h=>h)
theorem ahx(hR:aR w g fo st)(c1:aG um (ay g st)=false)(c2:aG mq (ay g st)=true):
 Calls prog 133 #[.pointer (some ⟨g.b,0,none⟩)] w fun e w'=>∃q,e=.returned (Nv.val q)/\aR w' g fo (eI g qK st)/\cy w' w.heap.size w'.heap.size q mR (nY fo (ay g st))/\aa g.au w w':=by
 rw[Wb (show aG qK (ay g st)=true by rw[O5,c2];simp),show nY fo (ay g st)=l9 (lV (ay g st)) fo false by unfold nY;rw[if_neg (by rw[c1];simp),if_pos c2]];have bJ:∀i,w.heap.size<=i->¬g.au i:=fun i hi hx=>by have:=hR.gT hx;omega
 have xh:∀st:RS,-1<=ay g st/\ay g st<=1114111:=hR.JB
 have ha:=hR.nil ((aa.refl af w).alloc (.cells bB.cells 64));have b0:=aq.new w bB.cells 64;have ka:aa g.au w (w.alloc (.cells bB.cells 64)):=(aa.refl _ w).alloc _;have s0:(w.alloc (.cells bB.cells 64)).heap.size=w.heap.size+1:=fF _ _;go_in;go_wp2_with fail;refine(nM ha).mono ?_;rintro e w1 ⟨rfl,h1,aT⟩;go_wp2_with fail;refine(iX h1 _ um (by rfl) (by decide) c1).mono ?_;rintro e w2 ⟨rfl,h2,aO⟩;go_wp2_with fail;refine(jr h2 _ mq (by rfl) (by decide) c2).mono ?_;rintro e w3 ⟨rfl,h3,bA⟩;go_wp2_with fail;have kk:=((ka.trans aT).trans aO).trans bA;have b3:=((b0.kept aT (bJ _ (Ab _))).kept aO (bJ _ (Ab _))).kept bA (bJ _ (Ab _));refine(Rn _ w3).mono ?_;rintro e w6 ⟨v,rfl,hv,gF⟩;have bt:=Ro (ay g st);obtain⟨gb,ry,AX,yx,qw,ju,_⟩:=wM hv (by intro e;rw[e]at bt;simp at bt);have MI:=kk.trans (gF.mono (fun _ hx=>hx.elim));have b6:=b3.kept gF (fun hx=>hx);have s6:=MI.size;try rw[AX]
 go_wp2_with fail
 refine(DJ (cap:=ry) (h3.nil gF) false ju bt.1 (by omega) (by intro e;rw[e]at bt;simp at bt) qw).mono ?_;rintro e wz ⟨q,rfl,hz,qC,sQ⟩;have bz:=b6.kept sQ (bJ _ (Ab _));have kz:=MI.trans sQ;have rI:w.heap.size<w6.heap.size:=b6.lt;obtain⟨e0,e1,e2,e3,e4,e5,e6,e7⟩:=bz.gZ;obtain⟨g0,g1,g2,g3,g4,g5,g6,g7⟩:=bz.nN;simp only[bB]at e0 e1 e2 e3 e4 e5 e6 e7;have pL:w.heap.size<wz.heap.size:=bz.lt;simp only[Nv.val,Nv.cells];go_wp2_with fail;exact GL (i:=2) hR hz qC (by omega) (Ab _) kz bz results133 rfl rfl (fun _ _ h=>h)
theorem ahu(hR:aR w g fo st)(c1:aG um (ay g st)=false)(c2:aG mq (ay g st)=false)(c3:aG xp (ay g st)=true):
 Calls prog 133 #[.pointer (some ⟨g.b,0,none⟩)] w fun e w'=>∃q,e=.returned (Nv.val q)/\aR w' g fo (eI g qK st)/\cy w' w.heap.size w'.heap.size q mR (nY fo (ay g st))/\aa g.au w w':=by
 rw[Wb (show aG qK (ay g st)=true by rw[O5,c3];simp),show nY fo (ay g st)=l9 (lV (ay g st+32)) fo true by unfold nY;rw[if_neg (by rw[c1];simp),if_neg (by rw[c2];simp),if_pos c3]];have bJ:∀i,w.heap.size<=i->¬g.au i:=fun i hi hx=>by have:=hR.gT hx;omega
 have xh:∀st:RS,-1<=ay g st/\ay g st<=1114111:=hR.JB
 have ha:=hR.nil ((aa.refl af w).alloc (.cells bB.cells 64));have b0:=aq.new w bB.cells 64;have ka:aa g.au w (w.alloc (.cells bB.cells 64)):=(aa.refl _ w).alloc _;have s0:(w.alloc (.cells bB.cells 64)).heap.size=w.heap.size+1:=fF _ _;go_in;go_wp2_with fail;refine(nM ha).mono ?_;rintro e w1 ⟨rfl,h1,aT⟩;go_wp2_with fail;refine(iX h1 _ um (by rfl) (by decide) c1).mono ?_;rintro e w2 ⟨rfl,h2,aO⟩;go_wp2_with fail;refine(iX h2 _ mq (by rfl) (by decide) c2).mono ?_;rintro e w3 ⟨rfl,h3,bA⟩;go_wp2_with fail;refine(jr h3 _ xp (by rfl) (by decide) c3).mono ?_;rintro e w4 ⟨rfl,h4,dA⟩;go_wp2_with fail;have kk:=(((ka.trans aT).trans aO).trans bA).trans dA;have b4:=(((b0.kept aT (bJ _ (Ab _))).kept aO (bJ _ (Ab _))).kept bA (bJ _ (Ab _))).kept dA (bJ _ (Ab _));refine(aoj _ w4 (alH c3)).mono ?_;rintro e w5 ⟨rfl,rfl⟩;go_wp2_with fail;refine(Rn _ w5).mono ?_;rintro e w6 ⟨v,rfl,hv,gF⟩;have bt:=Ro (ay g st+32);obtain⟨gb,ry,AX,yx,qw,ju,_⟩:=wM hv (by intro e;rw[e]at bt;simp at bt);have MI:=kk.trans (gF.mono (fun _ hx=>hx.elim));have b6:=b4.kept gF (fun hx=>hx);have s6:=MI.size;try rw[AX]
 go_wp2_with fail
 refine(DJ (cap:=ry) (h4.nil gF) true ju bt.1 (by omega) (by intro e;rw[e]at bt;simp at bt) qw).mono ?_;rintro e wz ⟨q,rfl,hz,qC,sQ⟩;have bz:=b6.kept sQ (bJ _ (Ab _));have kz:=MI.trans sQ;have rI:w.heap.size<w6.heap.size:=b6.lt;obtain⟨e0,e1,e2,e3,e4,e5,e6,e7⟩:=bz.gZ;obtain⟨g0,g1,g2,g3,g4,g5,g6,g7⟩:=bz.nN;simp only[bB]at e0 e1 e2 e3 e4 e5 e6 e7;have pL:w.heap.size<wz.heap.size:=bz.lt;simp only[Nv.val,Nv.cells];go_wp2_with fail;exact GL (i:=2) hR hz qC (by omega) (Ab _) kz bz results133 rfl rfl (fun _ _ h=>h)
theorem ahw(hR:aR w g fo st)(c1:aG um (ay g st)=false)(c2:aG mq (ay g st)=false)(c3:aG xp (ay g st)=false):
 Calls prog 133 #[.pointer (some ⟨g.b,0,none⟩)] w fun e w'=>∃q,e=.returned (Nv.val q)/\aR w' g fo (eI g qK st)/\cy w' w.heap.size w'.heap.size q mR (nY fo (ay g st))/\aa g.au w w':=by
 rw[show eI g qK st=eI g GH st by unfold eI;rw[O5,c1,c2,c3];simp,show nY fo (ay g st)=l9 [(qp (ay g st),qp (ay g st))] fo false by unfold nY;rw[if_neg (by rw[c1];simp),if_neg (by rw[c2];simp),if_neg (by rw[c3];simp)]];have bJ:∀i,w.heap.size<=i->¬g.au i:=fun i hi hx=>by have:=hR.gT hx;omega
 have xh:∀st:RS,-1<=ay g st/\ay g st<=1114111:=hR.JB
 have ha:=hR.nil ((aa.refl af w).alloc (.cells bB.cells 64));have b0:=aq.new w bB.cells 64;have ka:aa g.au w (w.alloc (.cells bB.cells 64)):=(aa.refl _ w).alloc _;have s0:(w.alloc (.cells bB.cells 64)).heap.size=w.heap.size+1:=fF _ _;have Vl:=aaM (xh st);generalize her:qp (ay g st)=er at Vl⊢;have HER:Hid (qp (ay g st)=er):=her;clear her;go_in;go_wp2_with fail;refine(nM ha).mono ?_;rintro e w1 ⟨rfl,h1,aT⟩;go_wp2_with fail;refine(iX h1 _ um (by rfl) (by decide) c1).mono ?_;rintro e w2 ⟨rfl,h2,aO⟩;go_wp2_with fail;refine(iX h2 _ mq (by rfl) (by decide) c2).mono ?_;rintro e w3 ⟨rfl,h3,bA⟩;go_wp2_with fail;refine(iX h3 _ xp (by rfl) (by decide) c3).mono ?_;rintro e w4 ⟨rfl,h4,dA⟩;go_wp2_with fail;have kk:=(((ka.trans aT).trans aO).trans bA).trans dA;have b4:=(((b0.kept aT (bJ _ (Ab _))).kept aO (bJ _ (Ab _))).kept bA (bJ _ (Ab _))).kept dA (bJ _ (Ab _));refine(aaN h4).mono ?_;rintro e w5 ⟨rfl,h5,cV⟩;have kk5:=kk.trans cV;have b5:=b4.kept cV (bJ _ (Ab _));rw[HER.out];go_wp2_with fail;have fa:=V0 w5 er er;have ba:=b5.alloc (.cells #[.int .i32 er,.int .i32 er] 219);have kka:=kk5.alloc (.cells #[.int .i32 er,.int .i32 er] 219);have sa:=fF w5 (.cells #[.int .i32 er,.int .i32 er] 219);have rI:w.heap.size<w5.heap.size:=b5.lt;refine(DJ (l:=[(er,er)]) (cap:=1) (h5.nil ((aa.refl af w5).alloc (.cells #[.int .i32 er,.int .i32 er] 219))) false fa (dy.one Vl Vl) (by simp) (by simp) (by omega)).mono ?_;rintro e wz ⟨q,rfl,hz,qC,sQ⟩;have bz:=ba.kept sQ (bJ _ (Ab _));have kz:=kka.trans sQ;obtain⟨e0,e1,e2,e3,e4,e5,e6,e7⟩:=bz.gZ;obtain⟨g0,g1,g2,g3,g4,g5,g6,g7⟩:=bz.nN;simp only[bB]at e0 e1 e2 e3 e4 e5 e6 e7;have pL:w.heap.size<wz.heap.size:=bz.lt;simp only[Nv.val,Nv.cells];go_wp2_with fail;exact GL (i:=2) hR hz qC (by omega) (Ab _) kz bz results133 rfl rfl (fun _ _ h=>h)
theorem ahv(hR:aR w g fo st):
 Calls prog 133 #[.pointer (some ⟨g.b,0,none⟩)] w fun e w'=>∃q,e=.returned (Nv.val q)/\aR w' g fo (eI g qK st)/\cy w' w.heap.size w'.heap.size q mR (nY fo (ay g st))/\aa g.au w w':=by
 cases c1:aG um (ay g st)
 ·cases c2:aG mq (ay g st)
  ·cases c3:aG xp (ay g st)
   ·exact ahw hR c1 c2 c3
   ·exact ahu hR c1 c2 c3
  ·exact ahx hR c1 c2
 ·exact aht hR c1
end Go.Proofs.YtpdnofhackjfdaaGreatDoor
