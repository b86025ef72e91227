/- The reader of the program -/
import Derived.Test.YtpdnofhackjfdaaGreatDoorP07
set_option linter.all false
set_option maxRecDepth 100000
set_option maxHeartbeats 16000000
namespace Go.Proofs.YtpdnofhackjfdaaGreatDoor
open Go.Proofs.Tryz
open Go.RowKit Go.Maps
variable {fo:Bool} {C:CT} {hi k lo:Nat} {q:Nv} {T:PT} {g:RG} {st:RS} {w:World}
theorem JD(r:Int):aG QE r=(aG Jk r||aG MT r):=by
 rw[Bg];simp[aG,QE,Jk,MT]
theorem afT(hA:Hl g k)(hR:aR w g fo st)(Vk:g.rs.length-st.next<=k):
 Calls prog 109 #[.pointer (some ⟨g.b,0,none⟩)] w fun e w'=>∃q,e=.returned (Nv.val q)/\aR w' g fo (dt g (aV g k) st).1/\cy w' w.heap.size w'.heap.size q (dt g (aV g k) st).2 (j8 g (dI g k) fo st)/\aa g.au w w':=by
 have hl:=hR.len;have lN:=hR.next
 have dK:=hR.aQ;have bJ:∀i,w.heap.size<=i->¬g.au i:=fun i hi hx=>by have:=hR.gT hx;omega
 have xh:∀st:RS,-1<=ay g st/\ay g st<=1114111:=hR.JB
 have ha:=hR.nil ((aa.refl af w).alloc (.cells bB.cells 64));have b0:=aq.new w bB.cells 64;have ka:aa g.au w (w.alloc (.cells bB.cells 64)):=(aa.refl _ w).alloc _;have s0:(w.alloc (.cells bB.cells 64)).heap.size=w.heap.size+1:=fF _ _;go_in;go_wp2_with fail;refine(nM ha).mono ?_;rintro e w1 ⟨rfl,h1,aT⟩;have kk:=ka.trans aT;have bp:=b0.kept aT (bJ _ (Ab _));clear ha aT;go_wp2_with fail
 cases c1:aG Jm (ay g st)
 case' true=>
  have EQ:Hid (dt g (aV g k) st=vU g (aV g k) {st with next:=st.next+1}/\j8 g (dI g k) fo st=sE g (dI g k) fo {st with next:=st.next+1}):=⟨by unfold dt;rw[if_pos c1],by unfold j8;rw[if_pos c1]⟩;have aw:=jU c1;refine(jr h1 _ Jm (by rfl) (by decide) c1).mono ?_;rintro e w2 ⟨rfl,h2,aO⟩;have kk:=kk.trans aO;have bp:=bp.kept aO (bJ _ (Ab _));go_wp2_with fail;have rI:w.heap.size<w2.heap.size:=bp.lt;refine(agl hA h2 (by simp;omega) (by simp;omega)).mono ?_
 case' false=>
  refine(iX h1 _ Jm (by rfl) (by decide) c1).mono ?_;rintro e w2 ⟨rfl,h2,aO⟩;have kk:=kk.trans aO;have bp:=bp.kept aO (bJ _ (Ab _));clear aO;go_wp2_with fail
  cases c2:aG MO (ay g st)
  case' true=>
   have EQ:Hid (dt g (aV g k) st=(rZ g {st with next:=st.next+1},mR)/\j8 g (dI g k) fo st=KY g fo {st with next:=st.next+1}):=⟨by unfold dt;rw[if_neg (by rw[c1];simp),if_pos c2],by unfold j8;rw[if_neg (by rw[c1];simp),if_pos c2]⟩;have aw:=jU c2;refine(jr h2 _ MO (by rfl) (by decide) c2).mono ?_;rintro e w3 ⟨rfl,h3,aO⟩;have kk:=kk.trans aO;have bp:=bp.kept aO (bJ _ (Ab _));go_wp2_with fail;have rI:w.heap.size<w3.heap.size:=bp.lt;refine(agQ h3).mono ?_
  case' false=>
   refine(iX h2 _ MO (by rfl) (by decide) c2).mono ?_;rintro e w3 ⟨rfl,h3,aO⟩;have kk:=kk.trans aO;have bp:=bp.kept aO (bJ _ (Ab _));clear aO;go_wp2_with fail
   cases c3:aG gj (ay g st)
   case' true=>
    have EQ:Hid (dt g (aV g k) st=(eI g qK {st with next:=st.next+1},mR)/\j8 g (dI g k) fo st=nY fo (ay g {st with next:=st.next+1})):=⟨by unfold dt;rw[if_neg (by rw[c1];simp),if_neg (by rw[c2];simp),if_pos c3],by unfold j8;rw[if_neg (by rw[c1];simp),if_neg (by rw[c2];simp),if_pos c3]⟩;have aw:=jU c3;refine(jr h3 _ gj (by rfl) (by decide) c3).mono ?_;rintro e w4 ⟨rfl,h4,aO⟩;have kk:=kk.trans aO;have bp:=bp.kept aO (bJ _ (Ab _));go_wp2_with fail;have rI:w.heap.size<w4.heap.size:=bp.lt;refine(ahv h4).mono ?_
   case' false=>
    refine(iX h3 _ gj (by rfl) (by decide) c3).mono ?_;rintro e w4 ⟨rfl,h4,aO⟩;have kk:=kk.trans aO;have bp:=bp.kept aO (bJ _ (Ab _));clear aO;go_wp2_with fail
    cases c4:aG Jk (ay g st)
    case' true=>
     have EQ:Hid (dt g (aV g k) st=({st with next:=st.next+1},mR)/\j8 g (dI g k) fo st=l9 [(10,10)] fo true):=⟨by unfold dt;rw[if_neg (by rw[c1];simp),if_neg (by rw[c2];simp),if_neg (by rw[c3];simp),if_pos (by rw[JD,c4];simp)],by unfold j8;rw[if_neg (by rw[c1];simp),if_neg (by rw[c2];simp),if_neg (by rw[c3];simp),if_pos (by rw[JD,c4];simp)];unfold Iq;rw[if_pos c4]⟩;have aw:=jU c4;refine(jr h4 _ Jk (by rfl) (by decide) c4).mono ?_;rintro e w5 ⟨rfl,h5,aO⟩;have kk:=kk.trans aO;have bp:=bp.kept aO (bJ _ (Ab _));go_wp2_with fail;have rI:w.heap.size<w5.heap.size:=bp.lt;have fa:=V0 w5 10 10;have bp:=bp.alloc (.cells #[.int .i32 10,.int .i32 10] 219);have kk:=kk.alloc (.cells #[.int .i32 10,.int .i32 10] 219);have sa:=fF w5 (.cells #[.int .i32 10,.int .i32 10] 219);refine(DJ (l:=[(10,10)]) (cap:=1) (h5.nil ((aa.refl af w5).alloc (.cells #[.int .i32 10,.int .i32 10] 219))) true fa (dy.one (by omega) (by omega)) (by simp) (by simp) (by omega)).mono ?_
    case' false=>
     refine(iX h4 _ Jk (by rfl) (by decide) c4).mono ?_;rintro e w5 ⟨rfl,h5,aO⟩;have kk:=kk.trans aO;have bp:=bp.kept aO (bJ _ (Ab _));clear aO;go_wp2_with fail
     cases c5:aG MT (ay g st)
     case true=>
      have EQ:Hid (dt g (aV g k) st=({st with next:=st.next+1},mR)/\j8 g (dI g k) fo st=u9 (sG (ay g st))):=⟨by unfold dt;rw[if_neg (by rw[c1];simp),if_neg (by rw[c2];simp),if_neg (by rw[c3];simp),if_pos (by rw[JD,c5];simp)],by unfold j8;rw[if_neg (by rw[c1];simp),if_neg (by rw[c2];simp),if_neg (by rw[c3];simp),if_pos (by rw[JD,c5];simp)];unfold Iq;rw[if_neg (by rw[c4];simp)]⟩;have aw:=jU c5;refine(jr h5 _ MT (by rfl) (by decide) c5).mono ?_;rintro e w6 ⟨rfl,h6,aO⟩;have kk:=kk.trans aO;have bp:=bp.kept aO (bJ _ (Ab _));go_wp2_with fail;have rI:w.heap.size<w6.heap.size:=bp.lt;refine(aaB _ _).mono ?_;rintro e wz ⟨rfl,rfl⟩;have qC:=cy.eo wz (w.heap.size+1) wz.heap.size (sG (ay g st)) (aaA _);obtain⟨e0,e1,e2,e3,e4,e5,e6,e7⟩:=bp.gZ;obtain⟨g0,g1,g2,g3,g4,g5,g6,g7⟩:=bp.nN;simp only[bB]at e0 e1 e2 e3 e4 e5 e6 e7;have pL:w.heap.size<wz.heap.size:=bp.lt;go_wp2_with fail;have fZ:=M9 hR h6 qC (by omega) (Ab _) kk;have lk:=vV bp (zM (sG (ay g st)));simp only[gg,zM]at fZ lk;refine vS (i:=2) (b:=w.heap.size) (q:=(zM (sG (ay g st)))) results109 rfl rfl lk ?_;rw[EQ.out.1,EQ.out.2];exact⟨_,rfl,fZ⟩
     case' false=>
      have EQ:Hid (dt g (aV g k) st=(pT g QD st,mR)/\j8 g (dI g k) fo st=l9 [(ay g st,ay g st)] fo false):=⟨by unfold dt;rw[if_neg (by rw[c1];simp),if_neg (by rw[c2];simp),if_neg (by rw[c3];simp),if_neg (by rw[JD,c4,c5];simp)],by unfold j8;rw[if_neg (by rw[c1];simp),if_neg (by rw[c2];simp),if_neg (by rw[c3];simp),if_neg (by rw[JD,c4,c5];simp)]⟩;refine(iX h5 _ MT (by rfl) (by decide) c5).mono ?_;rintro e w6 ⟨rfl,h6,aO⟩;have kk:=kk.trans aO;have bp:=bp.kept aO (bJ _ (Ab _));go_wp2_with fail;refine(acU h6 _ QD (by rfl) (by decide)).mono ?_;rintro e w7 ⟨rfl,h7,aO⟩;have kk:=kk.trans aO;have bp:=bp.kept aO (bJ _ (Ab _));go_wp2_with fail;have rI:w.heap.size<w7.heap.size:=bp.lt;have fa:=V0 w7 (ay g st) (ay g st);have bp:=bp.alloc (.cells #[.int .i32 (ay g st),.int .i32 (ay g st)] 219);have kk:=kk.alloc (.cells #[.int .i32 (ay g st),.int .i32 (ay g st)] 219);have sa:=fF w7 (.cells #[.int .i32 (ay g st),.int .i32 (ay g st)] 219);refine(DJ (l:=[((ay g st),(ay g st))]) (cap:=1) (h7.nil ((aa.refl af w7).alloc (.cells #[.int .i32 (ay g st),.int .i32 (ay g st)] 219))) false fa (dy.one (xh st) (xh st)) (by simp) (by simp) (by omega)).mono ?_
 all_goals
  rintro e wz ⟨q,rfl,hz,qC,sQ⟩;have bz:=bp.kept sQ (bJ _ (Ab _));have kz:=kk.trans sQ;obtain⟨e0,e1,e2,e3,e4,e5,e6,e7⟩:=bz.gZ;obtain⟨g0,g1,g2,g3,g4,g5,g6,g7⟩:=bz.nN;simp only[bB]at e0 e1 e2 e3 e4 e5 e6 e7;have pL:w.heap.size<wz.heap.size:=bz.lt;simp only[Nv.val,Nv.cells];go_wp2_with fail;have fZ:=M9 hR hz qC (by omega) (Ab _) kz;have lk:=vV bz q;simp only[gg]at fZ lk;refine vS (i:=2) (b:=w.heap.size) (q:=q) results109 rfl rfl lk ?_;rw[EQ.out.1,EQ.out.2];exact⟨_,rfl,fZ⟩
def JO(g:RG)(aE:RS->RS×PT):Prop:=∀st,st.next<=g.rs.length->st.next<=(aE st).1.next/\(aE st).1.next<=g.rs.length
theorem adx(g:RG)(st:RS)(h:st.next<=g.rs.length):st.next<=(jo g st).1.next/\(jo g st).1.next<=g.rs.length:=by
 unfold jo;split
 ·rename_i hc;have:=jU hc;simp;omega
 ·simp[WJ];exact h
theorem adK(g:RG)(st:RS)(h:st.next<=g.rs.length):st.next<=(fA g st).1.next/\(fA g st).1.next<=g.rs.length:=by
 have h1:=adx g st h;have h2:=adx g _ h1.2;unfold fA;split
 ·simp only;omega
 ·exact h1
theorem alR(g:RG)(st:RS)(h:st.next<=g.rs.length):st.next<=(ey g st).1.next/\(ey g st).1.next<=g.rs.length:=by
 have h1:=adK g st h;unfold ey;split
 ·rename_i hc
  have hl:=jU hc;have h2:=adK g {(fA g st).1 with next:=(fA g st).1.next+1} (by simp;omega)
  have h3:(fA g st).1.next<=(r_ g {(fA g st).1 with next:=(fA g st).1.next+1}).1.next/\(r_ g {(fA g st).1 with next:=(fA g st).1.next+1}).1.next<=g.rs.length:=by
   unfold r_;split
   ·simp;omega
   ·simp only at h2⊢;omega
  have h4:=xr g vO _ h3.2;simp only at h3 h4⊢;omega
 ·have h4:=xr g vO _ h1.2;simp only;omega
theorem adP(g:RG)(a:PT)(st:RS)(h:st.next<=g.rs.length):st.next<=(h_ g a st).1.next/\(h_ g a st).1.next<=g.rs.length:=by
 have key:∀l,aG l (ay g st)=true->st.next<=(fg g iq {st with next:=st.next+1}).next/\(fg g iq {st with next:=st.next+1}).next<=g.rs.length:=by
  intro l hl;have h1:=jU hl;have:=JG g iq {st with next:=st.next+1} (by simp;omega);simp only at this;omega
 unfold h_;split
 ·rename_i hc;exact key _ hc
 ·split
  ·rename_i hc;exact key _ hc
  ·split
   ·rename_i hc;exact key _ hc
   ·split
    ·rename_i hc
     have h1:=jU hc;have h2:=alR g {st with next:=st.next+1} (by simp;omega);simp only at h2⊢;split
     ·have:=JG g iq ((ey g {st with next:=st.next+1}).1.eu 4 (qP g st)) (by rw[Wf];exact h2.2);rw[Wf]at this;omega
     ·have:=JG g iq (ey g {st with next:=st.next+1}).1 h2.2;omega
    ·exact⟨Ab _,h⟩
theorem adv(g:RG)(aE:RS->RS×PT)(ha:JO g aE)(st:RS)(h:st.next<=g.rs.length):st.next<=(dt g aE st).1.next/\(dt g aE st).1.next<=g.rs.length/\(st.next<g.rs.length->st.next<(dt g aE st).1.next):=by
 unfold dt;split
 ·rename_i hc
  have h1:=jU hc;have h2:=adA g {st with next:=st.next+1} (by simp;omega);have h3:=ha (ix g {st with next:=st.next+1}) h2.2;have h4:=xr g Jn _ h3.2;simp only[vU]at*;omega
 ·split
  ·rename_i hc
   have h1:=jU hc;have h2:=alW g {st with next:=st.next+1} (by simp;omega);simp only at h2⊢;omega
  ·split
   ·rename_i hc
    have h1:=jU hc;have h2:=xr g qK {st with next:=st.next+1} (by simp;omega);simp only at h2⊢;omega
   ·split
    ·rename_i hc
     have h1:=jU hc;simp;omega
    ·exact acV g QD st h
theorem adS(g:RG)(aE:RS->RS×PT)(m:Nat)(st:RS)(aC:List PT)(h:ay g st= -1\/aG uj (ay g st)=true):jq g aE m st aC=(st,aC):=by
 cases m with
 |zero=>rfl
 |succ m=>unfold jq;rw[if_pos h]
theorem adU(g:RG)(aE:RS->RS×PT)(ha:JO g aE):∀(m:Nat) (st:RS) (aC:List PT),st.next<=g.rs.length->st.next<=(jq g aE m st aC).1.next/\(jq g aE m st aC).1.next<=g.rs.length
 |0,st,_,h=>⟨Ab _,h⟩
 |m+1,st,aC,h=>by
  unfold jq;split
  ·exact⟨Ab _,h⟩
  ·have h1:=adv g aE ha st h;have h2:=adP g (dt g aE st).2 _ h1.2.1;have h3:=adU g aE ha m _ (aC++[(h_ g (dt g aE st).2 (dt g aE st).1).2]) h2.2;omega
theorem Q7(g:RG)(aE:RS->RS×PT)(ha:JO g aE)(st:RS)(h:st.next<=g.rs.length):st.next<=(eD g aE st).1.next/\(eD g aE st).1.next<=g.rs.length:=adU g aE ha _ st [] h
theorem ads(g:RG)(aE:RS->RS×PT)(ha:JO g aE):∀(m:Nat) (st:RS) (aC:List PT),st.next<=g.rs.length->st.next<=(iw g aE m st aC).1.next/\(iw g aE m st aC).1.next<=g.rs.length
 |0,st,_,h=>⟨Ab _,h⟩
 |m+1,st,aC,h=>by
  unfold iw;split
  ·rename_i hc
   have h1:=jU hc;have h2:=Q7 g aE ha {st with next:=st.next+1} (by simp;omega);have h3:=ads g aE ha m _ (aC++[(eD g aE {st with next:=st.next+1}).2]) h2.2;simp only at h2 h3⊢;omega
  ·exact⟨Ab _,h⟩
theorem QV(g:RG):∀k,JO g (aV g k)
 |0=>fun st h=>⟨Ab _,h⟩
 |k+1=>fun st h=>by
  have ha:=QV g k;have h1:=Q7 g (aV g k) ha st h;have h2:=ads g (aV g k) ha (g.rs.length+1) _ [(eD g (aV g k) st).2] h1.2;show st.next<=(iw g (aV g k) (g.rs.length+1) (eD g (aV g k) st).1 [(eD g (aV g k) st).2]).1.next/\_
  exact⟨by omega,h2.2⟩
theorem Tryz.acf:(prog.info? 64).map (fun i=>(i.zero,i.size,i.bytes))=some (some (.agg #[.int .i64 0,.slice none 0 0,.slice none 0 0,.int .i64 0,.int .i64 0,.int .i64 0,.int .i64 0,.bool false]),8,96):=by kernel_rfl
theorem VZ{w3:World}{ru:Bool}{kX:RS}{v:Value}{qs:List Nv}{aC:List PT}{cs:List CT}{k tk:Int}(hR:aR w g fo st)(h3:aR w3 g ru kX)(ps:mY w3 (w.heap.size+1) v qs aC cs)(hk:(k=3/\tk=2)\/(k=4/\tk=3/\aC≠ []))(k1:aa g.au w w3):
 ∃pa pc,v=.slice pa aC.length pc/\aR (gg w3 w.heap.size (jy k pa aC.length pc)) g ru kX/\cy (gg w3 w.heap.size (jy k pa aC.length pc)) w.heap.size (gg w3 w.heap.size (jy k pa aC.length pc)).heap.size (jy k pa aC.length pc) (.node tk aC 0 0) (.node k [] false false 0 0 0 0 false cs)/\
 aa g.au w (gg w3 w.heap.size (jy k pa aC.length pc)):=by
 obtain⟨pa,pc,rfl,hp⟩:=ps.node k tk hk;have sz:=Nh w3 w.heap.size (jy k pa aC.length pc);have kq:=Jy w3 w.heap.size (jy k pa aC.length pc);exact⟨pa,pc,rfl,h3.new hR kq (fun i hi=>by omega),(hp.kept kq (fun i h1 _ he=>by omega) (Ab _)).Hk (by omega) (by omega),k1.bV kq (fun i hi he=>by omega)⟩
theorem aey(hA:Hl g k)(hR:aR w g fo st)(Vk:g.rs.length-st.next<=k):
 Calls prog 82 #[.pointer (some ⟨g.b,0,none⟩)] w fun e w'=>∃q,e=.returned (Nv.val q)/\aR w' g fo (eD g (aV g k) st).1/\cy w' w.heap.size w'.heap.size q (eD g (aV g k) st).2 (nj g (aV g k) (dI g k) fo st)/\aa g.au w w':=by
 have cT:=hR.len;have lN:=hR.next
 have bJ:∀i,w.heap.size<=i->¬g.au i:=fun i hi hx=>by have:=hR.gT hx;omega
 obtain⟨i0,cP,di,dj,cY⟩:=Bo Tryz.acf;have ha:=hR.nil ((aa.refl af w).alloc (.cells bB.cells 64));have vy:=aq.new w bB.cells 64;have sP:aa g.au w (w.alloc (.cells bB.cells 64)):=(aa.refl _ w).alloc _;have Vr:w.heap.size+1<=(w.alloc (.cells bB.cells 64)).heap.size:=by simp
 have mh:=mY.nil (w.alloc (.cells bB.cells 64)) (w.heap.size+1);unfold eD nj;go_in;go_wp2_with fail;go_loopg [3] (g.rs.length-st.next) (fun kk v wr=>∃aA m aC cs qs,aR wr g fo aA/\mY wr (w.heap.size+1) v qs aC cs/\Hid (jq g (aV g k) m aA aC=jq g (aV g k) (g.rs.length+1) st [])/\Hid (l_ g (aV g k) (dI g k) fo m aA cs=l_ g (aV g k) (dI g k) fo (g.rs.length+1) st [])/\kk=g.rs.length-aA.next/\kk<m/\st.next<=aA.next/\aC.length<=aA.next/\aa g.au w wr/\w.heap.size+1<=wr.heap.size/\aq wr w.heap.size bB.cells 64)
 case atStart=>exact⟨st,g.rs.length+1,[],[],[],ha,mh,rfl,rfl,rfl,by omega,Ab _,by simp,sP,Vr,vy⟩
 case round=>
  obtain⟨aA,m,aC,cs,qs,hr,sM,HP,xV,rfl,hm,im,air,hk,aS,hb⟩:=hrel;clear ha sP vy Vr mh;have hle:=hr.next
  by_cases f_:ay g aA= -1
  ·have wV:(ay g aA != -1)=false:=(by simp[f_]);go_wp2_with fail;refine(nM hr).mono ?_;rintro e w3 ⟨rfl,h3,bA⟩;have HE:Hid (jq g (aV g k) (g.rs.length+1) st []=(aA,aC)):=by show _=_;rw[<-HP.out,adS g _ m aA aC (Or.inl f_)]
   have HC:Hid (l_ g (aV g k) (dI g k) fo (g.rs.length+1) st []=cs):=by show _=_;rw[<-xV.out,aag g _ _ fo m aA cs (Or.inl f_)]
   clear f_ HP xV;have Nf:=sM.kept bA (fun i hi=>by have:=hR.gT hi;omega);have b3:=hb.kept bA (bJ _ (Ab _));have GF:=hk.trans bA;have s3:=bA.size;obtain⟨fQ,c3,kT,fZ⟩:=VZ (k:=3) (tk:=2) hR h3 Nf (Or.inl ⟨rfl,rfl⟩) GF;rw[kT];clear kT sM hb hk hr;obtain⟨e0,e1,e2,e3,e4,e5,e6,e7⟩:=b3.gZ;obtain⟨g0,g1,g2,g3,g4,g5,g6,g7⟩:=b3.nN;simp only[bB]at e0 e1 e2 e3 e4 e5 e6 e7;have pL:w.heap.size<w3.heap.size:=b3.lt;go_wp2_with fail;have lk:=vV b3 (jy 3 fQ aC.length c3);simp only[gg,jy]at fZ lk;refine vS (i:=2) (b:=w.heap.size) (q:=jy 3 fQ aC.length c3) results82 ?_ ?_ ?_ ?_
   ·rfl
   ·rfl
   ·exact lk
   ·rw[HE.out,HC.out];exact⟨_,rfl,fZ⟩
  ·have wV:(ay g aA != -1)=true:=(by simp[f_]);have aw:=V3 f_;clear f_
   cases ow:aG uj (ay g aA)
   ·go_wp2_with fail
    refine(nM hr).mono ?_;rintro e w3 ⟨rfl,h3,bA⟩;go_wp2_with fail;refine(xA h3 _ uj (by rfl) (by decide)).mono ?_;rintro e w4 ⟨rfl,h4,dA⟩;rw[ow];go_wp2_with fail;refine(afT hA h4 (by omega)).mono ?_;rintro e w5 ⟨q5,rfl,h5,Gf,cV⟩;go_wp2_with fail;refine(am8 h5 Gf (Ab _) cV.size (fun i hi=>h4.gT hi)).mono ?_;rintro e w6 ⟨q,rfl,h6,Gg,gF⟩;have qJ:=(bA.trans dA);have G6:=sM.kept ((qJ.trans cV).trans gF) (fun i hi=>by have:=hR.gT hi;omega);have dh:aC.length<=300:=(by omega);simp only[Nv.val,Nv.cells];go_wp2_with (at_builtin;refine Ao _ rfl _ _ 59 rfl (w.heap.size+1) 64 i0 _ 8 96 underlying59 cP di dj cY rfl (by decide) _ _ _ rfl (G6.au.alloc (.cells q.cells 64)) ⟨w6.heap.size,0,none⟩ 1 1 q.cells.toList rfl rfl ?c1 ?c2 ?c3 ?c4 ?c5 ?_)
    case c1=>exact ada q
    case c2=>exact q.one
    case c3=>unfold maxLen;omega
    case c4=>omega
    case c5=>have:=qJ.size;have:=cV.size;have:=gF.size;simp;omega
    intro v' w7 bG bY dX cx;have s34:=qJ.size;have s5:=cV.size;have s6:=gF.size;have G5:=sM.kept qJ (fun i hi=>by have:=hR.gT hi;omega);have GC:aa af w6 (w6.alloc (.cells q.cells 64)):=(aa.refl _ _).alloc _;have WE:=mY.qS (q:=q) G6 Gg (by omega) (fun b hb=>(uA G5.au hb).2) (Ab _) GC bG bY (by rw[fF];simpa using cx) (by omega);have lu:aa (fun i=>u3.ownBlock=some i) w6 w7:=(GC.mono (fun _ hx=>hx.elim)).eN bY (fun j hj=>Or.inl hj);have EV:∀i,u3.ownBlock=some i->w.heap.size+1<=i:=(fun i hi=>(uA G5.au hi).1);have h7:=h6.new hR lu (fun i hi=>by have:=EV i hi;omega)
    have MK:=(((hk.trans qJ).trans cV).trans gF).bV lu (fun i hi he=>by have:=EV i he;omega);have yq:=(hb.kept ((qJ.trans cV).trans gF) (bJ _ (Ab _))).kept lu (fun he=>by have:=EV _ he;omega);have s7:=lu.size;clear bG bY cx dX G6 G5 sM cV gF bA dA GC lu Gf Gg hb;have n1:=adv g (aV g k) (QV g k) aA (by omega);have n2:=adP g (dt g (aV g k) aA).2 _ n1.2.1;have n3:=n1.2.2 aw;go_wp2_with fail;go_roundg (g.rs.length-(h_ g (dt g (aV g k) aA).2 (dt g (aV g k) aA).1).1.next)
    case measure=>omega
    case rel=>
     have LL:¬(ay g aA= -1\/aG uj (ay g aA)=true):=by simp[ow];simpa using wV
     obtain⟨m',rfl⟩:∃m',m=m'+1:=⟨m-1,by omega⟩
     refine⟨_,m',_,_,_,h7,WE,?_,?_,rfl,by omega,by omega,by simp;omega,MK,by omega,yq⟩
     ·rw[<-HP.out];show jq g (aV g k) m' _ _=jq g (aV g k) (m'+1) aA aC
      rw[show jq g (aV g k) (m'+1) aA aC=if ay g aA= -1\/aG uj (ay g aA)=true then(aA,aC)else jq g (aV g k) m' (h_ g (dt g (aV g k) aA).2 (dt g (aV g k) aA).1).1 (aC++[(h_ g (dt g (aV g k) aA).2 (dt g (aV g k) aA).1).2])from rfl,if_neg LL]
     ·rw[<-xV.out];show l_ g (aV g k) (dI g k) fo m' _ _=l_ g (aV g k) (dI g k) fo (m'+1) aA cs
      rw[show l_ g (aV g k) (dI g k) fo (m'+1) aA cs=if ay g aA= -1\/aG uj (ay g aA)=true then cs else l_ g (aV g k) (dI g k) fo m' (h_ g (dt g (aV g k) aA).2 (dt g (aV g k) aA).1).1 (cs++[ni g (j8 g (dI g k) fo aA) (dt g (aV g k) aA).1])from rfl,if_neg LL]
   ·go_wp2_with fail
    refine(nM hr).mono ?_;rintro e w2 ⟨rfl,h2,aO⟩;go_wp2_with fail;refine(xA h2 _ uj (by rfl) (by decide)).mono ?_;rintro e w3 ⟨rfl,h3,FH⟩;have bA:=aO.trans FH;rw[ow];have HE:Hid (jq g (aV g k) (g.rs.length+1) st []=(aA,aC)):=by show _=_;rw[<-HP.out,adS g _ m aA aC (Or.inr ow)]
    have HC:Hid (l_ g (aV g k) (dI g k) fo (g.rs.length+1) st []=cs):=by show _=_;rw[<-xV.out,aag g _ _ fo m aA cs (Or.inr ow)]
    clear HP xV;have Nf:=sM.kept bA (fun i hi=>by have:=hR.gT hi;omega);have b3:=hb.kept bA (bJ _ (Ab _));have GF:=hk.trans bA;have s3:=bA.size;obtain⟨fQ,c3,kT,fZ⟩:=VZ (k:=3) (tk:=2) hR h3 Nf (Or.inl ⟨rfl,rfl⟩) GF;rw[kT];clear kT sM hb hk hr;obtain⟨e0,e1,e2,e3,e4,e5,e6,e7⟩:=b3.gZ;obtain⟨g0,g1,g2,g3,g4,g5,g6,g7⟩:=b3.nN;simp only[bB]at e0 e1 e2 e3 e4 e5 e6 e7;have pL:w.heap.size<w3.heap.size:=b3.lt;go_wp2_with fail;have lk:=vV b3 (jy 3 fQ aC.length c3);simp only[gg,jy]at fZ lk;refine vS (i:=2) (b:=w.heap.size) (q:=jy 3 fQ aC.length c3) results82 ?_ ?_ ?_ ?_
    ·rfl
    ·rfl
    ·exact lk
    ·rw[HE.out,HC.out];exact⟨_,rfl,fZ⟩
theorem mY.one{base:Nat}(hp:cy w lo hi q T C)(mL:base<=lo)(lK:hi<=w.heap.size)(hb:base<=w.heap.size):
 mY (w.alloc (.cells q.cells 64)) base (.slice (some ⟨w.heap.size,0,none⟩) 1 1) [q] [T] [C]:=by
 refine⟨⟨rfl,Or.inr ⟨w.heap.size,1,q.cells,rfl,hb,aq.new w _ _,Ab _,by unfold maxLen;omega,rfl,rfl⟩⟩,rfl,rfl,by simp,fun i h1 h2 h3=>?_⟩;have e:i=0:=by simp at h1;omega
 subst e;refine⟨lo,hi,mL,by simp;omega,hp.kept ((aa.refl af w).alloc _) (fun _ _ _ hx=>hx) lK,fun b kN=>?_⟩;simp[Value.ownBlock]at kN;omega
theorem alO(g:RG)(aE:RS->RS×PT)(m:Nat)(st:RS)(aC:List PT)(h:aG vN (ay g st)=false):iw g aE m st aC=(st,aC):=by
 cases m with
 |zero=>rfl
 |succ m=>unfold iw;rw[if_neg (by simp[h])]
theorem afO(hA:Hl g k):Hl g (k+1):=by
 intro w fo st hR Vk;have cT:=hR.len;have lN:=hR.next
 have bJ:∀i,w.heap.size<=i->¬g.au i:=fun i hi hx=>by have:=hR.gT hx;omega
 obtain⟨i0,cP,di,dj,cY⟩:=Bo Tryz.acf;have apw:=Q7 g (aV g k) (QV g k) st lN;have ha:=hR.nil ((aa.refl af w).alloc (.cells bB.cells 64));have vy:=aq.new w bB.cells 64;have sP:aa g.au w (w.alloc (.cells bB.cells 64)):=(aa.refl _ w).alloc _;show Calls prog 56 #[.pointer (some ⟨g.b,0,none⟩)] w fun e w'=>∃q,e=.returned (Nv.val q)/\aR w' g fo (iw g (aV g k) (g.rs.length+1) (eD g (aV g k) st).1 [(eD g (aV g k) st).2]).1/\cy w' w.heap.size w'.heap.size q (.node 3 (iw g (aV g k) (g.rs.length+1) (eD g (aV g k) st).1 [(eD g (aV g k) st).2]).2 0 0) (.node 4 [] false false 0 0 0 0 false (ll g (aV g k) (dI g k) fo (g.rs.length+1) (eD g (aV g k) st).1 [nj g (aV g k) (dI g k) fo st]))/\aa g.au w w'
 go_in
 go_wp2_with fail
 refine(aey hA ha (by omega)).mono ?_;rintro e w1 ⟨q1,rfl,h1,om,aT⟩;simp only[Nv.val,Nv.cells];go_wp2_with fail;have s1:=aT.size;rw[fF]at s1 om;have mh:=mY.one (base:=w.heap.size+1) (q:=q1) om (Ab _) (Ab _) s1;have vE:=(sP.trans aT).alloc (.cells q1.cells 64);have jD:=(vy.kept aT (bJ _ (Ab _))).alloc (.cells q1.cells 64);have gP:=h1.nil ((aa.refl af w1).alloc (.cells q1.cells 64));generalize hS:eD g (aV g k) st=x0 at*;generalize hSC:nj g (aV g k) (dI g k) fo st=y0 at*;go_loopg [3] (g.rs.length-x0.1.next) (fun kk v wr=>∃aA m aC cs qs,aR wr g fo aA/\mY wr (w.heap.size+1) v qs aC cs/\Hid (iw g (aV g k) m aA aC=iw g (aV g k) (g.rs.length+1) x0.1 [x0.2])/\Hid (ll g (aV g k) (dI g k) fo m aA cs=ll g (aV g k) (dI g k) fo (g.rs.length+1) x0.1 [y0])/\kk=g.rs.length-aA.next/\kk<m/\st.next<=aA.next/\aC.length<=aA.next+1/\aC≠ []/\aa g.au w wr/\w.heap.size+1<=wr.heap.size/\aq wr w.heap.size bB.cells 64)
 case atStart=>exact⟨x0.1,g.rs.length+1,_,_,_,gP,mh,rfl,rfl,rfl,by omega,by omega,by simp,by simp,vE,by simp;omega,jD⟩
 case round=>
  obtain⟨aA,m,aC,cs,qs,hr,sM,HP,xV,rfl,hm,im,air,az,hk,aS,hb⟩:=hrel;have HS:Hid (eD g (aV g k) st=x0):=hS;have HSC:Hid (nj g (aV g k) (dI g k) fo st=y0):=hSC;clear ha sP vy mh vE jD gP h1 aT om hS hSC;have hle:=hr.next
  cases ow:aG vN (ay g aA)
  ·go_wp2_with fail
   refine(iX hr _ vN (by rfl) (by decide) ow).mono ?_;rintro e w3 ⟨rfl,h3,bA⟩;have HE:Hid (iw g (aV g k) (g.rs.length+1) x0.1 [x0.2]=(aA,aC)):=by show _=_;rw[<-HP.out,alO g _ m aA aC ow]
   have Hr:Hid (ll g (aV g k) (dI g k) fo (g.rs.length+1) x0.1 [y0]=cs):=by show _=_;rw[<-xV.out,agr g _ _ fo m aA cs ow]
   clear HP xV;have Nf:=sM.kept bA (fun i hi=>by have:=hR.gT hi;omega);have b3:=hb.kept bA (bJ _ (Ab _));have GF:=hk.trans bA;have s3:=bA.size;obtain⟨fQ,c3,kT,fZ⟩:=VZ (k:=4) (tk:=3) hR h3 Nf (Or.inr ⟨rfl,rfl,az⟩) GF;rw[kT];clear kT sM hb hk hr;obtain⟨e0,e1,e2,e3,e4,e5,e6,e7⟩:=b3.gZ;obtain⟨g0,g1,g2,g3,g4,g5,g6,g7⟩:=b3.nN;simp only[bB]at e0 e1 e2 e3 e4 e5 e6 e7;have pL:w.heap.size<w3.heap.size:=b3.lt;go_wp2_with fail;have lk:=vV b3 (jy 4 fQ aC.length c3);simp only[gg,jy]at fZ lk;refine vS (i:=2) (b:=w.heap.size) (q:=jy 4 fQ aC.length c3) results56 ?_ ?_ ?_ ?_
   ·rfl
   ·rfl
   ·exact lk
   ·rw[HS.out,HE.out,HSC.out,Hr.out];exact⟨_,rfl,fZ⟩
  ·have aw:=jU ow;have n2:=Q7 g (aV g k) (QV g k) {aA with next:=aA.next+1} (by simp;omega);go_wp2_with fail;refine(jr hr _ vN (by rfl) (by decide) ow).mono ?_;rintro e w4 ⟨rfl,h4,dA⟩;go_wp2_with fail;refine(aey hA h4 (by simp;omega)).mono ?_;rintro e w6 ⟨q,rfl,h6,Gg,gF⟩;have G6:=sM.kept (dA.trans gF) (fun i hi=>by have:=hR.gT hi;omega);have dh:aC.length<=301:=(by omega);simp only[Nv.val,Nv.cells];go_wp2_with (at_builtin;refine Ao _ rfl _ _ 59 rfl (w.heap.size+1) 64 i0 _ 8 96 underlying59 cP di dj cY rfl (by decide) _ _ _ rfl (G6.au.alloc (.cells q.cells 64)) ⟨w6.heap.size,0,none⟩ 1 1 q.cells.toList rfl rfl ?c1 ?c2 ?c3 ?c4 ?c5 ?_)
   case c1=>exact ada q
   case c2=>exact q.one
   case c3=>unfold maxLen;omega
   case c4=>omega
   case c5=>have:=dA.size;have:=gF.size;simp;omega
   intro v' w7 bG bY dX cx;have s34:=dA.size;have s6:=gF.size;have G5:=sM.kept dA (fun i hi=>by have:=hR.gT hi;omega);have GC:aa af w6 (w6.alloc (.cells q.cells 64)):=(aa.refl _ _).alloc _;have WE:=mY.qS (q:=q) G6 Gg (by omega) (fun b hb=>(uA G5.au hb).2) (Ab _) GC bG bY (by rw[fF];simpa using cx) (by omega);have lu:aa (fun i=>u3.ownBlock=some i) w6 w7:=(GC.mono (fun _ hx=>hx.elim)).eN bY (fun j hj=>Or.inl hj);have EV:∀i,u3.ownBlock=some i->w.heap.size+1<=i:=(fun i hi=>(uA G5.au hi).1);have h7:=h6.new hR lu (fun i hi=>by have:=EV i hi;omega)
   have MK:=((hk.trans dA).trans gF).bV lu (fun i hi he=>by have:=EV i he;omega);have yq:=(hb.kept (dA.trans gF) (bJ _ (Ab _))).kept lu (fun he=>by have:=EV _ he;omega);have s7:=lu.size;clear bG bY cx dX G6 G5 sM gF dA GC lu Gg hb;go_wp2_with fail;go_roundg (g.rs.length-(eD g (aV g k) {aA with next:=aA.next+1}).1.next)
   case measure=>omega
   case rel=>
    obtain⟨m',rfl⟩:∃m',m=m'+1:=⟨m-1,by omega⟩
    refine⟨_,m',_,_,_,h7,WE,?_,?_,rfl,by omega,by omega,by simp;omega,by simp,MK,by omega,yq⟩
    ·rw[<-HP.out];show iw g (aV g k) m' _ _=iw g (aV g k) (m'+1) aA aC
     rw[show iw g (aV g k) (m'+1) aA aC=if aG vN (ay g aA)then iw g (aV g k) m' (eD g (aV g k) {aA with next:=aA.next+1}).1 (aC++[(eD g (aV g k) {aA with next:=aA.next+1}).2])else(aA,aC)from rfl,if_pos ow]
    ·rw[<-xV.out];show ll g (aV g k) (dI g k) fo m' _ _=ll g (aV g k) (dI g k) fo (m'+1) aA cs
     rw[show ll g (aV g k) (dI g k) fo (m'+1) aA cs=if aG vN (ay g aA)then ll g (aV g k) (dI g k) fo m' (eD g (aV g k) {aA with next:=aA.next+1}).1 (cs++[nj g (aV g k) (dI g k) fo {aA with next:=aA.next+1}])else cs from rfl,if_pos ow]
theorem Te(g:RG):∀k,Hl g k
 |0=>fun w fo st hR h=>absurd h (by omega)
 |k+1=>afO (Te g k)
theorem aoM(hR:aR w g false st):
 Calls prog 38 #[.pointer (some ⟨g.b,0,none⟩)] w fun e w'=>∃q,e=.returned (Nv.val q)/\aR w' g false (ee g st).1/\cy w' w.heap.size w'.heap.size q (ee g st).2 (oS g st)/\aa g.au w w':=by
 have ha:=hR.nil ((aa.refl af w).alloc (.cells bB.cells 64));have vy:=aq.new w bB.cells 64;have sP:aa g.au w (w.alloc (.cells bB.cells 64)):=(aa.refl _ w).alloc _;have bJ:∀i,w.heap.size<=i->¬g.au i:=fun i hi hx=>by have:=hR.gT hx;omega
 unfold ee oS;by_cases f_:ay g (aV g (g.rs.length+1) st).1= -1
 ·rw[if_pos f_];have wV:(ay g (aV g (g.rs.length+1) st).1 != -1)=false:=by simp[f_]
  clear f_;go_in;go_wp2_with fail;refine(Te g (g.rs.length+1) _ false st ha (by omega)).mono ?_;rintro e w1 ⟨q,rfl,h1,om,aT⟩;simp only[Nv.val,Nv.cells];go_wp2_with fail;have s1:=aT.size;rw[fF]at s1 om;have gP:=h1.nil ((aa.refl af w1).alloc (.cells q.cells 64));have VN:aa g.au w1 (w1.alloc (.cells q.cells 64)):=(aa.refl _ _).alloc _;have jD:=aq.new w1 q.cells 64;refine(nM gP).mono ?_;rintro e w2 ⟨rfl,h2,aO⟩;have hz:=h2;have ML:=aO;obtain⟨wz,Qt⟩:∃wz,wz=w2:=⟨_,rfl⟩
  subst Qt;have kz:aa g.au w1 wz:=VN.trans ML;have BD:=aT.trans kz;have b0:=vy.kept BD (bJ _ (Ab _));have b1:=jD.kept ML (bJ _ (by omega));have sz:=kz.size;obtain⟨e0,e1,e2,e3,e4,e5,e6,e7⟩:=b0.gZ;obtain⟨g0,g1,g2,g3,g4,g5,g6,g7⟩:=b0.nN;obtain⟨d0,d1,d2,d3,d4,d5,d6,d7⟩:=b1.gZ;simp only[bB]at e0 e1 e2 e3 e4 e5 e6 e7;have qC:=om.kept kz (fun i h1 _ hx=>bJ i (by omega) hx) (Ab _);go_wp2_with fail;exact GL (i:=2) hR hz qC (by omega) (by omega) (sP.trans BD) b0 results38 rfl rfl (fun _ _ h=>h)
 ·rw[if_neg f_];have wV:(ay g (aV g (g.rs.length+1) st).1 != -1)=true:=by simp[f_]
  clear f_;go_in;go_wp2_with fail;refine(Te g (g.rs.length+1) _ false st ha (by omega)).mono ?_;rintro e w1 ⟨q,rfl,h1,om,aT⟩;simp only[Nv.val,Nv.cells];go_wp2_with fail;have s1:=aT.size;rw[fF]at s1 om;have gP:=h1.nil ((aa.refl af w1).alloc (.cells q.cells 64));have VN:aa g.au w1 (w1.alloc (.cells q.cells 64)):=(aa.refl _ _).alloc _;have jD:=aq.new w1 q.cells 64;refine(nM gP).mono ?_;rintro e w2 ⟨rfl,h2,aO⟩;go_wp2_with fail;refine(Ni h2).mono ?_;rintro e wz ⟨rfl,hz,sQ⟩;have ML:=aO.trans sQ;have kz:aa g.au w1 wz:=VN.trans ML;have BD:=aT.trans kz;have b0:=vy.kept BD (bJ _ (Ab _));have b1:=jD.kept ML (bJ _ (by omega));have sz:=kz.size;obtain⟨e0,e1,e2,e3,e4,e5,e6,e7⟩:=b0.gZ;obtain⟨g0,g1,g2,g3,g4,g5,g6,g7⟩:=b0.nN;obtain⟨d0,d1,d2,d3,d4,d5,d6,d7⟩:=b1.gZ;simp only[bB]at e0 e1 e2 e3 e4 e5 e6 e7;have qC:=om.kept kz (fun i h1 _ hx=>bJ i (by omega) hx) (Ab _);go_wp2_with fail;exact GL (i:=2) hR hz qC (by omega) (by omega) (sP.trans BD) b0 results38 rfl rfl (fun _ _ h=>h)
theorem anD(ts:List PT)(i:Nat)(h:i<ts.length):PT.lB (ts.take (i+1))=PT.lB (ts.take i)+(ts[i]).size:=by
 induction ts generalizing i with
 |nil=>simp at h
 |cons t ts ih=>
  cases i with
  |zero=>simp[PT.lB]
  |succ i=>
   have:=ih i (by simpa using h);simp only[D2,PT.lB,Ag];omega
theorem Xb(ts:List PT)(h:∀i,(h:i<ts.length)->0<=(ts[i]).size/\(ts[i]).size<=1001):0<=PT.lB ts/\PT.lB ts<=1001*ts.length:=by
 induction ts with
 |nil=>simp[PT.lB]
 |cons t ts ih=>
  have h0:=h 0 (by simp);have h1:=ih (fun i hi=>by have:=h (i+1) (by simp;omega);simpa using this);simp only[PT.lB,Ai,Ax]at*;omega
theorem acO{c s:Int}(hc:0<=c/\c<=100)(hs:0<=s/\s<=1000000):0<=c*s/\c*s<=100000000:=by
 refine⟨Int.mul_nonneg hc.1 hs.1,?_⟩
 calc c*s<=100*s:=D0 hc.2 hs.1
  _<=100000000:=by omega
theorem aan{lo hi:Int}(h1: -1<=lo/\lo<=99)(h2: -1<=hi/\hi<=99):0<=(if hi= -1 then lo+1 else hi)/\(if hi= -1 then lo+1 else hi)<=100:=by split<;>omega
theorem cy.size_range(h:cy w lo hi q T C):0<=T.size/\T.size<=1001:=by
 induction h with
 |mk q tk b bs ts cs V Sp sp fo nt hn hb hc hk cR ou hr oZ ih=>
  have hs:=Xb ts (fun i h=>ih i h (by omega));obtain⟨r1,r2,r3,r4⟩:=hr;have hc:=aan r1 r2;have hm:=acO hc (s:=PT.lB ts+1) (by omega);unfold PT.size;simp only
  have az:tk=3->0<ts.length:=by
   intro e;rcases oZ with h|h|h|h|h|h
   ·omega
   ·omega
   ·omega
   ·omega
   ·exact Bp.2 h.2.2
   ·omega
  refine⟨?_,by omega⟩
  have:0<=(if tk=0\/tk=1 then PT.lB ts+1 else if tk=3 then PT.lB ts+((ts.length:Int)-1)else if tk=4 then(if q.hi= -1 then q.lo+1 else q.hi)*(PT.lB ts+1)else PT.lB ts):=by
   split
   ·omega
   ·split
    ·rename_i e;have:=az e;omega
    ·split
     ·exact hm.1
     ·exact hs.1
  omega
theorem Jz{k:IntKind}{a b:Int}(h:a=b):Ending.returned (.int k a)=.returned (.int k b):=by rw[h]
theorem ag9(q:Nv)(w:World)(hl: -1<=q.lo/\q.lo<=99):
 Calls prog 59 #[Nv.val q] w fun e w'=>e=.returned (.int .i64 (if q.hi= -1 then q.lo+1 else q.hi))/\aa af w w':=by
 simp only[Nv.val,Nv.cells];by_cases hh:q.hi= -1
 ·have hb:(q.hi== -1)=true:=by simp[hh]
  rw[if_pos hh];clear hh;go_in;go_wp2_with fail;go_ret;exact⟨rfl,(aa.refl _ _).alloc _⟩
 ·have hb:(q.hi== -1)=false:=by simp[hh]
  rw[if_neg hh];go_in;go_wp2_with fail;go_ret;exact⟨rfl,(aa.refl _ _).alloc _⟩
theorem anC(h:cy w lo hi q T C)(hle:hi<=w.heap.size):∀w',aa af w w'->
 Calls prog 39 #[Nv.val q] w' fun e pX=>e=.returned (.int .i64 T.size)/\aa af w' pX:=by
 induction h with
 |mk q tk b bs ts cs V Sp sp fo nt hn hb hc hk cR ou hr oZ ih=>
  intro w' hw;obtain⟨k0,pa,pn,pc,sa,sn,sc,ed,gr,l0,h0,lz⟩:=q;simp only[Nv.val,Nv.cells]at hn hb hr oZ⊢;obtain⟨o9,jS,hn3⟩:=hn;subst o9;have IH:Hid (∀i (h:i<ts.length) (w':World),aa af w w'->Calls prog 39 #[Nv.val (V i)] w' fun e pX=>e=.returned (.int .i64 (ts[i]).size)/\aa af w' pX):=fun i h w' hw=>ih i h (by omega) w' hw
  have yz:∀i,(h:i<ts.length)->0<=(ts[i]).size/\(ts[i]).size<=1001:=fun i h=>(hk i h (by omega)).size_range
  have HS:=Xb ts yz;clear ih;obtain⟨r1,r2,r3,r4⟩:=hr;have x0:=aq.new w' #[.int .i64 k0,.slice pa ts.length pc,.slice sa sn sc,.int .i64 ed,.int .i64 gr,.int .i64 l0,.int .i64 h0,.bool lz] 64;clear hk cR ou r4 jS hn3;go_in;go_wp2_with fail;go_loopg [3,9] ts.length (fun kk s i wr=>∃j:Nat,j<=ts.length/\i=.int .i64 j/\s=.int .i64 (PT.lB (ts.take j))/\kk=ts.length-j/\aa af w' wr/\aq wr w'.heap.size #[.int .i64 k0,.slice pa ts.length pc,.slice sa sn sc,.int .i64 ed,.int .i64 gr,.int .i64 l0,.int .i64 h0,.bool lz] 64)
  case atStart=>exact⟨0,Am _,rfl,by simp[PT.lB],rfl,(aa.refl _ _).alloc _,x0⟩
  case round=>
   obtain⟨j,hj,rfl,rfl,rfl,yA,oX⟩:=hrel;have hsj:=Xb (ts.take j) (fun i hi=>by have:=yz i (by simp at hi;omega);simpa using this);have PY:(ts.take j).length<=400:=by simp;omega
   by_cases aw:j<ts.length
   ·obtain⟨rfl,b1,b2⟩:=hb (by intro e;subst e;simp at aw);have IP:=hc j aw;have kk:=hw.trans yA;have bj:∀i,i<8->wr.cell? ⟨b,j*8+i,none⟩=(V j).cells[i]? :=(fun i hi=>(kk.cell (p:=⟨b,j*8+i,none⟩) (by show b<_;omega) (fun hx=>hx)).trans (IP i hi));have q0:wr.cell? ⟨b,j*8,none⟩=some (.int .i64 (V j).k):=bj 0 (by omega)
    have q1:wr.cell? ⟨b,j*8+1,none⟩=some (.slice (V j).pa (V j).pn (V j).pc):=bj 1 (by omega);have q2:wr.cell? ⟨b,j*8+2,none⟩=some (.slice (V j).sa (V j).sn (V j).sc):=bj 2 (by omega);have q3:wr.cell? ⟨b,j*8+3,none⟩=some (.int .i64 (V j).ed):=bj 3 (by omega);have q4:wr.cell? ⟨b,j*8+4,none⟩=some (.int .i64 (V j).gr):=bj 4 (by omega);have q5:wr.cell? ⟨b,j*8+5,none⟩=some (.int .i64 (V j).lo):=bj 5 (by omega);have q6:wr.cell? ⟨b,j*8+6,none⟩=some (.int .i64 (V j).hi):=bj 6 (by omega);have q7:wr.cell? ⟨b,j*8+7,none⟩=some (.bool (V j).lz):=bj 7 (by omega);have IW:=yz j aw;have nS:Hid (PT.lB (ts.take (j+1))=PT.lB (ts.take j)+(ts[j]).size):=anD ts j aw;have IHJ:Hid (∀(w':World),aa af w w'->Calls prog 39 #[.agg #[.int .i64 (V j).k,.slice (V j).pa (V j).pn (V j).pc,.slice (V j).sa (V j).sn (V j).sc,.int .i64 (V j).ed,.int .i64 (V j).gr,.int .i64 (V j).lo,.int .i64 (V j).hi,.bool (V j).lz]] w' fun e pX=>e=.returned (.int .i64 (ts[j]).size)/\aa af w' pX):=IH.out j aw;clear hb hc IP yz bj IH;generalize V j=N at*;go_wp2_with fail;refine(IHJ.out _ (kk.alloc _)).mono ?_;rintro e w2 ⟨rfl,aO⟩;have od:=(oX.alloc (.cells N.cells 64)).kept aO (fun hx=>hx);have kx:=(yA.alloc (.cells N.cells 64)).trans aO;clear q0 q1 q2 q3 q4 q5 q6 q7 aO oX yA;go_wp2_with fail;go_roundg (ts.length-(j+1))
    case measure=>omega
    case rel=>exact⟨j+1,by omega,by go_num,by rw[nS.out],rfl,kx,od⟩
   ·have ej:j=ts.length:=(by omega);subst ej;rw[Cl]at hsj PY⊢;have EM:=aan r1 r2;have hm:=acO EM (s:=PT.lB ts+1) (by omega);have d0:wr.cell? ⟨w'.heap.size,0,none⟩=some (.int .i64 k0):=oX.cell 0;have d1:wr.cell? ⟨w'.heap.size,1,none⟩=some (.slice pa ts.length pc):=oX.cell 1;have d2:wr.cell? ⟨w'.heap.size,2,none⟩=some (.slice sa sn sc):=oX.cell 2;have d3:wr.cell? ⟨w'.heap.size,3,none⟩=some (.int .i64 ed):=oX.cell 3;have d4:wr.cell? ⟨w'.heap.size,4,none⟩=some (.int .i64 gr):=oX.cell 4;have d5:wr.cell? ⟨w'.heap.size,5,none⟩=some (.int .i64 l0):=oX.cell 5;have d6:wr.cell? ⟨w'.heap.size,6,none⟩=some (.int .i64 h0):=oX.cell 6;have d7:wr.cell? ⟨w'.heap.size,7,none⟩=some (.bool lz):=oX.cell 7;clear IH hb hc yz;rcases oZ with⟨rfl,rfl,_⟩|⟨rfl,rfl⟩|⟨rfl,rfl⟩|⟨rfl,rfl⟩|⟨rfl,rfl,az⟩|⟨rfl,rfl⟩
    ·go_wp2_with fail
     all_goals go_ret
     all_goals exact⟨Jz (by unfold PT.size;simp),yA⟩
    ·go_wp2_with fail
     all_goals go_ret
     all_goals exact⟨Jz (by unfold PT.size;simp),yA⟩
    ·go_wp2_with fail
     all_goals go_ret
     all_goals exact⟨Jz (by unfold PT.size;simp),yA⟩
    ·go_wp2_with fail
     all_goals go_ret
     all_goals exact⟨Jz (by unfold PT.size;simp),yA⟩
    ·have xc:0<ts.length:=Bp.2 az;clear az;go_wp2_with fail;all_goals go_ret
     all_goals exact⟨Jz (by unfold PT.size;simp),yA⟩
    ·have yu:=ag9 ⟨5,pa,ts.length,pc,sa,sn,sc,ed,gr,l0,h0,lz⟩ wr r1;simp only[Nv.val,Nv.cells]at yu;generalize ju:(if h0= -1 then l0+1 else h0)=cc at EM hm yu;have J0:Hid ((if h0= -1 then l0+1 else h0)=cc):=ju;clear ju;go_wp2_with fail;refine yu.mono ?_;rintro e w2 ⟨rfl,aO⟩;go_wp2_with fail;all_goals go_ret
     all_goals exact⟨Jz (by unfold PT.size;simp only[J0.out];simp),yA.trans aO⟩
end Go.Proofs.YtpdnofhackjfdaaGreatDoor
