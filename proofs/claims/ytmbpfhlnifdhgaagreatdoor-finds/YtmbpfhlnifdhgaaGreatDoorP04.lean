/- The reader of the program -/
import Derived.Test.YtmbpfhlnifdhgaaGreatDoorP03B
set_option linter.unusedVariables false
set_option linter.unusedSimpArgs false
set_option maxRecDepth 100000
set_option maxHeartbeats 16000000
namespace Go.Proofs.YtmbpfhlnifdhgaaGreatDoor
open Go.Proofs.Tryz
open Go.RowKit Go.Maps
variable {fo:Bool} {s:ByteArray} {C:CT} {F:bu} {c:Int} {ps rs:List Int} {b base hi k lo n pos:Nat} {q:Nv} {o:Obj} {T:PT} {g:RG} {st:RS} {v v' vp vr:Value} {w w' w0 w4:World}
theorem JV(r:Int):ak uz r=(ak Jy r||ak M9 r):=by
 rw[Av];simp[ak,uz,Jy,M9]
theorem agm(hA:Hy g k)(hR:aZ w g fo st)(rX:g.rs.length-st.next<=k):
 Calls prog 99 #[.pointer (some ⟨g.b,0,none⟩)] w fun e w'=>∃q,e=.returned (Nv.val q)/\aZ w' g fo (bD g (aE g k) st).1/\c_ w' w.heap.size w'.heap.size q (bD g (aE g k) st).2 (jL g (dW g k) fo st)/\I g.aN w w':=by
 have hl:=hR.len;have mA:=hR.next
 have km:=hR.aC;have cw:∀i,w.heap.size<=i->¬g.aN i:=fun i hi hx=>by have:=hR.mH hx;omega
 have qN:∀st:RS,-1<=aa g st/\aa g st<=1114111:=hR.JU
 have ha:=hR.nil ((I.refl aq w).alloc (.cells bZ.cells 43));have b0:=ay.new w bZ.cells 43;have ka:I g.aN w (w.alloc (.cells bZ.cells 43)):=(I.refl _ w).alloc _;have s0:(w.alloc (.cells bZ.cells 43)).heap.size=w.heap.size+1:=cR _ _;go_in;go_wp2_with fail;refine(oY ha).mono ?_;rintro e w1 ⟨rfl,h1,aI⟩;have kk:=ka.trans aI;have bp:=b0.kept aI (cw _ (Aa _));clear ha aI;go_wp2_with fail
 cases c1:ak vC (aa g st)
 case' true=>
  have EQ:Hid (bD g (aE g k) st=jr g (aE g k) {st with next:=st.next+1}/\jL g (dW g k) fo st=tO g (dW g k) fo {st with next:=st.next+1}):=⟨by unfold bD;rw[if_pos c1],by unfold jL;rw[if_pos c1]⟩;have ar:=fj c1;refine(iq h1 _ vC (by rfl) (by decide) c1).mono ?_;rintro e w2 ⟨rfl,h2,aG⟩;have kk:=kk.trans aG;have bp:=bp.kept aG (cw _ (Aa _));go_wp2_with fail;have sY:w.heap.size<w2.heap.size:=bp.lt;refine(ag1 hA h2 (by simp;omega) (by simp;omega)).mono ?_
 case' false=>
  refine(gE h1 _ vC (by rfl) (by decide) c1).mono ?_;rintro e w2 ⟨rfl,h2,aG⟩;have kk:=kk.trans aG;have bp:=bp.kept aG (cw _ (Aa _));clear aG;go_wp2_with fail
  cases c2:ak zS (aa g st)
  case' true=>
   have EQ:Hid (bD g (aE g k) st=(iT g {st with next:=st.next+1},gX)/\jL g (dW g k) fo st=Le g fo {st with next:=st.next+1}):=⟨by unfold bD;rw[if_neg (by rw[c1];simp),if_pos c2],by unfold jL;rw[if_neg (by rw[c1];simp),if_pos c2]⟩;have ar:=fj c2;refine(iq h2 _ zS (by rfl) (by decide) c2).mono ?_;rintro e w3 ⟨rfl,h3,aG⟩;have kk:=kk.trans aG;have bp:=bp.kept aG (cw _ (Aa _));go_wp2_with fail;have sY:w.heap.size<w3.heap.size:=bp.lt;refine(aht h3).mono ?_
  case' false=>
   refine(gE h2 _ zS (by rfl) (by decide) c2).mono ?_;rintro e w3 ⟨rfl,h3,aG⟩;have kk:=kk.trans aG;have bp:=bp.kept aG (cw _ (Aa _));clear aG;go_wp2_with fail
   cases c3:ak dC (aa g st)
   case' true=>
    have EQ:Hid (bD g (aE g k) st=(di g oQ {st with next:=st.next+1},gX)/\jL g (dW g k) fo st=mi fo (aa g {st with next:=st.next+1})):=⟨by unfold bD;rw[if_neg (by rw[c1];simp),if_neg (by rw[c2];simp),if_pos c3],by unfold jL;rw[if_neg (by rw[c1];simp),if_neg (by rw[c2];simp),if_pos c3]⟩;have ar:=fj c3;refine(iq h3 _ dC (by rfl) (by decide) c3).mono ?_;rintro e w4 ⟨rfl,h4,aG⟩;have kk:=kk.trans aG;have bp:=bp.kept aG (cw _ (Aa _));go_wp2_with fail;have sY:w.heap.size<w4.heap.size:=bp.lt;refine(ah5 h4).mono ?_
   case' false=>
    refine(gE h3 _ dC (by rfl) (by decide) c3).mono ?_;rintro e w4 ⟨rfl,h4,aG⟩;have kk:=kk.trans aG;have bp:=bp.kept aG (cw _ (Aa _));clear aG;go_wp2_with fail
    cases c4:ak Jy (aa g st)
    case' true=>
     have EQ:Hid (bD g (aE g k) st=({st with next:=st.next+1},gX)/\jL g (dW g k) fo st=kM [(10,10)] fo true):=⟨by unfold bD;rw[if_neg (by rw[c1];simp),if_neg (by rw[c2];simp),if_neg (by rw[c3];simp),if_pos (by rw[JV,c4];simp)],by unfold jL;rw[if_neg (by rw[c1];simp),if_neg (by rw[c2];simp),if_neg (by rw[c3];simp),if_pos (by rw[JV,c4];simp)];unfold Is;rw[if_pos c4]⟩;have ar:=fj c4;refine(iq h4 _ Jy (by rfl) (by decide) c4).mono ?_;rintro e w5 ⟨rfl,h5,aG⟩;have kk:=kk.trans aG;have bp:=bp.kept aG (cw _ (Aa _));go_wp2_with fail;have sY:w.heap.size<w5.heap.size:=bp.lt;have gU:=WN w5 10 10;have bp:=bp.alloc (.cells #[.int .i32 10,.int .i32 10] 181);have kk:=kk.alloc (.cells #[.int .i32 10,.int .i32 10] 181);have sa:=cR w5 (.cells #[.int .i32 10,.int .i32 10] 181);refine(FA (l:=[(10,10)]) (cap:=1) (h5.nil ((I.refl aq w5).alloc (.cells #[.int .i32 10,.int .i32 10] 181))) true gU (eh.one (by omega) (by omega)) (by simp) (by simp) (by omega)).mono ?_
    case' false=>
     refine(gE h4 _ Jy (by rfl) (by decide) c4).mono ?_;rintro e w5 ⟨rfl,h5,aG⟩;have kk:=kk.trans aG;have bp:=bp.kept aG (cw _ (Aa _));clear aG;go_wp2_with fail
     cases c5:ak M9 (aa g st)
     case true=>
      have EQ:Hid (bD g (aE g k) st=({st with next:=st.next+1},gX)/\jL g (dW g k) fo st=sJ (tQ (aa g st))):=⟨by unfold bD;rw[if_neg (by rw[c1];simp),if_neg (by rw[c2];simp),if_neg (by rw[c3];simp),if_pos (by rw[JV,c5];simp)],by unfold jL;rw[if_neg (by rw[c1];simp),if_neg (by rw[c2];simp),if_neg (by rw[c3];simp),if_pos (by rw[JV,c5];simp)];unfold Is;rw[if_neg (by rw[c4];simp)]⟩;have ar:=fj c5;refine(iq h5 _ M9 (by rfl) (by decide) c5).mono ?_;rintro e w6 ⟨rfl,h6,aG⟩;have kk:=kk.trans aG;have bp:=bp.kept aG (cw _ (Aa _));go_wp2_with fail;have sY:w.heap.size<w6.heap.size:=bp.lt;refine(aaR _ _).mono ?_;rintro e wz ⟨rfl,rfl⟩;have rV:=c_.kN wz (w.heap.size+1) wz.heap.size (tQ (aa g st)) (aaQ _);obtain⟨e0,e1,e2,e3,e4,e5,e6,e7⟩:=bp.ib;obtain⟨g0,g1,g2,g3,g4,g5,g6,g7⟩:=bp.o7;simp only[bZ]at e0 e1 e2 e3 e4 e5 e6 e7;have pA:w.heap.size<wz.heap.size:=bp.lt;go_wp2_with fail;have fS:=Np hR h6 rV (by omega) (Aa _) kk;have lN:=AE bp (CJ (tQ (aa g st)));simp only[gq,CJ]at fS lN;refine zY (i:=2) (b:=w.heap.size) (q:=(CJ (tQ (aa g st)))) results99 rfl rfl lN ?_;rw[EQ.out.1,EQ.out.2];exact⟨_,rfl,fS⟩
     case' false=>
      have EQ:Hid (bD g (aE g k) st=(lF g Jz st,gX)/\jL g (dW g k) fo st=kM [(aa g st,aa g st)] fo false):=⟨by unfold bD;rw[if_neg (by rw[c1];simp),if_neg (by rw[c2];simp),if_neg (by rw[c3];simp),if_neg (by rw[JV,c4,c5];simp)],by unfold jL;rw[if_neg (by rw[c1];simp),if_neg (by rw[c2];simp),if_neg (by rw[c3];simp),if_neg (by rw[JV,c4,c5];simp)]⟩;refine(gE h5 _ M9 (by rfl) (by decide) c5).mono ?_;rintro e w6 ⟨rfl,h6,aG⟩;have kk:=kk.trans aG;have bp:=bp.kept aG (cw _ (Aa _));go_wp2_with fail;refine(adh h6 _ Jz (by rfl) (by decide)).mono ?_;rintro e w7 ⟨rfl,h7,aG⟩;have kk:=kk.trans aG;have bp:=bp.kept aG (cw _ (Aa _));go_wp2_with fail;have sY:w.heap.size<w7.heap.size:=bp.lt;have gU:=WN w7 (aa g st) (aa g st);have bp:=bp.alloc (.cells #[.int .i32 (aa g st),.int .i32 (aa g st)] 181);have kk:=kk.alloc (.cells #[.int .i32 (aa g st),.int .i32 (aa g st)] 181);have sa:=cR w7 (.cells #[.int .i32 (aa g st),.int .i32 (aa g st)] 181);refine(FA (l:=[((aa g st),(aa g st))]) (cap:=1) (h7.nil ((I.refl aq w7).alloc (.cells #[.int .i32 (aa g st),.int .i32 (aa g st)] 181))) false gU (eh.one (qN st) (qN st)) (by simp) (by simp) (by omega)).mono ?_
 all_goals
  rintro e wz ⟨q,rfl,hz,rV,ug⟩;have bz:=bp.kept ug (cw _ (Aa _));have kz:=kk.trans ug;obtain⟨e0,e1,e2,e3,e4,e5,e6,e7⟩:=bz.ib;obtain⟨g0,g1,g2,g3,g4,g5,g6,g7⟩:=bz.o7;simp only[bZ]at e0 e1 e2 e3 e4 e5 e6 e7;have pA:w.heap.size<wz.heap.size:=bz.lt;simp only[Nv.val,Nv.cells];go_wp2_with fail;have fS:=Np hR hz rV (by omega) (Aa _) kz;have lN:=AE bz q;simp only[gq]at fS lN;refine zY (i:=2) (b:=w.heap.size) (q:=q) results99 rfl rfl lN ?_;rw[EQ.out.1,EQ.out.2];exact⟨_,rfl,fS⟩
def tG(g:RG)(aw:RS->RS×PT):Prop:=∀st,st.next<=g.rs.length->st.next<=(aw st).1.next/\(aw st).1.next<=g.rs.length
theorem ad1(g:RG)(st:RS)(h:st.next<=g.rs.length):st.next<=(ey g st).1.next/\(ey g st).1.next<=g.rs.length:=by
 unfold ey;split
 ·rename_i hc;have:=fj hc;simp;omega
 ·simp[XD];exact h
theorem Hm(g:RG)(st:RS)(h:st.next<=g.rs.length):st.next<=(aK g st).1.next/\(aK g st).1.next<=g.rs.length:=by
 have h1:=ad1 g st h;have h2:=ad1 g _ h1.2;unfold aK;split
 ·simp only;omega
 ·exact h1
theorem adY(g:RG)(st:RS)(h:st.next<=g.rs.length):st.next<=(cT g st).1.next/\(cT g st).1.next<=g.rs.length:=by
 have h1:=Hm g st h;unfold cT;split
 ·rename_i hc
  have hl:=fj hc;have h2:=Hm g {(aK g st).1 with next:=(aK g st).1.next+1} (by simp;omega)
  have h3:(aK g st).1.next<=(n_ g {(aK g st).1 with next:=(aK g st).1.next+1}).1.next/\(n_ g {(aK g st).1 with next:=(aK g st).1.next+1}).1.next<=g.rs.length:=by
   unfold n_;split
   ·simp;omega
   ·simp only at h2⊢;omega
  have h4:=xo g qU _ h3.2;simp only at h3 h4⊢;omega
 ·have h4:=xo g qU _ h1.2;simp only;omega
theorem NC(g:RG)(a:PT)(st:RS)(h:st.next<=g.rs.length):st.next<=(dU g a st).1.next/\(dU g a st).1.next<=g.rs.length:=by
 have key:∀l,ak l (aa g st)=true->st.next<=(bT g dG {st with next:=st.next+1}).next/\(bT g dG {st with next:=st.next+1}).next<=g.rs.length:=by
  intro l hl;have h1:=fj hl;have:=J0 g dG {st with next:=st.next+1} (by simp;omega);simp only at this;omega
 unfold dU;split
 ·rename_i hc;exact key _ hc
 ·split
  ·rename_i hc;exact key _ hc
  ·split
   ·rename_i hc;exact key _ hc
   ·split
    ·rename_i hc
     have h1:=fj hc;have h2:=adY g {st with next:=st.next+1} (by simp;omega);simp only at h2⊢;split
     ·have:=J0 g dG ((cT g {st with next:=st.next+1}).1.bG 4 (cx g st)) (by rw[Rp];exact h2.2);rw[Rp]at this;omega
     ·have:=J0 g dG (cT g {st with next:=st.next+1}).1 h2.2;omega
    ·exact⟨Aa _,h⟩
theorem JI(g:RG)(aw:RS->RS×PT)(ha:tG g aw)(st:RS)(h:st.next<=g.rs.length):st.next<=(bD g aw st).1.next/\(bD g aw st).1.next<=g.rs.length/\(st.next<g.rs.length->st.next<(bD g aw st).1.next):=by
 unfold bD;split
 ·rename_i hc
  have h1:=fj hc;have h2:=RH g {st with next:=st.next+1} (by simp;omega);have h3:=ha (dy g {st with next:=st.next+1}) h2.2;have h4:=xo g vD _ h3.2;simp only[jr]at*;omega
 ·split
  ·rename_i hc
   have h1:=fj hc;have h2:=alW g {st with next:=st.next+1} (by simp;omega);simp only at h2⊢;omega
  ·split
   ·rename_i hc
    have h1:=fj hc;have h2:=xo g oQ {st with next:=st.next+1} (by simp;omega);simp only at h2⊢;omega
   ·split
    ·rename_i hc
     have h1:=fj hc;simp;omega
    ·exact adi g Jz st h
theorem Xv(g:RG)(aw:RS->RS×PT)(m:Nat)(st:RS)(aA:List PT)(h:aa g st= -1\/ak jQ (aa g st)=true):eA g aw m st aA=(st,aA):=by
 cases m with
 |zero=>rfl
 |succ m=>unfold eA;rw[if_pos h]
theorem RL(g:RG)(aw:RS->RS×PT)(ha:tG g aw):∀(m:Nat) (st:RS) (aA:List PT),st.next<=g.rs.length->st.next<=(eA g aw m st aA).1.next/\(eA g aw m st aA).1.next<=g.rs.length
 |0,st,_,h=>⟨Aa _,h⟩
 |m+1,st,aA,h=>by
  unfold eA;split
  ·exact⟨Aa _,h⟩
  ·have h1:=JI g aw ha st h;have h2:=NC g (bD g aw st).2 _ h1.2.1;have h3:=RL g aw ha m _ (aA++[(dU g (bD g aw st).2 (bD g aw st).1).2]) h2.2;omega
theorem JK(g:RG)(aw:RS->RS×PT)(ha:tG g aw)(st:RS)(h:st.next<=g.rs.length):st.next<=(cU g aw st).1.next/\(cU g aw st).1.next<=g.rs.length:=RL g aw ha _ st [] h
theorem adS(g:RG)(aw:RS->RS×PT)(ha:tG g aw):∀(m:Nat) (st:RS) (aA:List PT),st.next<=g.rs.length->st.next<=(eE g aw m st aA).1.next/\(eE g aw m st aA).1.next<=g.rs.length
 |0,st,_,h=>⟨Aa _,h⟩
 |m+1,st,aA,h=>by
  unfold eE;split
  ·rename_i hc
   have h1:=fj hc;have h2:=JK g aw ha {st with next:=st.next+1} (by simp;omega);have h3:=adS g aw ha m _ (aA++[(cU g aw {st with next:=st.next+1}).2]) h2.2;simp only at h2 h3⊢;omega
  ·exact⟨Aa _,h⟩
theorem xv(g:RG):∀k,tG g (aE g k)
 |0=>fun st h=>⟨Aa _,h⟩
 |k+1=>fun st h=>by
  have ha:=xv g k;have h1:=JK g (aE g k) ha st h;have h2:=adS g (aE g k) ha (g.rs.length+1) _ [(cU g (aE g k) st).2] h1.2;show st.next<=(eE g (aE g k) (g.rs.length+1) (cU g (aE g k) st).1 [(cU g (aE g k) st).2]).1.next/\_
  exact⟨by omega,h2.2⟩
theorem Tryz.acO:(prog.info? 43).map (fun i=>(i.zero,i.size,i.bytes))=some (some (.agg #[.int .i64 0,.slice none 0 0,.slice none 0 0,.int .i64 0,.int .i64 0,.int .i64 0,.int .i64 0,.bool false]),8,96):=by kernel_rfl
theorem WM{w3:World}{wE:Bool}{iL:RS}{qs:List Nv}{aA:List PT}{cs:List CT}{k tk:Int}(hR:aZ w g fo st)(h3:aZ w3 g wE iL)(ps:om w3 (w.heap.size+1) v qs aA cs)(hk:(k=3/\tk=2)\/(k=4/\tk=3/\aA≠ []))(k1:I g.aN w w3):
 ∃pa pc,v=.slice pa aA.length pc/\aZ (gq w3 w.heap.size (jC k pa aA.length pc)) g wE iL/\c_ (gq w3 w.heap.size (jC k pa aA.length pc)) w.heap.size (gq w3 w.heap.size (jC k pa aA.length pc)).heap.size (jC k pa aA.length pc) (.node tk aA 0 0) (.node k [] false false 0 0 0 0 false cs)/\
 I g.aN w (gq w3 w.heap.size (jC k pa aA.length pc)):=by
 obtain⟨pa,pc,rfl,hp⟩:=ps.node k tk hk;have sz:=NJ w3 w.heap.size (jC k pa aA.length pc);have kq:=JN w3 w.heap.size (jC k pa aA.length pc);exact⟨pa,pc,rfl,h3.new hR kq (fun i hi=>by omega),(hp.kept kq (fun i h1 _ he=>by omega) (Aa _)).np (by omega) (by omega),k1.bY kq (fun i hi he=>by omega)⟩
theorem ae1(hA:Hy g k)(hR:aZ w g fo st)(rX:g.rs.length-st.next<=k):
 Calls prog 70 #[.pointer (some ⟨g.b,0,none⟩)] w fun e w'=>∃q,e=.returned (Nv.val q)/\aZ w' g fo (cU g (aE g k) st).1/\c_ w' w.heap.size w'.heap.size q (cU g (aE g k) st).2 (nI g (aE g k) (dW g k) fo st)/\I g.aN w w':=by
 have dA:=hR.len;have mA:=hR.next
 have cw:∀i,w.heap.size<=i->¬g.aN i:=fun i hi hx=>by have:=hR.mH hx;omega
 obtain⟨i0,b_,cE,cI,cH⟩:=A7 Tryz.acO;have ha:=hR.nil ((I.refl aq w).alloc (.cells bZ.cells 43));have sS:=ay.new w bZ.cells 43;have DD:I g.aN w (w.alloc (.cells bZ.cells 43)):=(I.refl _ w).alloc _;have acn:w.heap.size+1<=(w.alloc (.cells bZ.cells 43)).heap.size:=by simp
 have yp:=om.nil (w.alloc (.cells bZ.cells 43)) (w.heap.size+1);unfold cU nI;go_in;go_wp2_with fail;go_loopg [3] (g.rs.length-st.next) (fun kk v wr=>∃ab m aA cs qs,aZ wr g fo ab/\om wr (w.heap.size+1) v qs aA cs/\Hid (eA g (aE g k) m ab aA=eA g (aE g k) (g.rs.length+1) st [])/\Hid (lO g (aE g k) (dW g k) fo m ab cs=lO g (aE g k) (dW g k) fo (g.rs.length+1) st [])/\kk=g.rs.length-ab.next/\kk<m/\st.next<=ab.next/\aA.length<=ab.next/\I g.aN w wr/\w.heap.size+1<=wr.heap.size/\ay wr w.heap.size bZ.cells 43)
 case atStart=>exact⟨st,g.rs.length+1,[],[],[],ha,yp,rfl,rfl,rfl,by omega,Aa _,by simp,DD,acn,sS⟩
 case round=>
  obtain⟨ab,m,aA,cs,qs,hr,t_,HP,yY,rfl,hm,iR,abG,hk,bm,hb⟩:=hrel;clear ha DD sS acn yp;have hle:=hr.next
  by_cases dX:aa g ab= -1
  ·have LU:(aa g ab != -1)=false:=(by simp[dX]);go_wp2_with fail;refine(oY hr).mono ?_;rintro e w3 ⟨rfl,h3,aQ⟩;have HE:Hid (eA g (aE g k) (g.rs.length+1) st []=(ab,aA)):=by show _=_;rw[<-HP.out,Xv g _ m ab aA (Or.inl dX)]
   have HC:Hid (lO g (aE g k) (dW g k) fo (g.rs.length+1) st []=cs):=by show _=_;rw[<-yY.out,aav g _ _ fo m ab cs (Or.inl dX)]
   clear dX HP yY;have NI:=t_.kept aQ (fun i hi=>by have:=hR.mH hi;omega);have b3:=hb.kept aQ (cw _ (Aa _));have kE:=hk.trans aQ;have s3:=aQ.size;obtain⟨nE,c3,lB,fS⟩:=WM (k:=3) (tk:=2) hR h3 NI (Or.inl ⟨rfl,rfl⟩) kE;rw[lB];clear lB t_ hb hk hr;obtain⟨e0,e1,e2,e3,e4,e5,e6,e7⟩:=b3.ib;obtain⟨g0,g1,g2,g3,g4,g5,g6,g7⟩:=b3.o7;simp only[bZ]at e0 e1 e2 e3 e4 e5 e6 e7;have pA:w.heap.size<w3.heap.size:=b3.lt;go_wp2_with fail;have lN:=AE b3 (jC 3 nE aA.length c3);simp only[gq,jC]at fS lN;refine zY (i:=2) (b:=w.heap.size) (q:=jC 3 nE aA.length c3) results70 ?_ ?_ ?_ ?_
   ·rfl
   ·rfl
   ·exact lN
   ·rw[HE.out,HC.out];exact⟨_,rfl,fS⟩
  ·have LU:(aa g ab != -1)=true:=(by simp[dX]);have ar:=gI dX;clear dX
   cases nW:ak jQ (aa g ab)
   ·go_wp2_with fail
    refine(oY hr).mono ?_;rintro e w3 ⟨rfl,h3,aQ⟩;go_wp2_with fail;refine(yJ h3 _ jQ (by rfl) (by decide)).mono ?_;rintro e w4 ⟨rfl,h4,cQ⟩;rw[nW];go_wp2_with fail;refine(agm hA h4 (by omega)).mono ?_;rintro e w5 ⟨q5,rfl,h5,GI,bI⟩;go_wp2_with fail;refine(anc h5 GI (Aa _) bI.size (fun i hi=>h4.mH hi)).mono ?_;rintro e w6 ⟨q,rfl,h6,Mx,bU⟩;have si:=(aQ.trans cQ);have Ho:=t_.kept ((si.trans bI).trans bU) (fun i hi=>by have:=hR.mH hi;omega);have dg:aA.length<=300:=(by omega);simp only[Nv.val,Nv.cells];go_wp2_with (at_builtin;refine Ad _ rfl _ _ 38 rfl (w.heap.size+1) 43 i0 _ 8 96 underlying38 b_ cE cI cH rfl (by decide) _ _ _ rfl (Ho.aN.alloc (.cells q.cells 43)) ⟨w6.heap.size,0,none⟩ 1 1 q.cells.toList rfl rfl ?c1 ?c2 ?c3 ?c4 ?c5 ?_)
    case c1=>exact adA q
    case c2=>exact q.one
    case c3=>unfold maxLen;omega
    case c4=>omega
    case c5=>have:=si.size;have:=bI.size;have:=bU.size;simp;omega
    intro v' w7 bE aX cJ bH;have s34:=si.size;have s5:=bI.size;have s6:=bU.size;have Hn:=t_.kept si (fun i hi=>by have:=hR.mH hi;omega);have se:I aq w6 (w6.alloc (.cells q.cells 43)):=(I.refl _ _).alloc _;have XA:=om.lg (q:=q) Ho Mx (by omega) (fun b hb=>(vI Hn.aN hb).2) (Aa _) se bE aX (by rw[cR];simpa using bH) (by omega);have iS:I (fun i=>u3.ownBlock=some i) w6 w7:=(se.mono (fun _ hx=>hx.elim)).dn aX (fun j hj=>Or.inl hj);have Gp:∀i,u3.ownBlock=some i->w.heap.size+1<=i:=(fun i hi=>(vI Hn.aN hi).1);have h7:=h6.new hR iS (fun i hi=>by have:=Gp i hi;omega)
    have MZ:=(((hk.trans si).trans bI).trans bU).bY iS (fun i hi he=>by have:=Gp i he;omega);have zu:=(hb.kept ((si.trans bI).trans bU) (cw _ (Aa _))).kept iS (fun he=>by have:=Gp _ he;omega);have s7:=iS.size;clear bE aX bH cJ Ho Hn t_ bI bU aQ cQ se iS GI Mx hb;have n1:=JI g (aE g k) (xv g k) ab (by omega);have n2:=NC g (bD g (aE g k) ab).2 _ n1.2.1;have n3:=n1.2.2 ar;go_wp2_with fail;go_roundg (g.rs.length-(dU g (bD g (aE g k) ab).2 (bD g (aE g k) ab).1).1.next)
    case measure=>omega
    case rel=>
     have rO:¬(aa g ab= -1\/ak jQ (aa g ab)=true):=by simp[nW];simpa using LU
     obtain⟨m',rfl⟩:∃m',m=m'+1:=⟨m-1,by omega⟩
     refine⟨_,m',_,_,_,h7,XA,?_,?_,rfl,by omega,by omega,by simp;omega,MZ,by omega,zu⟩
     ·rw[<-HP.out];show eA g (aE g k) m' _ _=eA g (aE g k) (m'+1) ab aA
      rw[show eA g (aE g k) (m'+1) ab aA=if aa g ab= -1\/ak jQ (aa g ab)=true then(ab,aA)else eA g (aE g k) m' (dU g (bD g (aE g k) ab).2 (bD g (aE g k) ab).1).1 (aA++[(dU g (bD g (aE g k) ab).2 (bD g (aE g k) ab).1).2])from rfl,if_neg rO]
     ·rw[<-yY.out];show lO g (aE g k) (dW g k) fo m' _ _=lO g (aE g k) (dW g k) fo (m'+1) ab cs
      rw[show lO g (aE g k) (dW g k) fo (m'+1) ab cs=if aa g ab= -1\/ak jQ (aa g ab)=true then cs else lO g (aE g k) (dW g k) fo m' (dU g (bD g (aE g k) ab).2 (bD g (aE g k) ab).1).1 (cs++[nH g (jL g (dW g k) fo ab) (bD g (aE g k) ab).1])from rfl,if_neg rO]
   ·go_wp2_with fail
    refine(oY hr).mono ?_;rintro e w2 ⟨rfl,h2,aG⟩;go_wp2_with fail;refine(yJ h2 _ jQ (by rfl) (by decide)).mono ?_;rintro e w3 ⟨rfl,h3,Gw⟩;have aQ:=aG.trans Gw;rw[nW];have HE:Hid (eA g (aE g k) (g.rs.length+1) st []=(ab,aA)):=by show _=_;rw[<-HP.out,Xv g _ m ab aA (Or.inr nW)]
    have HC:Hid (lO g (aE g k) (dW g k) fo (g.rs.length+1) st []=cs):=by show _=_;rw[<-yY.out,aav g _ _ fo m ab cs (Or.inr nW)]
    clear HP yY;have NI:=t_.kept aQ (fun i hi=>by have:=hR.mH hi;omega);have b3:=hb.kept aQ (cw _ (Aa _));have kE:=hk.trans aQ;have s3:=aQ.size;obtain⟨nE,c3,lB,fS⟩:=WM (k:=3) (tk:=2) hR h3 NI (Or.inl ⟨rfl,rfl⟩) kE;rw[lB];clear lB t_ hb hk hr;obtain⟨e0,e1,e2,e3,e4,e5,e6,e7⟩:=b3.ib;obtain⟨g0,g1,g2,g3,g4,g5,g6,g7⟩:=b3.o7;simp only[bZ]at e0 e1 e2 e3 e4 e5 e6 e7;have pA:w.heap.size<w3.heap.size:=b3.lt;go_wp2_with fail;have lN:=AE b3 (jC 3 nE aA.length c3);simp only[gq,jC]at fS lN;refine zY (i:=2) (b:=w.heap.size) (q:=jC 3 nE aA.length c3) results70 ?_ ?_ ?_ ?_
    ·rfl
    ·rfl
    ·exact lN
    ·rw[HE.out,HC.out];exact⟨_,rfl,fS⟩
theorem om.one(hp:c_ w lo hi q T C)(d_:base<=lo)(fX:hi<=w.heap.size)(hb:base<=w.heap.size):
 om (w.alloc (.cells q.cells 43)) base (.slice (some ⟨w.heap.size,0,none⟩) 1 1) [q] [T] [C]:=by
 refine⟨⟨rfl,Or.inr ⟨w.heap.size,1,q.cells,rfl,hb,ay.new w _ _,Aa _,by unfold maxLen;omega,rfl,rfl⟩⟩,rfl,rfl,by simp,fun i h1 h2 h3=>?_⟩;have e:i=0:=by simp at h1;omega
 subst e;refine⟨lo,hi,d_,by simp;omega,hp.kept ((I.refl aq w).alloc _) (fun _ _ _ hx=>hx) fX,fun b fg=>?_⟩;simp[Value.ownBlock]at fg;omega
theorem adQ(g:RG)(aw:RS->RS×PT)(m:Nat)(st:RS)(aA:List PT)(h:ak lD (aa g st)=false):eE g aw m st aA=(st,aA):=by
 cases m with
 |zero=>rfl
 |succ m=>unfold eE;rw[if_neg (by simp[h])]
theorem aga(hA:Hy g k):Hy g (k+1):=by
 intro w fo st hR rX;have dA:=hR.len;have mA:=hR.next
 have cw:∀i,w.heap.size<=i->¬g.aN i:=fun i hi hx=>by have:=hR.mH hx;omega
 obtain⟨i0,b_,cE,cI,cH⟩:=A7 Tryz.acO;have abT:=JK g (aE g k) (xv g k) st mA;have ha:=hR.nil ((I.refl aq w).alloc (.cells bZ.cells 43));have sS:=ay.new w bZ.cells 43;have DD:I g.aN w (w.alloc (.cells bZ.cells 43)):=(I.refl _ w).alloc _;show Calls prog 41 #[.pointer (some ⟨g.b,0,none⟩)] w fun e w'=>∃q,e=.returned (Nv.val q)/\aZ w' g fo (eE g (aE g k) (g.rs.length+1) (cU g (aE g k) st).1 [(cU g (aE g k) st).2]).1/\c_ w' w.heap.size w'.heap.size q (.node 3 (eE g (aE g k) (g.rs.length+1) (cU g (aE g k) st).1 [(cU g (aE g k) st).2]).2 0 0) (.node 4 [] false false 0 0 0 0 false (ke g (aE g k) (dW g k) fo (g.rs.length+1) (cU g (aE g k) st).1 [nI g (aE g k) (dW g k) fo st]))/\I g.aN w w'
 go_in
 go_wp2_with fail
 refine(ae1 hA ha (by omega)).mono ?_;rintro e w1 ⟨q1,rfl,h1,rU,aI⟩;simp only[Nv.val,Nv.cells];go_wp2_with fail;have s1:=aI.size;rw[cR]at s1 rU;have yp:=om.one (base:=w.heap.size+1) (q:=q1) rU (Aa _) (Aa _) s1;have wP:=(DD.trans aI).alloc (.cells q1.cells 43);have iP:=(sS.kept aI (cw _ (Aa _))).alloc (.cells q1.cells 43);have jx:=h1.nil ((I.refl aq w1).alloc (.cells q1.cells 43));generalize hS:cU g (aE g k) st=x0 at*;generalize hSC:nI g (aE g k) (dW g k) fo st=y0 at*;go_loopg [3] (g.rs.length-x0.1.next) (fun kk v wr=>∃ab m aA cs qs,aZ wr g fo ab/\om wr (w.heap.size+1) v qs aA cs/\Hid (eE g (aE g k) m ab aA=eE g (aE g k) (g.rs.length+1) x0.1 [x0.2])/\Hid (ke g (aE g k) (dW g k) fo m ab cs=ke g (aE g k) (dW g k) fo (g.rs.length+1) x0.1 [y0])/\kk=g.rs.length-ab.next/\kk<m/\st.next<=ab.next/\aA.length<=ab.next+1/\aA≠ []/\I g.aN w wr/\w.heap.size+1<=wr.heap.size/\ay wr w.heap.size bZ.cells 43)
 case atStart=>exact⟨x0.1,g.rs.length+1,_,_,_,jx,yp,rfl,rfl,rfl,by omega,by omega,by simp,by simp,wP,by simp;omega,iP⟩
 case round=>
  obtain⟨ab,m,aA,cs,qs,hr,t_,HP,yY,rfl,hm,iR,abG,aF,hk,bm,hb⟩:=hrel;have HS:Hid (cU g (aE g k) st=x0):=hS;have H9:Hid (nI g (aE g k) (dW g k) fo st=y0):=hSC;clear ha DD sS yp wP iP jx h1 aI rU hS hSC;have hle:=hr.next
  cases nW:ak lD (aa g ab)
  ·go_wp2_with fail
   refine(gE hr _ lD (by rfl) (by decide) nW).mono ?_;rintro e w3 ⟨rfl,h3,aQ⟩;have HE:Hid (eE g (aE g k) (g.rs.length+1) x0.1 [x0.2]=(ab,aA)):=by show _=_;rw[<-HP.out,adQ g _ m ab aA nW]
   have HCE:Hid (ke g (aE g k) (dW g k) fo (g.rs.length+1) x0.1 [y0]=cs):=by show _=_;rw[<-yY.out,ahc g _ _ fo m ab cs nW]
   clear HP yY;have NI:=t_.kept aQ (fun i hi=>by have:=hR.mH hi;omega);have b3:=hb.kept aQ (cw _ (Aa _));have kE:=hk.trans aQ;have s3:=aQ.size;obtain⟨nE,c3,lB,fS⟩:=WM (k:=4) (tk:=3) hR h3 NI (Or.inr ⟨rfl,rfl,aF⟩) kE;rw[lB];clear lB t_ hb hk hr;obtain⟨e0,e1,e2,e3,e4,e5,e6,e7⟩:=b3.ib;obtain⟨g0,g1,g2,g3,g4,g5,g6,g7⟩:=b3.o7;simp only[bZ]at e0 e1 e2 e3 e4 e5 e6 e7;have pA:w.heap.size<w3.heap.size:=b3.lt;go_wp2_with fail;have lN:=AE b3 (jC 4 nE aA.length c3);simp only[gq,jC]at fS lN;refine zY (i:=2) (b:=w.heap.size) (q:=jC 4 nE aA.length c3) results41 ?_ ?_ ?_ ?_
   ·rfl
   ·rfl
   ·exact lN
   ·rw[HS.out,HE.out,H9.out,HCE.out];exact⟨_,rfl,fS⟩
  ·have ar:=fj nW;have n2:=JK g (aE g k) (xv g k) {ab with next:=ab.next+1} (by simp;omega);go_wp2_with fail;refine(iq hr _ lD (by rfl) (by decide) nW).mono ?_;rintro e w4 ⟨rfl,h4,cQ⟩;go_wp2_with fail;refine(ae1 hA h4 (by simp;omega)).mono ?_;rintro e w6 ⟨q,rfl,h6,Mx,bU⟩;have Ho:=t_.kept (cQ.trans bU) (fun i hi=>by have:=hR.mH hi;omega);have dg:aA.length<=301:=(by omega);simp only[Nv.val,Nv.cells];go_wp2_with (at_builtin;refine Ad _ rfl _ _ 38 rfl (w.heap.size+1) 43 i0 _ 8 96 underlying38 b_ cE cI cH rfl (by decide) _ _ _ rfl (Ho.aN.alloc (.cells q.cells 43)) ⟨w6.heap.size,0,none⟩ 1 1 q.cells.toList rfl rfl ?c1 ?c2 ?c3 ?c4 ?c5 ?_)
   case c1=>exact adA q
   case c2=>exact q.one
   case c3=>unfold maxLen;omega
   case c4=>omega
   case c5=>have:=cQ.size;have:=bU.size;simp;omega
   intro v' w7 bE aX cJ bH;have s34:=cQ.size;have s6:=bU.size;have Hn:=t_.kept cQ (fun i hi=>by have:=hR.mH hi;omega);have se:I aq w6 (w6.alloc (.cells q.cells 43)):=(I.refl _ _).alloc _;have XA:=om.lg (q:=q) Ho Mx (by omega) (fun b hb=>(vI Hn.aN hb).2) (Aa _) se bE aX (by rw[cR];simpa using bH) (by omega);have iS:I (fun i=>u3.ownBlock=some i) w6 w7:=(se.mono (fun _ hx=>hx.elim)).dn aX (fun j hj=>Or.inl hj);have Gp:∀i,u3.ownBlock=some i->w.heap.size+1<=i:=(fun i hi=>(vI Hn.aN hi).1);have h7:=h6.new hR iS (fun i hi=>by have:=Gp i hi;omega)
   have MZ:=((hk.trans cQ).trans bU).bY iS (fun i hi he=>by have:=Gp i he;omega);have zu:=(hb.kept (cQ.trans bU) (cw _ (Aa _))).kept iS (fun he=>by have:=Gp _ he;omega);have s7:=iS.size;clear bE aX bH cJ Ho Hn t_ bU cQ se iS Mx hb;go_wp2_with fail;go_roundg (g.rs.length-(cU g (aE g k) {ab with next:=ab.next+1}).1.next)
   case measure=>omega
   case rel=>
    obtain⟨m',rfl⟩:∃m',m=m'+1:=⟨m-1,by omega⟩
    refine⟨_,m',_,_,_,h7,XA,?_,?_,rfl,by omega,by omega,by simp;omega,by simp,MZ,by omega,zu⟩
    ·rw[<-HP.out];show eE g (aE g k) m' _ _=eE g (aE g k) (m'+1) ab aA
     rw[show eE g (aE g k) (m'+1) ab aA=if ak lD (aa g ab)then eE g (aE g k) m' (cU g (aE g k) {ab with next:=ab.next+1}).1 (aA++[(cU g (aE g k) {ab with next:=ab.next+1}).2])else(ab,aA)from rfl,if_pos nW]
    ·rw[<-yY.out];show ke g (aE g k) (dW g k) fo m' _ _=ke g (aE g k) (dW g k) fo (m'+1) ab cs
     rw[show ke g (aE g k) (dW g k) fo (m'+1) ab cs=if ak lD (aa g ab)then ke g (aE g k) (dW g k) fo m' (cU g (aE g k) {ab with next:=ab.next+1}).1 (cs++[nI g (aE g k) (dW g k) fo {ab with next:=ab.next+1}])else cs from rfl,if_pos nW]
theorem Ty(g:RG):∀k,Hy g k
 |0=>fun w fo st hR h=>absurd h (by omega)
 |k+1=>aga (Ty g k)
theorem apm(hR:aZ w g false st):
 Calls prog 24 #[.pointer (some ⟨g.b,0,none⟩)] w fun e w'=>∃q,e=.returned (Nv.val q)/\aZ w' g false (dw g st).1/\c_ w' w.heap.size w'.heap.size q (dw g st).2 (qD g st)/\I g.aN w w':=by
 have ha:=hR.nil ((I.refl aq w).alloc (.cells bZ.cells 43));have sS:=ay.new w bZ.cells 43;have DD:I g.aN w (w.alloc (.cells bZ.cells 43)):=(I.refl _ w).alloc _;have cw:∀i,w.heap.size<=i->¬g.aN i:=fun i hi hx=>by have:=hR.mH hx;omega
 unfold dw qD;by_cases dX:aa g (aE g (g.rs.length+1) st).1= -1
 ·rw[if_pos dX];have LU:(aa g (aE g (g.rs.length+1) st).1 != -1)=false:=by simp[dX]
  clear dX;go_in;go_wp2_with fail;refine(Ty g (g.rs.length+1) _ false st ha (by omega)).mono ?_;rintro e w1 ⟨q,rfl,h1,rU,aI⟩;simp only[Nv.val,Nv.cells];go_wp2_with fail;have s1:=aI.size;rw[cR]at s1 rU;have jx:=h1.nil ((I.refl aq w1).alloc (.cells q.cells 43));have Ww:I g.aN w1 (w1.alloc (.cells q.cells 43)):=(I.refl _ _).alloc _;have iP:=ay.new w1 q.cells 43;refine(oY jx).mono ?_;rintro e w2 ⟨rfl,h2,aG⟩;have hz:=h2;have M4:=aG;obtain⟨wz,r_⟩:∃wz,wz=w2:=⟨_,rfl⟩
  subst r_;have kz:I g.aN w1 wz:=Ww.trans M4;have nX:=aI.trans kz;have b0:=sS.kept nX (cw _ (Aa _));have b1:=iP.kept M4 (cw _ (by omega));have sz:=kz.size;obtain⟨e0,e1,e2,e3,e4,e5,e6,e7⟩:=b0.ib;obtain⟨g0,g1,g2,g3,g4,g5,g6,g7⟩:=b0.o7;obtain⟨d0,d1,d2,d3,d4,d5,d6,d7⟩:=b1.ib;simp only[bZ]at e0 e1 e2 e3 e4 e5 e6 e7;have rV:=rU.kept kz (fun i h1 _ hx=>cw i (by omega) hx) (Aa _);go_wp2_with fail;exact Hd (i:=2) hR hz rV (by omega) (by omega) (DD.trans nX) b0 results24 rfl rfl (fun _ _ h=>h)
 ·rw[if_neg dX];have LU:(aa g (aE g (g.rs.length+1) st).1 != -1)=true:=by simp[dX]
  clear dX;go_in;go_wp2_with fail;refine(Ty g (g.rs.length+1) _ false st ha (by omega)).mono ?_;rintro e w1 ⟨q,rfl,h1,rU,aI⟩;simp only[Nv.val,Nv.cells];go_wp2_with fail;have s1:=aI.size;rw[cR]at s1 rU;have jx:=h1.nil ((I.refl aq w1).alloc (.cells q.cells 43));have Ww:I g.aN w1 (w1.alloc (.cells q.cells 43)):=(I.refl _ _).alloc _;have iP:=ay.new w1 q.cells 43;refine(oY jx).mono ?_;rintro e w2 ⟨rfl,h2,aG⟩;go_wp2_with fail;refine(NK h2).mono ?_;rintro e wz ⟨rfl,hz,ug⟩;have M4:=aG.trans ug;have kz:I g.aN w1 wz:=Ww.trans M4;have nX:=aI.trans kz;have b0:=sS.kept nX (cw _ (Aa _));have b1:=iP.kept M4 (cw _ (by omega));have sz:=kz.size;obtain⟨e0,e1,e2,e3,e4,e5,e6,e7⟩:=b0.ib;obtain⟨g0,g1,g2,g3,g4,g5,g6,g7⟩:=b0.o7;obtain⟨d0,d1,d2,d3,d4,d5,d6,d7⟩:=b1.ib;simp only[bZ]at e0 e1 e2 e3 e4 e5 e6 e7;have rV:=rU.kept kz (fun i h1 _ hx=>cw i (by omega) hx) (Aa _);go_wp2_with fail;exact Hd (i:=2) hR hz rV (by omega) (by omega) (DD.trans nX) b0 results24 rfl rfl (fun _ _ h=>h)
theorem ae6(ts:List PT)(i:Nat)(h:i<ts.length):PT.iC (ts.take (i+1))=PT.iC (ts.take i)+(ts[i]).size:=by
 induction ts generalizing i with
 |nil=>simp at h
 |cons t ts ih=>
  cases i with
  |zero=>simp[PT.iC]
  |succ i=>
   have:=ih i (by simpa using h);simp only[Dn,PT.iC,Am];omega
theorem JX(ts:List PT)(h:∀i,(h:i<ts.length)->0<=(ts[i]).size/\(ts[i]).size<=1001):0<=PT.iC ts/\PT.iC ts<=1001*ts.length:=by
 induction ts with
 |nil=>simp[PT.iC]
 |cons t ts ih=>
  have h0:=h 0 (by simp);have h1:=ih (fun i hi=>by have:=h (i+1) (by simp;omega);simpa using this);simp only[PT.iC,Ap,A1]at*;omega
theorem Rk{s:Int}(hc:0<=c/\c<=100)(hs:0<=s/\s<=1000000):0<=c*s/\c*s<=100000000:=by
 refine⟨Int.mul_nonneg hc.1 hs.1,?_⟩
 calc c*s<=100*s:=Dk hc.2 hs.1
  _<=100000000:=by omega
theorem Pf{lo hi:Int}(h1: -1<=lo/\lo<=99)(h2: -1<=hi/\hi<=99):0<=(if hi= -1 then lo+1 else hi)/\(if hi= -1 then lo+1 else hi)<=100:=by split<;>omega
theorem c_.size_range(h:c_ w lo hi q T C):0<=T.size/\T.size<=1001:=by
 induction h with
 |mk q tk b bs ts cs V Sp sp fo nt hn hb hc hk ew td hr qh ih=>
  have hs:=JX ts (fun i h=>ih i h (by omega));obtain⟨r1,r2,r3,r4⟩:=hr;have hc:=Pf r1 r2;have hm:=Rk hc (s:=PT.iC ts+1) (by omega);unfold PT.size;simp only
  have aF:tk=3->0<ts.length:=by
   intro e;rcases qh with h|h|h|h|h|h
   ·omega
   ·omega
   ·omega
   ·omega
   ·exact Bu.2 h.2.2
   ·omega
  refine⟨?_,by omega⟩
  have:0<=(if tk=0\/tk=1 then PT.iC ts+1 else if tk=3 then PT.iC ts+((ts.length:Int)-1)else if tk=4 then(if q.hi= -1 then q.lo+1 else q.hi)*(PT.iC ts+1)else PT.iC ts):=by
   split
   ·omega
   ·split
    ·rename_i e;have:=aF e;omega
    ·split
     ·exact hm.1
     ·exact hs.1
  omega
theorem xz{k:IntKind}{a b:Int}(h:a=b):Ending.returned (.int k a)=.returned (.int k b):=by rw[h]
theorem ahH(q:Nv)(w:World)(hl: -1<=q.lo/\q.lo<=99):
 Calls prog 44 #[Nv.val q] w fun e w'=>e=.returned (.int .i64 (if q.hi= -1 then q.lo+1 else q.hi))/\I aq w w':=by
 simp only[Nv.val,Nv.cells];by_cases hh:q.hi= -1
 ·have hb:(q.hi== -1)=true:=by simp[hh]
  rw[if_pos hh];clear hh;go_in;go_wp2_with fail;go_ret;exact⟨rfl,(I.refl _ _).alloc _⟩
 ·have hb:(q.hi== -1)=false:=by simp[hh]
  rw[if_neg hh];go_in;go_wp2_with fail;go_ret;exact⟨rfl,(I.refl _ _).alloc _⟩
theorem anQ(h:c_ w lo hi q T C)(hle:hi<=w.heap.size):∀w',I aq w w'->
 Calls prog 25 #[Nv.val q] w' fun e tF=>e=.returned (.int .i64 T.size)/\I aq w' tF:=by
 induction h with
 |mk q tk b bs ts cs V Sp sp fo nt hn hb hc hk ew td hr qh ih=>
  intro w' hw;obtain⟨k0,pa,pn,pc,sa,sn,sc,ed,gr,l0,h0,lz⟩:=q;simp only[Nv.val,Nv.cells]at hn hb hr qh⊢;obtain⟨kt,sZ,VC⟩:=hn;subst kt;have IH:Hid (∀i (h:i<ts.length) (w':World),I aq w w'->Calls prog 25 #[Nv.val (V i)] w' fun e tF=>e=.returned (.int .i64 (ts[i]).size)/\I aq w' tF):=fun i h w' hw=>ih i h (by omega) w' hw
  have wR:∀i,(h:i<ts.length)->0<=(ts[i]).size/\(ts[i]).size<=1001:=fun i h=>(hk i h (by omega)).size_range
  have HS:=JX ts wR;clear ih;obtain⟨r1,r2,r3,r4⟩:=hr;have x0:=ay.new w' #[.int .i64 k0,.slice pa ts.length pc,.slice sa sn sc,.int .i64 ed,.int .i64 gr,.int .i64 l0,.int .i64 h0,.bool lz] 43;clear hk ew td r4 sZ VC;go_in;go_wp2_with fail;go_loopg [3,9] ts.length (fun kk s i wr=>∃j:Nat,j<=ts.length/\i=.int .i64 j/\s=.int .i64 (PT.iC (ts.take j))/\kk=ts.length-j/\I aq w' wr/\ay wr w'.heap.size #[.int .i64 k0,.slice pa ts.length pc,.slice sa sn sc,.int .i64 ed,.int .i64 gr,.int .i64 l0,.int .i64 h0,.bool lz] 43)
  case atStart=>exact⟨0,Aw _,rfl,by simp[PT.iC],rfl,(I.refl _ _).alloc _,x0⟩
  case round=>
   obtain⟨j,hj,rfl,rfl,rfl,lV,jj⟩:=hrel;have pC:=JX (ts.take j) (fun i hi=>by have:=wR i (by simp at hi;omega);simpa using this);have I8:(ts.take j).length<=400:=by simp;omega
   by_cases ar:j<ts.length
   ·obtain⟨rfl,b1,b2⟩:=hb (by intro e;subst e;simp at ar);have yg:=hc j ar;have kk:=hw.trans lV;have nQ:∀i,i<8->wr.cell? ⟨b,j*8+i,none⟩=(V j).cells[i]? :=(fun i hi=>(kk.cell (p:=⟨b,j*8+i,none⟩) (by show b<_;omega) (fun hx=>hx)).trans (yg i hi));have q0:wr.cell? ⟨b,j*8,none⟩=some (.int .i64 (V j).k):=nQ 0 (by omega)
    have q1:wr.cell? ⟨b,j*8+1,none⟩=some (.slice (V j).pa (V j).pn (V j).pc):=nQ 1 (by omega);have q2:wr.cell? ⟨b,j*8+2,none⟩=some (.slice (V j).sa (V j).sn (V j).sc):=nQ 2 (by omega);have q3:wr.cell? ⟨b,j*8+3,none⟩=some (.int .i64 (V j).ed):=nQ 3 (by omega);have q4:wr.cell? ⟨b,j*8+4,none⟩=some (.int .i64 (V j).gr):=nQ 4 (by omega);have q5:wr.cell? ⟨b,j*8+5,none⟩=some (.int .i64 (V j).lo):=nQ 5 (by omega);have q6:wr.cell? ⟨b,j*8+6,none⟩=some (.int .i64 (V j).hi):=nQ 6 (by omega);have q7:wr.cell? ⟨b,j*8+7,none⟩=some (.bool (V j).lz):=nQ 7 (by omega);have hkj:=wR j ar;have nB:Hid (PT.iC (ts.take (j+1))=PT.iC (ts.take j)+(ts[j]).size):=ae6 ts j ar;have Tl:Hid (∀(w':World),I aq w w'->Calls prog 25 #[.agg #[.int .i64 (V j).k,.slice (V j).pa (V j).pn (V j).pc,.slice (V j).sa (V j).sn (V j).sc,.int .i64 (V j).ed,.int .i64 (V j).gr,.int .i64 (V j).lo,.int .i64 (V j).hi,.bool (V j).lz]] w' fun e tF=>e=.returned (.int .i64 (ts[j]).size)/\I aq w' tF):=IH.out j ar;clear hb hc yg wR nQ IH;generalize V j=N at*;go_wp2_with fail;refine(Tl.out _ (kk.alloc _)).mono ?_;rintro e w2 ⟨rfl,aG⟩;have iW:=(jj.alloc (.cells N.cells 43)).kept aG (fun hx=>hx);have qT:=(lV.alloc (.cells N.cells 43)).trans aG;clear q0 q1 q2 q3 q4 q5 q6 q7 aG jj lV;go_wp2_with fail;go_roundg (ts.length-(j+1))
    case measure=>omega
    case rel=>exact⟨j+1,by omega,by go_num,by rw[nB.out],rfl,qT,iW⟩
   ·have ej:j=ts.length:=(by omega);subst ej;rw[Ce]at pC I8⊢;have wN:=Pf r1 r2;have hm:=Rk wN (s:=PT.iC ts+1) (by omega);have d0:wr.cell? ⟨w'.heap.size,0,none⟩=some (.int .i64 k0):=jj.cell 0;have d1:wr.cell? ⟨w'.heap.size,1,none⟩=some (.slice pa ts.length pc):=jj.cell 1;have d2:wr.cell? ⟨w'.heap.size,2,none⟩=some (.slice sa sn sc):=jj.cell 2;have d3:wr.cell? ⟨w'.heap.size,3,none⟩=some (.int .i64 ed):=jj.cell 3;have d4:wr.cell? ⟨w'.heap.size,4,none⟩=some (.int .i64 gr):=jj.cell 4;have d5:wr.cell? ⟨w'.heap.size,5,none⟩=some (.int .i64 l0):=jj.cell 5;have d6:wr.cell? ⟨w'.heap.size,6,none⟩=some (.int .i64 h0):=jj.cell 6;have d7:wr.cell? ⟨w'.heap.size,7,none⟩=some (.bool lz):=jj.cell 7;clear IH hb hc wR;rcases qh with⟨rfl,rfl,_⟩|⟨rfl,rfl⟩|⟨rfl,rfl⟩|⟨rfl,rfl⟩|⟨rfl,rfl,aF⟩|⟨rfl,rfl⟩
    ·go_wp2_with fail
     all_goals go_ret
     all_goals exact⟨xz (by unfold PT.size;simp),lV⟩
    ·go_wp2_with fail
     all_goals go_ret
     all_goals exact⟨xz (by unfold PT.size;simp),lV⟩
    ·go_wp2_with fail
     all_goals go_ret
     all_goals exact⟨xz (by unfold PT.size;simp),lV⟩
    ·go_wp2_with fail
     all_goals go_ret
     all_goals exact⟨xz (by unfold PT.size;simp),lV⟩
    ·have pB:0<ts.length:=Bu.2 aF;clear aF;go_wp2_with fail;all_goals go_ret
     all_goals exact⟨xz (by unfold PT.size;simp),lV⟩
    ·have Gk:=ahH ⟨5,pa,ts.length,pc,sa,sn,sc,ed,gr,l0,h0,lz⟩ wr r1;simp only[Nv.val,Nv.cells]at Gk;generalize mr:(if h0= -1 then l0+1 else h0)=cc at wN hm Gk;have Kl:Hid ((if h0= -1 then l0+1 else h0)=cc):=mr;clear mr;go_wp2_with fail;refine Gk.mono ?_;rintro e w2 ⟨rfl,aG⟩;go_wp2_with fail;all_goals go_ret
     all_goals exact⟨xz (by unfold PT.size;simp only[Kl.out];simp),lV.trans aG⟩
def dK(s:ByteArray):Nat->Nat->List (Nat×Int)
 |0,_=>[]
 |m+1,pos=>if pos<s.size then(pos,((Utf8.decode s pos).1:Int))::dK s m (pos+(Utf8.decode s pos).2)else []
def qR(s:ByteArray)(p:Nat×Int):Bool:=p.2==65533&& !(Lib.hasPrefix (s.extract p.1 s.size).data.toList [239,191,189])
def tS:bu:=⟨none,none,none,none,none,none⟩
def rJ(s:ByteArray)(l:List (Nat×Int)):bu:=l.foldl (fun F p=>if qR s p then F.bG 2 p.1 else F) tS
theorem Uo(s:ByteArray)(l:List (Nat×Int))(p:Nat×Int):rJ s (l++[p])=if qR s p then(rJ s l).bG 2 p.1 else rJ s l:=by simp[rJ]
theorem Ph(s:ByteArray)(pos:Nat)(h:pos<s.size):1<=(Utf8.decode s pos).2:=by
 by_cases ha:(s[pos]'h).toNat<128
 ·rw[decode_ascii s pos h ha];exact Aa _
 ·exact(decode_high s pos h (by omega)).2
theorem XT(s:ByteArray)(m pos:Nat)(h:¬pos<s.size):dK s m pos=[]:=by
 cases m with
 |zero=>rfl
 |succ m=>unfold dK;rw[if_neg h]
theorem R2(s:ByteArray):∀(m pos:Nat) (p:Nat×Int),p∈dK s m pos->0<=p.2/\p.2<=1114111
 |0,_,p,h=>by simp[dK]at h
 |m+1,pos,p,h=>by
  unfold dK at h;split at h
  ·rcases Bk.1 h with rfl|h
   ·have:=Lib.rune_le s pos;simp only;omega
   ·exact R2 s m _ p h
  ·simp at h
theorem alw{bf:Nat}{D:DataW Unit}(c3:w.cell? ⟨b,3,none⟩=some (.map (some bf)))(hD:w.ownsMap prog 27 (plainElem (H:=Unit) prog 3) bf (Maps.size D) D)(hF:xF D F)(e p:Int)(he:2<=e/\e<=7)(hp:0<=p/\p<=300):
 Calls prog 26 #[.pointer (some ⟨b,0,none⟩),.int .i64 e,.int .i64 p] w fun en w'=>en=.returned (.tuple #[])/\(∃D',w'.ownsMap prog 27 (plainElem (H:=Unit) prog 3) bf (Maps.size D') D'/\xF D' (F.bG e p))/\I (fun i=>i=bf) w w':=by
 have oF:keyOf prog 27 (.int .i64 e)=some (.int .i64 e):=keyOf_int_mk underlying27 (Cy (by omega));have bm:Maps.size D<maxLen:=by rw[hF.size];have:=F.aaA;unfold maxLen;omega
 go_in
 go_wp2_with (first|(at_lookup;refine Bg _ rfl _ _ 80 rfl 27 3 .i64 yx underlying80 underlying3 (yO _) bf _ D rfl hD _ _ rfl oF ?_;intro c qJ zH)|(at_mapUpdate;refine wpList_mapUpdate_own _ rfl _ _ _ 80 rfl 27 3 yx underlying80 _ bf _ _ rfl hD bm _ _ _ rfl rfl oF _ [] (plainElem_int underlying3 (Cy (by omega))) ?_;intro w1 wX Gt))
 ·have dt:has D (.int .i64 e)=false:=by have:(!has D (.int .i64 e))=true:=by assumption
                                        simpa using this
  rw[hF.has]at dt;have hF':=hF.put (hD.tidy yx) e p he dt;go_end0;refine⟨rfl,⟨D.put (.int .i64 e) (.lit (.int .i64 p)),?_,?_⟩,(I.refl _ _).dn (by assumption) (fun k hk=>Or.inl (by cases hk;rfl))⟩
  ·have e1:Maps.size (D.put (.int .i64 e) (.lit (.int .i64 p)))=Maps.size D+1:=(by rw[hF'.size,hF.size,bu.T2 _ _ _ he dt]);rw[e1];assumption
  ·have hn:F.bG e p=F.put e p:=(by simp[bu.bG,dt]);rw[hn];exact hF'
 ·have zI:has D (.int .i64 e)=true:=by have:(!has D (.int .i64 e))=false:=by assumption
                                       simpa using this
  rw[hF.has]at zI;go_end0;refine⟨rfl,⟨D,hD,?_⟩,I.refl _ _⟩;have hn:F.bG e p=F:=by simp[bu.bG,zI]
  rw[hn];exact hF
structure Nr(w w0:World)(s:ByteArray)(vr vp:Value)(rs ps:List Int)(F:bu)(pos:Nat):Prop where
 iter:w.heap[w0.heap.size+1+1+1]? =some (.stringIter s pos)
 ae:ay w (w0.heap.size+1+1) #[vr,vp,.int .i64 0,.map (some w0.heap.size),.bool false,.int .i64 0,.map (some (w0.heap.size+1))] 82
 gC:w.ownsRow (w0.heap.size+4) 21 1 vr rs.length (rs.map (Value.int .i32))
 places:w.ownsRow (w0.heap.size+4) 3 1 vp ps.length (ps.map (Value.int .i64))
 fm:∃D,w.ownsMap prog 27 (plainElem (H:=Unit) prog 3) w0.heap.size (Maps.size D) D/\xF D F
 nm:w.ownsMap prog 9 (plainElem (H:=Unit) prog 3) (w0.heap.size+1) 0 (.map [])
 kept:I aq w0 w
 size:w0.heap.size+4<=w.heap.size
theorem ahZ:xF (.map []) tS:=⟨isMap_empty,fun e=>by simp[Maps.has,bu.get,tS],fun e p h=>by simp[bu.get,tS]at h,rfl⟩
theorem aaZ:Ib (.map []) []:=⟨isMap_empty,fun e=>by simp[Maps.has],fun e p h=>by simp at h,rfl⟩
theorem alm(w:World)(s:ByteArray):Nr ((((w.alloc (.map #[] 0)).alloc (.map #[] 0)).alloc (.cells #[.slice none 0 0,.slice none 0 0,.int .i64 0,.map (some w.heap.size),.bool false,.int .i64 0,.map (some (w.heap.size+1))] 82)).iter s 0) w s (.slice none 0 0) (.slice none 0 0) [] [] tS 0 where
 iter:=by
  have:=World.iter_heap (((w.alloc (.map #[] 0)).alloc (.map #[] 0)).alloc (.cells #[.slice none 0 0,.slice none 0 0,.int .i64 0,.map (some w.heap.size),.bool false,.int .i64 0,.map (some (w.heap.size+1))] 82)) s 0;rw[cR,cR,cR]at this;exact this
 ae:=by
  have:=(ay.new ((w.alloc (.map #[] 0)).alloc (.map #[] 0)) #[.slice none 0 0,.slice none 0 0,.int .i64 0,.map (some w.heap.size),.bool false,.int .i64 0,.map (some (w.heap.size+1))] 82).alloc (.stringIter s 0);rw[cR,cR]at this;exact this
 gC:=At _ _ _ _
 places:=At _ _ _ _
 fm:=⟨.map [],(((World.ownsMap_made w prog 27 _).alloc _).alloc _).alloc _,ahZ⟩
 nm:=by
  have:=((World.ownsMap_made (w.alloc (.map #[] 0)) prog 9 (plainElem (H:=Unit) prog 3)).alloc (.cells #[.slice none 0 0,.slice none 0 0,.int .i64 0,.map (some w.heap.size),.bool false,.int .i64 0,.map (some (w.heap.size+1))] 82)).alloc (.stringIter s 0);rw[cR]at this;exact this
 kept:=((((I.refl _ _).alloc _).alloc _).alloc _).alloc _
 size:=by simp[World.iter]
theorem Nr.aku(h:Nr w w0 s vr vp rs ps F pos)(k:I aq w w'):Nr w' w0 s vr vp rs ps F pos where
 iter:=(k.block _ (by have:=h.size;omega) (fun hx=>hx)).trans h.iter
 ae:=h.ae.kept k (fun hx=>hx)
 gC:=dh h.gC k (fun _ _ hx=>hx)
 places:=dh h.places k (fun _ _ hx=>hx)
 fm:=by obtain⟨D,hD,hF⟩:=h.fm;exact⟨D,qo hD k (fun hx=>hx),hF⟩
 nm:=qo h.nm k (fun hx=>hx)
 kept:=h.kept.trans k
 size:=Bf h.size k.size
theorem I.iterAt{S:Nat->Prop}{a:World}(h:I S a w)(hk:S k\/a.heap.size<=k)(s:ByteArray)(pos:Nat):I S a (w.iterAt k s pos):=
 ⟨h.os,h.tape,h.output,by rw[Et];exact h.size,fun i hi hn=>(Lib.iterAt_other w k i s pos (by
   intro e;subst e;rcases hk with hk|hk
   ·exact hn hk
   ·omega)).trans (h.block i hi hn)⟩
theorem Nr.EJ(h:Nr w w0 s vr vp rs ps F pos)(pos':Nat):Nr (w.iterAt (w0.heap.size+1+1+1) s pos') w0 s vr vp rs ps F pos':=by
 have k:I (fun i=>i=w0.heap.size+1+1+1) w (w.iterAt (w0.heap.size+1+1+1) s pos'):=(I.refl (fun i=>i=w0.heap.size+1+1+1) w).iterAt (k:=w0.heap.size+1+1+1) (Or.inl rfl) s pos'
 exact{
  iter:=Lib.iterAt_heap w _ s pos pos' h.iter
  ae:=h.ae.kept k (by omega)
  gC:=dh h.gC k (fun b hb hx=>by have:=cA h.gC hb;omega)
  places:=dh h.places k (fun b hb hx=>by have:=cA h.places hb;omega)
  fm:=by obtain⟨D,hD,hF⟩:=h.fm;exact⟨D,qo hD k (by omega),hF⟩
  nm:=qo h.nm k (by omega)
  kept:=h.kept.bY k (fun i hi he=>by omega)
  size:=by rw[Et];exact h.size}
theorem Nr.W1{F':bu}(h:Nr w w0 s vr vp rs ps F pos)(k:I (fun i=>i=w0.heap.size) w w')
 (hf:∃D,w'.ownsMap prog 27 (plainElem (H:=Unit) prog 3) w0.heap.size (Maps.size D) D/\xF D F'):Nr w' w0 s vr vp rs ps F' pos where
 iter:=(k.block _ (by have:=h.size;omega) (by omega)).trans h.iter
 ae:=h.ae.kept k (by omega)
 gC:=dh h.gC k (fun b hb hx=>by have:=cA h.gC hb;omega)
 places:=dh h.places k (fun b hb hx=>by have:=cA h.places hb;omega)
 fm:=hf
 nm:=qo h.nm k (by omega)
 kept:=h.kept.bY k (fun i hi he=>by omega)
 size:=Bf h.size k.size
theorem adO{n':Nat}{xs xs':List Value}{e e':TypeId}(he:e≠e')(h:w.ownsRow base e 1 v n xs)(h':w.ownsRow base e' 1 v' n' xs')(hb:v.ownBlock=some b)(fg:v'.ownBlock=some b):False:=by
 rcases h.2 with⟨rfl,_⟩|⟨g,cap,aU,rfl,a1,a2,r⟩
 ·simp[Value.ownBlock]at hb
 ·rcases h'.2 with⟨rfl,_⟩|⟨g',fV,cur',rfl,a1',a2',r'⟩
  ·simp[Value.ownBlock]at fg
  ·simp[Value.ownBlock]at hb fg
   subst hb fg;rw[a2]at a2';simp at a2';exact he a2'.2
theorem Nr.amL(h:Nr w w0 s vr vp rs ps F pos)
 (a8:w4.ownsRow (w0.heap.size+4) 21 1 v' (rs.length+1) (rs.map (Value.int .i32)++[.int .i32 c]))(hg:(w.alloc o).grownBy w4 vr.ownBlock):
 Nr (w4.setCell ⟨w0.heap.size+1+1,0,none⟩ v') w0 s v' vp (rs++[c]) ps F pos:=by
 have k1:I (fun i=>vr.ownBlock=some i) w w4:=((I.refl _ _).alloc o).dn hg (fun j hj=>Or.inl hj);have iR:∀i,vr.ownBlock=some i->w0.heap.size+4<=i:=fun i hi=>(cA h.gC hi).1
 have k2:I (fun i=>i=w0.heap.size+1+1) w4 (w4.setCell ⟨w0.heap.size+1+1,0,none⟩ v'):=(I.refl (fun i=>i=w0.heap.size+1+1) w4).setCell (p:=⟨w0.heap.size+1+1,0,none⟩) (Or.inl rfl) v';have s1:=k1.size;have sz:=h.size
 exact{
  iter:=(k2.block _ (by omega) (by omega)).trans ((k1.block _ (by omega) (fun hx=>by have:=iR _ hx;omega)).trans h.iter)
  ae:=(h.ae.kept k1 (fun hx=>by have:=iR _ hx;omega)).setCell 0 v'
  gC:=by
   have:=dh a8 k2 (fun b hb hx=>by have:=cA a8 hb;omega);simpa using this
  places:=dh (dh h.places k1 (fun b hb hx=>adO (by decide) h.gC h.places hx hb)) k2 (fun b hb hx=>by have:=cA h.places hb;omega)
  fm:=by obtain⟨D,hD,hF⟩:=h.fm;exact⟨D,qo (qo hD k1 (fun hx=>by have:=iR _ hx;omega)) k2 (by omega),hF⟩
  nm:=qo (qo h.nm k1 (fun hx=>by have:=iR _ hx;omega)) k2 (by omega)
  kept:=(h.kept.bY k1 (fun i hi he=>by have:=iR _ he;omega)).bY k2 (fun i hi he=>by omega)
  size:=by have:=k2.size;omega}
theorem Nr.aeG(h:Nr w w0 s vr vp rs ps F pos)
 (a8:w4.ownsRow (w0.heap.size+4) 3 1 v' (ps.length+1) (ps.map (Value.int .i64)++[.int .i64 c]))(hg:(w.alloc o).grownBy w4 vp.ownBlock):
 Nr (w4.setCell ⟨w0.heap.size+1+1,1,none⟩ v') w0 s vr v' rs (ps++[c]) F pos:=by
 have k1:I (fun i=>vp.ownBlock=some i) w w4:=((I.refl _ _).alloc o).dn hg (fun j hj=>Or.inl hj);have iR:∀i,vp.ownBlock=some i->w0.heap.size+4<=i:=fun i hi=>(cA h.places hi).1
 have k2:I (fun i=>i=w0.heap.size+1+1) w4 (w4.setCell ⟨w0.heap.size+1+1,1,none⟩ v'):=(I.refl (fun i=>i=w0.heap.size+1+1) w4).setCell (p:=⟨w0.heap.size+1+1,1,none⟩) (Or.inl rfl) v';have s1:=k1.size;have sz:=h.size
 exact{
  iter:=(k2.block _ (by omega) (by omega)).trans ((k1.block _ (by omega) (fun hx=>by have:=iR _ hx;omega)).trans h.iter)
  ae:=(h.ae.kept k1 (fun hx=>by have:=iR _ hx;omega)).setCell 1 v'
  gC:=dh (dh h.gC k1 (fun b hb hx=>adO (by decide) h.gC h.places hb hx)) k2 (fun b hb hx=>by have:=cA h.gC hb;omega)
  places:=by
   have:=dh a8 k2 (fun b hb hx=>by have:=cA a8 hb;omega);simpa using this
  fm:=by obtain⟨D,hD,hF⟩:=h.fm;exact⟨D,qo (qo hD k1 (fun hx=>by have:=iR _ hx;omega)) k2 (by omega),hF⟩
  nm:=qo (qo h.nm k1 (fun hx=>by have:=iR _ hx;omega)) k2 (by omega)
  kept:=(h.kept.bY k1 (fun i hi he=>by have:=iR _ he;omega)).bY k2 (fun i hi he=>by omega)
  size:=by have:=k2.size;omega}
theorem Tryz.zL:(prog.info? 3).map (fun i=>(i.zero,i.size,i.bytes))=some (some (.int .i64 0),1,8):=by kernel_rfl
theorem Tryz.akf:(prog.info? 21).map (fun i=>(i.zero,i.size,i.bytes))=some (some (.int .i32 0),1,4):=by kernel_rfl
theorem Nr.done(h:Nr w w0 s vr vp rs ps F pos)(hl:ps.length=rs.length+1)(hn:rs.length<=300)(hp:∀p∈ps,0<=p/\p<=300)(QC:∀r∈rs,0<=r/\r<=1114111):
 ∃g:RG,g.b=w0.heap.size+1+1/\g.rs=rs/\g.ps=ps/\aZ w g false {next:=0,au:=F,aC:=0,names:=[]}/\(∀i,g.use i->w0.heap.size<=i):=by
 obtain⟨D,hD,hF⟩:=h.fm;have sz:=h.size
 have cells:∀{e:TypeId} {k:IntKind} {g cap:Nat} {aU:Array Value} {zs:List Int},w.heap[g]? =some (.cells aU e (0,0))->aU.toList.take (zs.length*1)=zs.map (Value.int k)->∀i,i<zs.length->w.cell? ⟨g,i,none⟩=some (.int k (zs.getD i 0)):=by
  intro e k g cap aU zs hc ht i hi;have h1:(zs.map (Value.int k))[i]? =some (.int k (zs.getD i 0)):=by simp[List.getD,Ab hi]
  rw[<-ht,Al (by omega)]at h1;simp only[World.cell?,hc];simpa using h1
 have pr:∀i,0<=ps.getD i 0/\ps.getD i 0<=300:=by
  intro i;by_cases hi:i<ps.length
  ·have:ps.getD i 0=ps[i]:=(by simp[List.getD,Ab hi]);rw[this];exact hp _ (Ay hi)
  ·have:ps.getD i 0=0:=(by simp[List.getD,Bd (by omega:ps.length<=i)]);rw[this];omega
 rcases h.places.2 with⟨rfl,h0⟩|⟨gp,Pe,apI,rfl,p1,p2,p3,p4,p5,p6⟩
 ·omega
 have UL:=(Ah.1 p2).1;rcases h.gC.2 with⟨rfl,h0⟩|⟨gr,oA,curr,rfl,r1,r2,r3,r4,r5,r6⟩
 ·have e:rs=[]:=Az.1 h0;subst e;refine⟨{b:=w0.heap.size+1+1,ao:=none,br:=gp,cr:=0,bp:=gp,cp:=Pe,bf:=w0.heap.size,bn:=w0.heap.size+1,rs:=[],ps:=ps},rfl,rfl,rfl,?_,?_⟩
  ·exact{
    ae:=by have:=h.ae;rw[hl]at this;exact this
    isSome:=fun hx=>by simp at hx
    gC:=fun i hi=>by simp at hi
    places:=fun i hi=>cells (cap:=Pe) p2 p6 i (by rw[hl];exact hi)
    ph:=UL
    pg:=UL
    oc:=pr
    su:=QC
    fm:=⟨D,hD,hF⟩
    nm:=⟨.map [],h.nm,aaZ⟩
    len:=by simp
    oA:=by simp
    next:=by simp
    aC:=by simp
    names:=by simp
    eD:=by refine⟨?_,?_,?_,?_,?_,?_,?_,?_,?_⟩<;>simp only<;>omega}
  ·intro i hi;rcases hi with rfl|rfl|rfl|rfl|rfl<;>(try simp only)<;>omega
 ·have aiL:=(Ah.1 r2).1;refine⟨{b:=w0.heap.size+1+1,ao:=some ⟨gr,0,none⟩,br:=gr,cr:=oA,bp:=gp,cp:=Pe,bf:=w0.heap.size,bn:=w0.heap.size+1,rs:=rs,ps:=ps},rfl,rfl,rfl,?_,?_⟩
  ·exact{
    ae:=by have:=h.ae;rw[hl]at this;exact this
    isSome:=fun _=>rfl
    gC:=fun i hi=>cells (cap:=oA) r2 r6 i hi
    places:=fun i hi=>cells (cap:=Pe) p2 p6 i (by rw[hl];exact hi)
    ph:=aiL
    pg:=UL
    oc:=pr
    su:=QC
    fm:=⟨D,hD,hF⟩
    nm:=⟨.map [],h.nm,aaZ⟩
    len:=hn
    oA:=r3
    next:=by simp
    aC:=by simp
    names:=by simp
    eD:=by refine⟨?_,?_,?_,?_,?_,?_,?_,?_,?_⟩<;>simp only<;>omega}
  ·intro i hi;rcases hi with rfl|rfl|rfl|rfl|rfl<;>(try simp only)<;>omega
theorem alk(s:ByteArray)(w:World)(hs:s.size<=300):
 Calls prog 23 #[.string s] w fun e w'=>∃g:RG,e=.returned (.pointer (some ⟨g.b,0,none⟩))/\g.rs=(dK s (s.size+1) 0).map (·.2)/\g.ps=(dK s (s.size+1) 0).map (fun p=>(p.1:Int))++[(s.size:Int)]/\
  aZ w' g false {next:=0,au:=rJ s (dK s (s.size+1) 0),aC:=0,names:=[]}/\(∀i,g.use i->w.heap.size<=i)/\I aq w w':=by
 have GC:=@run_makeMap prog;obtain⟨ii,hii,hiz,his,fO⟩:=A7 Tryz.zL;obtain⟨ir,hir,hrz,uj,rW⟩:=A7 Tryz.akf;have cS:=alm w s;go_in;go_wp2_with fail;go_loopg [4] s.size (fun kk _ wr=>∃(pos m:Nat) (l:List (Nat×Int)) (rs ps:List Int) (vr vp:Value),Nr wr w s vr vp rs ps (rJ s l) pos/\Hid (rs=l.map (·.2)/\ps=l.map fun p=>(p.1:Int))/\rs.length<=pos/\ps.length<=pos/\Hid (l++dK s m pos=dK s (s.size+1) 0)/\kk=s.size-pos/\kk<m/\rs.length<=s.size/\ps.length<=s.size/\Hid (∀p∈l,p.1<=300))
 case atStart=>exact⟨0,s.size+1,[],[],[],_,_,cS,⟨rfl,rfl⟩,by simp,by simp,rfl,rfl,by omega,by simp,by simp,fun p hp=>by simp at hp⟩
 case round=>
  obtain⟨pos,m,l,rs,ps,vr,vp,hN,Fo,MB,s_,HL,rfl,hm,hr5,GI,HS⟩:=hrel;clear cS;by_cases ar:pos<s.size
  ·have hn:=(fun ty=>Lib.run_next_any_at (P:=prog) wr (w.heap.size+1+1+1) s pos ty hN.iter ar);have hdp:=Ph s pos ar;have PV:=hN.EJ (pos+(Utf8.decode s pos).2);obtain⟨w1,mC⟩:∃w1,w1=wr.iterAt (w.heap.size+1+1+1) s (pos+(Utf8.decode s pos).2):=⟨_,rfl⟩
   rw[<-mC]at PV;have nU:∀ty,(Instr.next (.pointer (some ⟨w.heap.size+1+1+1,0,none⟩)) true ty).run prog wr=.ok (.tuple #[.bool true,.int .i64 pos,.int .i32 (Utf8.decode s pos).1]) w1:=by rw[mC];exact hn
   clear hn mC
   have HC:Hid ((pos,((Utf8.decode s pos).1:Int))::dK s (m-1) (pos+(Utf8.decode s pos).2)=dK s m pos):=by
    show _=_
    obtain⟨m',rfl⟩:∃m',m=m'+1:=⟨m-1,by omega⟩
    rw[show dK s (m'+1) pos=if pos<s.size then(pos,((Utf8.decode s pos).1:Int))::dK s m' (pos+(Utf8.decode s pos).2)else []from rfl,if_pos ar];rfl
   generalize hcv:((Utf8.decode s pos).1:Int)=c at nU HC
   generalize yu:(Utf8.decode s pos).2=wd at hdp PV HC
   clear hcv yu
   cases hc:(c==65533)
   case' false=>
    have EF:Hid (rJ s (l++[(pos,c)])=rJ s l):=by show _=_;rw[Uo];simp[qR,hc]
    have CS:=PV;rename World=>wz
   case' true=>
    go_wp2_with fail
    refine(aiT _ _ _).mono ?_;rintro e w2 ⟨rfl,aG⟩;have x_:=PV.aku aG;have fO:qR s (pos,c)= !(Lib.hasPrefix (s.extract pos s.size).data.toList [239,191,189]):=by simp[qR,hc]
    cases My:Lib.hasPrefix (s.extract pos s.size).data.toList [239,191,189]
    case' true=>
     have EF:Hid (rJ s (l++[(pos,c)])=rJ s l):=by show _=_;rw[Uo,fO,My];simp
     clear My fO;have CS:=x_;rename World=>wz
    case' false=>
     have EF:Hid (rJ s (l++[(pos,c)])=(rJ s l).bG 2 pos):=by show _=_;rw[Uo,fO,My];simp
     clear My fO;go_wp2_with fail;obtain⟨D,hD,hF⟩:=x_.fm;refine(alw (b:=w.heap.size+1+1) (x_.ae.cell 3) hD hF 2 pos (by omega) (by omega)).mono ?_;rintro e w3 ⟨rfl,Qb,aQ⟩;have hN3:=x_.W1 aQ Qb;have CS:=hN3;rename World=>wz
   all_goals
    have c0:wz.cell? ⟨w.heap.size+1+1,0,none⟩=some vr:=CS.ae.cell 0;go_wp2_with (at_builtin;refine Ad _ rfl _ _ 79 rfl (w.heap.size+4) 21 ir _ 1 4 underlying79 hir hrz uj rW rfl (by decide) _ _ _ rfl (CS.gC.alloc _) ⟨wz.heap.size,0,none⟩ 1 1 [.int .i32 c] rfl rfl (by exact Cc _ _ _) (by intro u hu;simp at hu;subst hu;rfl) (by unfold maxLen;omega) (by omega) (by have:=CS.size;simp;omega) ?_);intro v' w4 bE aX cJ bH;have sO:=CS.amL bE aX;have b4:=(CS.ae.kept (((I.refl (fun i=>vr.ownBlock=some i) wz).alloc _).dn aX (fun j hj=>Or.inl hj)) (fun hx=>by have:=(cA CS.gC hx).1;omega));obtain⟨eP,cc4,vA⟩:=dY bE;rw[vA]at sO⊢;clear bE aX cJ bH vA c0;have TR:w4.cell? ⟨w.heap.size+1+1,0,none⟩=some vr:=b4.cell 0;have f40:=b4.frozen 0;have K_:(w4.setCell ⟨w.heap.size+1+1,0,none⟩ (.slice eP (rs.length+1) cc4)).cell? ⟨w.heap.size+1+1,1,none⟩=some vp:=sO.ae.cell 1;go_wp2_with (at_builtin;refine Ad _ rfl _ _ 65 rfl (w.heap.size+4) 3 ii _ 1 8 underlying65 hii hiz his fO rfl (by decide) _ _ _ rfl (sO.places.alloc _) ⟨w4.heap.size,0,none⟩ 1 1 [.int .i64 (pos:Int)] rfl rfl ?c1 ?c2 ?c3 ?c4 ?c5 ?_)
    case c1=>
     have:=Cc (w4.setCell ⟨w.heap.size+1+1,0,none⟩ (.slice eP (rs.length+1) cc4)) (.int .i64 (pos:Int)) 3;simpa[World.setCell]using this
    case c2=>intro u hu;simp at hu;subst hu;rfl
    case c3=>unfold maxLen;omega
    case c4=>omega
    case c5=>have:=sO.size;simp[World.setCell]at this⊢;omega
    intro v5 w5 ym Gu VJ Vx;have IN:=sO.aeG ym Gu;have b5:=(sO.ae.kept (((I.refl (fun i=>vp.ownBlock=some i) _).alloc _).dn Gu (fun j hj=>Or.inl hj)) (fun hx=>by have:=(cA sO.places hx).1;omega));obtain⟨fE,cc5,lC⟩:=dY ym;rw[lC]at IN⊢;clear ym Gu VJ Vx lC TR f40 K_ b4 sO;have La:w5.cell? ⟨w.heap.size+1+1,1,none⟩=some vp:=b5.cell 1;have f51:=b5.frozen 1;go_wp2_with fail;go_roundg (s.size-(pos+wd))
    case measure=>omega
    case rel=>
     refine⟨pos+wd,m-1,l++[(pos,c)],rs++[c],ps++[(pos:Int)],_,_,EF.out.symm▸IN,⟨by rw[Fo.out.1];simp,by rw[Fo.out.2];simp⟩,by simp;omega,by simp;omega,?_,rfl,by omega,by simp;omega,by simp;omega,?_⟩
     ·show _=_
      rw[<-HL.out,<-HC.out];simp
     ·intro p hp;rcases A2.1 hp with hp|hp
      ·exact HS.out p hp
      ·simp at hp;subst hp;simp only;omega
  ·have hn:=(fun ty=>Lib.run_next_end_at (P:=prog) wr (w.heap.size+1+1+1) s pos ty hN.iter ar);have c1:wr.cell? ⟨w.heap.size+1+1,1,none⟩=some vp:=hN.ae.cell 1
   have H6:Hid (l=dK s (s.size+1) 0):=by
    show _=_
    have:=HL.out;rw[XT s m pos ar,C8]at this;exact this
   go_wp2_with (at_builtin;refine Ad _ rfl _ _ 65 rfl (w.heap.size+4) 3 ii _ 1 8 underlying65 hii hiz his fO rfl (by decide) _ _ _ rfl (hN.places.alloc _) ⟨wr.heap.size,0,none⟩ 1 1 [.int .i64 (s.size:Int)] rfl rfl ?c1 ?c2 ?c3 ?c4 ?c5 ?_)
   case c1=>exact Cc _ _ _
   case c2=>intro u hu;simp at hu;subst hu;rfl
   case c3=>unfold maxLen;omega
   case c4=>omega
   case c5=>have:=hN.size;simp;omega
   intro v5 w5 ym Gu VJ Vx;have IN:=hN.aeG ym Gu;have b5:=(hN.ae.kept (((I.refl (fun i=>vp.ownBlock=some i) _).alloc _).dn Gu (fun j hj=>Or.inl hj)) (fun hx=>by have:=(cA hN.places hx).1;omega));obtain⟨fE,cc5,lC⟩:=dY ym;rw[lC]at IN⊢;clear ym Gu VJ Vx lC c1 hn;have La:w5.cell? ⟨w.heap.size+1+1,1,none⟩=some vp:=b5.cell 1;have f51:=b5.frozen 1;go_wp2_with fail;have dA:ps.length=rs.length:=by have:=Fo.out;rw[this.1,this.2];simp
   obtain⟨g,gb,grs,gps,Jl,DS⟩:=IN.done (by simp;omega) (by omega) (fun p hp=>by
    rcases A2.1 hp with hp|hp
    ·rw[Fo.out.2]at hp;obtain⟨x,hx,rfl⟩:=Bh.1 hp;have:=HS.out x hx;omega
    ·simp at hp;subst hp;omega) (fun r hr=>by
     rw[Fo.out.1,H6.out]at hr;obtain⟨x,hx,rfl⟩:=Bh.1 hr;exact R2 s _ _ x hx)
   go_ret
   refine⟨g,by rw[gb];rfl,?_,?_,?_,DS,IN.kept⟩
   ·rw[grs,Fo.out.1,<-H6.out]
   ·rw[gps,Fo.out.2,<-H6.out]
   ·rw[<-H6.out];exact Jl
def pk(b0 b1 b2 b3:Nat)(k1 k2 k3:Bool):Nat×Nat:=
 if b0<0x80 then(b0,1)
 else if b0/32==6&&(k1&&b1/64==2)then
  let c:=(b0 % 32)*64+b1 % 64
  if c>=0x80 then(c,2)else(Utf8.runeError,1)
 else if b0/16==14&&(k1&&b1/64==2)&&(k2&&b2/64==2)then
  let c:=(b0 % 16)*4096+(b1 % 64)*64+b2 % 64
  if c>=0x800&&Utf8.valid c then(c,3)else(Utf8.runeError,1)
 else if b0/8==30&&(k1&&b1/64==2)&&(k2&&b2/64==2)&&(k3&&b3/64==2)then
  let c:=(b0 % 8)*262144+(b1 % 64)*4096+(b2 % 64)*64+b3 % 64
  if c>=0x10000&&Utf8.valid c then(c,4)else(Utf8.runeError,1)
 else(Utf8.runeError,1)
def cd(s:ByteArray)(i:Nat):Nat:=(s.get! i).toNat
theorem T_(s:ByteArray)(i:Nat):Utf8.decode s i=pk (cd s i) (cd s (i+1)) (cd s (i+2)) (cd s (i+3)) (decide (i+1<s.size)) (decide (i+2<s.size)) (decide (i+3<s.size)):=rfl
theorem CB(s:ByteArray)(i:Nat)(h:i<s.size):cd s i=(s[i]).toNat:=by
 unfold cd;have:s.get! i=s[i]:=by simp[ByteArray.get!,getElem!_pos,h];rfl
 rw[this]
theorem OZ(s:ByteArray)(i:Nat):cd s i<256:=(s.get! i).toNat_lt
def uG(b0 b1 b2 b3:Nat)(k1 k2 k3:Bool):Bool:=(pk b0 b1 b2 b3 k1 k2 k3).1 !=65533||(k1&&k2&&b0==239&&b1==191&&b2==189)
theorem ahL(b0 b1 b2 b3:Nat)(k1 k2 k3:Bool)(h:b0<128):pk b0 b1 b2 b3 k1 k2 k3=(b0,1)/\uG b0 b1 b2 b3 k1 k2 k3=true:=by
 have e:pk b0 b1 b2 b3 k1 k2 k3=(b0,1):=by simp[pk,h]
 refine⟨e,?_⟩;unfold uG;rw[e];simp;omega
theorem ahM(b0 b1 b2 b3:Nat)(k2 k3:Bool)(h:194<=b0/\b0<224)(h1:128<=b1/\b1<=191):pk b0 b1 b2 b3 true k2 k3=((b0 % 32)*64+b1 % 64,2)/\uG b0 b1 b2 b3 true k2 k3=true:=by
 have a:¬b0<128:=by omega
 have b:b0/32=6:=by omega
 have c:b1/64=2:=by omega
 have d:128<=(b0 % 32)*64+b1 % 64:=by omega
 have e:pk b0 b1 b2 b3 true k2 k3=((b0 % 32)*64+b1 % 64,2):=by simp[pk,a,b,c,d]
 refine⟨e,?_⟩;unfold uG;rw[e];simp;omega
theorem ahN(b0 b1 b2 b3:Nat)(k3:Bool)(h0:b0<240)(h:224<=b0)(h1:128<=b1/\b1<=191)(h2:128<=b2/\b2<=191)(d_:b0=224->160<=b1)(fX:b0=237->b1<=159):
 pk b0 b1 b2 b3 true true k3=((b0 % 16)*4096+(b1 % 64)*64+b2 % 64,3)/\uG b0 b1 b2 b3 true true k3=true:=by
 have a:¬b0<128:=by omega
 have b:¬b0/32=6:=by omega
 have b':b0/16=14:=by omega
 have c:b1/64=2:=by omega
 have c2:b2/64=2:=by omega
 have d:2048<=(b0 % 16)*4096+(b1 % 64)*64+b2 % 64:=by omega
 have v:Utf8.valid (((b0 % 16)*4096+(b1 % 64)*64+b2 % 64:Nat):Int)=true:=by
  simp only[Utf8.valid,Bo,Bi,B7];omega
 have e:pk b0 b1 b2 b3 true true k3=((b0 % 16)*4096+(b1 % 64)*64+b2 % 64,3):=by
  unfold pk;simp only[a,b',c,c2,if_false,En,E4,if_true];rw[if_neg (by simp[b]),v];simp[d]
 refine⟨e,?_⟩;unfold uG;rw[e];simp only[Eh,ne_eq,Bo,Bi,Ai,D8];omega
theorem ahO(b0 b1 b2 b3:Nat)(h0:b0<245)(h:240<=b0)(h1:128<=b1/\b1<=191)(h2:128<=b2/\b2<=191)(h3:128<=b3/\b3<=191)(d_:b0=240->144<=b1)(fX:b0=244->b1<=143):
 pk b0 b1 b2 b3 true true true=((b0 % 8)*262144+(b1 % 64)*4096+(b2 % 64)*64+b3 % 64,4)/\uG b0 b1 b2 b3 true true true=true:=by
 have a:¬b0<128:=by omega
 have b:¬b0/32=6:=by omega
 have b':¬b0/16=14:=by omega
 have b'':b0/8=30:=by omega
 have c:b1/64=2:=by omega
 have c2:b2/64=2:=by omega
 have c3:b3/64=2:=by omega
 have d:65536<=(b0 % 8)*262144+(b1 % 64)*4096+(b2 % 64)*64+b3 % 64:=by omega
 have v:Utf8.valid (((b0 % 8)*262144+(b1 % 64)*4096+(b2 % 64)*64+b3 % 64:Nat):Int)=true:=by
  simp only[Utf8.valid,Bo,Bi,B7];omega
 have e:pk b0 b1 b2 b3 true true true=((b0 % 8)*262144+(b1 % 64)*4096+(b2 % 64)*64+b3 % 64,4):=by
  unfold pk;simp only[a,b'',c,c2,c3,if_false,En,E4,if_true];rw[if_neg (by simp[b]),if_neg (by simp[b']),v];simp[d]
 refine⟨e,?_⟩;unfold uG;rw[e];simp only[Eh,ne_eq,Bo,Bi,Ai,D8];omega
theorem xV(b0 b1 b2 b3:Nat)(k1 k2 k3:Bool)(h0:128<=b0)(apL:b0<256)(iP:b1<256)(iW:b2<256)(wL:b3<256)
 (h2:194<=b0->b0<224->¬(k1=true/\128<=b1/\b1<=191))
 (h3:224<=b0->b0<240->¬(k1=true/\k2=true/\128<=b1/\b1<=191/\128<=b2/\b2<=191/\(b0=224->160<=b1)/\(b0=237->b1<=159)))
 (h4:240<=b0->b0<245->¬(k1=true/\k2=true/\k3=true/\128<=b1/\b1<=191/\128<=b2/\b2<=191/\128<=b3/\b3<=191/\(b0=240->144<=b1)/\(b0=244->b1<=143))):
 pk b0 b1 b2 b3 k1 k2 k3=(65533,1)/\uG b0 b1 b2 b3 k1 k2 k3=false:=by
 have a:¬b0<128:=by omega
 have e:pk b0 b1 b2 b3 k1 k2 k3=(65533,1):=by
  unfold pk;rw[if_neg a];split
  ·rename_i hc
   simp only[Bi,Ai]at hc;obtain⟨c1,c2,c3⟩:=hc;have:=h2;simp only[c2,true_and]at this;rw[if_neg (by omega)];rfl
  ·split
   ·rename_i hc
    simp only[Bi,Ai]at hc;obtain⟨⟨c1,c2,c3⟩,c4,c5⟩:=hc;have:=h3;simp only[c2,c4,true_and]at this;simp only;rw[if_neg ?_]
    ·rfl
    ·simp only[Utf8.valid,Bo,Bi,B7];omega
   ·split
    ·rename_i hc
     simp only[Bi,Ai]at hc;obtain⟨⟨⟨c1,c2,c3⟩,c4,c5⟩,c6,c7⟩:=hc;have:=h4;simp only[c2,c4,c6,true_and]at this;simp only;rw[if_neg ?_]
     ·rfl
     ·simp only[Utf8.valid,Bo,Bi,B7];omega
    ·rfl
 refine⟨e,?_⟩;unfold uG;rw[e];simp only[bne_self_eq_false,Bool.false_or]
 cases k1
 ·simp
 ·cases k2
  ·simp
  ·simp only[D8,Bool.and_eq_false_iff,Dm,ne_eq];simp only[true_and]at h3;omega
def oS(s:ByteArray)(i:Nat):Bool:=uG (cd s i) (cd s (i+1)) (cd s (i+2)) (cd s (i+3)) (decide (i+1<s.size)) (decide (i+2<s.size)) (decide (i+3<s.size))
theorem wF{Q:Ending->World->Prop}{a:Act}{W:World}{x y z:Int}{ok:Bool}(h4:a.tmps.getD 4 undef=.pointer (some ⟨b,0,none⟩))(h5:a.tmps.getD 5 undef=.bool ok)(hd:a.defers=[])
 (hb:ay W b #[.int .i64 x,.int .i64 y,.int .i64 z] 103)(hQ:Q (.returned (.tuple #[.agg #[.int .i64 x,.int .i64 y,.int .i64 z],.bool ok])) W):bodyPost prog Tryz.f32 Q Exit.ret a W:=by
 have r0:W.cell? ⟨b,0,none⟩=some (.int .i64 x):=hb.cell 0;have r1:W.cell? ⟨b,1,none⟩=some (.int .i64 y):=hb.cell 1;have r2:W.cell? ⟨b,2,none⟩=some (.int .i64 z):=hb.cell 2;have s4:a.tmps[4]?.getD undef=.pointer (some ⟨b,0,none⟩):=by simpa using h4
 have s5:a.tmps[5]?.getD undef=.bool ok:=by simpa using h5
 exact Ct (v:=.tuple #[.agg #[.int .i64 x,.int .i64 y,.int .i64 z],.bool ok]) (by simp[results,results32,go_sem,s4,s5,r0,r1,r2]) hd hQ
theorem aiw(s:ByteArray)(i:Nat)(w:World)(hi:i<s.size)(hs:s.size<=1000)(hc:(s[i]).toNat<128):
 Calls prog 32 #[.string s,.int .i64 i] w fun e w'=>e=.returned (.tuple #[.agg #[.int .i64 (s[i]).toNat,.int .i64 i,.int .i64 1],.bool true])/\I aq w w':=by
 have hn:iA ((s[i]).toNat:Int)=(1,0,0):=by unfold iA;rw[if_pos (by omega)]
 have zx:(i:Int)<(s.size:Int):=by omega
 go_in
 go_wp2_with fail
 refine(xp _ _).mono ?_;rintro e w1 ⟨rfl,rfl⟩;rw[hn];have hw:=mc s[i];clear hn;go_wp2_with fail;exact wF (b:=w.heap.size) rfl rfl rfl (ay.new _ _ _) ⟨rfl,(I.refl _ _).alloc _⟩
theorem aiD(s:ByteArray)(i:Nat)(w:World)(hi:i<s.size)(hs:s.size<=1000)(hn:iA ((s[i]).toNat:Int)=(0,0,0)):
 Calls prog 32 #[.string s,.int .i64 i] w fun e w'=>e=.returned (.tuple #[.agg #[.int .i64 65533,.int .i64 i,.int .i64 1],.bool false])/\I aq w w':=by
 have zx:(i:Int)<(s.size:Int):=by omega
 go_in
 go_wp2_with fail
 refine(xp _ _).mono ?_;rintro e w1 ⟨rfl,rfl⟩;rw[hn];clear hn;go_wp2_with fail;exact wF (b:=w.heap.size) rfl rfl rfl ((ay.new _ _ _).alloc _) ⟨rfl,((I.refl _ _).alloc _).alloc _⟩
theorem UF(s:ByteArray)(i n:Nat)(lo aS:Int)(w:World)(hi:i<s.size)(hs:s.size<=1000)(hn:iA ((s[i]).toNat:Int)=((n:Int),lo,aS))(h2:2<=n)(h4:n<=4)(U8:s.size<i+n):
 Calls prog 32 #[.string s,.int .i64 i] w fun e w'=>e=.returned (.tuple #[.agg #[.int .i64 65533,.int .i64 i,.int .i64 1],.bool false])/\I aq w w':=by
 have zx:(i:Int)<(s.size:Int):=by omega
 have kt:((n:Int)==1)=false:=by simp;omega
 have Qu:((n:Int)==0)=false:=by simp;omega
 have hb:(s.size:Int)<(i:Int)+(n:Int):=by omega
 go_in
 go_wp2_with fail
 refine(xp _ _).mono ?_;rintro e w1 ⟨rfl,rfl⟩;rw[hn];clear hn;go_wp2_with fail;exact wF (b:=w.heap.size) rfl rfl rfl ((ay.new _ _ _).alloc _) ⟨rfl,((I.refl _ _).alloc _).alloc _⟩
theorem UG(s:ByteArray)(i n:Nat)(lo aS:Int)(w:World)(hi:i<s.size)(hs:s.size<=1000)(hn:iA ((s[i]).toNat:Int)=((n:Int),lo,aS))(h2:2<=n)(h4:n<=4)(qf:i+n<=s.size)(d_:((s[i+1]).toNat:Int)<lo\/aS<((s[i+1]).toNat:Int)):
 Calls prog 32 #[.string s,.int .i64 i] w fun e w'=>e=.returned (.tuple #[.agg #[.int .i64 65533,.int .i64 i,.int .i64 1],.bool false])/\I aq w w':=by
 have zx:(i:Int)<(s.size:Int):=by omega
 have ue:i+1<s.size:=by omega
 have kt:((n:Int)==1)=false:=by simp;omega
 have Qu:((n:Int)==0)=false:=by simp;omega
 have hb:(i:Int)+(n:Int)<=(s.size:Int):=by omega
 have I1:(i:Int)+1<(s.size:Int):=by omega
 by_cases hl:((s[i+1]).toNat:Int)<lo
 ·go_in
  go_wp2_with fail
  refine(xp _ _).mono ?_;rintro e w1 ⟨rfl,rfl⟩;rw[hn];clear hn d_;go_wp2_with fail;exact wF (b:=w.heap.size) rfl rfl rfl ((ay.new _ _ _).alloc _) ⟨rfl,((I.refl _ _).alloc _).alloc _⟩
 ·have hh:aS<((s[i+1]).toNat:Int):=by omega
  have uh:lo<=((s[i+1]).toNat:Int):=by omega
  clear hl d_;go_in;go_wp2_with fail;refine(xp _ _).mono ?_;rintro e w1 ⟨rfl,rfl⟩;rw[hn];clear hn;go_wp2_with fail;exact wF (b:=w.heap.size) rfl rfl rfl ((ay.new _ _ _).alloc _) ⟨rfl,((I.refl _ _).alloc _).alloc _⟩
theorem aix(s:ByteArray)(i:Nat)(lo aS:Int)(w:World)(hi:i<s.size)(hs:s.size<=1000)(hn:iA ((s[i]).toNat:Int)=(2,lo,aS))(qf:i+1<s.size)(d_:lo<=((s[i+1]).toNat:Int))(fX:((s[i+1]).toNat:Int)<=aS)(LC:128<=lo)(LD:aS<=191):
 Calls prog 32 #[.string s,.int .i64 i] w fun e w'=>e=.returned (.tuple #[.agg #[.int .i64 (64*(((s[i]).toNat:Int) % 32)+((s[i+1]).toNat:Int) % 64),.int .i64 i,.int .i64 2],.bool true])/\I aq w w':=by
 have zx:(i:Int)<(s.size:Int):=by omega
 have I1:(i:Int)+1<(s.size:Int):=by omega
 have Ma:(i:Int)+2<=(s.size:Int):=by omega
 have hw:=mc s[i];have mC:=mc s[i+1];have t1:im ((s[i+1]).toNat:Int)=true:=by simp[im];omega
 go_in
 go_wp2_with fail
 refine(xp _ _).mono ?_;rintro e w1 ⟨rfl,rfl⟩;rw[hn];clear hn;go_wp2_with fail;go_region;go_wp2_with fail;refine C4 2 ?_;rw[Bp];go_wp2_with fail;refine(uM _ _).mono ?_;rintro e w2 ⟨rfl,rfl⟩;rw[t1];go_wp2_with fail;rw[Bp];go_wp2_with fail;exact wF (b:=w.heap.size) rfl rfl rfl ((ay.new _ _ _).alloc _).drew ⟨rfl,(((I.refl _ _).alloc _).alloc _).drew⟩
theorem aiy(s:ByteArray)(i:Nat)(lo aS:Int)(w:World)(hi:i<s.size)(hs:s.size<=1000)(hn:iA ((s[i]).toNat:Int)=(3,lo,aS))(qf:i+2<s.size)(d_:lo<=((s[i+1]).toNat:Int))(fX:((s[i+1]).toNat:Int)<=aS)(LC:128<=lo)(LD:aS<=191)(t2:im ((s[i+2]).toNat:Int)=true):
 Calls prog 32 #[.string s,.int .i64 i] w fun e w'=>e=.returned (.tuple #[.agg #[.int .i64 (64*(64*(((s[i]).toNat:Int) % 16)+((s[i+1]).toNat:Int) % 64)+((s[i+2]).toNat:Int) % 64),.int .i64 i,.int .i64 3],.bool true])/\I aq w w':=by
 have zx:(i:Int)<(s.size:Int):=by omega
 have I1:(i:Int)+1<(s.size:Int):=by omega
 have Qg:(i:Int)+2<(s.size:Int):=by omega
 have Ma:(i:Int)+3<=(s.size:Int):=by omega
 have hw:=mc s[i];have mC:=mc s[i+1];have pE:=mc s[i+2];have t1:im ((s[i+1]).toNat:Int)=true:=by simp[im];omega
 go_in
 go_wp2_with fail
 refine(xp _ _).mono ?_;rintro e w1 ⟨rfl,rfl⟩;rw[hn];clear hn;go_wp2_with fail;go_region;go_wp2_with fail;refine C4 3 ?_;rw[Bp];go_wp2_with fail;refine(uM _ _).mono ?_;rintro e w2 ⟨rfl,rfl⟩;rw[t1];go_wp2_with fail;rw[Bp];go_wp2_with fail;refine(uM _ _).mono ?_;rintro e w3 ⟨rfl,rfl⟩;rw[t2];go_wp2_with fail;rw[Bp];go_wp2_with fail;exact wF (b:=w.heap.size) rfl rfl rfl ((ay.new _ _ _).alloc _).drew ⟨rfl,(((I.refl _ _).alloc _).alloc _).drew⟩
theorem aiz(s:ByteArray)(i:Nat)(lo aS:Int)(w:World)(hi:i<s.size)(hs:s.size<=1000)(hn:iA ((s[i]).toNat:Int)=(3,lo,aS))(qf:i+2<s.size)(d_:lo<=((s[i+1]).toNat:Int))(fX:((s[i+1]).toNat:Int)<=aS)(LC:128<=lo)(LD:aS<=191)(t2:im ((s[i+2]).toNat:Int)=false):
 Calls prog 32 #[.string s,.int .i64 i] w fun e w'=>e=.returned (.tuple #[.agg #[.int .i64 65533,.int .i64 i,.int .i64 1],.bool false])/\I aq w w':=by
 have zx:(i:Int)<(s.size:Int):=by omega
 have I1:(i:Int)+1<(s.size:Int):=by omega
 have Qg:(i:Int)+2<(s.size:Int):=by omega
 have Ma:(i:Int)+3<=(s.size:Int):=by omega
 have hw:=mc s[i];have mC:=mc s[i+1];have pE:=mc s[i+2];have t1:im ((s[i+1]).toNat:Int)=true:=by simp[im];omega
 go_in
 go_wp2_with fail
 refine(xp _ _).mono ?_;rintro e w1 ⟨rfl,rfl⟩;rw[hn];clear hn;go_wp2_with fail;go_region;go_wp2_with fail;refine C4 3 ?_;rw[Bp];go_wp2_with fail;refine(uM _ _).mono ?_;rintro e w2 ⟨rfl,rfl⟩;rw[t1];go_wp2_with fail;rw[Bp];go_wp2_with fail;refine(uM _ _).mono ?_;rintro e w3 ⟨rfl,rfl⟩;rw[t2];go_wp2_with fail;exact wF (b:=w.heap.size) rfl rfl rfl ((ay.new _ _ _).alloc _).drew ⟨rfl,(((I.refl _ _).alloc _).alloc _).drew⟩
theorem aiA(s:ByteArray)(i:Nat)(lo aS:Int)(w:World)(hi:i<s.size)(hs:s.size<=1000)(hn:iA ((s[i]).toNat:Int)=(4,lo,aS))(qf:i+3<s.size)(d_:lo<=((s[i+1]).toNat:Int))(fX:((s[i+1]).toNat:Int)<=aS)(LC:128<=lo)(LD:aS<=191)(t2:im ((s[i+2]).toNat:Int)=true)(t3:im ((s[i+3]).toNat:Int)=true):
 Calls prog 32 #[.string s,.int .i64 i] w fun e w'=>e=.returned (.tuple #[.agg #[.int .i64 (64*(64*(64*(((s[i]).toNat:Int) % 8)+((s[i+1]).toNat:Int) % 64)+((s[i+2]).toNat:Int) % 64)+((s[i+3]).toNat:Int) % 64),.int .i64 i,.int .i64 4],.bool true])/\I aq w w':=by
 have zx:(i:Int)<(s.size:Int):=by omega
 have I1:(i:Int)+1<(s.size:Int):=by omega
 have Qg:(i:Int)+2<(s.size:Int):=by omega
 have abW:(i:Int)+3<(s.size:Int):=by omega
 have Ma:(i:Int)+4<=(s.size:Int):=by omega
 have hw:=mc s[i];have mC:=mc s[i+1];have pE:=mc s[i+2];have Jp:=mc s[i+3];have t1:im ((s[i+1]).toNat:Int)=true:=by simp[im];omega
 go_in
 go_wp2_with fail
 refine(xp _ _).mono ?_;rintro e w1 ⟨rfl,rfl⟩;rw[hn];clear hn;go_wp2_with fail;go_region;go_wp2_with fail;refine C4 4 ?_;rw[Bp];go_wp2_with fail;refine(uM _ _).mono ?_;rintro e w2 ⟨rfl,rfl⟩;rw[t1];go_wp2_with fail;rw[Bp];go_wp2_with fail;refine(uM _ _).mono ?_;rintro e w3 ⟨rfl,rfl⟩;rw[t2];go_wp2_with fail;rw[Bp];go_wp2_with fail;refine(uM _ _).mono ?_;rintro e w4 ⟨rfl,rfl⟩;rw[t3];go_wp2_with fail;rw[Bp];go_wp2_with fail;exact wF (b:=w.heap.size) rfl rfl rfl ((ay.new _ _ _).alloc _).drew ⟨rfl,(((I.refl _ _).alloc _).alloc _).drew⟩
theorem aiB(s:ByteArray)(i:Nat)(lo aS:Int)(w:World)(hi:i<s.size)(hs:s.size<=1000)(hn:iA ((s[i]).toNat:Int)=(4,lo,aS))(qf:i+3<s.size)(d_:lo<=((s[i+1]).toNat:Int))(fX:((s[i+1]).toNat:Int)<=aS)(LC:128<=lo)(LD:aS<=191)(t2:im ((s[i+2]).toNat:Int)=false):
 Calls prog 32 #[.string s,.int .i64 i] w fun e w'=>e=.returned (.tuple #[.agg #[.int .i64 65533,.int .i64 i,.int .i64 1],.bool false])/\I aq w w':=by
 have zx:(i:Int)<(s.size:Int):=by omega
 have I1:(i:Int)+1<(s.size:Int):=by omega
 have Qg:(i:Int)+2<(s.size:Int):=by omega
 have abW:(i:Int)+3<(s.size:Int):=by omega
 have Ma:(i:Int)+4<=(s.size:Int):=by omega
 have hw:=mc s[i];have mC:=mc s[i+1];have pE:=mc s[i+2];have Jp:=mc s[i+3];have t1:im ((s[i+1]).toNat:Int)=true:=by simp[im];omega
 go_in
 go_wp2_with fail
 refine(xp _ _).mono ?_;rintro e w1 ⟨rfl,rfl⟩;rw[hn];clear hn;go_wp2_with fail;go_region;go_wp2_with fail;refine C4 4 ?_;rw[Bp];go_wp2_with fail;refine(uM _ _).mono ?_;rintro e w2 ⟨rfl,rfl⟩;rw[t1];go_wp2_with fail;rw[Bp];go_wp2_with fail;refine(uM _ _).mono ?_;rintro e w3 ⟨rfl,rfl⟩;rw[t2];go_wp2_with fail;exact wF (b:=w.heap.size) rfl rfl rfl ((ay.new _ _ _).alloc _).drew ⟨rfl,(((I.refl _ _).alloc _).alloc _).drew⟩
theorem aiC(s:ByteArray)(i:Nat)(lo aS:Int)(w:World)(hi:i<s.size)(hs:s.size<=1000)(hn:iA ((s[i]).toNat:Int)=(4,lo,aS))(qf:i+3<s.size)(d_:lo<=((s[i+1]).toNat:Int))(fX:((s[i+1]).toNat:Int)<=aS)(LC:128<=lo)(LD:aS<=191)(t2:im ((s[i+2]).toNat:Int)=true)(t3:im ((s[i+3]).toNat:Int)=false):
 Calls prog 32 #[.string s,.int .i64 i] w fun e w'=>e=.returned (.tuple #[.agg #[.int .i64 65533,.int .i64 i,.int .i64 1],.bool false])/\I aq w w':=by
 have zx:(i:Int)<(s.size:Int):=by omega
 have I1:(i:Int)+1<(s.size:Int):=by omega
 have Qg:(i:Int)+2<(s.size:Int):=by omega
 have abW:(i:Int)+3<(s.size:Int):=by omega
 have Ma:(i:Int)+4<=(s.size:Int):=by omega
 have hw:=mc s[i];have mC:=mc s[i+1];have pE:=mc s[i+2];have Jp:=mc s[i+3];have t1:im ((s[i+1]).toNat:Int)=true:=by simp[im];omega
 go_in
 go_wp2_with fail
 refine(xp _ _).mono ?_;rintro e w1 ⟨rfl,rfl⟩;rw[hn];clear hn;go_wp2_with fail;go_region;go_wp2_with fail;refine C4 4 ?_;rw[Bp];go_wp2_with fail;refine(uM _ _).mono ?_;rintro e w2 ⟨rfl,rfl⟩;rw[t1];go_wp2_with fail;rw[Bp];go_wp2_with fail;refine(uM _ _).mono ?_;rintro e w3 ⟨rfl,rfl⟩;rw[t2];go_wp2_with fail;rw[Bp];go_wp2_with fail;refine(uM _ _).mono ?_;rintro e w4 ⟨rfl,rfl⟩;rw[t3];go_wp2_with fail;exact wF (b:=w.heap.size) rfl rfl rfl ((ay.new _ _ _).alloc _).drew ⟨rfl,(((I.refl _ _).alloc _).alloc _).drew⟩
theorem alf(c:Nat)(h:c<256):(c<128/\iA c=(1,0,0))\/(194<=c/\c<224/\iA c=(2,128,191))\/
 (224<=c/\c<240/\∃lo hi:Int,iA c=(3,lo,hi)/\128<=lo/\hi<=191/\(lo=if c=224 then 160 else 128)/\(hi=if c=237 then 159 else 191))\/
 (240<=c/\c<245/\∃lo hi:Int,iA c=(4,lo,hi)/\128<=lo/\hi<=191/\(lo=if c=240 then 144 else 128)/\(hi=if c=244 then 143 else 191))\/
 (128<=c/\(c<194\/245<=c)/\iA c=(0,0,0)):=by
 by_cases h1:c<128
 ·left;exact⟨h1,by unfold iA;rw[if_pos (by omega)]⟩
 by_cases h2:194<=c/\c<224
 ·right;left;exact⟨h2.1,h2.2,by unfold iA;rw[if_neg (by omega),if_pos (by omega)]⟩
 by_cases h3:224<=c/\c<240
 ·right;right;left
  refine⟨h3.1,h3.2,?_⟩;by_cases e1:c=224
  ·exact⟨160,191,by unfold iA;rw[if_neg (by omega),if_neg (by omega),if_pos (by omega)],by omega,by omega,by simp[e1],by simp[e1]⟩
  by_cases e2:c=237
  ·exact⟨128,159,by unfold iA;rw[if_neg (by omega),if_neg (by omega),if_neg (by omega),if_pos (by omega)],by omega,by omega,by simp[e2],by simp[e2]⟩
  exact⟨128,191,by unfold iA;rw[if_neg (by omega),if_neg (by omega),if_neg (by omega),if_neg (by omega),if_pos (by omega)],by omega,by omega,by simp[e1],by simp[e2]⟩
 by_cases h4:240<=c/\c<245
 ·right;right;right;left
  refine⟨h4.1,h4.2,?_⟩;by_cases e1:c=240
  ·exact⟨144,191,by unfold iA;rw[if_neg (by omega),if_neg (by omega),if_neg (by omega),if_neg (by omega),if_neg (by omega),if_pos (by omega)],by omega,by omega,by simp[e1],by simp[e1]⟩
  by_cases e2:c=244
  ·exact⟨128,143,by unfold iA;rw[if_neg (by omega),if_neg (by omega),if_neg (by omega),if_neg (by omega),if_neg (by omega),if_neg (by omega),if_neg (by omega),if_pos (by omega)],by omega,by omega,by simp[e2],by simp[e2]⟩
  exact⟨128,191,by unfold iA;rw[if_neg (by omega),if_neg (by omega),if_neg (by omega),if_neg (by omega),if_neg (by omega),if_neg (by omega),if_pos (by omega)],by omega,by omega,by simp[e1],by simp[e2]⟩
 right;right;right;right
 exact⟨by omega,by omega,by unfold iA;rw[if_neg (by omega),if_neg (by omega),if_neg (by omega),if_neg (by omega),if_neg (by omega),if_neg (by omega),if_neg (by omega),if_neg (by omega)]⟩
theorem xY(s:ByteArray)(i:Nat)(w:World)(hd:Utf8.decode s i=(65533,1))(ho:oS s i=false)
 (h:Calls prog 32 #[.string s,.int .i64 i] w fun e w'=>e=.returned (.tuple #[.agg #[.int .i64 65533,.int .i64 i,.int .i64 1],.bool false])/\I aq w w'):
 Calls prog 32 #[.string s,.int .i64 i] w fun e w'=>e=.returned (.tuple #[.agg #[.int .i64 (Utf8.decode s i).1,.int .i64 i,.int .i64 (Utf8.decode s i).2],.bool (oS s i)])/\I aq w w':=by
 rw[hd,ho];exact h
theorem Pu(s:ByteArray)(i:Nat)(w:World){r:Int}{m:Int}(hd:((Utf8.decode s i).1:Int)=r)(hd2:(Utf8.decode s i).2=n)(hm:m=n)(ho:oS s i=true)
 (h:Calls prog 32 #[.string s,.int .i64 i] w fun e w'=>e=.returned (.tuple #[.agg #[.int .i64 r,.int .i64 i,.int .i64 m],.bool true])/\I aq w w'):
 Calls prog 32 #[.string s,.int .i64 i] w fun e w'=>e=.returned (.tuple #[.agg #[.int .i64 (Utf8.decode s i).1,.int .i64 i,.int .i64 (Utf8.decode s i).2],.bool (oS s i)])/\I aq w w':=by
 rw[hd,hd2,<-hm,ho];exact h
theorem UH(s:ByteArray)(i:Nat)(w:World)(hi:i<s.size)(hs:s.size<=1000):
 Calls prog 32 #[.string s,.int .i64 i] w fun e w'=>e=.returned (.tuple #[.agg #[.int .i64 (Utf8.decode s i).1,.int .i64 i,.int .i64 (Utf8.decode s i).2],.bool (oS s i)])/\I aq w w':=by
 have e0:=CB s i hi;have l0:=OZ s i;have l1:=OZ s (i+1);have l2:=OZ s (i+2);have l3:=OZ s (i+3);have nR:=T_ s i;have bC:oS s i=uG (cd s i) (cd s (i+1)) (cd s (i+2)) (cd s (i+3)) (decide (i+1<s.size)) (decide (i+2<s.size)) (decide (i+3<s.size)):=rfl;rcases alf (cd s i) l0 with⟨h1,hn⟩|⟨h1,h2,hn⟩|⟨h1,h2,lo,aS,hn,d_,fX,FY,FW⟩|⟨h1,h2,lo,aS,hn,d_,fX,FY,FW⟩|⟨h1,h2,hn⟩
 ·obtain⟨d,o⟩:=ahL (cd s i) (cd s (i+1)) (cd s (i+2)) (cd s (i+3)) (decide (i+1<s.size)) (decide (i+2<s.size)) (decide (i+3<s.size)) h1;rw[<-nR]at d;rw[<-bC]at o;exact Pu s i w (r:=(s[i]).toNat) (n:=1) (by rw[d,e0]) (by rw[d]) rfl o (aiw s i w hi hs (by omega))
 ·rw[e0]at hn;by_cases k1:i+1<s.size
  ·have e1:=CB s (i+1) k1;by_cases hb:128<=cd s (i+1)/\cd s (i+1)<=191
   ·obtain⟨d,o⟩:=ahM (cd s i) (cd s (i+1)) (cd s (i+2)) (cd s (i+3)) (decide (i+2<s.size)) (decide (i+3<s.size)) ⟨h1,h2⟩ hb;rw[show true=decide (i+1<s.size)from by simp[k1]]at d o;rw[<-nR]at d;rw[<-bC]at o;exact Pu s i w (n:=2) (by rw[d];simp only[e0,e1];omega) (by rw[d]) rfl (o.trans (by simp[k1])) (aix s i 128 191 w hi hs hn k1 (by omega) (by omega) (by omega) (by omega))
   ·obtain⟨d,o⟩:=xV (cd s i) (cd s (i+1)) (cd s (i+2)) (cd s (i+3)) (decide (i+1<s.size)) (decide (i+2<s.size)) (decide (i+3<s.size)) (by omega) l0 l1 l2 l3 (fun _ _ h=>hb h.2) (by omega) (by omega);rw[<-nR]at d;rw[<-bC]at o;exact xY s i w d o (UG s i 2 128 191 w hi hs hn (by omega) (by omega) (by omega) (by omega))
  ·obtain⟨d,o⟩:=xV (cd s i) (cd s (i+1)) (cd s (i+2)) (cd s (i+3)) (decide (i+1<s.size)) (decide (i+2<s.size)) (decide (i+3<s.size)) (by omega) l0 l1 l2 l3 (fun _ _ h=>k1 (by simpa using h.1)) (by omega) (by omega);rw[<-nR]at d;rw[<-bC]at o;exact xY s i w d o (UF s i 2 128 191 w hi hs hn (by omega) (by omega) (by omega))
 ·rw[e0]at hn;by_cases k2:i+2<s.size
  ·have k1:i+1<s.size:=(by omega);have e1:=CB s (i+1) k1;have e2:=CB s (i+2) k2;by_cases hb:lo<=((s[i+1]).toNat:Int)/\((s[i+1]).toNat:Int)<=aS
   ·cases t2:im ((s[i+2]).toNat:Int)
    ·have t2':¬(128<=cd s (i+2)/\cd s (i+2)<=191):=by simp[im]at t2;omega
     obtain⟨d,o⟩:=xV (cd s i) (cd s (i+1)) (cd s (i+2)) (cd s (i+3)) (decide (i+1<s.size)) (decide (i+2<s.size)) (decide (i+3<s.size)) (by omega) l0 l1 l2 l3 (by omega) (fun _ _ h=>t2' ⟨h.2.2.2.2.1,h.2.2.2.2.2.1⟩) (by omega);rw[<-nR]at d;rw[<-bC]at o;exact xY s i w d o (aiz s i lo aS w hi hs hn k2 hb.1 hb.2 d_ fX t2)
    ·have t2':128<=cd s (i+2)/\cd s (i+2)<=191:=by simp[im]at t2;omega
     obtain⟨d,o⟩:=ahN (cd s i) (cd s (i+1)) (cd s (i+2)) (cd s (i+3)) (decide (i+3<s.size)) h2 h1 (by omega) t2' (fun e=>by rw[e]at FY;simp at FY;omega) (fun e=>by rw[e]at FW;simp at FW;omega);have hd:Utf8.decode s i=((cd s i % 16)*4096+(cd s (i+1) % 64)*64+cd s (i+2) % 64,3):=by rw[nR,<-d];simp[k1,k2]
     have ho:oS s i=true:=by rw[bC,<-o];simp[k1,k2]
     exact Pu s i w (n:=3) (by rw[hd];simp only[e0,e1,e2];omega) (by rw[hd]) rfl ho (aiy s i lo aS w hi hs hn k2 hb.1 hb.2 d_ fX t2)
   ·obtain⟨d,o⟩:=xV (cd s i) (cd s (i+1)) (cd s (i+2)) (cd s (i+3)) (decide (i+1<s.size)) (decide (i+2<s.size)) (decide (i+3<s.size)) (by omega) l0 l1 l2 l3 (by omega) (fun _ _ h=>by
     obtain⟨_,_,a1,a2,_,_,a3,a4⟩:=h;apply hb;rw[<-e1];refine⟨?_,?_⟩
     ·rw[FY];split
      ·rename_i e;have:=a3 e;omega
      ·omega
     ·rw[FW];split
      ·rename_i e;have:=a4 e;omega
      ·omega) (by omega)
    rw[<-nR]at d;rw[<-bC]at o;exact xY s i w d o (UG s i 3 lo aS w hi hs hn (by omega) (by omega) (by omega) (by omega))
  ·obtain⟨d,o⟩:=xV (cd s i) (cd s (i+1)) (cd s (i+2)) (cd s (i+3)) (decide (i+1<s.size)) (decide (i+2<s.size)) (decide (i+3<s.size)) (by omega) l0 l1 l2 l3 (by omega) (fun _ _ h=>k2 (by simpa using h.2.1)) (by omega);rw[<-nR]at d;rw[<-bC]at o;exact xY s i w d o (UF s i 3 lo aS w hi hs hn (by omega) (by omega) (by omega))
 ·rw[e0]at hn;by_cases k3:i+3<s.size
  ·have k1:i+1<s.size:=(by omega);have k2:i+2<s.size:=(by omega);have e1:=CB s (i+1) k1;have e2:=CB s (i+2) k2;have e3:=CB s (i+3) k3;by_cases hb:lo<=((s[i+1]).toNat:Int)/\((s[i+1]).toNat:Int)<=aS
   ·cases t2:im ((s[i+2]).toNat:Int)
    ·have t2':¬(128<=cd s (i+2)/\cd s (i+2)<=191):=by simp[im]at t2;omega
     obtain⟨d,o⟩:=xV (cd s i) (cd s (i+1)) (cd s (i+2)) (cd s (i+3)) (decide (i+1<s.size)) (decide (i+2<s.size)) (decide (i+3<s.size)) (by omega) l0 l1 l2 l3 (by omega) (by omega) (fun _ _ h=>t2' ⟨h.2.2.2.2.2.1,h.2.2.2.2.2.2.1⟩);rw[<-nR]at d;rw[<-bC]at o;exact xY s i w d o (aiB s i lo aS w hi hs hn k3 hb.1 hb.2 d_ fX t2)
    ·have t2':128<=cd s (i+2)/\cd s (i+2)<=191:=by simp[im]at t2;omega
     cases t3:im ((s[i+3]).toNat:Int)
     ·have X9:¬(128<=cd s (i+3)/\cd s (i+3)<=191):=by simp[im]at t3;omega
      obtain⟨d,o⟩:=xV (cd s i) (cd s (i+1)) (cd s (i+2)) (cd s (i+3)) (decide (i+1<s.size)) (decide (i+2<s.size)) (decide (i+3<s.size)) (by omega) l0 l1 l2 l3 (by omega) (by omega) (fun _ _ h=>X9 ⟨h.2.2.2.2.2.2.2.1,h.2.2.2.2.2.2.2.2.1⟩);rw[<-nR]at d;rw[<-bC]at o;exact xY s i w d o (aiC s i lo aS w hi hs hn k3 hb.1 hb.2 d_ fX t2 t3)
     ·have X9:128<=cd s (i+3)/\cd s (i+3)<=191:=by simp[im]at t3;omega
      obtain⟨d,o⟩:=ahO (cd s i) (cd s (i+1)) (cd s (i+2)) (cd s (i+3)) h2 h1 (by omega) t2' X9 (fun e=>by rw[e]at FY;simp at FY;omega) (fun e=>by rw[e]at FW;simp at FW;omega);have hd:Utf8.decode s i=((cd s i % 8)*262144+(cd s (i+1) % 64)*4096+(cd s (i+2) % 64)*64+cd s (i+3) % 64,4):=by rw[nR,<-d];simp[k1,k2,k3]
      have ho:oS s i=true:=by rw[bC,<-o];simp[k1,k2,k3]
      exact Pu s i w (n:=4) (by rw[hd];simp only[e0,e1,e2,e3];omega) (by rw[hd]) rfl ho (aiA s i lo aS w hi hs hn k3 hb.1 hb.2 d_ fX t2 t3)
   ·obtain⟨d,o⟩:=xV (cd s i) (cd s (i+1)) (cd s (i+2)) (cd s (i+3)) (decide (i+1<s.size)) (decide (i+2<s.size)) (decide (i+3<s.size)) (by omega) l0 l1 l2 l3 (by omega) (by omega) (fun _ _ h=>by
     obtain⟨_,_,_,a1,a2,_,_,_,_,a3,a4⟩:=h;apply hb;rw[<-e1];refine⟨?_,?_⟩
     ·rw[FY];split
      ·rename_i e;have:=a3 e;omega
      ·omega
     ·rw[FW];split
      ·rename_i e;have:=a4 e;omega
      ·omega)
    rw[<-nR]at d;rw[<-bC]at o;exact xY s i w d o (UG s i 4 lo aS w hi hs hn (by omega) (by omega) (by omega) (by omega))
  ·obtain⟨d,o⟩:=xV (cd s i) (cd s (i+1)) (cd s (i+2)) (cd s (i+3)) (decide (i+1<s.size)) (decide (i+2<s.size)) (decide (i+3<s.size)) (by omega) l0 l1 l2 l3 (by omega) (by omega) (fun _ _ h=>k3 (by simpa using h.2.2.1));rw[<-nR]at d;rw[<-bC]at o;exact xY s i w d o (UF s i 4 lo aS w hi hs hn (by omega) (by omega) (by omega))
 ·obtain⟨d,o⟩:=xV (cd s i) (cd s (i+1)) (cd s (i+2)) (cd s (i+3)) (decide (i+1<s.size)) (decide (i+2<s.size)) (decide (i+3<s.size)) (by omega) l0 l1 l2 l3 (by omega) (by omega) (by omega);rw[<-nR]at d;rw[<-bC]at o;rw[e0]at hn;exact xY s i w d o (aiD s i w hi hs hn)
end Go.Proofs.YtmbpfhlnifdhgaaGreatDoor
