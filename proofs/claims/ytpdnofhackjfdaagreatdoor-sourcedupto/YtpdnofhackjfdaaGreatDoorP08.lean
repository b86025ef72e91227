/- The reader of th -/
import Derived.Test.YtpdnofhackjfdaaGreatDoorP07
set_option linter.all false
set_option maxRecDepth 100000
set_option maxHeartbeats 16000000
namespace Go.Proofs.YtpdnofhackjfdaaGreatDoor
open Go.Proofs.Tryz
open Go.RowKit Go.Maps
variable {fo:Bool} {C:CT} {hi k lo:Nat} {q:Nv} {T:PT} {g:RG} {st:RS} {w:World}
theorem Ku(r:Int):aK RY r=(aK Kc r||aK Ob r):=by
 rw[Bi];simp[aK,RY,Kc,Ob]
theorem agD(hA:IP g k)(hR:aV w g fo st)(WQ:g.rs.length-st.next<=k):
 Calls prog 109 #[BT g.b 0] w fun e w'=>∃q,e=.returned (Nv.val q)/\aV w' g fo (dE g (aY g k) st).1/\cJ w' w.heap.size w'.heap.size q (dE g (aY g k) st).2 (ko g (dR g k) fo st)/\aa g.ay w w':=by
 have hl:=hR.len;have l7:=hR.next
 have dM:=hR.aT;have bQ:∀i,w.heap.size<=i->¬g.ay i:=fun i hi hx=>by have:=hR.ic hx;omega
 have xP:∀st:RS,-1<=aC g st/\aC g st<=1114111:=hR.Ks
 have ha:=hR.nil ((aa.refl ai w).alloc (.cells bG.cells 64));have b0:=au.new w bG.cells 64;have ka:aa g.ay w (w.alloc (.cells bG.cells 64)):=(aa.refl _ w).alloc _;have s0:(w.alloc (.cells bG.cells 64)).heap.size=w.heap.size+1:=fP _ _;go_in;go_wp2_with fail;refine(nY ha).mono ?_;rintro e w1 ⟨rfl,h1,aU⟩;have kk:=ka.trans aU;have bp:=b0.kept aU (bQ _ (Ab _));clear ha aU;go_wp2_with fail
 cases c1:aK Ke (aC g st)
 case' true=>
  have EQ:Hid (dE g (aY g k) st=wM g (aY g k) {st with next:=st.next+1}/\ko g (dR g k) fo st=sV g (dR g k) fo {st with next:=st.next+1}):=⟨by unfold dE;rw[if_pos c1],by unfold ko;rw[if_pos c1]⟩;have az:=j8 c1;refine(jz h1 _ Ke (by rfl) (by decide) c1).mono ?_;rintro e w2 ⟨rfl,h2,aS⟩;have kk:=kk.trans aS;have bp:=bp.kept aS (bQ _ (Ab _));go_wp2_with fail;have sh:w.heap.size<w2.heap.size:=bp.lt;refine(ag8 hA h2 (by simp;omega) (by simp;omega)).mono ?_
 case' false=>
  refine(jf h1 _ Ke (by rfl) (by decide) c1).mono ?_;rintro e w2 ⟨rfl,h2,aS⟩;have kk:=kk.trans aS;have bp:=bp.kept aS (bQ _ (Ab _));clear aS;go_wp2_with fail
  cases c2:aK N9 (aC g st)
  case' true=>
   have EQ:Hid (dE g (aY g k) st=(sD g {st with next:=st.next+1},np)/\ko g (dR g k) fo st=Me g fo {st with next:=st.next+1}):=⟨by unfold dE;rw[if_neg (by rw[c1];simp),if_pos c2],by unfold ko;rw[if_neg (by rw[c1];simp),if_pos c2]⟩;have az:=j8 c2;refine(jz h2 _ N9 (by rfl) (by decide) c2).mono ?_;rintro e w3 ⟨rfl,h3,aS⟩;have kk:=kk.trans aS;have bp:=bp.kept aS (bQ _ (Ab _));go_wp2_with fail;have sh:w.heap.size<w3.heap.size:=bp.lt;refine(ahE h3).mono ?_
  case' false=>
   refine(jf h2 _ N9 (by rfl) (by decide) c2).mono ?_;rintro e w3 ⟨rfl,h3,aS⟩;have kk:=kk.trans aS;have bp:=bp.kept aS (bQ _ (Ab _));clear aS;go_wp2_with fail
   cases c3:aK gA (aC g st)
   case' true=>
    have EQ:Hid (dE g (aY g k) st=(eY g rq {st with next:=st.next+1},np)/\ko g (dR g k) fo st=ox fo (aC g {st with next:=st.next+1})):=⟨by unfold dE;rw[if_neg (by rw[c1];simp),if_neg (by rw[c2];simp),if_pos c3],by unfold ko;rw[if_neg (by rw[c1];simp),if_neg (by rw[c2];simp),if_pos c3]⟩;have az:=j8 c3;refine(jz h3 _ gA (by rfl) (by decide) c3).mono ?_;rintro e w4 ⟨rfl,h4,aS⟩;have kk:=kk.trans aS;have bp:=bp.kept aS (bQ _ (Ab _));go_wp2_with fail;have sh:w.heap.size<w4.heap.size:=bp.lt;refine(aim h4).mono ?_
   case' false=>
    refine(jf h3 _ gA (by rfl) (by decide) c3).mono ?_;rintro e w4 ⟨rfl,h4,aS⟩;have kk:=kk.trans aS;have bp:=bp.kept aS (bQ _ (Ab _));clear aS;go_wp2_with fail
    cases c4:aK Kc (aC g st)
    case' true=>
     have EQ:Hid (dE g (aY g k) st=({st with next:=st.next+1},np)/\ko g (dR g k) fo st=mx [(10,10)] fo true):=⟨by unfold dE;rw[if_neg (by rw[c1];simp),if_neg (by rw[c2];simp),if_neg (by rw[c3];simp),if_pos (by rw[Ku,c4];simp)],by unfold ko;rw[if_neg (by rw[c1];simp),if_neg (by rw[c2];simp),if_neg (by rw[c3];simp),if_pos (by rw[Ku,c4];simp)];unfold Ji;rw[if_pos c4]⟩;have az:=j8 c4;refine(jz h4 _ Kc (by rfl) (by decide) c4).mono ?_;rintro e w5 ⟨rfl,h5,aS⟩;have kk:=kk.trans aS;have bp:=bp.kept aS (bQ _ (Ab _));go_wp2_with fail;have sh:w.heap.size<w5.heap.size:=bp.lt;have fC:=XC w5 10 10;have bp:=bp.alloc (.cells #[.int .i32 10,.int .i32 10] 219);have kk:=kk.alloc (.cells #[.int .i32 10,.int .i32 10] 219);have sa:=fP w5 (.cells #[.int .i32 10,.int .i32 10] 219);refine(FX (l:=[(10,10)]) (cap:=1) (h5.nil ((aa.refl ai w5).alloc (.cells #[.int .i32 10,.int .i32 10] 219))) true fC (dH.one (by omega) (by omega)) (by simp) (by simp) (by omega)).mono ?_
    case' false=>
     refine(jf h4 _ Kc (by rfl) (by decide) c4).mono ?_;rintro e w5 ⟨rfl,h5,aS⟩;have kk:=kk.trans aS;have bp:=bp.kept aS (bQ _ (Ab _));clear aS;go_wp2_with fail
     cases c5:aK Ob (aC g st)
     case true=>
      have EQ:Hid (dE g (aY g k) st=({st with next:=st.next+1},np)/\ko g (dR g k) fo st=vH (sY (aC g st))):=⟨by unfold dE;rw[if_neg (by rw[c1];simp),if_neg (by rw[c2];simp),if_neg (by rw[c3];simp),if_pos (by rw[Ku,c5];simp)],by unfold ko;rw[if_neg (by rw[c1];simp),if_neg (by rw[c2];simp),if_neg (by rw[c3];simp),if_pos (by rw[Ku,c5];simp)];unfold Ji;rw[if_neg (by rw[c4];simp)]⟩;have az:=j8 c5;refine(jz h5 _ Ob (by rfl) (by decide) c5).mono ?_;rintro e w6 ⟨rfl,h6,aS⟩;have kk:=kk.trans aS;have bp:=bp.kept aS (bQ _ (Ab _));go_wp2_with fail;have sh:w.heap.size<w6.heap.size:=bp.lt;refine(abf _ _).mono ?_;rintro e wz ⟨rfl,rfl⟩;have qX:=cJ.eM wz (w.heap.size+1) wz.heap.size (sY (aC g st)) (abe _);obtain⟨e0,e1,e2,e3,e4,e5,e6,e7⟩:=bp.iq;obtain⟨g0,g1,g2,g3,g4,g5,g6,g7⟩:=bp.nZ;simp only[bG]at e0 e1 e2 e3 e4 e5 e6 e7;have qh:w.heap.size<wz.heap.size:=bp.lt;go_wp2_with fail;have gw:=Om hR h6 qX (by omega) (Ab _) kk;have lD:=wN bp (A_ (sY (aC g st)));simp only[gy,A_]at gw lD;refine wJ (i:=2) (b:=w.heap.size) (q:=(A_ (sY (aC g st)))) results109 rfl rfl lD ?_;rw[EQ.o.1,EQ.o.2];exact⟨_,rfl,gw⟩
     case' false=>
      have EQ:Hid (dE g (aY g k) st=(qp g RX st,np)/\ko g (dR g k) fo st=mx [(aC g st,aC g st)] fo false):=⟨by unfold dE;rw[if_neg (by rw[c1];simp),if_neg (by rw[c2];simp),if_neg (by rw[c3];simp),if_neg (by rw[Ku,c4,c5];simp)],by unfold ko;rw[if_neg (by rw[c1];simp),if_neg (by rw[c2];simp),if_neg (by rw[c3];simp),if_neg (by rw[Ku,c4,c5];simp)]⟩;refine(jf h5 _ Ob (by rfl) (by decide) c5).mono ?_;rintro e w6 ⟨rfl,h6,aS⟩;have kk:=kk.trans aS;have bp:=bp.kept aS (bQ _ (Ab _));go_wp2_with fail;refine(adD h6 _ RX (by rfl) (by decide)).mono ?_;rintro e w7 ⟨rfl,h7,aS⟩;have kk:=kk.trans aS;have bp:=bp.kept aS (bQ _ (Ab _));go_wp2_with fail;have sh:w.heap.size<w7.heap.size:=bp.lt;have fC:=XC w7 (aC g st) (aC g st);have bp:=bp.alloc (.cells #[.int .i32 (aC g st),.int .i32 (aC g st)] 219);have kk:=kk.alloc (.cells #[.int .i32 (aC g st),.int .i32 (aC g st)] 219);have sa:=fP w7 (.cells #[.int .i32 (aC g st),.int .i32 (aC g st)] 219);refine(FX (l:=[((aC g st),(aC g st))]) (cap:=1) (h7.nil ((aa.refl ai w7).alloc (.cells #[.int .i32 (aC g st),.int .i32 (aC g st)] 219))) false fC (dH.one (xP st) (xP st)) (by simp) (by simp) (by omega)).mono ?_
 all_goals
  rintro e wz ⟨q,rfl,hz,qX,tj⟩;have bz:=bp.kept tj (bQ _ (Ab _));have kz:=kk.trans tj;obtain⟨e0,e1,e2,e3,e4,e5,e6,e7⟩:=bz.iq;obtain⟨g0,g1,g2,g3,g4,g5,g6,g7⟩:=bz.nZ;simp only[bG]at e0 e1 e2 e3 e4 e5 e6 e7;have qh:w.heap.size<wz.heap.size:=bz.lt;simp only[Nv.val,Nv.cells];go_wp2_with fail;have gw:=Om hR hz qX (by omega) (Ab _) kz;have lD:=wN bz q;simp only[gy]at gw lD;refine wJ (i:=2) (b:=w.heap.size) (q:=q) results109 rfl rfl lD ?_;rw[EQ.o.1,EQ.o.2];exact⟨_,rfl,gw⟩
def KO(g:RG)(aI:RS->RS×PT):Prop:=∀st,st.next<=g.rs.length->st.next<=(aI st).1.next/\(aI st).1.next<=g.rs.length
theorem aec(g:RG)(st:RS)(h:st.next<=g.rs.length):st.next<=(jx g st).1.next/\(jx g st).1.next<=g.rs.length:=by
 unfold jx;split
 ·rename_i hc;have:=j8 hc;simp;omega
 ·simp[Yg];exact h
theorem aep(g:RG)(st:RS)(h:st.next<=g.rs.length):st.next<=(fL g st).1.next/\(fL g st).1.next<=g.rs.length:=by
 have h1:=aec g st h;have h2:=aec g _ h1.2;unfold fL;split
 ·simp only;omega
 ·exact h1
theorem amL(g:RG)(st:RS)(h:st.next<=g.rs.length):st.next<=(eO g st).1.next/\(eO g st).1.next<=g.rs.length:=by
 have h1:=aep g st h;unfold eO;split
 ·rename_i hc
  have hl:=j8 hc;have h2:=aep g {(fL g st).1 with next:=(fL g st).1.next+1} (by simp;omega)
  have h3:(fL g st).1.next<=(sE g {(fL g st).1 with next:=(fL g st).1.next+1}).1.next/\(sE g {(fL g st).1 with next:=(fL g st).1.next+1}).1.next<=g.rs.length:=by
   unfold sE;split
   ·simp;omega
   ·simp only at h2⊢;omega
  have h4:=xZ g wE _ h3.2;simp only at h3 h4⊢;omega
 ·have h4:=xZ g wE _ h1.2;simp only;omega
theorem aev(g:RG)(a:PT)(st:RS)(h:st.next<=g.rs.length):st.next<=(iw g a st).1.next/\(iw g a st).1.next<=g.rs.length:=by
 have key:∀l,aK l (aC g st)=true->st.next<=(fG g iE {st with next:=st.next+1}).next/\(fG g iE {st with next:=st.next+1}).next<=g.rs.length:=by
  intro l hl;have h1:=j8 hl;have:=Kx g iE {st with next:=st.next+1} (by simp;omega);simp only at this;omega
 unfold iw;split
 ·rename_i hc;exact key _ hc
 ·split
  ·rename_i hc;exact key _ hc
  ·split
   ·rename_i hc;exact key _ hc
   ·split
    ·rename_i hc
     have h1:=j8 hc;have h2:=amL g {st with next:=st.next+1} (by simp;omega);simp only at h2⊢;split
     ·have:=Kx g iE ((eO g {st with next:=st.next+1}).1.eN 4 (rB g st)) (by rw[XP];exact h2.2);rw[XP]at this;omega
     ·have:=Kx g iE (eO g {st with next:=st.next+1}).1 h2.2;omega
    ·exact⟨Ab _,h⟩
theorem aea(g:RG)(aI:RS->RS×PT)(ha:KO g aI)(st:RS)(h:st.next<=g.rs.length):st.next<=(dE g aI st).1.next/\(dE g aI st).1.next<=g.rs.length/\(st.next<g.rs.length->st.next<(dE g aI st).1.next):=by
 unfold dE;split
 ·rename_i hc
  have h1:=j8 hc;have h2:=aef g {st with next:=st.next+1} (by simp;omega);have h3:=ha (iH g {st with next:=st.next+1}) h2.2;have h4:=xZ g Kf _ h3.2;simp only[wM]at*;omega
 ·split
  ·rename_i hc
   have h1:=j8 hc;have h2:=amQ g {st with next:=st.next+1} (by simp;omega);simp only at h2⊢;omega
  ·split
   ·rename_i hc
    have h1:=j8 hc;have h2:=xZ g rq {st with next:=st.next+1} (by simp;omega);simp only at h2⊢;omega
   ·split
    ·rename_i hc
     have h1:=j8 hc;simp;omega
    ·exact adE g RX st h
theorem aey(g:RG)(aI:RS->RS×PT)(m:Nat)(st:RS)(aF:List PT)(h:aC g st= -1\/aK uM (aC g st)=true):jy g aI m st aF=(st,aF):=by
 cases m with
 |zero=>rfl
 |succ m=>unfold jy;rw[if_pos h]
theorem aeA(g:RG)(aI:RS->RS×PT)(ha:KO g aI):∀(m:Nat) (st:RS) (aF:List PT),st.next<=g.rs.length->st.next<=(jy g aI m st aF).1.next/\(jy g aI m st aF).1.next<=g.rs.length
 |0,st,_,h=>⟨Ab _,h⟩
 |m+1,st,aF,h=>by
  unfold jy;split
  ·exact⟨Ab _,h⟩
  ·have h1:=aea g aI ha st h;have h2:=aev g (dE g aI st).2 _ h1.2.1;have h3:=aeA g aI ha m _ (aF++[(iw g (dE g aI st).2 (dE g aI st).1).2]) h2.2;omega
theorem Sr(g:RG)(aI:RS->RS×PT)(ha:KO g aI)(st:RS)(h:st.next<=g.rs.length):st.next<=(eR g aI st).1.next/\(eR g aI st).1.next<=g.rs.length:=aeA g aI ha _ st [] h
theorem ad8(g:RG)(aI:RS->RS×PT)(ha:KO g aI):∀(m:Nat) (st:RS) (aF:List PT),st.next<=g.rs.length->st.next<=(iG g aI m st aF).1.next/\(iG g aI m st aF).1.next<=g.rs.length
 |0,st,_,h=>⟨Ab _,h⟩
 |m+1,st,aF,h=>by
  unfold iG;split
  ·rename_i hc
   have h1:=j8 hc;have h2:=Sr g aI ha {st with next:=st.next+1} (by simp;omega);have h3:=ad8 g aI ha m _ (aF++[(eR g aI {st with next:=st.next+1}).2]) h2.2;simp only at h2 h3⊢;omega
  ·exact⟨Ab _,h⟩
theorem Sj(g:RG):∀k,KO g (aY g k)
 |0=>fun st h=>⟨Ab _,h⟩
 |k+1=>fun st h=>by
  have ha:=Sj g k;have h1:=Sr g (aY g k) ha st h;have h2:=ad8 g (aY g k) ha (g.rs.length+1) _ [(eR g (aY g k) st).2] h1.2;show st.next<=(iG g (aY g k) (g.rs.length+1) (eR g (aY g k) st).1 [(eR g (aY g k) st).2]).1.next/\_
  exact⟨by omega,h2.2⟩
theorem Tryz.acW:(prog.info? 64).map (fun i=>(i.zero,i.size,i.bytes))=some (some (.agg #[GW 0,.slice none 0 0,.slice none 0 0,GW 0,GW 0,GW 0,GW 0,.bool false]),8,96):=by kernel_rfl
theorem XA{w3:World}{rS:Bool}{ln:RS}{v:Value}{qs:List Nv}{aF:List PT}{cs:List CT}{k tk:Int}(hR:aV w g fo st)(h3:aV w3 g rS ln)(ps:nD w3 (w.heap.size+1) v qs aF cs)(hk:(k=3/\tk=2)\/(k=4/\tk=3/\aF≠ []))(k1:aa g.ay w w3):
 ∃pa pc,v=.slice pa aF.length pc/\aV (gy w3 w.heap.size (jG k pa aF.length pc)) g rS ln/\cJ (gy w3 w.heap.size (jG k pa aF.length pc)) w.heap.size (gy w3 w.heap.size (jG k pa aF.length pc)).heap.size (jG k pa aF.length pc) (.node tk aF 0 0) (.node k [] false false 0 0 0 0 false cs)/\
 aa g.ay w (gy w3 w.heap.size (jG k pa aF.length pc)):=by
 obtain⟨pa,pc,rfl,hp⟩:=ps.node k tk hk;have sz:=Ox w3 w.heap.size (jG k pa aF.length pc);have kq:=Kp w3 w.heap.size (jG k pa aF.length pc);exact⟨pa,pc,rfl,h3.new hR kq (fun i hi=>by omega),(hp.kept kq (fun i h1 _ he=>by omega) (Ab _)).IN (by omega) (by omega),k1.b_ kq (fun i hi he=>by omega)⟩
theorem afi(hA:IP g k)(hR:aV w g fo st)(WQ:g.rs.length-st.next<=k):
 Calls prog 82 #[BT g.b 0] w fun e w'=>∃q,e=.returned (Nv.val q)/\aV w' g fo (eR g (aY g k) st).1/\cJ w' w.heap.size w'.heap.size q (eR g (aY g k) st).2 (nL g (aY g k) (dR g k) fo st)/\aa g.ay w w':=by
 have dc:=hR.len;have l7:=hR.next
 have bQ:∀i,w.heap.size<=i->¬g.ay i:=fun i hi hx=>by have:=hR.ic hx;omega
 obtain⟨i0,cW,dm,du,de⟩:=Bo Tryz.acW;have ha:=hR.nil ((aa.refl ai w).alloc (.cells bG.cells 64));have vW:=au.new w bG.cells 64;have ti:aa g.ay w (w.alloc (.cells bG.cells 64)):=(aa.refl _ w).alloc _;have WW:w.heap.size+1<=(w.alloc (.cells bG.cells 64)).heap.size:=by simp
 have oI:=nD.nil (w.alloc (.cells bG.cells 64)) (w.heap.size+1);unfold eR nL;go_in;go_wp2_with fail;go_loopg [3] (g.rs.length-st.next) (fun kk v wr=>∃aD m aF cs qs,aV wr g fo aD/\nD wr (w.heap.size+1) v qs aF cs/\Hid (jy g (aY g k) m aD aF=jy g (aY g k) (g.rs.length+1) st [])/\Hid (my g (aY g k) (dR g k) fo m aD cs=my g (aY g k) (dR g k) fo (g.rs.length+1) st [])/\kk=g.rs.length-aD.next/\kk<m/\st.next<=aD.next/\aF.length<=aD.next/\aa g.ay w wr/\w.heap.size+1<=wr.heap.size/\au wr w.heap.size bG.cells 64)
 case atStart=>exact⟨st,g.rs.length+1,[],[],[],ha,oI,rfl,rfl,rfl,by omega,Ab _,by simp,ti,WW,vW⟩
 case round=>
  obtain⟨aD,m,aF,cs,qs,hr,td,HP,tV,rfl,hm,gW,ajg,hk,aW,hb⟩:=hrel;clear ha ti vW WW oI;have hle:=hr.next
  by_cases gx:aC g aD= -1
  ·have xG:(aC g aD != -1)=false:=(by simp[gx]);go_wp2_with fail;refine(nY hr).mono ?_;rintro e w3 ⟨rfl,h3,bm⟩;have HE:Hid (jy g (aY g k) (g.rs.length+1) st []=(aD,aF)):=by show _=_;rw[<-HP.o,aey g _ m aD aF (Or.inl gx)]
   have HC:Hid (my g (aY g k) (dR g k) fo (g.rs.length+1) st []=cs):=by show _=_;rw[<-tV.o,aaW g _ _ fo m aD cs (Or.inl gx)]
   clear gx HP tV;have Ov:=td.kept bm (fun i hi=>by have:=hR.ic hi;omega);have b3:=hb.kept bm (bQ _ (Ab _));have Im:=hk.trans bm;have s3:=bm.size;obtain⟨fY,c3,lj,gw⟩:=XA (k:=3) (tk:=2) hR h3 Ov (Or.inl ⟨rfl,rfl⟩) Im;rw[lj];clear lj td hb hk hr;obtain⟨e0,e1,e2,e3,e4,e5,e6,e7⟩:=b3.iq;obtain⟨g0,g1,g2,g3,g4,g5,g6,g7⟩:=b3.nZ;simp only[bG]at e0 e1 e2 e3 e4 e5 e6 e7;have qh:w.heap.size<w3.heap.size:=b3.lt;go_wp2_with fail;have lD:=wN b3 (jG 3 fY aF.length c3);simp only[gy,jG]at gw lD;refine wJ (i:=2) (b:=w.heap.size) (q:=jG 3 fY aF.length c3) results82 ?_ ?_ ?_ ?_
   ·rfl
   ·rfl
   ·exact lD
   ·rw[HE.o,HC.o];exact⟨_,rfl,gw⟩
  ·have xG:(aC g aD != -1)=true:=(by simp[gx]);have az:=XE gx;clear gx
   cases oK:aK uM (aC g aD)
   ·go_wp2_with fail
    refine(nY hr).mono ?_;rintro e w3 ⟨rfl,h3,bm⟩;go_wp2_with fail;refine(yg h3 _ uM (by rfl) (by decide)).mono ?_;rintro e w4 ⟨rfl,h4,dJ⟩;rw[oK];go_wp2_with fail;refine(agD hA h4 (by omega)).mono ?_;rintro e w5 ⟨q5,rfl,h5,Hv,cS⟩;go_wp2_with fail;refine(an7 h5 Hv (Ab _) cS.size (fun i hi=>h4.ic hi)).mono ?_;rintro e w6 ⟨q,rfl,h6,Hw,gQ⟩;have rm:=(bm.trans dJ);have IB:=td.kept ((rm.trans cS).trans gQ) (fun i hi=>by have:=hR.ic hi;omega);have dy:aF.length<=300:=(by omega);simp only[Nv.val,Nv.cells];go_wp2_with (at_builtin;refine Ao _ rfl _ _ 59 rfl (w.heap.size+1) 64 i0 _ 8 96 underlying59 cW dm du de rfl (by decide) _ _ _ rfl (IB.ay.alloc (.cells q.cells 64)) (GB w6.heap.size 0) 1 1 q.cells.toList rfl rfl ?c1 ?c2 ?c3 ?c4 ?c5 ?_)
    case c1=>exact adU q
    case c2=>exact q.one
    case c3=>unfold maxLen;omega
    case c4=>omega
    case c5=>have:=rm.size;have:=cS.size;have:=gQ.size;simp;omega
    intro v' w7 bL cy eF cI;have s34:=rm.size;have s5:=cS.size;have s6:=gQ.size;have IA:=td.kept rm (fun i hi=>by have:=hR.ic hi;omega);have Ik:aa ai w6 (w6.alloc (.cells q.cells 64)):=(aa.refl _ _).alloc _;have Ye:=nD.rE (q:=q) IB Hw (by omega) (fun b hb=>(uV IA.ay hb).2) (Ab _) Ik bL cy (by rw[fP];simpa using cI) (by omega);have lK:aa (fun i=>u3.ownBlock=some i) w6 w7:=(Ik.mono (fun _ hx=>hx.elim)).eP cy (fun j hj=>Or.inl hj);have Ha:∀i,u3.ownBlock=some i->w.heap.size+1<=i:=(fun i hi=>(uV IA.ay hi).1);have h7:=h6.new hR lK (fun i hi=>by have:=Ha i hi;omega)
    have N4:=(((hk.trans rm).trans cS).trans gQ).b_ lK (fun i hi he=>by have:=Ha i he;omega);have y8:=(hb.kept ((rm.trans cS).trans gQ) (bQ _ (Ab _))).kept lK (fun he=>by have:=Ha _ he;omega);have s7:=lK.size;clear bL cy cI eF IB IA td cS gQ bm dJ Ik lK Hv Hw hb;have n1:=aea g (aY g k) (Sj g k) aD (by omega);have n2:=aev g (dE g (aY g k) aD).2 _ n1.2.1;have n3:=n1.2.2 az;go_wp2_with fail;go_roundg (g.rs.length-(iw g (dE g (aY g k) aD).2 (dE g (aY g k) aD).1).1.next)
    case measure=>omega
    case rel=>
     have GQ:¬(aC g aD= -1\/aK uM (aC g aD)=true):=by simp[oK];simpa using xG
     obtain⟨m',rfl⟩:∃m',m=m'+1:=⟨m-1,by omega⟩
     refine⟨_,m',_,_,_,h7,Ye,?_,?_,rfl,by omega,by omega,by simp;omega,N4,by omega,y8⟩
     ·rw[<-HP.o];show jy g (aY g k) m' _ _=jy g (aY g k) (m'+1) aD aF
      rw[show jy g (aY g k) (m'+1) aD aF=if aC g aD= -1\/aK uM (aC g aD)=true then(aD,aF)else jy g (aY g k) m' (iw g (dE g (aY g k) aD).2 (dE g (aY g k) aD).1).1 (aF++[(iw g (dE g (aY g k) aD).2 (dE g (aY g k) aD).1).2])from rfl,if_neg GQ]
     ·rw[<-tV.o];show my g (aY g k) (dR g k) fo m' _ _=my g (aY g k) (dR g k) fo (m'+1) aD cs
      rw[show my g (aY g k) (dR g k) fo (m'+1) aD cs=if aC g aD= -1\/aK uM (aC g aD)=true then cs else my g (aY g k) (dR g k) fo m' (iw g (dE g (aY g k) aD).2 (dE g (aY g k) aD).1).1 (cs++[nK g (ko g (dR g k) fo aD) (dE g (aY g k) aD).1])from rfl,if_neg GQ]
   ·go_wp2_with fail
    refine(nY hr).mono ?_;rintro e w2 ⟨rfl,h2,aS⟩;go_wp2_with fail;refine(yg h2 _ uM (by rfl) (by decide)).mono ?_;rintro e w3 ⟨rfl,h3,CN⟩;have bm:=aS.trans CN;rw[oK];have HE:Hid (jy g (aY g k) (g.rs.length+1) st []=(aD,aF)):=by show _=_;rw[<-HP.o,aey g _ m aD aF (Or.inr oK)]
    have HC:Hid (my g (aY g k) (dR g k) fo (g.rs.length+1) st []=cs):=by show _=_;rw[<-tV.o,aaW g _ _ fo m aD cs (Or.inr oK)]
    clear HP tV;have Ov:=td.kept bm (fun i hi=>by have:=hR.ic hi;omega);have b3:=hb.kept bm (bQ _ (Ab _));have Im:=hk.trans bm;have s3:=bm.size;obtain⟨fY,c3,lj,gw⟩:=XA (k:=3) (tk:=2) hR h3 Ov (Or.inl ⟨rfl,rfl⟩) Im;rw[lj];clear lj td hb hk hr;obtain⟨e0,e1,e2,e3,e4,e5,e6,e7⟩:=b3.iq;obtain⟨g0,g1,g2,g3,g4,g5,g6,g7⟩:=b3.nZ;simp only[bG]at e0 e1 e2 e3 e4 e5 e6 e7;have qh:w.heap.size<w3.heap.size:=b3.lt;go_wp2_with fail;have lD:=wN b3 (jG 3 fY aF.length c3);simp only[gy,jG]at gw lD;refine wJ (i:=2) (b:=w.heap.size) (q:=jG 3 fY aF.length c3) results82 ?_ ?_ ?_ ?_
    ·rfl
    ·rfl
    ·exact lD
    ·rw[HE.o,HC.o];exact⟨_,rfl,gw⟩
theorem nD.one{base:Nat}(hp:cJ w lo hi q T C)(nc:base<=lo)(lX:hi<=w.heap.size)(hb:base<=w.heap.size):
 nD (w.alloc (.cells q.cells 64)) base (.slice (some (GB w.heap.size 0)) 1 1) [q] [T] [C]:=by
 refine⟨⟨rfl,Or.inr ⟨w.heap.size,1,q.cells,rfl,hb,au.new w _ _,Ab _,by unfold maxLen;omega,rfl,rfl⟩⟩,rfl,rfl,by simp,fun i h1 h2 h3=>?_⟩;have e:i=0:=by simp at h1;omega
 subst e;refine⟨lo,hi,nc,by simp;omega,hp.kept ((aa.refl ai w).alloc _) (fun _ _ _ hx=>hx) lX,fun b kZ=>?_⟩;simp[Value.ownBlock]at kZ;omega
theorem amI(g:RG)(aI:RS->RS×PT)(m:Nat)(st:RS)(aF:List PT)(h:aK wD (aC g st)=false):iG g aI m st aF=(st,aF):=by
 cases m with
 |zero=>rfl
 |succ m=>unfold iG;rw[if_neg (by simp[h])]
theorem agy(hA:IP g k):IP g (k+1):=by
 intro w fo st hR WQ;have dc:=hR.len;have l7:=hR.next
 have bQ:∀i,w.heap.size<=i->¬g.ay i:=fun i hi hx=>by have:=hR.ic hx;omega
 obtain⟨i0,cW,dm,du,de⟩:=Bo Tryz.acW;have aqy:=Sr g (aY g k) (Sj g k) st l7;have ha:=hR.nil ((aa.refl ai w).alloc (.cells bG.cells 64));have vW:=au.new w bG.cells 64;have ti:aa g.ay w (w.alloc (.cells bG.cells 64)):=(aa.refl _ w).alloc _;show Calls prog 56 #[BT g.b 0] w fun e w'=>∃q,e=.returned (Nv.val q)/\aV w' g fo (iG g (aY g k) (g.rs.length+1) (eR g (aY g k) st).1 [(eR g (aY g k) st).2]).1/\cJ w' w.heap.size w'.heap.size q (.node 3 (iG g (aY g k) (g.rs.length+1) (eR g (aY g k) st).1 [(eR g (aY g k) st).2]).2 0 0) (.node 4 [] false false 0 0 0 0 false (lE g (aY g k) (dR g k) fo (g.rs.length+1) (eR g (aY g k) st).1 [nL g (aY g k) (dR g k) fo st]))/\aa g.ay w w'
 go_in
 go_wp2_with fail
 refine(afi hA ha (by omega)).mono ?_;rintro e w1 ⟨q1,rfl,h1,oG,aU⟩;simp only[Nv.val,Nv.cells];go_wp2_with fail;have s1:=aU.size;rw[fP]at s1 oG;have oI:=nD.one (base:=w.heap.size+1) (q:=q1) oG (Ab _) (Ab _) s1;have wi:=(ti.trans aU).alloc (.cells q1.cells 64);have jM:=(vW.kept aU (bQ _ (Ab _))).alloc (.cells q1.cells 64);have h_:=h1.nil ((aa.refl ai w1).alloc (.cells q1.cells 64));generalize hS:eR g (aY g k) st=x0 at*;generalize hSC:nL g (aY g k) (dR g k) fo st=y0 at*;go_loopg [3] (g.rs.length-x0.1.next) (fun kk v wr=>∃aD m aF cs qs,aV wr g fo aD/\nD wr (w.heap.size+1) v qs aF cs/\Hid (iG g (aY g k) m aD aF=iG g (aY g k) (g.rs.length+1) x0.1 [x0.2])/\Hid (lE g (aY g k) (dR g k) fo m aD cs=lE g (aY g k) (dR g k) fo (g.rs.length+1) x0.1 [y0])/\kk=g.rs.length-aD.next/\kk<m/\st.next<=aD.next/\aF.length<=aD.next+1/\aF≠ []/\aa g.ay w wr/\w.heap.size+1<=wr.heap.size/\au wr w.heap.size bG.cells 64)
 case atStart=>exact⟨x0.1,g.rs.length+1,_,_,_,h_,oI,rfl,rfl,rfl,by omega,by omega,by simp,by simp,wi,by simp;omega,jM⟩
 case round=>
  obtain⟨aD,m,aF,cs,qs,hr,td,HP,tV,rfl,hm,gW,ajg,aB,hk,aW,hb⟩:=hrel;have HS:Hid (eR g (aY g k) st=x0):=hS;have HSC:Hid (nL g (aY g k) (dR g k) fo st=y0):=hSC;clear ha ti vW oI wi jM h_ h1 aU oG hS hSC;have hle:=hr.next
  cases oK:aK wD (aC g aD)
  ·go_wp2_with fail
   refine(jf hr _ wD (by rfl) (by decide) oK).mono ?_;rintro e w3 ⟨rfl,h3,bm⟩;have HE:Hid (iG g (aY g k) (g.rs.length+1) x0.1 [x0.2]=(aD,aF)):=by show _=_;rw[<-HP.o,amI g _ m aD aF oK]
   have IW:Hid (lE g (aY g k) (dR g k) fo (g.rs.length+1) x0.1 [y0]=cs):=by show _=_;rw[<-tV.o,ahg g _ _ fo m aD cs oK]
   clear HP tV;have Ov:=td.kept bm (fun i hi=>by have:=hR.ic hi;omega);have b3:=hb.kept bm (bQ _ (Ab _));have Im:=hk.trans bm;have s3:=bm.size;obtain⟨fY,c3,lj,gw⟩:=XA (k:=4) (tk:=3) hR h3 Ov (Or.inr ⟨rfl,rfl,aB⟩) Im;rw[lj];clear lj td hb hk hr;obtain⟨e0,e1,e2,e3,e4,e5,e6,e7⟩:=b3.iq;obtain⟨g0,g1,g2,g3,g4,g5,g6,g7⟩:=b3.nZ;simp only[bG]at e0 e1 e2 e3 e4 e5 e6 e7;have qh:w.heap.size<w3.heap.size:=b3.lt;go_wp2_with fail;have lD:=wN b3 (jG 4 fY aF.length c3);simp only[gy,jG]at gw lD;refine wJ (i:=2) (b:=w.heap.size) (q:=jG 4 fY aF.length c3) results56 ?_ ?_ ?_ ?_
   ·rfl
   ·rfl
   ·exact lD
   ·rw[HS.o,HE.o,HSC.o,IW.o];exact⟨_,rfl,gw⟩
  ·have az:=j8 oK;have n2:=Sr g (aY g k) (Sj g k) {aD with next:=aD.next+1} (by simp;omega);go_wp2_with fail;refine(jz hr _ wD (by rfl) (by decide) oK).mono ?_;rintro e w4 ⟨rfl,h4,dJ⟩;go_wp2_with fail;refine(afi hA h4 (by simp;omega)).mono ?_;rintro e w6 ⟨q,rfl,h6,Hw,gQ⟩;have IB:=td.kept (dJ.trans gQ) (fun i hi=>by have:=hR.ic hi;omega);have dy:aF.length<=301:=(by omega);simp only[Nv.val,Nv.cells];go_wp2_with (at_builtin;refine Ao _ rfl _ _ 59 rfl (w.heap.size+1) 64 i0 _ 8 96 underlying59 cW dm du de rfl (by decide) _ _ _ rfl (IB.ay.alloc (.cells q.cells 64)) (GB w6.heap.size 0) 1 1 q.cells.toList rfl rfl ?c1 ?c2 ?c3 ?c4 ?c5 ?_)
   case c1=>exact adU q
   case c2=>exact q.one
   case c3=>unfold maxLen;omega
   case c4=>omega
   case c5=>have:=dJ.size;have:=gQ.size;simp;omega
   intro v' w7 bL cy eF cI;have s34:=dJ.size;have s6:=gQ.size;have IA:=td.kept dJ (fun i hi=>by have:=hR.ic hi;omega);have Ik:aa ai w6 (w6.alloc (.cells q.cells 64)):=(aa.refl _ _).alloc _;have Ye:=nD.rE (q:=q) IB Hw (by omega) (fun b hb=>(uV IA.ay hb).2) (Ab _) Ik bL cy (by rw[fP];simpa using cI) (by omega);have lK:aa (fun i=>u3.ownBlock=some i) w6 w7:=(Ik.mono (fun _ hx=>hx.elim)).eP cy (fun j hj=>Or.inl hj);have Ha:∀i,u3.ownBlock=some i->w.heap.size+1<=i:=(fun i hi=>(uV IA.ay hi).1);have h7:=h6.new hR lK (fun i hi=>by have:=Ha i hi;omega)
   have N4:=((hk.trans dJ).trans gQ).b_ lK (fun i hi he=>by have:=Ha i he;omega);have y8:=(hb.kept (dJ.trans gQ) (bQ _ (Ab _))).kept lK (fun he=>by have:=Ha _ he;omega);have s7:=lK.size;clear bL cy cI eF IB IA td gQ dJ Ik lK Hw hb;go_wp2_with fail;go_roundg (g.rs.length-(eR g (aY g k) {aD with next:=aD.next+1}).1.next)
   case measure=>omega
   case rel=>
    obtain⟨m',rfl⟩:∃m',m=m'+1:=⟨m-1,by omega⟩
    refine⟨_,m',_,_,_,h7,Ye,?_,?_,rfl,by omega,by omega,by simp;omega,by simp,N4,by omega,y8⟩
    ·rw[<-HP.o];show iG g (aY g k) m' _ _=iG g (aY g k) (m'+1) aD aF
     rw[show iG g (aY g k) (m'+1) aD aF=if aK wD (aC g aD)then iG g (aY g k) m' (eR g (aY g k) {aD with next:=aD.next+1}).1 (aF++[(eR g (aY g k) {aD with next:=aD.next+1}).2])else(aD,aF)from rfl,if_pos oK]
    ·rw[<-tV.o];show lE g (aY g k) (dR g k) fo m' _ _=lE g (aY g k) (dR g k) fo (m'+1) aD cs
     rw[show lE g (aY g k) (dR g k) fo (m'+1) aD cs=if aK wD (aC g aD)then lE g (aY g k) (dR g k) fo m' (eR g (aY g k) {aD with next:=aD.next+1}).1 (cs++[nL g (aY g k) (dR g k) fo {aD with next:=aD.next+1}])else cs from rfl,if_pos oK]
theorem UC(g:RG):∀k,IP g k
 |0=>fun w fo st hR h=>absurd h (by omega)
 |k+1=>agy (UC g k)
theorem apY(hR:aV w g false st):
 Calls prog 38 #[BT g.b 0] w fun e w'=>∃q,e=.returned (Nv.val q)/\aV w' g false (eJ g st).1/\cJ w' w.heap.size w'.heap.size q (eJ g st).2 (pk g st)/\aa g.ay w w':=by
 have ha:=hR.nil ((aa.refl ai w).alloc (.cells bG.cells 64));have vW:=au.new w bG.cells 64;have ti:aa g.ay w (w.alloc (.cells bG.cells 64)):=(aa.refl _ w).alloc _;have bQ:∀i,w.heap.size<=i->¬g.ay i:=fun i hi hx=>by have:=hR.ic hx;omega
 unfold eJ pk;by_cases gx:aC g (aY g (g.rs.length+1) st).1= -1
 ·rw[if_pos gx];have xG:(aC g (aY g (g.rs.length+1) st).1 != -1)=false:=by simp[gx]
  clear gx;go_in;go_wp2_with fail;refine(UC g (g.rs.length+1) _ false st ha (by omega)).mono ?_;rintro e w1 ⟨q,rfl,h1,oG,aU⟩;simp only[Nv.val,Nv.cells];go_wp2_with fail;have s1:=aU.size;rw[fP]at s1 oG;have h_:=h1.nil ((aa.refl ai w1).alloc (.cells q.cells 64));have Xp:aa g.ay w1 (w1.alloc (.cells q.cells 64)):=(aa.refl _ _).alloc _;have jM:=au.new w1 q.cells 64;refine(nY h_).mono ?_;rintro e w2 ⟨rfl,h2,aS⟩;have hz:=h2;have N5:=aS;obtain⟨wz,hwz⟩:∃wz,wz=w2:=⟨_,rfl⟩
  subst hwz;have kz:aa g.ay w1 wz:=Xp.trans N5;have DH:=aU.trans kz;have b0:=vW.kept DH (bQ _ (Ab _));have b1:=jM.kept N5 (bQ _ (by omega));have sz:=kz.size;obtain⟨e0,e1,e2,e3,e4,e5,e6,e7⟩:=b0.iq;obtain⟨g0,g1,g2,g3,g4,g5,g6,g7⟩:=b0.nZ;obtain⟨d0,d1,d2,d3,d4,d5,d6,d7⟩:=b1.iq;simp only[bG]at e0 e1 e2 e3 e4 e5 e6 e7;have qX:=oG.kept kz (fun i h1 _ hx=>bQ i (by omega) hx) (Ab _);go_wp2_with fail;exact It (i:=2) hR hz qX (by omega) (by omega) (ti.trans DH) b0 results38 rfl rfl (fun _ _ h=>h)
 ·rw[if_neg gx];have xG:(aC g (aY g (g.rs.length+1) st).1 != -1)=true:=by simp[gx]
  clear gx;go_in;go_wp2_with fail;refine(UC g (g.rs.length+1) _ false st ha (by omega)).mono ?_;rintro e w1 ⟨q,rfl,h1,oG,aU⟩;simp only[Nv.val,Nv.cells];go_wp2_with fail;have s1:=aU.size;rw[fP]at s1 oG;have h_:=h1.nil ((aa.refl ai w1).alloc (.cells q.cells 64));have Xp:aa g.ay w1 (w1.alloc (.cells q.cells 64)):=(aa.refl _ _).alloc _;have jM:=au.new w1 q.cells 64;refine(nY h_).mono ?_;rintro e w2 ⟨rfl,h2,aS⟩;go_wp2_with fail;refine(Oy h2).mono ?_;rintro e wz ⟨rfl,hz,tj⟩;have N5:=aS.trans tj;have kz:aa g.ay w1 wz:=Xp.trans N5;have DH:=aU.trans kz;have b0:=vW.kept DH (bQ _ (Ab _));have b1:=jM.kept N5 (bQ _ (by omega));have sz:=kz.size;obtain⟨e0,e1,e2,e3,e4,e5,e6,e7⟩:=b0.iq;obtain⟨g0,g1,g2,g3,g4,g5,g6,g7⟩:=b0.nZ;obtain⟨d0,d1,d2,d3,d4,d5,d6,d7⟩:=b1.iq;simp only[bG]at e0 e1 e2 e3 e4 e5 e6 e7;have qX:=oG.kept kz (fun i h1 _ hx=>bQ i (by omega) hx) (Ab _);go_wp2_with fail;exact It (i:=2) hR hz qX (by omega) (by omega) (ti.trans DH) b0 results38 rfl rfl (fun _ _ h=>h)
theorem aoG(ts:List PT)(i:Nat)(h:i<ts.length):PT.lN (ts.take (i+1))=PT.lN (ts.take i)+(ts[i]).size:=by
 induction ts generalizing i with
 |nil=>simp at h
 |cons t ts ih=>
  cases i with
  |zero=>simp[PT.lN]
  |succ i=>
   have:=ih i (by simpa using h);simp only[C5,PT.lN,Ag];omega
theorem Yy(ts:List PT)(h:∀i,(h:i<ts.length)->0<=(ts[i]).size/\(ts[i]).size<=1001):0<=PT.lN ts/\PT.lN ts<=1001*ts.length:=by
 induction ts with
 |nil=>simp[PT.lN]
 |cons t ts ih=>
  have h0:=h 0 (by simp);have h1:=ih (fun i hi=>by have:=h (i+1) (by simp;omega);simpa using this);simp only[PT.lN,Ah,Ax]at*;omega
theorem adx{c s:Int}(hc:0<=c/\c<=100)(hs:0<=s/\s<=1000000):0<=c*s/\c*s<=100000000:=by
 refine⟨Int.mul_nonneg hc.1 hs.1,?_⟩
 calc c*s<=100*s:=D8 hc.2 hs.1
  _<=100000000:=by omega
theorem aa2{lo hi:Int}(h1: -1<=lo/\lo<=99)(h2: -1<=hi/\hi<=99):0<=(if hi= -1 then lo+1 else hi)/\(if hi= -1 then lo+1 else hi)<=100:=by split<;>omega
theorem cJ.size_range(h:cJ w lo hi q T C):0<=T.size/\T.size<=1001:=by
 induction h with
 |mk q tk b bs ts cs V Sp sp fo nt hn hb hc hk cZ oJ hr pC ih=>
  have hs:=Yy ts (fun i h=>ih i h (by omega));obtain⟨r1,r2,r3,r4⟩:=hr;have hc:=aa2 r1 r2;have hm:=adx hc (s:=PT.lN ts+1) (by omega);unfold PT.size;simp only
  have aB:tk=3->0<ts.length:=by
   intro e;rcases pC with h|h|h|h|h|h
   ·omega
   ·omega
   ·omega
   ·omega
   ·exact Bt.2 h.2.2
   ·omega
  refine⟨?_,by omega⟩
  have:0<=(if tk=0\/tk=1 then PT.lN ts+1 else if tk=3 then PT.lN ts+((ts.length:Int)-1)else if tk=4 then(if q.hi= -1 then q.lo+1 else q.hi)*(PT.lN ts+1)else PT.lN ts):=by
   split
   ·omega
   ·split
    ·rename_i e;have:=aB e;omega
    ·split
     ·exact hm.1
     ·exact hs.1
  omega
theorem Kq{k:IntKind}{a b:Int}(h:a=b):Ending.returned (.int k a)=.returned (.int k b):=by rw[h]
theorem ahY(q:Nv)(w:World)(hl: -1<=q.lo/\q.lo<=99):
 Calls prog 59 #[Nv.val q] w fun e w'=>e=.returned (GW (if q.hi= -1 then q.lo+1 else q.hi))/\aa ai w w':=by
 simp only[Nv.val,Nv.cells];by_cases hh:q.hi= -1
 ·have hb:(q.hi== -1)=true:=by simp[hh]
  rw[if_pos hh];clear hh;go_in;go_wp2_with fail;go_ret;exact⟨rfl,(aa.refl _ _).alloc _⟩
 ·have hb:(q.hi== -1)=false:=by simp[hh]
  rw[if_neg hh];go_in;go_wp2_with fail;go_ret;exact⟨rfl,(aa.refl _ _).alloc _⟩
theorem aoF(h:cJ w lo hi q T C)(hle:hi<=w.heap.size):∀w',aa ai w w'->
 Calls prog 39 #[Nv.val q] w' fun e qx=>e=.returned (GW T.size)/\aa ai w' qx:=by
 induction h with
 |mk q tk b bs ts cs V Sp sp fo nt hn hb hc hk cZ oJ hr pC ih=>
  intro w' hw;obtain⟨k0,pa,pn,pc,sa,sn,sc,ed,gr,l0,h0,lz⟩:=q;simp only[Nv.val,Nv.cells]at hn hb hr pC⊢;obtain⟨pE,jZ,hn3⟩:=hn;subst pE;have IH:Hid (∀i (h:i<ts.length) (w':World),aa ai w w'->Calls prog 39 #[Nv.val (V i)] w' fun e qx=>e=.returned (GW (ts[i]).size)/\aa ai w' qx):=fun i h w' hw=>ih i h (by omega) w' hw
  have zj:∀i,(h:i<ts.length)->0<=(ts[i]).size/\(ts[i]).size<=1001:=fun i h=>(hk i h (by omega)).size_range
  have HS:=Yy ts zj;clear ih;obtain⟨r1,r2,r3,r4⟩:=hr;have x0:=au.new w' #[GW k0,.slice pa ts.length pc,.slice sa sn sc,GW ed,GW gr,GW l0,GW h0,.bool lz] 64;clear hk cZ oJ r4 jZ hn3;go_in;go_wp2_with fail;go_loopg [3,9] ts.length (fun kk s i wr=>∃j:Nat,j<=ts.length/\i=GW j/\s=GW (PT.lN (ts.take j))/\kk=ts.length-j/\aa ai w' wr/\au wr w'.heap.size #[GW k0,.slice pa ts.length pc,.slice sa sn sc,GW ed,GW gr,GW l0,GW h0,.bool lz] 64)
  case atStart=>exact⟨0,Al _,rfl,by simp[PT.lN],rfl,(aa.refl _ _).alloc _,x0⟩
  case round=>
   obtain⟨j,hj,rfl,rfl,rfl,zm,pA⟩:=hrel;have hsj:=Yy (ts.take j) (fun i hi=>by have:=zj i (by simp at hi;omega);simpa using this);have Rm:(ts.take j).length<=400:=by simp;omega
   by_cases az:j<ts.length
   ·obtain⟨rfl,b1,b2⟩:=hb (by intro e;subst e;simp at az);have JH:=hc j az;have kk:=hw.trans zm;have bl:∀i,i<8->wr.cell? ⟨b,j*8+i,none⟩=(V j).cells[i]? :=(fun i hi=>(kk.cell (p:=⟨b,j*8+i,none⟩) (by show b<_;omega) (fun hx=>hx)).trans (JH i hi));have q0:wr.cell? ⟨b,j*8,none⟩=some (GW (V j).k):=bl 0 (by omega)
    have q1:wr.cell? ⟨b,j*8+1,none⟩=some (.slice (V j).pa (V j).pn (V j).pc):=bl 1 (by omega);have q2:wr.cell? ⟨b,j*8+2,none⟩=some (.slice (V j).sa (V j).sn (V j).sc):=bl 2 (by omega);have q3:wr.cell? ⟨b,j*8+3,none⟩=some (GW (V j).ed):=bl 3 (by omega);have q4:wr.cell? ⟨b,j*8+4,none⟩=some (GW (V j).gr):=bl 4 (by omega);have q5:wr.cell? ⟨b,j*8+5,none⟩=some (GW (V j).lo):=bl 5 (by omega);have q6:wr.cell? ⟨b,j*8+6,none⟩=some (GW (V j).hi):=bl 6 (by omega);have q7:wr.cell? ⟨b,j*8+7,none⟩=some (.bool (V j).lz):=bl 7 (by omega);have JO:=zj j az;have oh:Hid (PT.lN (ts.take (j+1))=PT.lN (ts.take j)+(ts[j]).size):=aoG ts j az;have IHJ:Hid (∀(w':World),aa ai w w'->Calls prog 39 #[.agg #[GW (V j).k,.slice (V j).pa (V j).pn (V j).pc,.slice (V j).sa (V j).sn (V j).sc,GW (V j).ed,GW (V j).gr,GW (V j).lo,GW (V j).hi,.bool (V j).lz]] w' fun e qx=>e=.returned (GW (ts[j]).size)/\aa ai w' qx):=IH.o j az;clear hb hc JH zj bl IH;generalize V j=N at*;go_wp2_with fail;refine(IHJ.o _ (kk.alloc _)).mono ?_;rintro e w2 ⟨rfl,aS⟩;have oB:=(pA.alloc (.cells N.cells 64)).kept aS (fun hx=>hx);have kJ:=(zm.alloc (.cells N.cells 64)).trans aS;clear q0 q1 q2 q3 q4 q5 q6 q7 aS pA zm;go_wp2_with fail;go_roundg (ts.length-(j+1))
    case measure=>omega
    case rel=>exact⟨j+1,by omega,by go_num,by rw[oh.o],rfl,kJ,oB⟩
   ·have ej:j=ts.length:=(by omega);subst ej;rw[Bj]at hsj Rm⊢;have GY:=aa2 r1 r2;have hm:=adx GY (s:=PT.lN ts+1) (by omega);have d0:wr.cell? (GB w'.heap.size 0)=some (GW k0):=pA.cell 0;have d1:wr.cell? (GB w'.heap.size 1)=some (.slice pa ts.length pc):=pA.cell 1;have d2:wr.cell? (GB w'.heap.size 2)=some (.slice sa sn sc):=pA.cell 2;have d3:wr.cell? (GB w'.heap.size 3)=some (GW ed):=pA.cell 3;have d4:wr.cell? (GB w'.heap.size 4)=some (GW gr):=pA.cell 4;have d5:wr.cell? (GB w'.heap.size 5)=some (GW l0):=pA.cell 5;have d6:wr.cell? (GB w'.heap.size 6)=some (GW h0):=pA.cell 6;have d7:wr.cell? (GB w'.heap.size 7)=some (.bool lz):=pA.cell 7;clear IH hb hc zj;rcases pC with⟨rfl,rfl,_⟩|⟨rfl,rfl⟩|⟨rfl,rfl⟩|⟨rfl,rfl⟩|⟨rfl,rfl,aB⟩|⟨rfl,rfl⟩
    ·go_wp2_with fail
     all_goals go_ret
     all_goals exact⟨Kq (by unfold PT.size;simp),zm⟩
    ·go_wp2_with fail
     all_goals go_ret
     all_goals exact⟨Kq (by unfold PT.size;simp),zm⟩
    ·go_wp2_with fail
     all_goals go_ret
     all_goals exact⟨Kq (by unfold PT.size;simp),zm⟩
    ·go_wp2_with fail
     all_goals go_ret
     all_goals exact⟨Kq (by unfold PT.size;simp),zm⟩
    ·have wo:0<ts.length:=Bt.2 aB;clear aB;go_wp2_with fail;all_goals go_ret
     all_goals exact⟨Kq (by unfold PT.size;simp),zm⟩
    ·have za:=ahY ⟨5,pa,ts.length,pc,sa,sn,sc,ed,gr,l0,h0,lz⟩ wr r1;simp only[Nv.val,Nv.cells]at za;generalize jD:(if h0= -1 then l0+1 else h0)=cc at GY hm za;have K_:Hid ((if h0= -1 then l0+1 else h0)=cc):=jD;clear jD;go_wp2_with fail;refine za.mono ?_;rintro e w2 ⟨rfl,aS⟩;go_wp2_with fail;all_goals go_ret
     all_goals exact⟨Kq (by unfold PT.size;simp only[K_.o];simp),zm.trans aS⟩
