/- The reader of th -/
import Derived.Test.YtpdnofhackjfdaaGreatDoorP07
set_option linter.all false
set_option maxRecDepth 100000
set_option maxHeartbeats 16000000
namespace Go.Proofs.YtpdnofhackjfdaaGreatDoor
open Go.Proofs.Tryz
open Go.RowKit Go.Maps
variable {fo:Bool} {C:CT} {hi k lo:Nat} {q:Nv} {T:PT} {g:RG} {st:RS} {w:World}
theorem JV(r:Int):aG M7 r=(aG Jy r||aG M9 r):=by
 rw[Be];simp[aG,M7,Jy,M9]
theorem afR(hA:Hz g k)(hR:aS w g fo st)(Vy:g.rs.length-st.next<=k):
 Calls prog 109 #[.pointer (some ⟨g.b,0,none⟩)] w fun e w'=>∃q,e=.returned (Nv.val q)/\aS w' g fo (dq g (aQ g k) st).1/\cI w' w.heap.size w'.heap.size q (dq g (aQ g k) st).2 (jG g (dh g k) fo st)/\aa g.au w w':=by
 have hl:=hR.len;have lQ:=hR.next
 have dN:=hR.aR;have bM:∀i,w.heap.size<=i->¬g.au i:=fun i hi hx=>by have:=hR.gR hx;omega
 have xl:∀st:RS,-1<=ay g st/\ay g st<=1114111:=hR.JS
 have ha:=hR.nil ((aa.refl af w).alloc (.cells bB.cells 64));have b0:=aq.new w bB.cells 64;have ka:aa g.au w (w.alloc (.cells bB.cells 64)):=(aa.refl _ w).alloc _;have s0:(w.alloc (.cells bB.cells 64)).heap.size=w.heap.size+1:=fO _ _;go_in;go_wp2_with fail;refine(nS ha).mono ?_;rintro e w1 ⟨rfl,h1,aU⟩;have kk:=ka.trans aU;have bp:=b0.kept aU (bM _ (Ab _));clear ha aU;go_wp2_with fail
 cases c1:aG G_ (ay g st)
 case' true=>
  have EQ:Hid (dq g (aQ g k) st=vU g (aQ g k) {st with next:=st.next+1}/\jG g (dh g k) fo st=sC g (dh g k) fo {st with next:=st.next+1}):=⟨by unfold dq;rw[if_pos c1],by unfold jG;rw[if_pos c1]⟩;have aw:=j0 c1;refine(js h1 _ G_ (by rfl) (by decide) c1).mono ?_;rintro e w2 ⟨rfl,h2,aN⟩;have kk:=kk.trans aN;have bp:=bp.kept aN (bM _ (Ab _));go_wp2_with fail;have rJ:w.heap.size<w2.heap.size:=bp.lt;refine(agj hA h2 (by simp;omega) (by simp;omega)).mono ?_
 case' false=>
  refine(ja h1 _ G_ (by rfl) (by decide) c1).mono ?_;rintro e w2 ⟨rfl,h2,aN⟩;have kk:=kk.trans aN;have bp:=bp.kept aN (bM _ (Ab _));clear aN;go_wp2_with fail
  cases c2:aG JB (ay g st)
  case' true=>
   have EQ:Hid (dq g (aQ g k) st=(rY g {st with next:=st.next+1},gG)/\jG g (dh g k) fo st=Ln g fo {st with next:=st.next+1}):=⟨by unfold dq;rw[if_neg (by rw[c1];simp),if_pos c2],by unfold jG;rw[if_neg (by rw[c1];simp),if_pos c2]⟩;have aw:=j0 c2;refine(js h2 _ JB (by rfl) (by decide) c2).mono ?_;rintro e w3 ⟨rfl,h3,aN⟩;have kk:=kk.trans aN;have bp:=bp.kept aN (bM _ (Ab _));go_wp2_with fail;have rJ:w.heap.size<w3.heap.size:=bp.lt;refine(agR h3).mono ?_
  case' false=>
   refine(ja h2 _ JB (by rfl) (by decide) c2).mono ?_;rintro e w3 ⟨rfl,h3,aN⟩;have kk:=kk.trans aN;have bp:=bp.kept aN (bM _ (Ab _));clear aN;go_wp2_with fail
   cases c3:aG f_ (ay g st)
   case' true=>
    have EQ:Hid (dq g (aQ g k) st=(eM g qL {st with next:=st.next+1},gG)/\jG g (dh g k) fo st=oh fo (ay g {st with next:=st.next+1})):=⟨by unfold dq;rw[if_neg (by rw[c1];simp),if_neg (by rw[c2];simp),if_pos c3],by unfold jG;rw[if_neg (by rw[c1];simp),if_neg (by rw[c2];simp),if_pos c3]⟩;have aw:=j0 c3;refine(js h3 _ f_ (by rfl) (by decide) c3).mono ?_;rintro e w4 ⟨rfl,h4,aN⟩;have kk:=kk.trans aN;have bp:=bp.kept aN (bM _ (Ab _));go_wp2_with fail;have rJ:w.heap.size<w4.heap.size:=bp.lt;refine(ahw h4).mono ?_
   case' false=>
    refine(ja h3 _ f_ (by rfl) (by decide) c3).mono ?_;rintro e w4 ⟨rfl,h4,aN⟩;have kk:=kk.trans aN;have bp:=bp.kept aN (bM _ (Ab _));clear aN;go_wp2_with fail
    cases c4:aG Jy (ay g st)
    case' true=>
     have EQ:Hid (dq g (aQ g k) st=({st with next:=st.next+1},gG)/\jG g (dh g k) fo st=kj [(10,10)] fo true):=⟨by unfold dq;rw[if_neg (by rw[c1];simp),if_neg (by rw[c2];simp),if_neg (by rw[c3];simp),if_pos (by rw[JV,c4];simp)],by unfold jG;rw[if_neg (by rw[c1];simp),if_neg (by rw[c2];simp),if_neg (by rw[c3];simp),if_pos (by rw[JV,c4];simp)];unfold IG;rw[if_pos c4]⟩;have aw:=j0 c4;refine(js h4 _ Jy (by rfl) (by decide) c4).mono ?_;rintro e w5 ⟨rfl,h5,aN⟩;have kk:=kk.trans aN;have bp:=bp.kept aN (bM _ (Ab _));go_wp2_with fail;have rJ:w.heap.size<w5.heap.size:=bp.lt;have fy:=Wh w5 10 10;have bp:=bp.alloc (.cells #[.int .i32 10,.int .i32 10] 219);have kk:=kk.alloc (.cells #[.int .i32 10,.int .i32 10] 219);have sa:=fO w5 (.cells #[.int .i32 10,.int .i32 10] 219);refine(EB (l:=[(10,10)]) (cap:=1) (h5.nil ((aa.refl af w5).alloc (.cells #[.int .i32 10,.int .i32 10] 219))) true fy (dz.one (by omega) (by omega)) (by simp) (by simp) (by omega)).mono ?_
    case' false=>
     refine(ja h4 _ Jy (by rfl) (by decide) c4).mono ?_;rintro e w5 ⟨rfl,h5,aN⟩;have kk:=kk.trans aN;have bp:=bp.kept aN (bM _ (Ab _));clear aN;go_wp2_with fail
     cases c5:aG M9 (ay g st)
     case true=>
      have EQ:Hid (dq g (aQ g k) st=({st with next:=st.next+1},gG)/\jG g (dh g k) fo st=u9 (sF (ay g st))):=⟨by unfold dq;rw[if_neg (by rw[c1];simp),if_neg (by rw[c2];simp),if_neg (by rw[c3];simp),if_pos (by rw[JV,c5];simp)],by unfold jG;rw[if_neg (by rw[c1];simp),if_neg (by rw[c2];simp),if_neg (by rw[c3];simp),if_pos (by rw[JV,c5];simp)];unfold IG;rw[if_neg (by rw[c4];simp)]⟩;have aw:=j0 c5;refine(js h5 _ M9 (by rfl) (by decide) c5).mono ?_;rintro e w6 ⟨rfl,h6,aN⟩;have kk:=kk.trans aN;have bp:=bp.kept aN (bM _ (Ab _));go_wp2_with fail;have rJ:w.heap.size<w6.heap.size:=bp.lt;refine(aaw _ _).mono ?_;rintro e wz ⟨rfl,rfl⟩;have pP:=cI.eE wz (w.heap.size+1) wz.heap.size (sF (ay g st)) (aav _);obtain⟨e0,e1,e2,e3,e4,e5,e6,e7⟩:=bp.gZ;obtain⟨g0,g1,g2,g3,g4,g5,g6,g7⟩:=bp.nU;simp only[bB]at e0 e1 e2 e3 e4 e5 e6 e7;have pO:w.heap.size<wz.heap.size:=bp.lt;go_wp2_with fail;have fZ:=Nj hR h6 pP (by omega) (Ab _) kk;have ln:=vV bp (zQ (sF (ay g st)));simp only[ga,zQ]at fZ ln;refine vQ (i:=2) (b:=w.heap.size) (q:=(zQ (sF (ay g st)))) results109 rfl rfl ln ?_;rw[EQ.o.1,EQ.o.2];exact⟨_,rfl,fZ⟩
     case' false=>
      have EQ:Hid (dq g (aQ g k) st=(pq g M6 st,gG)/\jG g (dh g k) fo st=kj [(ay g st,ay g st)] fo false):=⟨by unfold dq;rw[if_neg (by rw[c1];simp),if_neg (by rw[c2];simp),if_neg (by rw[c3];simp),if_neg (by rw[JV,c4,c5];simp)],by unfold jG;rw[if_neg (by rw[c1];simp),if_neg (by rw[c2];simp),if_neg (by rw[c3];simp),if_neg (by rw[JV,c4,c5];simp)]⟩;refine(ja h5 _ M9 (by rfl) (by decide) c5).mono ?_;rintro e w6 ⟨rfl,h6,aN⟩;have kk:=kk.trans aN;have bp:=bp.kept aN (bM _ (Ab _));go_wp2_with fail;refine(acT h6 _ M6 (by rfl) (by decide)).mono ?_;rintro e w7 ⟨rfl,h7,aN⟩;have kk:=kk.trans aN;have bp:=bp.kept aN (bM _ (Ab _));go_wp2_with fail;have rJ:w.heap.size<w7.heap.size:=bp.lt;have fy:=Wh w7 (ay g st) (ay g st);have bp:=bp.alloc (.cells #[.int .i32 (ay g st),.int .i32 (ay g st)] 219);have kk:=kk.alloc (.cells #[.int .i32 (ay g st),.int .i32 (ay g st)] 219);have sa:=fO w7 (.cells #[.int .i32 (ay g st),.int .i32 (ay g st)] 219);refine(EB (l:=[((ay g st),(ay g st))]) (cap:=1) (h7.nil ((aa.refl af w7).alloc (.cells #[.int .i32 (ay g st),.int .i32 (ay g st)] 219))) false fy (dz.one (xl st) (xl st)) (by simp) (by simp) (by omega)).mono ?_
 all_goals
  rintro e wz ⟨q,rfl,hz,pP,sR⟩;have bz:=bp.kept sR (bM _ (Ab _));have kz:=kk.trans sR;obtain⟨e0,e1,e2,e3,e4,e5,e6,e7⟩:=bz.gZ;obtain⟨g0,g1,g2,g3,g4,g5,g6,g7⟩:=bz.nU;simp only[bB]at e0 e1 e2 e3 e4 e5 e6 e7;have pO:w.heap.size<wz.heap.size:=bz.lt;simp only[Nv.val,Nv.cells];go_wp2_with fail;have fZ:=Nj hR hz pP (by omega) (Ab _) kz;have ln:=vV bz q;simp only[ga]at fZ ln;refine vQ (i:=2) (b:=w.heap.size) (q:=q) results109 rfl rfl ln ?_;rw[EQ.o.1,EQ.o.2];exact⟨_,rfl,fZ⟩
def J5(g:RG)(aE:RS->RS×PT):Prop:=∀st,st.next<=g.rs.length->st.next<=(aE st).1.next/\(aE st).1.next<=g.rs.length
theorem adw(g:RG)(st:RS)(h:st.next<=g.rs.length):st.next<=(jr g st).1.next/\(jr g st).1.next<=g.rs.length:=by
 unfold jr;split
 ·rename_i hc;have:=j0 hc;simp;omega
 ·simp[WX];exact h
theorem adJ(g:RG)(st:RS)(h:st.next<=g.rs.length):st.next<=(fD g st).1.next/\(fD g st).1.next<=g.rs.length:=by
 have h1:=adw g st h;have h2:=adw g _ h1.2;unfold fD;split
 ·simp only;omega
 ·exact h1
theorem amf(g:RG)(st:RS)(h:st.next<=g.rs.length):st.next<=(eF g st).1.next/\(eF g st).1.next<=g.rs.length:=by
 have h1:=adJ g st h;unfold eF;split
 ·rename_i hc
  have hl:=j0 hc;have h2:=adJ g {(fD g st).1 with next:=(fD g st).1.next+1} (by simp;omega)
  have h3:(fD g st).1.next<=(rZ g {(fD g st).1 with next:=(fD g st).1.next+1}).1.next/\(rZ g {(fD g st).1 with next:=(fD g st).1.next+1}).1.next<=g.rs.length:=by
   unfold rZ;split
   ·simp;omega
   ·simp only at h2⊢;omega
  have h4:=xu g vM _ h3.2;simp only at h3 h4⊢;omega
 ·have h4:=xu g vM _ h1.2;simp only;omega
theorem adO(g:RG)(a:PT)(st:RS)(h:st.next<=g.rs.length):st.next<=(gJ g a st).1.next/\(gJ g a st).1.next<=g.rs.length:=by
 have key:∀l,aG l (ay g st)=true->st.next<=(fq g ic {st with next:=st.next+1}).next/\(fq g ic {st with next:=st.next+1}).next<=g.rs.length:=by
  intro l hl;have h1:=j0 hl;have:=JY g ic {st with next:=st.next+1} (by simp;omega);simp only at this;omega
 unfold gJ;split
 ·rename_i hc;exact key _ hc
 ·split
  ·rename_i hc;exact key _ hc
  ·split
   ·rename_i hc;exact key _ hc
   ·split
    ·rename_i hc
     have h1:=j0 hc;have h2:=amf g {st with next:=st.next+1} (by simp;omega);simp only at h2⊢;split
     ·have:=JY g ic ((eF g {st with next:=st.next+1}).1.eo 4 (qQ g st)) (by rw[Wv];exact h2.2);rw[Wv]at this;omega
     ·have:=JY g ic (eF g {st with next:=st.next+1}).1 h2.2;omega
    ·exact⟨Ab _,h⟩
theorem adu(g:RG)(aE:RS->RS×PT)(ha:J5 g aE)(st:RS)(h:st.next<=g.rs.length):st.next<=(dq g aE st).1.next/\(dq g aE st).1.next<=g.rs.length/\(st.next<g.rs.length->st.next<(dq g aE st).1.next):=by
 unfold dq;split
 ·rename_i hc
  have h1:=j0 hc;have h2:=adz g {st with next:=st.next+1} (by simp;omega);have h3:=ha (iu g {st with next:=st.next+1}) h2.2;have h4:=xu g JD _ h3.2;simp only[vU]at*;omega
 ·split
  ·rename_i hc
   have h1:=j0 hc;have h2:=amk g {st with next:=st.next+1} (by simp;omega);simp only at h2⊢;omega
  ·split
   ·rename_i hc
    have h1:=j0 hc;have h2:=xu g qL {st with next:=st.next+1} (by simp;omega);simp only at h2⊢;omega
   ·split
    ·rename_i hc
     have h1:=j0 hc;simp;omega
    ·exact acU g M6 st h
theorem adR(g:RG)(aE:RS->RS×PT)(m:Nat)(st:RS)(aA:List PT)(h:ay g st= -1\/aG oG (ay g st)=true):gS g aE m st aA=(st,aA):=by
 cases m with
 |zero=>rfl
 |succ m=>unfold gS;rw[if_pos h]
theorem adT(g:RG)(aE:RS->RS×PT)(ha:J5 g aE):∀(m:Nat) (st:RS) (aA:List PT),st.next<=g.rs.length->st.next<=(gS g aE m st aA).1.next/\(gS g aE m st aA).1.next<=g.rs.length
 |0,st,_,h=>⟨Ab _,h⟩
 |m+1,st,aA,h=>by
  unfold gS;split
  ·exact⟨Ab _,h⟩
  ·have h1:=adu g aE ha st h;have h2:=adO g (dq g aE st).2 _ h1.2.1;have h3:=adT g aE ha m _ (aA++[(gJ g (dq g aE st).2 (dq g aE st).1).2]) h2.2;omega
theorem Rk(g:RG)(aE:RS->RS×PT)(ha:J5 g aE)(st:RS)(h:st.next<=g.rs.length):st.next<=(dK g aE st).1.next/\(dK g aE st).1.next<=g.rs.length:=adT g aE ha _ st [] h
theorem adr(g:RG)(aE:RS->RS×PT)(ha:J5 g aE):∀(m:Nat) (st:RS) (aA:List PT),st.next<=g.rs.length->st.next<=(gi g aE m st aA).1.next/\(gi g aE m st aA).1.next<=g.rs.length
 |0,st,_,h=>⟨Ab _,h⟩
 |m+1,st,aA,h=>by
  unfold gi;split
  ·rename_i hc
   have h1:=j0 hc;have h2:=Rk g aE ha {st with next:=st.next+1} (by simp;omega);have h3:=adr g aE ha m _ (aA++[(dK g aE {st with next:=st.next+1}).2]) h2.2;simp only at h2 h3⊢;omega
  ·exact⟨Ab _,h⟩
theorem Rc(g:RG):∀k,J5 g (aQ g k)
 |0=>fun st h=>⟨Ab _,h⟩
 |k+1=>fun st h=>by
  have ha:=Rc g k;have h1:=Rk g (aQ g k) ha st h;have h2:=adr g (aQ g k) ha (g.rs.length+1) _ [(dK g (aQ g k) st).2] h1.2;show st.next<=(gi g (aQ g k) (g.rs.length+1) (dK g (aQ g k) st).1 [(dK g (aQ g k) st).2]).1.next/\_
  exact⟨by omega,h2.2⟩
theorem Tryz.acb:(prog.info? 64).map (fun i=>(i.zero,i.size,i.bytes))=some (some (.agg #[.int .i64 0,.slice none 0 0,.slice none 0 0,.int .i64 0,.int .i64 0,.int .i64 0,.int .i64 0,.bool false]),8,96):=by kernel_rfl
theorem Wg{w3:World}{ry:Bool}{k_:RS}{v:Value}{qs:List Nv}{aA:List PT}{cs:List CT}{k tk:Int}(hR:aS w g fo st)(h3:aS w3 g ry k_)(ps:np w3 (w.heap.size+1) v qs aA cs)(hk:(k=3/\tk=2)\/(k=4/\tk=3/\aA≠ []))(k1:aa g.au w w3):
 ∃pa pc,v=.slice pa aA.length pc/\aS (ga w3 w.heap.size (jB k pa aA.length pc)) g ry k_/\cI (ga w3 w.heap.size (jB k pa aA.length pc)) w.heap.size (ga w3 w.heap.size (jB k pa aA.length pc)).heap.size (jB k pa aA.length pc) (.node tk aA 0 0) (.node k [] false false 0 0 0 0 false cs)/\
 aa g.au w (ga w3 w.heap.size (jB k pa aA.length pc)):=by
 obtain⟨pa,pc,rfl,hp⟩:=ps.node k tk hk;have sz:=Nt w3 w.heap.size (jB k pa aA.length pc);have kq:=JO w3 w.heap.size (jB k pa aA.length pc);exact⟨pa,pc,rfl,h3.new hR kq (fun i hi=>by omega),(hp.kept kq (fun i h1 _ he=>by omega) (Ab _)).Hy (by omega) (by omega),k1.bZ kq (fun i hi he=>by omega)⟩
theorem aex(hA:Hz g k)(hR:aS w g fo st)(Vy:g.rs.length-st.next<=k):
 Calls prog 82 #[.pointer (some ⟨g.b,0,none⟩)] w fun e w'=>∃q,e=.returned (Nv.val q)/\aS w' g fo (dK g (aQ g k) st).1/\cI w' w.heap.size w'.heap.size q (dK g (aQ g k) st).2 (lJ g (aQ g k) (dh g k) fo st)/\aa g.au w w':=by
 have cT:=hR.len;have lQ:=hR.next
 have bM:∀i,w.heap.size<=i->¬g.au i:=fun i hi hx=>by have:=hR.gR hx;omega
 obtain⟨i0,cS,dm,dp,c_⟩:=Bp Tryz.acb;have ha:=hR.nil ((aa.refl af w).alloc (.cells bB.cells 64));have vw:=aq.new w bB.cells 64;have sQ:aa g.au w (w.alloc (.cells bB.cells 64)):=(aa.refl _ w).alloc _;have VE:w.heap.size+1<=(w.alloc (.cells bB.cells 64)).heap.size:=by simp
 have nO:=np.nil (w.alloc (.cells bB.cells 64)) (w.heap.size+1);unfold dK lJ;go_in;go_wp2_with fail;go_loopg [3] (g.rs.length-st.next) (fun kk v wr=>∃aC m aA cs qs,aS wr g fo aC/\np wr (w.heap.size+1) v qs aA cs/\Hid (gS g (aQ g k) m aC aA=gS g (aQ g k) (g.rs.length+1) st [])/\Hid (km g (aQ g k) (dh g k) fo m aC cs=km g (aQ g k) (dh g k) fo (g.rs.length+1) st [])/\kk=g.rs.length-aC.next/\kk<m/\st.next<=aC.next/\aA.length<=aC.next/\aa g.au w wr/\w.heap.size+1<=wr.heap.size/\aq wr w.heap.size bB.cells 64)
 case atStart=>exact⟨st,g.rs.length+1,[],[],[],ha,nO,rfl,rfl,rfl,by omega,Ab _,by simp,sQ,VE,vw⟩
 case round=>
  obtain⟨aC,m,aA,cs,qs,hr,sM,HP,xU,rfl,hm,ia,aiE,hk,aP,hb⟩:=hrel;clear ha sQ vw VE nO;have hle:=hr.next
  by_cases ff:ay g aC= -1
  ·have wV:(ay g aC != -1)=false:=(by simp[ff]);go_wp2_with fail;refine(nS hr).mono ?_;rintro e w3 ⟨rfl,h3,bA⟩;have HE:Hid (gS g (aQ g k) (g.rs.length+1) st []=(aC,aA)):=by show _=_;rw[<-HP.o,adR g _ m aC aA (Or.inl ff)]
   have HC:Hid (km g (aQ g k) (dh g k) fo (g.rs.length+1) st []=cs):=by show _=_;rw[<-xU.o,TA g _ _ fo m aC cs (Or.inl ff)]
   clear ff HP xU;have Nq:=sM.kept bA (fun i hi=>by have:=hR.gR hi;omega);have b3:=hb.kept bA (bM _ (Ab _));have G5:=hk.trans bA;have s3:=bA.size;obtain⟨fQ,c3,kX,fZ⟩:=Wg (k:=3) (tk:=2) hR h3 Nq (Or.inl ⟨rfl,rfl⟩) G5;rw[kX];clear kX sM hb hk hr;obtain⟨e0,e1,e2,e3,e4,e5,e6,e7⟩:=b3.gZ;obtain⟨g0,g1,g2,g3,g4,g5,g6,g7⟩:=b3.nU;simp only[bB]at e0 e1 e2 e3 e4 e5 e6 e7;have pO:w.heap.size<w3.heap.size:=b3.lt;go_wp2_with fail;have ln:=vV b3 (jB 3 fQ aA.length c3);simp only[ga,jB]at fZ ln;refine vQ (i:=2) (b:=w.heap.size) (q:=jB 3 fQ aA.length c3) results82 ?_ ?_ ?_ ?_
   ·rfl
   ·rfl
   ·exact ln
   ·rw[HE.o,HC.o];exact⟨_,rfl,fZ⟩
  ·have wV:(ay g aC != -1)=true:=(by simp[ff]);have aw:=Wj ff;clear ff
   cases oD:aG oG (ay g aC)
   ·go_wp2_with fail
    refine(nS hr).mono ?_;rintro e w3 ⟨rfl,h3,bA⟩;go_wp2_with fail;refine(xB h3 _ oG (by rfl) (by decide)).mono ?_;rintro e w4 ⟨rfl,h4,dC⟩;rw[oD];go_wp2_with fail;refine(afR hA h4 (by omega)).mono ?_;rintro e w5 ⟨q5,rfl,h5,GC,cW⟩;go_wp2_with fail;refine(anD h5 GC (Ab _) cW.size (fun i hi=>h4.gR hi)).mono ?_;rintro e w6 ⟨q,rfl,h6,GD,gE⟩;have qK:=(bA.trans dC);have Hm:=sM.kept ((qK.trans cW).trans gE) (fun i hi=>by have:=hR.gR hi;omega);have dw:aA.length<=300:=(by omega);simp only[Nv.val,Nv.cells];go_wp2_with (at_builtin;refine Ap _ rfl _ _ 59 rfl (w.heap.size+1) 64 i0 _ 8 96 underlying59 cS dm dp c_ rfl (by decide) _ _ _ rfl (Hm.au.alloc (.cells q.cells 64)) ⟨w6.heap.size,0,none⟩ 1 1 q.cells.toList rfl rfl ?c1 ?c2 ?c3 ?c4 ?c5 ?_)
    case c1=>exact ac9 q
    case c2=>exact q.one
    case c3=>unfold maxLen;omega
    case c4=>omega
    case c5=>have:=qK.size;have:=cW.size;have:=gE.size;simp;omega
    intro v' w7 bH b_ dS cB;have s34:=qK.size;have s5:=cW.size;have s6:=gE.size;have Hl:=sM.kept qK (fun i hi=>by have:=hR.gR hi;omega);have GZ:aa af w6 (w6.alloc (.cells q.cells 64)):=(aa.refl _ _).alloc _;have WV:=np.qU (q:=q) Hm GD (by omega) (fun b hb=>(uA Hl.au hb).2) (Ab _) GZ bH b_ (by rw[fO];simpa using cB) (by omega);have ly:aa (fun i=>u3.ownBlock=some i) w6 w7:=(GZ.mono (fun _ hx=>hx.elim)).eQ b_ (fun j hj=>Or.inl hj);have Gn:∀i,u3.ownBlock=some i->w.heap.size+1<=i:=(fun i hi=>(uA Hl.au hi).1);have h7:=h6.new hR ly (fun i hi=>by have:=Gn i hi;omega)
    have MY:=(((hk.trans qK).trans cW).trans gE).bZ ly (fun i hi he=>by have:=Gn i he;omega);have yo:=(hb.kept ((qK.trans cW).trans gE) (bM _ (Ab _))).kept ly (fun he=>by have:=Gn _ he;omega);have s7:=ly.size;clear bH b_ cB dS Hm Hl sM cW gE bA dC GZ ly GC GD hb;have n1:=adu g (aQ g k) (Rc g k) aC (by omega);have n2:=adO g (dq g (aQ g k) aC).2 _ n1.2.1;have n3:=n1.2.2 aw;go_wp2_with fail;go_roundg (g.rs.length-(gJ g (dq g (aQ g k) aC).2 (dq g (aQ g k) aC).1).1.next)
    case measure=>omega
    case rel=>
     have L9:¬(ay g aC= -1\/aG oG (ay g aC)=true):=by simp[oD];simpa using wV
     obtain⟨m',rfl⟩:∃m',m=m'+1:=⟨m-1,by omega⟩
     refine⟨_,m',_,_,_,h7,WV,?_,?_,rfl,by omega,by omega,by simp;omega,MY,by omega,yo⟩
     ·rw[<-HP.o];show gS g (aQ g k) m' _ _=gS g (aQ g k) (m'+1) aC aA
      rw[show gS g (aQ g k) (m'+1) aC aA=if ay g aC= -1\/aG oG (ay g aC)=true then(aC,aA)else gS g (aQ g k) m' (gJ g (dq g (aQ g k) aC).2 (dq g (aQ g k) aC).1).1 (aA++[(gJ g (dq g (aQ g k) aC).2 (dq g (aQ g k) aC).1).2])from rfl,if_neg L9]
     ·rw[<-xU.o];show km g (aQ g k) (dh g k) fo m' _ _=km g (aQ g k) (dh g k) fo (m'+1) aC cs
      rw[show km g (aQ g k) (dh g k) fo (m'+1) aC cs=if ay g aC= -1\/aG oG (ay g aC)=true then cs else km g (aQ g k) (dh g k) fo m' (gJ g (dq g (aQ g k) aC).2 (dq g (aQ g k) aC).1).1 (cs++[mh g (jG g (dh g k) fo aC) (dq g (aQ g k) aC).1])from rfl,if_neg L9]
   ·go_wp2_with fail
    refine(nS hr).mono ?_;rintro e w2 ⟨rfl,h2,aN⟩;go_wp2_with fail;refine(xB h2 _ oG (by rfl) (by decide)).mono ?_;rintro e w3 ⟨rfl,h3,Gu⟩;have bA:=aN.trans Gu;rw[oD];have HE:Hid (gS g (aQ g k) (g.rs.length+1) st []=(aC,aA)):=by show _=_;rw[<-HP.o,adR g _ m aC aA (Or.inr oD)]
    have HC:Hid (km g (aQ g k) (dh g k) fo (g.rs.length+1) st []=cs):=by show _=_;rw[<-xU.o,TA g _ _ fo m aC cs (Or.inr oD)]
    clear HP xU;have Nq:=sM.kept bA (fun i hi=>by have:=hR.gR hi;omega);have b3:=hb.kept bA (bM _ (Ab _));have G5:=hk.trans bA;have s3:=bA.size;obtain⟨fQ,c3,kX,fZ⟩:=Wg (k:=3) (tk:=2) hR h3 Nq (Or.inl ⟨rfl,rfl⟩) G5;rw[kX];clear kX sM hb hk hr;obtain⟨e0,e1,e2,e3,e4,e5,e6,e7⟩:=b3.gZ;obtain⟨g0,g1,g2,g3,g4,g5,g6,g7⟩:=b3.nU;simp only[bB]at e0 e1 e2 e3 e4 e5 e6 e7;have pO:w.heap.size<w3.heap.size:=b3.lt;go_wp2_with fail;have ln:=vV b3 (jB 3 fQ aA.length c3);simp only[ga,jB]at fZ ln;refine vQ (i:=2) (b:=w.heap.size) (q:=jB 3 fQ aA.length c3) results82 ?_ ?_ ?_ ?_
    ·rfl
    ·rfl
    ·exact ln
    ·rw[HE.o,HC.o];exact⟨_,rfl,fZ⟩
theorem np.one{base:Nat}(hp:cI w lo hi q T C)(mW:base<=lo)(lM:hi<=w.heap.size)(hb:base<=w.heap.size):
 np (w.alloc (.cells q.cells 64)) base (.slice (some ⟨w.heap.size,0,none⟩) 1 1) [q] [T] [C]:=by
 refine⟨⟨rfl,Or.inr ⟨w.heap.size,1,q.cells,rfl,hb,aq.new w _ _,Ab _,by unfold maxLen;omega,rfl,rfl⟩⟩,rfl,rfl,by simp,fun i h1 h2 h3=>?_⟩;have e:i=0:=by simp at h1;omega
 subst e;refine⟨lo,hi,mW,by simp;omega,hp.kept ((aa.refl af w).alloc _) (fun _ _ _ hx=>hx) lM,fun b jV=>?_⟩;simp[Value.ownBlock]at jV;omega
theorem amc(g:RG)(aE:RS->RS×PT)(m:Nat)(st:RS)(aA:List PT)(h:aG tf (ay g st)=false):gi g aE m st aA=(st,aA):=by
 cases m with
 |zero=>rfl
 |succ m=>unfold gi;rw[if_neg (by simp[h])]
theorem afL(hA:Hz g k):Hz g (k+1):=by
 intro w fo st hR Vy;have cT:=hR.len;have lQ:=hR.next
 have bM:∀i,w.heap.size<=i->¬g.au i:=fun i hi hx=>by have:=hR.gR hx;omega
 obtain⟨i0,cS,dm,dp,c_⟩:=Bp Tryz.acb;have ap5:=Rk g (aQ g k) (Rc g k) st lQ;have ha:=hR.nil ((aa.refl af w).alloc (.cells bB.cells 64));have vw:=aq.new w bB.cells 64;have sQ:aa g.au w (w.alloc (.cells bB.cells 64)):=(aa.refl _ w).alloc _;show Calls prog 56 #[.pointer (some ⟨g.b,0,none⟩)] w fun e w'=>∃q,e=.returned (Nv.val q)/\aS w' g fo (gi g (aQ g k) (g.rs.length+1) (dK g (aQ g k) st).1 [(dK g (aQ g k) st).2]).1/\cI w' w.heap.size w'.heap.size q (.node 3 (gi g (aQ g k) (g.rs.length+1) (dK g (aQ g k) st).1 [(dK g (aQ g k) st).2]).2 0 0) (.node 4 [] false false 0 0 0 0 false (jU g (aQ g k) (dh g k) fo (g.rs.length+1) (dK g (aQ g k) st).1 [lJ g (aQ g k) (dh g k) fo st]))/\aa g.au w w'
 go_in
 go_wp2_with fail
 refine(aex hA ha (by omega)).mono ?_;rintro e w1 ⟨q1,rfl,h1,nN,aU⟩;simp only[Nv.val,Nv.cells];go_wp2_with fail;have s1:=aU.size;rw[fO]at s1 nN;have nO:=np.one (base:=w.heap.size+1) (q:=q1) nN (Ab _) (Ab _) s1;have vD:=(sQ.trans aU).alloc (.cells q1.cells 64);have iW:=(vw.kept aU (bM _ (Ab _))).alloc (.cells q1.cells 64);have gO:=h1.nil ((aa.refl af w1).alloc (.cells q1.cells 64));generalize hS:dK g (aQ g k) st=x0 at*;generalize hSC:lJ g (aQ g k) (dh g k) fo st=y0 at*;go_loopg [3] (g.rs.length-x0.1.next) (fun kk v wr=>∃aC m aA cs qs,aS wr g fo aC/\np wr (w.heap.size+1) v qs aA cs/\Hid (gi g (aQ g k) m aC aA=gi g (aQ g k) (g.rs.length+1) x0.1 [x0.2])/\Hid (jU g (aQ g k) (dh g k) fo m aC cs=jU g (aQ g k) (dh g k) fo (g.rs.length+1) x0.1 [y0])/\kk=g.rs.length-aC.next/\kk<m/\st.next<=aC.next/\aA.length<=aC.next+1/\aA≠ []/\aa g.au w wr/\w.heap.size+1<=wr.heap.size/\aq wr w.heap.size bB.cells 64)
 case atStart=>exact⟨x0.1,g.rs.length+1,_,_,_,gO,nO,rfl,rfl,rfl,by omega,by omega,by simp,by simp,vD,by simp;omega,iW⟩
 case round=>
  obtain⟨aC,m,aA,cs,qs,hr,sM,HP,xU,rfl,hm,ia,aiE,az,hk,aP,hb⟩:=hrel;have HS:Hid (dK g (aQ g k) st=x0):=hS;have HSC:Hid (lJ g (aQ g k) (dh g k) fo st=y0):=hSC;clear ha sQ vw nO vD iW gO h1 aU nN hS hSC;have hle:=hr.next
  cases oD:aG tf (ay g aC)
  ·go_wp2_with fail
   refine(ja hr _ tf (by rfl) (by decide) oD).mono ?_;rintro e w3 ⟨rfl,h3,bA⟩;have HE:Hid (gi g (aQ g k) (g.rs.length+1) x0.1 [x0.2]=(aC,aA)):=by show _=_;rw[<-HP.o,amc g _ m aC aA oD]
   have Ib:Hid (jU g (aQ g k) (dh g k) fo (g.rs.length+1) x0.1 [y0]=cs):=by show _=_;rw[<-xU.o,Z8 g _ _ fo m aC cs oD]
   clear HP xU;have Nq:=sM.kept bA (fun i hi=>by have:=hR.gR hi;omega);have b3:=hb.kept bA (bM _ (Ab _));have G5:=hk.trans bA;have s3:=bA.size;obtain⟨fQ,c3,kX,fZ⟩:=Wg (k:=4) (tk:=3) hR h3 Nq (Or.inr ⟨rfl,rfl,az⟩) G5;rw[kX];clear kX sM hb hk hr;obtain⟨e0,e1,e2,e3,e4,e5,e6,e7⟩:=b3.gZ;obtain⟨g0,g1,g2,g3,g4,g5,g6,g7⟩:=b3.nU;simp only[bB]at e0 e1 e2 e3 e4 e5 e6 e7;have pO:w.heap.size<w3.heap.size:=b3.lt;go_wp2_with fail;have ln:=vV b3 (jB 4 fQ aA.length c3);simp only[ga,jB]at fZ ln;refine vQ (i:=2) (b:=w.heap.size) (q:=jB 4 fQ aA.length c3) results56 ?_ ?_ ?_ ?_
   ·rfl
   ·rfl
   ·exact ln
   ·rw[HS.o,HE.o,HSC.o,Ib.o];exact⟨_,rfl,fZ⟩
  ·have aw:=j0 oD;have n2:=Rk g (aQ g k) (Rc g k) {aC with next:=aC.next+1} (by simp;omega);go_wp2_with fail;refine(js hr _ tf (by rfl) (by decide) oD).mono ?_;rintro e w4 ⟨rfl,h4,dC⟩;go_wp2_with fail;refine(aex hA h4 (by simp;omega)).mono ?_;rintro e w6 ⟨q,rfl,h6,GD,gE⟩;have Hm:=sM.kept (dC.trans gE) (fun i hi=>by have:=hR.gR hi;omega);have dw:aA.length<=301:=(by omega);simp only[Nv.val,Nv.cells];go_wp2_with (at_builtin;refine Ap _ rfl _ _ 59 rfl (w.heap.size+1) 64 i0 _ 8 96 underlying59 cS dm dp c_ rfl (by decide) _ _ _ rfl (Hm.au.alloc (.cells q.cells 64)) ⟨w6.heap.size,0,none⟩ 1 1 q.cells.toList rfl rfl ?c1 ?c2 ?c3 ?c4 ?c5 ?_)
   case c1=>exact ac9 q
   case c2=>exact q.one
   case c3=>unfold maxLen;omega
   case c4=>omega
   case c5=>have:=dC.size;have:=gE.size;simp;omega
   intro v' w7 bH b_ dS cB;have s34:=dC.size;have s6:=gE.size;have Hl:=sM.kept dC (fun i hi=>by have:=hR.gR hi;omega);have GZ:aa af w6 (w6.alloc (.cells q.cells 64)):=(aa.refl _ _).alloc _;have WV:=np.qU (q:=q) Hm GD (by omega) (fun b hb=>(uA Hl.au hb).2) (Ab _) GZ bH b_ (by rw[fO];simpa using cB) (by omega);have ly:aa (fun i=>u3.ownBlock=some i) w6 w7:=(GZ.mono (fun _ hx=>hx.elim)).eQ b_ (fun j hj=>Or.inl hj);have Gn:∀i,u3.ownBlock=some i->w.heap.size+1<=i:=(fun i hi=>(uA Hl.au hi).1);have h7:=h6.new hR ly (fun i hi=>by have:=Gn i hi;omega)
   have MY:=((hk.trans dC).trans gE).bZ ly (fun i hi he=>by have:=Gn i he;omega);have yo:=(hb.kept (dC.trans gE) (bM _ (Ab _))).kept ly (fun he=>by have:=Gn _ he;omega);have s7:=ly.size;clear bH b_ cB dS Hm Hl sM gE dC GZ ly GD hb;go_wp2_with fail;go_roundg (g.rs.length-(dK g (aQ g k) {aC with next:=aC.next+1}).1.next)
   case measure=>omega
   case rel=>
    obtain⟨m',rfl⟩:∃m',m=m'+1:=⟨m-1,by omega⟩
    refine⟨_,m',_,_,_,h7,WV,?_,?_,rfl,by omega,by omega,by simp;omega,by simp,MY,by omega,yo⟩
    ·rw[<-HP.o];show gi g (aQ g k) m' _ _=gi g (aQ g k) (m'+1) aC aA
     rw[show gi g (aQ g k) (m'+1) aC aA=if aG tf (ay g aC)then gi g (aQ g k) m' (dK g (aQ g k) {aC with next:=aC.next+1}).1 (aA++[(dK g (aQ g k) {aC with next:=aC.next+1}).2])else(aC,aA)from rfl,if_pos oD]
    ·rw[<-xU.o];show jU g (aQ g k) (dh g k) fo m' _ _=jU g (aQ g k) (dh g k) fo (m'+1) aC cs
     rw[show jU g (aQ g k) (dh g k) fo (m'+1) aC cs=if aG tf (ay g aC)then jU g (aQ g k) (dh g k) fo m' (dK g (aQ g k) {aC with next:=aC.next+1}).1 (cs++[lJ g (aQ g k) (dh g k) fo {aC with next:=aC.next+1}])else cs from rfl,if_pos oD]
theorem To(g:RG):∀k,Hz g k
 |0=>fun w fo st hR h=>absurd h (by omega)
 |k+1=>afL (To g k)
theorem apr(hR:aS w g false st):
 Calls prog 38 #[.pointer (some ⟨g.b,0,none⟩)] w fun e w'=>∃q,e=.returned (Nv.val q)/\aS w' g false (dY g st).1/\cI w' w.heap.size w'.heap.size q (dY g st).2 (pL g st)/\aa g.au w w':=by
 have ha:=hR.nil ((aa.refl af w).alloc (.cells bB.cells 64));have vw:=aq.new w bB.cells 64;have sQ:aa g.au w (w.alloc (.cells bB.cells 64)):=(aa.refl _ w).alloc _;have bM:∀i,w.heap.size<=i->¬g.au i:=fun i hi hx=>by have:=hR.gR hx;omega
 unfold dY pL;by_cases ff:ay g (aQ g (g.rs.length+1) st).1= -1
 ·rw[if_pos ff];have wV:(ay g (aQ g (g.rs.length+1) st).1 != -1)=false:=by simp[ff]
  clear ff;go_in;go_wp2_with fail;refine(To g (g.rs.length+1) _ false st ha (by omega)).mono ?_;rintro e w1 ⟨q,rfl,h1,nN,aU⟩;simp only[Nv.val,Nv.cells];go_wp2_with fail;have s1:=aU.size;rw[fO]at s1 nN;have gO:=h1.nil ((aa.refl af w1).alloc (.cells q.cells 64));have V5:aa g.au w1 (w1.alloc (.cells q.cells 64)):=(aa.refl _ _).alloc _;have iW:=aq.new w1 q.cells 64;refine(nS gO).mono ?_;rintro e w2 ⟨rfl,h2,aN⟩;have hz:=h2;have MZ:=aN;obtain⟨wz,QI⟩:∃wz,wz=w2:=⟨_,rfl⟩
  subst QI;have kz:aa g.au w1 wz:=V5.trans MZ;have CD:=aU.trans kz;have b0:=vw.kept CD (bM _ (Ab _));have b1:=iW.kept MZ (bM _ (by omega));have sz:=kz.size;obtain⟨e0,e1,e2,e3,e4,e5,e6,e7⟩:=b0.gZ;obtain⟨g0,g1,g2,g3,g4,g5,g6,g7⟩:=b0.nU;obtain⟨d0,d1,d2,d3,d4,d5,d6,d7⟩:=b1.gZ;simp only[bB]at e0 e1 e2 e3 e4 e5 e6 e7;have pP:=nN.kept kz (fun i h1 _ hx=>bM i (by omega) hx) (Ab _);go_wp2_with fail;exact Hd (i:=2) hR hz pP (by omega) (by omega) (sQ.trans CD) b0 results38 rfl rfl (fun _ _ h=>h)
 ·rw[if_neg ff];have wV:(ay g (aQ g (g.rs.length+1) st).1 != -1)=true:=by simp[ff]
  clear ff;go_in;go_wp2_with fail;refine(To g (g.rs.length+1) _ false st ha (by omega)).mono ?_;rintro e w1 ⟨q,rfl,h1,nN,aU⟩;simp only[Nv.val,Nv.cells];go_wp2_with fail;have s1:=aU.size;rw[fO]at s1 nN;have gO:=h1.nil ((aa.refl af w1).alloc (.cells q.cells 64));have V5:aa g.au w1 (w1.alloc (.cells q.cells 64)):=(aa.refl _ _).alloc _;have iW:=aq.new w1 q.cells 64;refine(nS gO).mono ?_;rintro e w2 ⟨rfl,h2,aN⟩;go_wp2_with fail;refine(Nu h2).mono ?_;rintro e wz ⟨rfl,hz,sR⟩;have MZ:=aN.trans sR;have kz:aa g.au w1 wz:=V5.trans MZ;have CD:=aU.trans kz;have b0:=vw.kept CD (bM _ (Ab _));have b1:=iW.kept MZ (bM _ (by omega));have sz:=kz.size;obtain⟨e0,e1,e2,e3,e4,e5,e6,e7⟩:=b0.gZ;obtain⟨g0,g1,g2,g3,g4,g5,g6,g7⟩:=b0.nU;obtain⟨d0,d1,d2,d3,d4,d5,d6,d7⟩:=b1.gZ;simp only[bB]at e0 e1 e2 e3 e4 e5 e6 e7;have pP:=nN.kept kz (fun i h1 _ hx=>bM i (by omega) hx) (Ab _);go_wp2_with fail;exact Hd (i:=2) hR hz pP (by omega) (by omega) (sQ.trans CD) b0 results38 rfl rfl (fun _ _ h=>h)
theorem an5(ts:List PT)(i:Nat)(h:i<ts.length):PT.i_ (ts.take (i+1))=PT.i_ (ts.take i)+(ts[i]).size:=by
 induction ts generalizing i with
 |nil=>simp at h
 |cons t ts ih=>
  cases i with
  |zero=>simp[PT.i_]
  |succ i=>
   have:=ih i (by simpa using h);simp only[D8,PT.i_,Ah];omega
theorem Xm(ts:List PT)(h:∀i,(h:i<ts.length)->0<=(ts[i]).size/\(ts[i]).size<=1001):0<=PT.i_ ts/\PT.i_ ts<=1001*ts.length:=by
 induction ts with
 |nil=>simp[PT.i_]
 |cons t ts ih=>
  have h0:=h 0 (by simp);have h1:=ih (fun i hi=>by have:=h (i+1) (by simp;omega);simpa using this);simp only[PT.i_,Ai,Av]at*;omega
theorem acN{c s:Int}(hc:0<=c/\c<=100)(hs:0<=s/\s<=1000000):0<=c*s/\c*s<=100000000:=by
 refine⟨Int.mul_nonneg hc.1 hs.1,?_⟩
 calc c*s<=100*s:=D7 hc.2 hs.1
  _<=100000000:=by omega
theorem aah{lo hi:Int}(h1: -1<=lo/\lo<=99)(h2: -1<=hi/\hi<=99):0<=(if hi= -1 then lo+1 else hi)/\(if hi= -1 then lo+1 else hi)<=100:=by split<;>omega
theorem cI.size_range(h:cI w lo hi q T C):0<=T.size/\T.size<=1001:=by
 induction h with
 |mk q tk b bs ts cs V Sp sp fo nt hn hb hc hk cU oC hr ph ih=>
  have hs:=Xm ts (fun i h=>ih i h (by omega));obtain⟨r1,r2,r3,r4⟩:=hr;have hc:=aah r1 r2;have hm:=acN hc (s:=PT.i_ ts+1) (by omega);unfold PT.size;simp only
  have az:tk=3->0<ts.length:=by
   intro e;rcases ph with h|h|h|h|h|h
   ·omega
   ·omega
   ·omega
   ·omega
   ·exact Br.2 h.2.2
   ·omega
  refine⟨?_,by omega⟩
  have:0<=(if tk=0\/tk=1 then PT.i_ ts+1 else if tk=3 then PT.i_ ts+((ts.length:Int)-1)else if tk=4 then(if q.hi= -1 then q.lo+1 else q.hi)*(PT.i_ ts+1)else PT.i_ ts):=by
   split
   ·omega
   ·split
    ·rename_i e;have:=az e;omega
    ·split
     ·exact hm.1
     ·exact hs.1
  omega
theorem JP{k:IntKind}{a b:Int}(h:a=b):Ending.returned (.int k a)=.returned (.int k b):=by rw[h]
theorem ag_(q:Nv)(w:World)(hl: -1<=q.lo/\q.lo<=99):
 Calls prog 59 #[Nv.val q] w fun e w'=>e=.returned (.int .i64 (if q.hi= -1 then q.lo+1 else q.hi))/\aa af w w':=by
 simp only[Nv.val,Nv.cells];by_cases hh:q.hi= -1
 ·have hb:(q.hi== -1)=true:=by simp[hh]
  rw[if_pos hh];clear hh;go_in;go_wp2_with fail;go_ret;exact⟨rfl,(aa.refl _ _).alloc _⟩
 ·have hb:(q.hi== -1)=false:=by simp[hh]
  rw[if_neg hh];go_in;go_wp2_with fail;go_ret;exact⟨rfl,(aa.refl _ _).alloc _⟩
theorem an3(h:cI w lo hi q T C)(hle:hi<=w.heap.size):∀w',aa af w w'->
 Calls prog 39 #[Nv.val q] w' fun e pB=>e=.returned (.int .i64 T.size)/\aa af w' pB:=by
 induction h with
 |mk q tk b bs ts cs V Sp sp fo nt hn hb hc hk cU oC hr ph ih=>
  intro w' hw;obtain⟨k0,pa,pn,pc,sa,sn,sc,ed,gr,l0,h0,lz⟩:=q;simp only[Nv.val,Nv.cells]at hn hb hr ph⊢;obtain⟨pj,jW,hn3⟩:=hn;subst pj;have IH:Hid (∀i (h:i<ts.length) (w':World),aa af w w'->Calls prog 39 #[Nv.val (V i)] w' fun e pB=>e=.returned (.int .i64 (ts[i]).size)/\aa af w' pB):=fun i h w' hw=>ih i h (by omega) w' hw
  have yx:∀i,(h:i<ts.length)->0<=(ts[i]).size/\(ts[i]).size<=1001:=fun i h=>(hk i h (by omega)).size_range
  have HS:=Xm ts yx;clear ih;obtain⟨r1,r2,r3,r4⟩:=hr;have x0:=aq.new w' #[.int .i64 k0,.slice pa ts.length pc,.slice sa sn sc,.int .i64 ed,.int .i64 gr,.int .i64 l0,.int .i64 h0,.bool lz] 64;clear hk cU oC r4 jW hn3;go_in;go_wp2_with fail;go_loopg [3,9] ts.length (fun kk s i wr=>∃j:Nat,j<=ts.length/\i=.int .i64 j/\s=.int .i64 (PT.i_ (ts.take j))/\kk=ts.length-j/\aa af w' wr/\aq wr w'.heap.size #[.int .i64 k0,.slice pa ts.length pc,.slice sa sn sc,.int .i64 ed,.int .i64 gr,.int .i64 l0,.int .i64 h0,.bool lz] 64)
  case atStart=>exact⟨0,Ao _,rfl,by simp[PT.i_],rfl,(aa.refl _ _).alloc _,x0⟩
  case round=>
   obtain⟨j,hj,rfl,rfl,rfl,yy,pd⟩:=hrel;have hsj:=Xm (ts.take j) (fun i hi=>by have:=yx i (by simp at hi;omega);simpa using this);have Qh:(ts.take j).length<=400:=by simp;omega
   by_cases aw:j<ts.length
   ·obtain⟨rfl,b1,b2⟩:=hb (by intro e;subst e;simp at aw);have I4:=hc j aw;have kk:=hw.trans yy;have bj:∀i,i<8->wr.cell? ⟨b,j*8+i,none⟩=(V j).cells[i]? :=(fun i hi=>(kk.cell (p:=⟨b,j*8+i,none⟩) (by show b<_;omega) (fun hx=>hx)).trans (I4 i hi));have q0:wr.cell? ⟨b,j*8,none⟩=some (.int .i64 (V j).k):=bj 0 (by omega)
    have q1:wr.cell? ⟨b,j*8+1,none⟩=some (.slice (V j).pa (V j).pn (V j).pc):=bj 1 (by omega);have q2:wr.cell? ⟨b,j*8+2,none⟩=some (.slice (V j).sa (V j).sn (V j).sc):=bj 2 (by omega);have q3:wr.cell? ⟨b,j*8+3,none⟩=some (.int .i64 (V j).ed):=bj 3 (by omega);have q4:wr.cell? ⟨b,j*8+4,none⟩=some (.int .i64 (V j).gr):=bj 4 (by omega);have q5:wr.cell? ⟨b,j*8+5,none⟩=some (.int .i64 (V j).lo):=bj 5 (by omega);have q6:wr.cell? ⟨b,j*8+6,none⟩=some (.int .i64 (V j).hi):=bj 6 (by omega);have q7:wr.cell? ⟨b,j*8+7,none⟩=some (.bool (V j).lz):=bj 7 (by omega);have Ja:=yx j aw;have nZ:Hid (PT.i_ (ts.take (j+1))=PT.i_ (ts.take j)+(ts[j]).size):=an5 ts j aw;have IHJ:Hid (∀(w':World),aa af w w'->Calls prog 39 #[.agg #[.int .i64 (V j).k,.slice (V j).pa (V j).pn (V j).pc,.slice (V j).sa (V j).sn (V j).sc,.int .i64 (V j).ed,.int .i64 (V j).gr,.int .i64 (V j).lo,.int .i64 (V j).hi,.bool (V j).lz]] w' fun e pB=>e=.returned (.int .i64 (ts[j]).size)/\aa af w' pB):=IH.o j aw;clear hb hc I4 yx bj IH;generalize V j=N at*;go_wp2_with fail;refine(IHJ.o _ (kk.alloc _)).mono ?_;rintro e w2 ⟨rfl,aN⟩;have mS:=(pd.alloc (.cells N.cells 64)).kept aN (fun hx=>hx);have kF:=(yy.alloc (.cells N.cells 64)).trans aN;clear q0 q1 q2 q3 q4 q5 q6 q7 aN pd yy;go_wp2_with fail;go_roundg (ts.length-(j+1))
    case measure=>omega
    case rel=>exact⟨j+1,by omega,by go_num,by rw[nZ.o],rfl,kF,mS⟩
   ·have ej:j=ts.length:=(by omega);subst ej;rw[Cn]at hsj Qh⊢;have FW:=aah r1 r2;have hm:=acN FW (s:=PT.i_ ts+1) (by omega);have d0:wr.cell? ⟨w'.heap.size,0,none⟩=some (.int .i64 k0):=pd.cell 0;have d1:wr.cell? ⟨w'.heap.size,1,none⟩=some (.slice pa ts.length pc):=pd.cell 1;have d2:wr.cell? ⟨w'.heap.size,2,none⟩=some (.slice sa sn sc):=pd.cell 2;have d3:wr.cell? ⟨w'.heap.size,3,none⟩=some (.int .i64 ed):=pd.cell 3;have d4:wr.cell? ⟨w'.heap.size,4,none⟩=some (.int .i64 gr):=pd.cell 4;have d5:wr.cell? ⟨w'.heap.size,5,none⟩=some (.int .i64 l0):=pd.cell 5;have d6:wr.cell? ⟨w'.heap.size,6,none⟩=some (.int .i64 h0):=pd.cell 6;have d7:wr.cell? ⟨w'.heap.size,7,none⟩=some (.bool lz):=pd.cell 7;clear IH hb hc yx;rcases ph with⟨rfl,rfl,_⟩|⟨rfl,rfl⟩|⟨rfl,rfl⟩|⟨rfl,rfl⟩|⟨rfl,rfl,az⟩|⟨rfl,rfl⟩
    ·go_wp2_with fail
     all_goals go_ret
     all_goals exact⟨JP (by unfold PT.size;simp),yy⟩
    ·go_wp2_with fail
     all_goals go_ret
     all_goals exact⟨JP (by unfold PT.size;simp),yy⟩
    ·go_wp2_with fail
     all_goals go_ret
     all_goals exact⟨JP (by unfold PT.size;simp),yy⟩
    ·go_wp2_with fail
     all_goals go_ret
     all_goals exact⟨JP (by unfold PT.size;simp),yy⟩
    ·have xh:0<ts.length:=Br.2 az;clear az;go_wp2_with fail;all_goals go_ret
     all_goals exact⟨JP (by unfold PT.size;simp),yy⟩
    ·have yr:=ag_ ⟨5,pa,ts.length,pc,sa,sn,sc,ed,gr,l0,h0,lz⟩ wr r1;simp only[Nv.val,Nv.cells]at yr;generalize jx:(if h0= -1 then l0+1 else h0)=cc at FW hm yr;have Kg:Hid ((if h0= -1 then l0+1 else h0)=cc):=jx;clear jx;go_wp2_with fail;refine yr.mono ?_;rintro e w2 ⟨rfl,aN⟩;go_wp2_with fail;all_goals go_ret
     all_goals exact⟨JP (by unfold PT.size;simp only[Kg.o];simp),yy.trans aN⟩
