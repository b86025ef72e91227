/- The reader's mirror hangs on a pattern's runes and places al -/
import Derived.Test.YtmbpfhlnifdhgaaGreatDoorP14
set_option linter.unusedVariables false
set_option linter.unusedSimpArgs false
set_option maxRecDepth 100000
set_option maxHeartbeats 1000000
namespace Go.Proofs.YtmbpfhlnifdhgaaGreatDoor
open Go.Proofs.Tryz
def aaB(rs ps:List Int):RG:={b:=0,ao:=none,br:=0,cr:=0,bp:=0,cp:=0,bf:=0,bn:=0,rs:=rs,ps:=ps}
def RG.nJ(g:RG):RG:=aaB g.rs g.ps
theorem ad9(g:RG):∀m,fu g m=fu g.nJ m
 |0=>rfl
 |m+1=>by
  funext st
  show(if aa g st= -1\/ak fQ (aa g st)=true then st else fu g m (cK g st))=_
  rw[ad9 g m];rfl
theorem aee(g:RG)(first:Nat):∀m,fB g first m=fB g.nJ first m
 |0=>rfl
 |m+1=>by
  funext st
  show(if st.next<first+8/\ak jc (aa g st)=true then fB g first m {st with next:=st.next+1}else st)=_
  rw[aee g first m];rfl
theorem alT(g:RG):iT g=iT g.nJ:=by
 funext st
 unfold iT;rw[ad9];rfl
theorem al6(g:RG):jS g=jS g.nJ:=by
 funext st
 unfold jS;rw[aee];rfl
theorem ad2(g:RG):dy g=dy g.nJ:=by
 funext st
 unfold dy;rw[al6];rfl
theorem adU(g:RG)(aw:RS->RS×PT):bD g aw=bD g.nJ aw:=by
 funext st
 unfold bD jr;rw[ad2,alT];rfl
theorem aet(g:RG)(aw:RS->RS×PT):∀m,eA g aw m=eA g.nJ aw m
 |0=>rfl
 |m+1=>by
  funext st aA
  show(if aa g st= -1\/ak jQ (aa g st)=true then(st,aA)else eA g aw m (dU g (bD g aw st).2 (bD g aw st).1).1 (aA++[(dU g (bD g aw st).2 (bD g aw st).1).2]))=_
  rw[aet g aw m,adU];rfl
theorem RK(g:RG)(aw:RS->RS×PT):cU g aw=cU g.nJ aw:=by
 funext st
 unfold cU;rw[aet];rfl
theorem adP(g:RG)(aw:RS->RS×PT):∀m,eE g aw m=eE g.nJ aw m
 |0=>rfl
 |m+1=>by
  funext st aA
  show(if ak lD (aa g st)then eE g aw m (cU g aw {st with next:=st.next+1}).1 (aA++[(cU g aw {st with next:=st.next+1}).2])else(st,aA))=_
  rw[adP g aw m,RK];rfl
theorem Xf(g:RG):∀k,aE g k=aE g.nJ k
 |0=>rfl
 |k+1=>by
  funext st
  show((eE g (aE g k) (g.rs.length+1) (cU g (aE g k) st).1 [(cU g (aE g k) st).2]).1,PT.node 3 (eE g (aE g k) (g.rs.length+1) (cU g (aE g k) st).1 [(cU g (aE g k) st).2]).2 0 0)=_
  rw[Xf g k,adP,RK];rfl
theorem aas(g:RG):∀m,p9 g m=p9 g.nJ m
 |0=>rfl
 |m+1=>by
  funext st aA
  show(if aa g st= -1\/ak fQ (aa g st)=true then aA else p9 g m (cK g st) (aA++gS g st))=_
  rw[aas g m];rfl
theorem ahd(g:RG)(bL:Bool->RS->CT):jL g bL=jL g.nJ bL:=by
 funext fo st
 unfold jL tO Le;rw[ad2,aas];rfl
theorem aau(g:RG)(aw:RS->RS×PT)(bL:Bool->RS->CT)(fo:Bool):∀m,lO g aw bL fo m=lO g.nJ aw bL fo m
 |0=>rfl
 |m+1=>by
  funext st aA
  show(if aa g st= -1\/ak jQ (aa g st)=true then aA else lO g aw bL fo m (dU g (bD g aw st).2 (bD g aw st).1).1 (aA++[nH g (jL g bL fo st) (bD g aw st).1]))=_
  rw[aau g aw bL fo m,adU,ahd];rfl
theorem aat(g:RG)(aw:RS->RS×PT)(bL:Bool->RS->CT):nI g aw bL=nI g.nJ aw bL:=by
 funext fo st
 unfold nI;rw[aau];rfl
theorem aaq(g:RG)(aw:RS->RS×PT)(bL:Bool->RS->CT)(fo:Bool):∀m,ke g aw bL fo m=ke g.nJ aw bL fo m
 |0=>rfl
 |m+1=>by
  funext st aA
  show(if ak lD (aa g st)then ke g aw bL fo m (cU g aw {st with next:=st.next+1}).1 (aA++[nI g aw bL fo {st with next:=st.next+1}])else aA)=_
  rw[aaq g aw bL fo m,RK,aat];rfl
theorem aap(g:RG):∀k,dW g k=dW g.nJ k
 |0=>rfl
 |k+1=>by
  funext fo st
  show CT.node 4 [] false false 0 0 0 0 false (ke g (aE g k) (dW g k) fo (g.rs.length+1) (cU g (aE g k) st).1 [nI g (aE g k) (dW g k) fo st])=_
  rw[aap g k,Xf g k,aaq,RK,aat];rfl
theorem aml(g:RG)(st:RS):dw g st=dw g.nJ st:=by
 unfold dw;rw[Xf];rfl
theorem ahf(g:RG)(st:RS):qD g st=qD g.nJ st:=by
 unfold qD;rw[aap];rfl
def f_(p:ByteArray):RG:=aaB ((dK p (p.size+1) 0).map (·.2)) ((dK p (p.size+1) 0).map (fun q=>(q.1:Int))++[(p.size:Int)])
theorem ahI{g:RG}{p:ByteArray}(h1:g.rs=(dK p (p.size+1) 0).map (·.2))(h2:g.ps=(dK p (p.size+1) 0).map (fun q=>(q.1:Int))++[(p.size:Int)]):g.nJ=f_ p:=by unfold RG.nJ f_;rw[h1,h2]
theorem apk{g:RG}{p:ByteArray}(h1:g.rs=(dK p (p.size+1) 0).map (·.2))(h2:g.ps=(dK p (p.size+1) 0).map (fun q=>(q.1:Int))++[(p.size:Int)]):(∀st,dw g st=dw (f_ p) st)/\(∀st,qD g st=qD (f_ p) st)/\ix g p=ix (f_ p) p:=by
 have e:=ahI h1 h2;have a1:∀st,dw g st=dw (f_ p) st:=fun st=>by rw[aml,e]
 refine⟨a1,fun st=>by rw[ahf,e],?_⟩;unfold ix;rw[a1]
theorem anh(p:ByteArray):wg (f_ p):=fun r hr=>by
 have hr:r∈ (dK p (p.size+1) 0).map (·.2):=hr;obtain⟨q,hq,rfl⟩:=Bh.1 hr;exact R2 p _ _ q hq
def pJ(p:ByteArray):CT:=qD (f_ p) (bP p)
def gk(p:ByteArray):Nat:=(dw (f_ p) (bP p)).1.aC
def kZ(p:ByteArray):Int:=if 300<p.size then 1 else(pick (ix (f_ p) p)).1
theorem NF{p:ByteArray}(hs:p.size<=300)(h:kZ p=0):(pJ p).ok/\(dw (f_ p) (bP p)).2.size<=1000/\(pJ p).fy (gk p:Int)/\(pJ p).l_:=by
 unfold kZ at h;rw[if_neg (by omega)]at h;obtain⟨h1,h2⟩:=aa8 h;exact⟨apl _ _ h1,h2,aiI _ _,aps (anh p) _ h1⟩
theorem ada{c:Int}(h:n9 c=true):(97<=c/\c<=122)\/(65<=c/\c<=90):=by
 unfold n9 at h;simp at h;exact h
theorem anM{r c:Int}(hr:r=100\/r=119\/r=115):(n9 c&&bM (k_ r) (oU c))=true->bM (k_ r) c=true:=by
 intro h;rw[Bi]at h;have hl:=ada h.1;have h2:=h.2;unfold oU at h2;rcases hr with rfl|rfl|rfl
 ·simp[k_,bM]at h2⊢
  split at h2<;>omega
 ·simp[k_,bM]at h2⊢
  split at h2<;>omega
 ·simp[k_,bM]at h2⊢
  split at h2<;>omega
theorem ae4{r c:Int}(hr:r=100\/r=119\/r=115):bM (k_ r) c=bM (iF r) c:=by
 rcases hr with rfl|rfl|rfl
 ·rfl
 ·rw[Av];simp[k_,iF,bM];omega
 ·rfl
theorem afg{r:Int}(hr:r=100\/r=119\/r=115)(fo nt:Bool)(c:Int):mM (k_ r) fo nt c=q8 (gB eR (iF r) nt false) c:=by
 unfold mM q8 gB;simp only[RT.sp,RT.fd,RT.nt,Bool.false_and,Br];rw[<-ae4 hr];have h:=anM (c:=c) hr
 cases fo
 ·simp
 ·cases h1:bM (k_ r) c
  ·cases h2:(n9 c&&bM (k_ r) (oU c))
   ·simp[h2]
   ·have:=h h2;rw[h1]at this;cases this
  ·simp
theorem an9(fo:Bool)(c:Int):mM [(10,10)] fo true c=q8 (gB eR [(10,10)] true false) c:=by
 unfold mM q8 gB;simp only[RT.sp,RT.fd,RT.nt,Bool.false_and,Br]
 have h:(fo&&n9 c&&bM [(10,10)] (oU c))=false:=by
  cases fo
  ·rfl
  ·cases h1:n9 c
   ·rfl
   ·have hl:=ada h1;unfold oU;split
    ·simp[bM];omega
    ·simp[bM];omega
 rw[h];simp
theorem Si{sp sp':bN}(h:∀c,bM sp c=bM sp' c)(fo nt:Bool)(c:Int):mM sp fo nt c=q8 (gB eR sp' nt fo) c:=by
 unfold mM q8 gB;simp only[RT.sp,RT.fd,RT.nt];rw[h,h]
theorem anN{q:Int}(h:ak fc q=true):q=100\/q=119\/q=115:=by
 simp[ak,fc]at h
 omega
theorem acW(g:RG)(st:RS)(c:Int):bM (gS g st) c=bM (qY g st) c:=by
 unfold gS qY;split
 ·rename_i h
  exact ae4 (anN h.2)
 ·rfl
theorem acY(g:RG):∀(m:Nat) (st:RS) (a b:bN),(∀c,bM a c=bM b c)->∀c,bM (p9 g m st a) c=bM (oV g m st b) c
 |0,st,a,b,h=>h
 |m+1,st,a,b,h=>by
  unfold p9 oV;split
  ·exact h
  ·exact acY g m _ _ _ (fun c=>by rw[zK,zK,h,acW])
theorem akr{g:RG}{st:RS}(h:aa g st= -1\/ak fQ (aa g st)=true):(cK g st).au.form≠none:=by
 have hb:ak dC (aa g st)=false:=by
  rcases h with h|h
  ·rw[h];rfl
  ·have:aa g st=93:=by simp[ak,fQ]at h;omega
   rw[this];rfl
 have dt:(a_ g st).1.au.form≠none:=by
  have e:bT g dC st=st:=by unfold bT;rw[if_neg (by rw[hb];simp)]
  unfold a_;rw[e,hb];unfold je lF;simp only[Ag,if_false];split
  ·exact WZ
  ·rename_i hx
   rcases h with h|h
   ·exact absurd h (by simp at hx;exact hx.1)
   ·have:aa g st=93:=by simp[ak,fQ]at h;omega
    rw[this]at hx;exact absurd hx (by decide)
 intro hx;unfold cK at hx;rw[if_neg (by rw[hb];simp)]at hx;exact dt ((Xz g _ _).1 hx)
theorem ahu{g:RG}{st:RS}(hc:fD (iT g st).au)(c:Int):bM (p9 g (g.rs.length+1) (cK g (bT g ij st)) (gS g (bT g ij st))) c=bM (oV g (g.rs.length+2) (bT g ij st) []) c:=by
 have h1:fD (cK g (bT g ij st)).au:=(Ny g _ _).kh ((tn g _ _).kh hc);have hn:¬(aa g (bT g ij st)= -1\/ak fQ (aa g (bT g ij st))=true):=fun h=>akr h h1.1
 have e:oV g (g.rs.length+2) (bT g ij st) []=oV g (g.rs.length+1) (cK g (bT g ij st)) ([]++qY g (bT g ij st)):=by
  show(if _ then _ else _)=_
  rw[if_neg hn]
 rw[e];exact acY g _ _ _ _ (fun c=>by rw[Cs];exact acW g _ c) c
def jZ(G:Nat)(c:CT)(r:RT):Prop:=c.fy (G:Int)->gK G c r
structure rm(G:Nat)(cs:List CT)(rs:List RT):Prop where
 len:cs.length=rs.length
 all:∀i,(h1:i<cs.length)->(h2:i<rs.length)->jZ G cs[i] rs[i]
theorem rm.nil(G:Nat):rm G [] []:=⟨rfl,fun i h=>by cases h⟩
theorem rm.lg{G:Nat}{cs:List CT}{rs:List RT}(h:rm G cs rs){c:CT}{r:RT}(hc:jZ G c r):rm G (cs++[c]) (rs++[r]):=by
 refine⟨by simp[h.len],fun i h1 h2=>?_⟩;by_cases hi:i<cs.length
 ·have gz:i<rs.length:=by rw[<-h.len];exact hi
  rw[A6 hi,A6 gz];exact h.all i hi gz
 ·have e1:i=cs.length:=by simp at h1;omega
  subst e1;simp[h.len];exact hc
theorem UK{G:Int}:∀{cs:List CT},CT.eI G cs->∀i,(h:i<cs.length)->(cs[i]).fy G
 | [],_,i,h=>by cases h
 |c::cs,hg,0,_=>by unfold CT.eI at hg;exact hg.1
 |c::cs,hg,i+1,h=>by unfold CT.eI at hg;exact UK hg.2 i (by simpa using h)
theorem rm.seq{G:Nat}{cs:List CT}{rs:List RT}(h:rm G cs rs):jZ G (.node 3 [] false false 0 0 0 0 false cs) (.node iJ [] false false rs 0 0 0 false):=fun hg=>by
 unfold CT.fy at hg;exact gK.seq cs rs h.len (fun i h1 h2=>h.all i h1 h2 (UK hg.2.2 i h1))
theorem rm.aw{G:Nat}{cs:List CT}{rs:List RT}(h:rm G cs rs)(aF:cs≠ []):jZ G (.node 4 [] false false 0 0 0 0 false cs) (.node iI [] false false rs 0 0 0 false):=fun hg=>by
 unfold CT.fy at hg;exact gK.aw cs rs h.len aF (fun i h1 h2=>h.all i h1 h2 (UK hg.2.2 i h1))
theorem jZ.times{G:Nat}{c:CT}{r:RT}(h:jZ G c r)(lo hi:Int)(lz:Bool)(d_:0<=lo)(fX:hi= -1\/lo<=hi):jZ G (pj c lo hi lz) (ss r lo hi lz):=fun hg=>by
 unfold pj CT.fy CT.eI at hg;exact gK.times c r lo hi lz d_ fX (h hg.2.2.1)
theorem jZ.uA{G:Nat}{sp:bN}{fo nt:Bool}{R:RT}(bS:R.op=eR)(h:∀c,mM sp fo nt c=q8 R c)(hk:R.aJ=[]:=by rfl):jZ G (kM sp fo nt) R:=fun _=>gK.uA sp fo nt R bS (fun c _ _=>h c) hk
theorem af8(g:RG){G:Nat}{a:CT}{r:RT}(ha:jZ G a r)(p:PT)(st:RS)(hc:fD (dU g p st).1.au):jZ G (nH g a st) (yG g r st):=by
 unfold dU at hc;unfold nH yG;split
 ·exact ha.times _ _ _ (by omega) (by omega)
 ·rename_i h1
  rw[if_neg h1]at hc;split
  ·exact ha.times _ _ _ (by omega) (by omega)
  ·rename_i h2
   rw[if_neg h2]at hc;split
   ·exact ha.times _ _ _ (by omega) (by omega)
   ·rename_i h3
    rw[if_neg h3]at hc;split
    ·rename_i h4
     rw[if_pos h4]at hc;have hb:=aal g {st with next:=st.next+1};have wM:=(AR g _ _).kh hc;by_cases hx:(cT g {st with next:=st.next+1}).2.1>20\/(cT g {st with next:=st.next+1}).2.2>20\/((cT g {st with next:=st.next+1}).2.2≠ -1/\(cT g {st with next:=st.next+1}).2.2<(cT g {st with next:=st.next+1}).2.1)
     ·rw[if_pos hx]at wM;exact absurd wM.2.1 adv
     ·exact ha.times _ _ _ (by omega) (by omega)
    ·exact ha
theorem af7{G:Nat}(ax:Int){q:Int}:jZ G (mi (decide (0<ax)) q) (qp ax q):=by
 by_cases h1:q=98
 ·subst h1;exact fun _=>gK.kN 2 _ (Or.inr (Or.inr (Or.inl ⟨rfl,rfl⟩))) rfl
 by_cases h2:q=66
 ·subst h2;exact fun _=>gK.kN 3 _ (Or.inr (Or.inr (Or.inr ⟨rfl,rfl⟩))) rfl
 have e1:ak tj q=false:=by simp[ak,tj];omega
 by_cases h3:q=100\/q=119\/q=115
 ·have e2:ak fc q=true:=by rcases h3 with rfl|rfl|rfl<;>rfl
  unfold mi qp;rw[e1,e2,if_pos h3];exact jZ.uA rfl (fun c=>afg h3 _ _ c)
 have e2:ak fc q=false:=by simp[ak,fc];omega
 by_cases h4:q=68\/q=87\/q=83
 ·have e3:ak ux q=true:=by rcases h4 with rfl|rfl|rfl<;>rfl
  have e4:iF q=iF (q+32):=by rcases h4 with rfl|rfl|rfl<;>rfl
  unfold mi qp;rw[e1,e2,e3,if_neg h3,if_pos h4,e4];exact jZ.uA rfl (fun c=>afg (by omega) _ _ c)
 have e3:ak ux q=false:=by simp[ak,ux];omega
 unfold mi qp;rw[e1,e2,e3,if_neg h3,if_neg h4,if_neg h1,if_neg h2];exact jZ.uA rfl (fun c=>Si (fun _=>rfl) _ _ c)
theorem af6(g:RG){G:Nat}(aw:RS->RS×PT)(bL:Bool->RS->CT)(dZ:Int->RS->RT)(rM:∀ax st,0<=ax->fD (aw st).1.au->jZ G (bL (decide (0<ax)) st) (dZ ax st))(ax:Int)(hf:0<=ax)(st:RS)(hc:fD (bD g aw st).1.au):jZ G (jL g bL (decide (0<ax)) st) (xw g dZ ax st):=by
 unfold bD at hc;unfold jL xw;split
 ·rename_i h1
  rw[if_pos h1]at hc;have cP:=(tn g _ _).kh (show fD (di g vD (aw (dy g {st with next:=st.next+1})).1).au from hc);unfold tO pK;split
  ·exact fun hg=>by
    unfold CT.fy CT.eI at hg;exact gK.group _ _ _ ⟨by omega,by omega⟩ (rM _ _ hf cP hg.2.2.1)
  ·split
   ·exact fun hg=>by
     unfold CT.fy CT.eI at hg;exact gK.group _ _ _ ⟨by omega,by omega⟩ (rM _ _ hf cP hg.2.2.1)
   ·split
    ·rename_i hi
     have e:(ak lI (aa g {{st with next:=st.next+1}with next:={st with next:=st.next+1}.next+1})||decide (0<ax))=decide (0<ax+1):=by
      rw[hi];simp;omega
     rw[e]
     exact fun hg=>by
      unfold CT.fy CT.eI at hg;exact gK.bare _ _ (rM _ _ (by omega) cP hg.2.2.1)
    ·rename_i hi
     have e:(ak lI (aa g {{st with next:=st.next+1}with next:={st with next:=st.next+1}.next+1})||decide (0<ax))=decide (0<ax):=by
      rw[Bool.not_eq_true]at hi;rw[hi];rfl
     rw[e]
     exact fun hg=>by
      unfold CT.fy CT.eI at hg;exact gK.bare _ _ (rM _ _ hf cP hg.2.2.1)
 ·rename_i h1
  rw[if_neg h1]at hc;split
  ·rename_i h2
   rw[if_pos h2]at hc;exact jZ.uA rfl (fun c=>Si (fun c=>ahu hc c) _ _ c)
  ·split
   ·exact af7 ax
   ·split
    ·rename_i h4
     have hq:aa g st=46\/aa g st=94\/aa g st=36:=by
      simp[ak,uz]at h4
      omega
     rcases hq with h|h|h
     ·rw[h];exact jZ.uA rfl (fun c=>an9 _ c)
     ·rw[h];exact fun _=>gK.kN 0 _ (Or.inl ⟨rfl,rfl⟩) rfl
     ·rw[h];exact fun _=>gK.kN 1 _ (Or.inr (Or.inl ⟨rfl,rfl⟩)) rfl
    ·exact jZ.uA rfl (fun c=>Si (fun _=>rfl) _ _ c)
theorem ZU(g:RG){G:Nat}(aw:RS->RS×PT)(halt:∀st,df st.au (aw st).1.au)(bL:Bool->RS->CT)(dZ:Int->RS->RT)(rM:∀ax st,0<=ax->fD (aw st).1.au->jZ G (bL (decide (0<ax)) st) (dZ ax st))(ax:Int)(hf:0<=ax):
 ∀(m:Nat) (st:RS) (aA:List CT) (za:List RT) (ps:List PT),rm G aA za->fD (eA g aw m st ps).1.au->rm G (lO g aw bL (decide (0<ax)) m st aA) (vL g aw dZ ax m st za)
 |0,st,aA,za,ps,ha,hc=>ha
 |m+1,st,aA,za,ps,ha,hc=>by
  unfold eA at hc;unfold lO vL;split
  ·exact ha
  ·rename_i h1
   rw[if_neg h1]at hc;have c1:=(ND g aw halt m _ _).kh hc;have c2:=(RJ g _ _).kh c1;exact ZU g aw halt bL dZ rM ax hf m _ _ _ _ (ha.lg (af8 g (af6 g aw bL dZ rM ax hf st c2) _ _ c1)) hc
theorem ZT(g:RG){G:Nat}(aw:RS->RS×PT)(halt:∀st,df st.au (aw st).1.au)(bL:Bool->RS->CT)(dZ:Int->RS->RT)(rM:∀ax st,0<=ax->fD (aw st).1.au->jZ G (bL (decide (0<ax)) st) (dZ ax st))(ax:Int)(hf:0<=ax)(st:RS)(hc:fD (cU g aw st).1.au):jZ G (nI g aw bL (decide (0<ax)) st) (vK g aw dZ ax st):=
 (ZU g aw halt bL dZ rM ax hf _ st [] [] [] (rm.nil G) hc).seq
theorem ZS(g:RG){G:Nat}(aw:RS->RS×PT)(halt:∀st,df st.au (aw st).1.au)(bL:Bool->RS->CT)(dZ:Int->RS->RT)(rM:∀ax st,0<=ax->fD (aw st).1.au->jZ G (bL (decide (0<ax)) st) (dZ ax st))(ax:Int)(hf:0<=ax):
 ∀(m:Nat) (st:RS) (aA:List CT) (za:List RT) (ps:List PT),rm G aA za->aA≠ []->fD (eE g aw m st ps).1.au->rm G (ke g aw bL (decide (0<ax)) m st aA) (vJ g aw dZ ax m st za)/\ke g aw bL (decide (0<ax)) m st aA≠ []
 |0,st,aA,za,ps,ha,aF,hc=>⟨ha,aF⟩
 |m+1,st,aA,za,ps,ha,aF,hc=>by
  unfold eE at hc;unfold ke vJ;split
  ·rename_i h1
   rw[if_pos h1]at hc;have c1:=(EP g aw halt m _ _).kh hc;exact ZS g aw halt bL dZ rM ax hf m _ _ _ _ (ha.lg (ZT g aw halt bL dZ rM ax hf _ c1)) (by simp) hc
  ·exact⟨ha,aF⟩
theorem ZR(g:RG)(G:Nat):∀(k:Nat) (ax:Int) (st:RS),0<=ax->fD (aE g k st).1.au->jZ G (dW g k (decide (0<ax)) st) (fe g k ax st)
 |0,ax,st,hf,hc=>jZ.uA rfl (fun c=>Si (fun _=>rfl) _ _ c)
 |k+1,ax,st,hf,hc=>by
  unfold aE at hc;have hle:=Nx g k;have c1:=(EP g (aE g k) hle _ _ _).kh hc;have rM:=fun ax st=>ZR g G k ax st
  have h1:=ZT g (aE g k) hle (dW g k) (fe g k) rM ax hf st c1;have h2:=ZS g (aE g k) hle (dW g k) (fe g k) rM ax hf _ _ _ _ _ ((rm.nil G).lg h1) (by simp) hc;unfold dW fe;exact h2.1.aw h2.2
theorem ZV{p:ByteArray}(hs:p.size<=300)(h:kZ p=0):gK (gk p) (pJ p) (vM (f_ p) (bP p)):=by
 have C_:=(NF hs h).2.2.1;unfold kZ at h;rw[if_neg (by omega)]at h;obtain⟨h1,h2⟩:=aa8 h
 have hc:fD (aE (f_ p) ((f_ p).rs.length+1) (bP p)).1.au:=by
  unfold dw at h1;split at h1
  ·exact h1
  ·exact(JS _ _).kh h1
 exact ZR (f_ p) (gk p) _ 0 (bP p) (Da _) hc C_
theorem XI{G:Nat}:∀{rs:List RT},(∀i,(h:i<rs.length)->(rs[i]).ok G)->RT.de G rs
 | [],_=>by unfold RT.de;trivial
 |r::rs,h=>by
  unfold RT.de;exact⟨h 0 (by simp),XI (fun i hi=>h (i+1) (by simpa using hi))⟩
theorem T3:∀{cs:List CT},CT.de cs->∀i,(h:i<cs.length)->(cs[i]).ok
 | [],_,i,h=>by cases h
 |c::cs,hg,0,_=>by unfold CT.de at hg;exact hg.1
 |c::cs,hg,i+1,h=>by unfold CT.de at hg;exact T3 hg.2 i (by simpa using h)
theorem gK.ok{G:Nat}{c:CT}{r:RT}(h:gK G c r):c.ok->r.ok G:=by
 induction h with
 |uA sp fo nt R bS h hk=>
  intro _
  cases R with
  |node op sp nt fd ks bK bB aY lz=>
   have e:ks=[]:=hk;subst e;unfold RT.ok RT.de;exact⟨trivial,Or.inl bS⟩
 |kN e R h hk=>
  intro _
  cases R with
  |node op sp nt fd ks bK bB aY lz=>
   have e2:ks=[]:=hk;subst e2;unfold RT.ok RT.de;have h':(e=0/\op=pM)\/(e=1/\op=oX)\/(e=2/\op=od)\/(e=3/\op=oW):=h;refine⟨trivial,Or.inr (Or.inl ?_)⟩;rcases h' with h'|h'|h'|h'
   ·exact Or.inl h'.2
   ·exact Or.inr (Or.inl h'.2)
   ·exact Or.inr (Or.inr (Or.inl h'.2))
   ·exact Or.inr (Or.inr (Or.inr h'.2))
 |group c r g hg h ih=>
  intro hc;unfold CT.ok CT.de at hc;unfold RT.ok RT.de;exact⟨⟨ih hc.2.2.2.2.1,by unfold RT.de;trivial⟩,Or.inr (Or.inr (Or.inr (Or.inr (Or.inl ⟨rfl,rfl,hg⟩))))⟩
 |bare c r h ih=>
  intro hc;unfold CT.ok CT.de at hc;unfold RT.ok RT.de;exact⟨⟨ih hc.2.2.2.2.1,by unfold RT.de;trivial⟩,Or.inr (Or.inr (Or.inr (Or.inr (Or.inr (Or.inl ⟨rfl,rfl⟩)))))⟩
 |seq cs rs hl h ih=>
  intro hc;unfold CT.ok at hc;unfold RT.ok;exact⟨XI (fun i hi=>ih i (by omega) hi (T3 hc.2.2.2.2 i (by omega))),Or.inr (Or.inr (Or.inl rfl))⟩
 |aw cs rs hl aF h ih=>
  intro hc;unfold CT.ok at hc;unfold RT.ok;exact⟨XI (fun i hi=>ih i (by omega) hi (T3 hc.2.2.2.2 i (by omega))),Or.inr (Or.inr (Or.inr (Or.inl ⟨rfl,fun e=>aF (Az.1 (by rw[hl,e];rfl))⟩)))⟩
 |times c r lo hi lz d_ fX h ih=>
  intro hc;unfold pj CT.ok CT.de at hc;have h5:=hc.2.2.2.1 rfl;unfold ss RT.ok RT.de;exact⟨⟨ih hc.2.2.2.2.1,by unfold RT.de;trivial⟩,Or.inr (Or.inr (Or.inr (Or.inr (Or.inr (Or.inr ⟨rfl,rfl,by omega,by omega,by omega,by omega⟩)))))⟩
theorem Uc{n:Nat}:∀{ks:List RT},(∀k∈ks,k.dp<=n)->RT.uZ ks<=n
 | [],_=>by unfold RT.uZ;omega
 |k::ks,h=>by
  have h1:=h k (Aq);have h2:=Uc (fun q hq=>h q (Ar _ hq));unfold RT.uZ;omega
theorem Li(op:ByteArray)(sp:List (Int×Int))(nt fd:Bool):(gB op sp nt fd).dp=1:=by
 unfold gB RT.dp RT.uZ;rfl
theorem aaM(op:ByteArray)(r:RT)(g lo hi:Int)(lz:Bool):(RT.node op [] false false [r] g lo hi lz).dp=r.dp+1:=by
 have e:(RT.node op [] false false [r] g lo hi lz).dp=RT.uZ [r]+1:=RT.Ub _;have e2:RT.uZ [r]=r.dp:=by simp[RT.uZ]
 rw[e,e2]
theorem ahW(g:RG)(r:RT)(st:RS):(yG g r st).dp<=r.dp+1:=by
 unfold yG ss;(repeat' split)<;>first|(rw[aaM];omega)|omega
theorem ahV(g:RG)(dZ:Int->RS->RT)(n:Nat)(hn:1<=n)(h:∀ax st,(dZ ax st).dp<=n)(ax:Int)(st:RS):(xw g dZ ax st).dp<=n+1:=by
 unfold xw;split
 ·unfold pK;(repeat' split)<;>(rw[aaM];have:=h ax (dy g {st with next:=st.next+1});have:=h (ax+1) (dy g {st with next:=st.next+1});omega)
 ·split
  ·unfold xx;rw[Li];omega
  ·split
   ·unfold qp;(repeat' split)<;>(rw[Li];omega)
   ·split
    ·unfold AF;(repeat' split)<;>(rw[Li];omega)
    ·rw[Li];omega
theorem aaO(g:RG)(aw:RS->RS×PT)(dZ:Int->RS->RT)(n:Nat)(hn:1<=n)(h:∀ax st,(dZ ax st).dp<=n)(ax:Int):∀(m:Nat) (st:RS) (aA:List RT),(∀k∈aA,k.dp<=n+2)->∀k∈vL g aw dZ ax m st aA,k.dp<=n+2
 |0,st,aA,ha=>ha
 |m+1,st,aA,ha=>by
  unfold vL;split
  ·exact ha
  ·refine aaO g aw dZ n hn h ax m _ _ (fun k hk=>?_);rcases A2.1 hk with hk|hk
   ·exact ha k hk
   ·simp at hk
    subst hk;have h1:=ahW g (xw g dZ ax st) (bD g aw st).1;have h2:=ahV g dZ n hn h ax st;omega
theorem aaN(g:RG)(aw:RS->RS×PT)(dZ:Int->RS->RT)(n:Nat)(hn:1<=n)(h:∀ax st,(dZ ax st).dp<=n)(ax:Int)(st:RS):(vK g aw dZ ax st).dp<=n+3:=by
 have:=Uc (aaO g aw dZ n hn h ax (g.rs.length+1) st [] (fun k hk=>by cases hk));unfold vK RT.dp;omega
theorem aaK(g:RG)(aw:RS->RS×PT)(dZ:Int->RS->RT)(n:Nat)(hn:1<=n)(h:∀ax st,(dZ ax st).dp<=n)(ax:Int):∀(m:Nat) (st:RS) (aA:List RT),(∀k∈aA,k.dp<=n+3)->∀k∈vJ g aw dZ ax m st aA,k.dp<=n+3
 |0,st,aA,ha=>ha
 |m+1,st,aA,ha=>by
  unfold vJ;split
  ·refine aaK g aw dZ n hn h ax m _ _ (fun k hk=>?_);rcases A2.1 hk with hk|hk
   ·exact ha k hk
   ·simp at hk
    subst hk;exact aaN g aw dZ n hn h ax _
  ·exact ha
theorem Ua(g:RG):∀(k:Nat) (ax:Int) (st:RS),(fe g k ax st).dp<=4*k+1
 |0,ax,st=>by unfold fe;rw[Li];omega
 |k+1,ax,st=>by
  have h:=aaK g (aE g k) (fe g k) (4*k+1) (by omega) (fun ax st=>Ua g k ax st) ax (g.rs.length+1) (cU g (aE g k) st).1 [vK g (aE g k) (fe g k) ax st] (fun q hq=>by
   simp at hq
   subst hq;exact aaN g (aE g k) (fe g k) (4*k+1) (by omega) (fun ax st=>Ua g k ax st) ax st)
  have:=Uc h;unfold fe RT.dp;omega
theorem aeS(s:ByteArray):∀(m pos:Nat),(dK s m pos).length<=m
 |0,_=>Aa _
 |m+1,pos=>by
  have h:=aeS s m (pos+(Utf8.decode s pos).2);unfold dK;split
  ·simp;omega
  ·exact Aw _
theorem ahX{p:ByteArray}(hs:p.size<=300):(vM (f_ p) (bP p)).dp<=5000:=by
 have h:=Ua (f_ p) ((f_ p).rs.length+1) 0 (bP p)
 have h2:(f_ p).rs.length<=p.size+1:=by
  show((dK p (p.size+1) 0).map (·.2)).length<=_
  rw[D9];exact aeS p (p.size+1) 0
 unfold vM;omega
theorem ani{p:ByteArray}(hs:p.size<=300)(h:kZ p=0):(vM (f_ p) (bP p)).ok (gk p):=(ZV hs h).ok (NF hs h).1
theorem aoQ{p:ByteArray}(hs:p.size<=300)(h:kZ p=0){x:TX}(hx:∀q∈x.l,0<=q.2/\q.2<=1114111){i:Nat}(hi:i<=x.l.length){r:Option (Nat×List Int)}(hr:cV x [bo (vM (f_ p) (bP p))] i (List.replicate (3*gk p) (-1)) [] r):AS (pJ p) (gk p) x i=r.map fun v=>(v.1,v.2.take (2*gk p)):=by
 obtain⟨f,hf⟩:=hr;have hS:iV x (gk p) [bo (vM (f_ p) (bP p))] (eH x (pJ p) (OV,OV)):=iV.piece _ _ _ _ (ZV hs h) iV.nil
 have hG:ny (gk p) [bo (vM (f_ p) (bP p))] (List.replicate (3*gk p) (-1)) (List.replicate (2*gk p) (-1)):=by
  have get:∀(n k:Nat),k<n->(List.replicate n (-1:Int))[k]? =some (-1):=fun n k hk=>by simp[hk]
  refine⟨by simp,by simp,fun k k1 k2=>?_,fun k k1 k2 ho=>?_,fun k k1 k2 _=>?_⟩
  ·rw[get _ _ (by omega),get _ _ (by omega)]
  ·rw[get _ _ (by omega),get _ _ (by omega)]
  ·rw[get _ _ (by omega),get _ _ (by omega)]
 have hT:pZ [bo (vM (f_ p) (bP p))] i []:=⟨rfl,(fun t ht=>by cases ht),List.Pairwise.nil⟩;have:=abt (G:=gk p) hx f _ i _ [] r hf _ _ hS hG hT hi;unfold sr at this;rw[this];rfl
theorem amJ(m:List UInt8)(x y z:UInt8):Lib.hasPrefix m [x,y,z]=((m[0]? ==some x)&&(m[1]? ==some y)&&(m[2]? ==some z)):=by
 unfold Lib.hasPrefix;match m with
 | []=>rfl
 | [a]=>simp[List.isPrefixOf]
 | [a,b]=>simp[List.isPrefixOf]
 |a::b::c::r=>
  simp only[List.isPrefixOf,E4,List.getElem?_cons_zero,List.getElem?_cons_succ,Option.some_beq_some];rw[Bool.and_assoc,BEq.comm (a:=x),BEq.comm (a:=y),BEq.comm (a:=z)]
theorem TN(s:ByteArray)(j:Nat)(x:UInt8):(s.data.toList[j]? ==some x)=(decide (j<s.size)&&cd s j==x.toNat):=by
 by_cases h:j<s.size
 ·have h':j<s.data.toList.length:=by simpa using h
  rw[Ab h',CB s j h,Ds h,D8,Option.some_beq_some];have e:s.data.toList[j]=s[j]:=rfl;rw[e,Av];simp only[Ai];constructor
  ·rintro rfl;rfl
  ·exact fun h=>UInt8.toNat_inj.1 h
 ·rw[Bd (by have:¬j<s.data.toList.length:=by simpa using h
            omega),A9 h]
  rfl
theorem agy(s:ByteArray)(i:Nat)(h:i<s.size):qR s (i,((Utf8.decode s i).1:Int))= !oS s i:=by
 unfold qR oS uG;rw[<-T_]
 have hp:Lib.hasPrefix (s.extract i s.size).data.toList [239,191,189]=(decide (i+1<s.size)&&decide (i+2<s.size)&&cd s i==239&&cd s (i+1)==191&&cd s (i+2)==189):=by
  rw[amJ]
  have e:∀k,(s.extract i s.size).data.toList[k]? =s.data.toList[i+k]? :=by
   intro k;rw[ByteArray.data_extract,Array.toList_extract];simp only[List.extract_eq_take_drop,List.getElem?_take,Du];split
   ·rfl
   ·rw[Bd];have:s.data.toList.length=s.size:=(by simp);omega
  rw[e 0,e 1,e 2,TN,TN,TN,Ds (show i+0<s.size by omega)];simp only[E3,D8];rw[show(239:UInt8).toNat=239 from rfl,show(191:UInt8).toNat=191 from rfl,show(189:UInt8).toNat=189 from rfl]
  cases decide (i+1<s.size)<;>cases decide (i+2<s.size)<;>simp
 rw[hp];generalize(decide (i+1<s.size)&&decide (i+2<s.size)&&cd s i==239&&cd s (i+1)==191&&cd s (i+2)==189)=B;generalize(Utf8.decode s i).1=r
 have e:(((r:Int))==65533)=(r==65533):=by
  rw[Av];simp;omega
 simp only[e];rw[bne,Bool.not_or,Bool.not_not]
theorem R0(s:ByteArray):∀(m pos:Nat) (p:Nat×Int),p∈dK s m pos->p.1<s.size/\p.2=((Utf8.decode s p.1).1:Int)
 |0,_,_,h=>by simp[dK]at h
 |m+1,pos,p,h=>by
  unfold dK at h;split at h
  ·rename_i ar
   rcases Bk.1 h with rfl|h
   ·exact⟨ar,rfl⟩
   ·exact R0 s m _ p h
  ·simp at h
theorem NS(s:ByteArray):∀(m pos:Nat),(dK s m pos).length<=s.size-pos
 |0,_=>by simp[dK]
 |m+1,pos=>by
  unfold dK;split
  ·rename_i ar
   have:=NS s m (pos+(Utf8.decode s pos).2);have:=Ph s pos ar;simp;omega
  ·simp
theorem ans(s:ByteArray):(fC s).find? (fun p=>!oS s p.1)=(fC s).find? (qR s):=by
 have:∀(l:List (Nat×Int)),(∀p∈l,p.1<s.size/\p.2=((Utf8.decode s p.1).1:Int))->l.find? (fun p=>!oS s p.1)=l.find? (qR s):=by
  intro l;induction l with
  |nil=>intro _;rfl
  |cons p l ih=>
   intro h;have hp:=h p Aq
   have e:(!oS s p.1)=qR s p:=by
    rw[<-agy s p.1 hp.1,<-hp.2]
   simp only[List.find?_cons,e];rw[ih (fun q hq=>h q (Ar _ hq))]
 exact this _ (fun p hp=>R0 s _ _ p hp)
theorem abg(s:ByteArray):∀(l:List (Nat×Int)) (F:bu),l.foldl (fun F p=>if qR s p then F.bG 2 p.1 else F) F={F with dd:=F.dd.or ((l.find? (qR s)).map fun p=>(p.1:Int))}
 | [],F=>by cases F;simp
 |p::l,F=>by
  rw[Cu,abg s l,List.find?_cons]
  cases hb:qR s p
  ·simp
  ·obtain⟨r,a,b,c,d,e⟩:=F
   cases r<;>simp[bu.bG,bu.get,bu.put]
theorem ait(s:ByteArray)(l:List (Nat×Int)):rJ s l={tS with dd:=(l.find? (qR s)).map fun p=>(p.1:Int)}:=by
 unfold rJ;rw[abg];simp[tS]
theorem K4(s:ByteArray):(∀p,(bP s).au.dd=some p->p8 s=p/\0<=p)/\((bP s).au.dd=none->p8 s= -1/\(bP s).au=tS)/\(bP s).au.form=none/\(bP s).au.rF=none:=by
 have e:(bP s).au={tS with dd:=((fC s).find? (qR s)).map fun p=>(p.1:Int)}:=ait s _;unfold p8;rw[ans,e]
 cases h:(fC s).find? (qR s)with
 |none=>exact⟨fun p hp=>by simp at hp,fun _=>⟨rfl,rfl⟩,rfl,rfl⟩
 |some q=>exact⟨fun p hp=>by simp at hp;subst hp;exact⟨rfl,by omega⟩,fun hp=>by simp at hp,rfl,rfl⟩
def eW(a b:bu):Prop:=a.dd=b.dd/\a.rF=b.rF
theorem eW.refl(a:bu):eW a a:=⟨rfl,rfl⟩
theorem eW.trans{a b c:bu}(h:eW a b)(k:eW b c):eW a c:=⟨h.1.trans k.1,h.2.trans k.2⟩
theorem Rq(st:RS)(e p:Int)(h:3<=e/\e<=6):eW (st.bG e p).au st.au:=by
 unfold RS.bG bu.bG;simp only;split
 ·exact eW.refl _
 ·unfold bu.put;repeat' split
  all_goals first|exact⟨rfl,rfl⟩|(exfalso;omega)
variable {g:RG}
theorem RV(st:RS):eW (mJ g st).au st.au:=Rq st 3 _ (by omega)
theorem zX(l:List UInt8)(st:RS):eW (di g l st).au st.au:=by
 unfold di;split
 ·exact eW.refl _
 ·exact RV st
theorem adk(l:List UInt8)(st:RS):eW (lF g l st).au st.au:=by
 unfold lF;split
 ·exact RV st
 ·exact eW.refl _
theorem E9(l:List UInt8)(st:RS):eW (bT g l st).au st.au:=by
 unfold bT;split<;>exact eW.refl _
theorem Xj(st:RS):eW (ey g st).1.au st.au:=by
 unfold ey;split
 ·exact eW.refl _
 ·exact RV st
theorem Xp(st:RS):eW (aK g st).1.au st.au:=by
 unfold aK;split
 ·exact(Xj _).trans (Xj _)
 ·exact Xj _
theorem al3(st:RS):eW (n_ g st).1.au st.au:=by
 unfold n_;split
 ·exact eW.refl _
 ·exact Xp _
theorem adZ(st:RS):eW (cT g st).1.au st.au:=by
 unfold cT;split
 ·exact((zX _ _).trans (al3 _)).trans (Xp st)
 ·exact(zX _ _).trans (Xp st)
theorem NB(st:RS):eW (a_ g st).1.au st.au:=by
 unfold a_ je;split
 ·exact(zX _ _).trans (E9 _ _)
 ·exact(adk _ _).trans (E9 _ _)
theorem ad8(st:RS):eW (cK g st).au st.au:=by
 unfold cK;split
 ·exact eW.refl _
 ·unfold jT;split
  ·split
   ·exact((Rq _ 5 _ (by omega)).trans (NB _)).trans (NB st)
   ·exact(NB _).trans (NB st)
  ·exact NB st
theorem aec:∀(m:Nat) (st:RS),eW (fu g m st).au st.au
 |0,st=>eW.refl _
 |m+1,st=>by
  unfold fu;split
  ·exact eW.refl _
  ·exact(aec m _).trans (ad8 st)
theorem alX(st:RS):eW (iT g st).au st.au:=(((zX _ _).trans (aec _ _)).trans (ad8 _)).trans (E9 _ _)
theorem aej(first:Nat):∀(m:Nat) (st:RS),eW (fB g first m st).au st.au
 |0,_=>eW.refl _
 |m+1,st=>by
  unfold fB;split
  ·exact aej first m {st with next:=st.next+1}
  ·exact eW.refl _
theorem amd(first:Nat)(st:RS):eW (jd g first st).au st.au:=by
 unfold jd;split
 ·exact Rq _ 6 _ (by omega)
 ·exact eW.refl _
theorem ama(st:RS):eW (jS g st).au st.au:=(((zX _ _).trans (amd _ _)).trans (aej _ _ _)).trans (zX _ _)
theorem ami(A:PT)(st:RS):eW (dU g A st).1.au st.au:=by
 unfold dU;split
 ·exact E9 _ _
 ·split
  ·exact E9 _ _
  ·split
   ·exact E9 _ _
   ·split
    ·simp only;refine(E9 _ _).trans ?_;split
     ·exact(Rq _ 4 _ (by omega)).trans (adZ _)
     ·exact adZ _
    ·exact eW.refl _
theorem al0(st:RS):eW (dy g st).au st.au:=by
 unfold dy;split
 ·exact eW.refl _
 ·split
  ·exact ama _
  ·exact(zX _ _).trans (E9 _ _)
def Oa(aw:RS->RS×PT):Prop:=∀st,eW (aw st).1.au st.au
theorem alP{aw:RS->RS×PT}(ha:Oa aw)(st:RS):eW (bD g aw st).1.au st.au:=by
 unfold bD;split
 ·exact((zX _ _).trans (ha _)).trans (al0 _)
 ·split
  ·exact alX _
  ·split
   ·exact zX _ _
   ·split
    ·exact eW.refl _
    ·exact adk _ _
theorem Xx{aw:RS->RS×PT}(ha:Oa aw):∀(m:Nat) (st:RS) (aA:List PT),eW (eA g aw m st aA).1.au st.au
 |0,_,_=>eW.refl _
 |m+1,st,aA=>by
  unfold eA;split
  ·exact eW.refl _
  ·exact((Xx ha m _ _).trans (ami _ _)).trans (alP ha st)
theorem adT{aw:RS->RS×PT}(ha:Oa aw):∀(m:Nat) (st:RS) (aA:List PT),eW (eE g aw m st aA).1.au st.au
 |0,_,_=>eW.refl _
 |m+1,st,aA=>by
  unfold eE;split
  ·exact(adT ha m _ _).trans (Xx ha _ _ _)
  ·exact eW.refl _
theorem RE:∀k,Oa (aE g k)
 |0,_=>eW.refl _
 |k+1,st=>by
  unfold aE;exact(adT (RE k) _ _ _).trans (Xx (RE k) _ _ _)
theorem aev(st:RS):eW (dw g st).1.au st.au:=by
 unfold dw;split
 ·exact RE _ _
 ·exact(RV _).trans (RE _ _)
def Hz(g:RG)(aw:RS->RS×PT):Prop:=∀st,st.next<=g.rs.length->(aw st).1.aC+st.next<=(aw st).1.next+st.aC
theorem anT(g:RG)(st:RS)(h:st.next+1<=g.rs.length):(dy g {st with next:=st.next+1}).aC<=st.aC+1:=by
 unfold dy;split
 ·exact Aa _
 ·split
  ·rw[aek];exact Aa _
  ·rw[uC,E8];exact Ew _
theorem anS(g:RG)(aw:RS->RS×PT)(hf:tG g aw)(ha:Hz g aw)(st:RS)(h:st.next<=g.rs.length):(bD g aw st).1.aC+st.next<=(bD g aw st).1.next+st.aC:=by
 have hn:=JI g aw hf st h;by_cases ho:ak vC (aa g st)=true
 ·have ar:st.next<g.rs.length:=gI (fun e=>by rw[e]at ho;exact absurd ho (by decide))
  have h1:=anT g st ar;have h2:=RH g {st with next:=st.next+1} ar;have h3:=ha (dy g {st with next:=st.next+1}) h2.2;have h4:=hf (dy g {st with next:=st.next+1}) h2.2;have e:bD g aw st=jr g aw {st with next:=st.next+1}:=by unfold bD;rw[if_pos ho]
  rw[e];unfold jr;simp only;rw[uC];have h5:=xo g vD (aw (dy g {st with next:=st.next+1})).1 h4.2;have h6:=h2.1;simp only at h6;omega
 ·have hg:(bD g aw st).1.aC=st.aC:=by
   unfold bD;rw[if_neg ho];split
   ·simp only;rw[ad0]
   ·split
    ·simp only;rw[uC]
    ·split
     ·rfl
     ·simp only;rw[WV]
  omega
theorem ae_(g:RG)(aw:RS->RS×PT)(hf:tG g aw)(ha:Hz g aw):∀(m:Nat) (st:RS) (aA:List PT),st.next<=g.rs.length->(eA g aw m st aA).1.aC+st.next<=(eA g aw m st aA).1.next+st.aC
 |0,st,aA,h=>by show st.aC+st.next<=st.next+st.aC;omega
 |m+1,st,aA,h=>by
  unfold eA;split
  ·show st.aC+st.next<=st.next+st.aC;omega
  ·have h1:=anS g aw hf ha st h;have h2:=JI g aw hf st h;have h3:=NC g (bD g aw st).2 (bD g aw st).1 h2.2.1;have h4:=ae_ g aw hf ha m (dU g (bD g aw st).2 (bD g aw st).1).1 (aA++[(dU g (bD g aw st).2 (bD g aw st).1).2]) h3.2;rw[Xt]at h4;omega
theorem ae9(g:RG)(aw:RS->RS×PT)(hf:tG g aw)(ha:Hz g aw):Hz g (cU g aw):=fun st h=>ae_ g aw hf ha _ st [] h
theorem ae8(g:RG)(aw:RS->RS×PT)(hf:tG g aw)(ha:Hz g aw):∀(m:Nat) (st:RS) (aA:List PT),st.next<=g.rs.length->(eE g aw m st aA).1.aC+st.next<=(eE g aw m st aA).1.next+st.aC
 |0,st,aA,h=>by show st.aC+st.next<=st.next+st.aC;omega
 |m+1,st,aA,h=>by
  unfold eE;split
  ·rename_i hb
   have ar:st.next<g.rs.length:=(gI (fun e=>by rw[e]at hb;exact absurd hb (by decide)));have h1:=ae9 g aw hf ha {st with next:=st.next+1} ar
   have h2:=JK g aw hf {st with next:=st.next+1} ar;have h3:=ae8 g aw hf ha m (cU g aw {st with next:=st.next+1}).1 (aA++[(cU g aw {st with next:=st.next+1}).2]) h2.2;simp only at h1 h2;omega
  ·show st.aC+st.next<=st.next+st.aC;omega
theorem X0(g:RG):∀k,Hz g (aE g k)
 |0=>fun st h=>by show st.aC+st.next<=st.next+st.aC;omega
 |k+1=>fun st h=>by
  have h1:=ae9 g (aE g k) (xv g k) (X0 g k) st h;have h2:=JK g (aE g k) (xv g k) st h;have h3:=ae8 g (aE g k) (xv g k) (X0 g k) (g.rs.length+1) (cU g (aE g k) st).1 [(cU g (aE g k) st).2] h2.2;unfold aE;simp only;omega
theorem aew{p:ByteArray}(hs:p.size<=300):gk p<=300:=by
 have h0:(bP p).next<=(f_ p).rs.length:=Aw _
 have h1:=X0 (f_ p) ((f_ p).rs.length+1) (bP p) h0;have h2:=xv (f_ p) ((f_ p).rs.length+1) (bP p) h0
 have h3:(f_ p).rs.length<=p.size:=by
  show((dK p (p.size+1) 0).map (·.2)).length<=_
  rw[D9];exact NS p (p.size+1) 0
 have e:(bP p).aC=0:=rfl;have e2:(bP p).next=0:=rfl
 unfold gk dw;split
 ·omega
 ·rw[amY];omega
open Go.Shelf Go.RowKit Go.Lib Go.Sort
def Tryz.akO:Go.Shelf.Ren:=⟨fun|316=>108|n=>n,fun|9=>9|3=>3|4=>4|37=>175|0=>0|127=>195|5=>5|n=>n,fun|n=>n⟩
theorem Tryz.akN:Go.Proofs.LaysM.n316 prog Tryz.akO:={
 mixed:=by kernel_rfl
 f316:=func108.trans (congrArg some (by kernel_rfl))
 t0:=underlying0
 a0:=isAgg0
 z0:=sizeOf0
 v0:=zeroValue0
 t3:=underlying3
 a3:=isAgg3
 z3:=sizeOf3
 v3:=zeroValue3
 t4:=underlying4
 a4:=isAgg4
 z4:=sizeOf4
 v4:=zeroValue4
 t9:=underlying9
 a9:=isAgg9
 z9:=sizeOf9
 v9:=zeroValue9
 t37:=underlying175
 a37:=isAgg175
 z37:=sizeOf175
 v37:=zeroValue175
 t127:=underlying195
 a127:=isAgg195
 z127:=sizeOf195
 v127:=zeroValue195
 t5:=underlying5
 a5:=isAgg5
 z5:=sizeOf5
 v5:=zeroValue5
 i0:=by kernel_rfl
 i3:=by kernel_rfl
 i4:=by kernel_rfl
 i5:=by kernel_rfl
 i9:=by kernel_rfl
 i37:=by kernel_rfl
 i127:=by kernel_rfl}
def Tryz.akM:Go.Shelf.Ren:=⟨fun|212=>107|263=>125|264=>126|n=>n,fun|46=>170|51=>190|146=>191|53=>162|148=>193|n=>n,fun|n=>n⟩
theorem Tryz.akL:Go.Proofs.Lays.n212 prog Tryz.akM:={
 mixed:=by kernel_rfl
 f212:=func107.trans (congrArg some (by kernel_rfl))
 f263:=func125.trans (congrArg some (by kernel_rfl))
 f264:=func126.trans (congrArg some (by kernel_rfl))
 t46:=underlying170
 a46:=isAgg170
 z46:=sizeOf170
 v46:=zeroValue170
 t51:=underlying190
 a51:=isAgg190
 z51:=sizeOf190
 v51:=zeroValue190
 t53:=underlying162
 a53:=isAgg162
 z53:=sizeOf162
 v53:=zeroValue162
 t146:=underlying191
 a146:=isAgg191
 z146:=sizeOf191
 v146:=zeroValue191
 t148:=underlying193
 a148:=isAgg193
 z148:=sizeOf193
 v148:=zeroValue193}
def Tryz.ac9:Go.Shelf.Ren:=⟨fun|271=>120|120=>139|197=>79|260=>106|n=>n,fun|9=>9|21=>21|3=>3|4=>4|5=>5|105=>149|119=>186|0=>0|46=>170|139=>189|138=>188|n=>n,fun|3=>0|4=>1|n=>n⟩
theorem Tryz.WI:Go.Proofs.Lays.n271 prog Tryz.ac9:={
 mixed:=by kernel_rfl
 f120:=func139.trans (congrArg some (by kernel_rfl))
 f197:=func79.trans (congrArg some (by kernel_rfl))
 f260:=func106.trans (congrArg some (by kernel_rfl))
 f271:=func120.trans (congrArg some (by kernel_rfl))
 t0:=underlying0
 a0:=isAgg0
 z0:=sizeOf0
 v0:=zeroValue0
 t3:=underlying3
 a3:=isAgg3
 z3:=sizeOf3
 v3:=zeroValue3
 t4:=underlying4
 a4:=isAgg4
 z4:=sizeOf4
 v4:=zeroValue4
 t5:=underlying5
 a5:=isAgg5
 z5:=sizeOf5
 v5:=zeroValue5
 t9:=underlying9
 a9:=isAgg9
 z9:=sizeOf9
 v9:=zeroValue9
 t21:=underlying21
 a21:=isAgg21
 z21:=sizeOf21
 v21:=zeroValue21
 t46:=underlying170
 a46:=isAgg170
 z46:=sizeOf170
 v46:=zeroValue170
 t105:=underlying149
 a105:=isAgg149
 z105:=sizeOf149
 v105:=zeroValue149
 t119:=underlying186
 a119:=isAgg186
 z119:=sizeOf186
 t138:=underlying188
 a138:=isAgg188
 z138:=sizeOf188
 v138:=zeroValue188
 t139:=underlying189
 a139:=isAgg189
 z139:=sizeOf189
 v139:=zeroValue189
 g3:=by kernel_rfl
 g4:=by kernel_rfl}
def Tryz.anw:Go.Shelf.Ren:=⟨fun|16=>121|n=>n,fun|3=>3|35=>109|4=>4|38=>170|n=>n,fun|n=>n⟩
theorem Tryz.anu:Go.Proofs.SlLaysO.n16 prog Tryz.anw:={
 mixed:=by kernel_rfl
 f16:=func121.trans (congrArg some (by kernel_rfl))
 t3:=underlying3
 a3:=isAgg3
 z3:=sizeOf3
 v3:=zeroValue3
 t4:=underlying4
 a4:=isAgg4
 z4:=sizeOf4
 v4:=zeroValue4
 t35:=underlying109
 a35:=isAgg109
 z35:=sizeOf109
 v35:=zeroValue109
 t38:=underlying170
 a38:=isAgg170
 z38:=sizeOf170
 v38:=zeroValue170}
theorem QX{w w':World}(h:Go.RowKit.Below w.heap.size w w'):I aq w w':=⟨h.os,h.tape,h.output,h.size,fun k hk _=>h.block k hk⟩
def j9(w:World):Prop:=Lib.Utf8Tabs 0 1 w
theorem aaD(s:ByteArray)(w:World)(hT:j9 w):Calls prog 79 #[.string s] w fun e w'=>e=.returned (.tuple #[.int .i32 (Lib.decodeGo s).1,.int .i64 (Lib.decodeGo s).2])/\I aq w w':=by
 refine(Any.utf8_DecodeRuneInString {Tryz.WI with} s w hT).mono ?_;rintro e w' ⟨h1,h2⟩;exact⟨h1,QX h2⟩
theorem ahP(s:ByteArray)(w:World)(hs:s.size<=9223372036854775807)(hT:j9 w):Calls prog 120 #[.string s] w fun e w'=>e=.returned (.tuple #[.int .i32 (Lib.decodeLastL s.data.toList).1,.int .i64 (Lib.decodeLastL s.data.toList).2])/\I aq w w':=by
 refine(Any.utf8_DecodeLastRuneInString Tryz.WI s w hs hT).mono ?_;rintro e w' ⟨h1,h2⟩;exact⟨h1,QX h2⟩
theorem ahy(s:ByteArray)(w:World)(hs:s.size<=281474976710656):Calls prog 108 #[.string s] w fun e w'=>e=.returned (.string s)/\I aq w w':=by
 refine(Any.stringslite_Clone Tryz.akN s w hs).mono ?_;rintro e w' ⟨h1,h2⟩;exact⟨h1,QX h2⟩
theorem ak5(x y:Nat)(hx:x<18446744073709551616)(hy:y<18446744073709551616)(w:World):
 Calls prog 107 #[.int .u64 x,.int .u64 y] w fun e w'=>e=.returned (.tuple #[.int .u64 ((x*y/18446744073709551616:Nat):Int),.int .u64 ((x*y % 18446744073709551616:Nat):Int)])/\w'=w:=Any.bits_Mul Tryz.akL x y hx hy w
theorem j9.kept{w w':World}{S:Nat->Prop}(h:j9 w)(k:I S w w')(h3:¬S 0)(h4:¬S 1):j9 w':=by
 have key:∀{a:Addr} {v:Value},¬S a.block->w.cell? a=some v->w'.cell? a=some v:=fun{a v} ha hc=>(k.cell (Dq _ _ hc) ha).trans hc
 exact⟨fun c hc=>key h3 (h.1 c hc),fun i hi=>⟨key h4 (h.2 i hi).1,key h4 (h.2 i hi).2⟩⟩
theorem j9.nY{w w':World}(h:j9 w)(k:I aq w w'):j9 w':=h.kept k (fun h=>h) (fun h=>h)
def yM(c:Int):Bool:=c==95||(decide (48<=c)&&decide (c<=57))||(decide (65<=c)&&decide (c<=90))||(decide (97<=c)&&decide (c<=122))
def Jg(e ahead aae:Int):Bool:=if e=0 then ahead== -1 else if e=1 then aae== -1 else(yM ahead !=yM aae)==(e==2)
def B_(s:ByteArray)(i:Nat):Int:=if i=0 then-1 else(cG s).dd (i-1)
theorem XO{s:ByteArray}{i:Nat}(h:(aW s).length<=i):(cG s).dd i= -1:=by
 unfold TX.dd cG;simp[Bd h]
theorem ahS(s:ByteArray)(p:Nat)(h:p<s.size):(Utf8.decode s p).1<=1114111:=Lib.rune_le s p
theorem XP{s:ByteArray}{i:Nat}(h:i<(aW s).length):0<=(cG s).dd i/\(cG s).dd i<=1114111:=by
 rw[XN h];have:=ahS s (bd s i) (zd h);omega
theorem afA(c:Int):yM c=bM (iF 119) c:=by
 unfold yM iF;rw[Av];simp[bM];omega
theorem ajB(s:ByteArray)(e:Int){i:Nat}(hi:i<=(aW s).length):Jg e (B_ s i) ((cG s).dd i)=qF (cG s) e i:=by
 have hl:(cG s).l.length=(aW s).length:=rfl
 have w1:yM (B_ s i)=(cG s).jY ((i:Int)-1):=by
  unfold B_ TX.jY;by_cases h0:i=0
  ·subst h0;rw[if_pos rfl];simp[yM]
  ·rw[if_neg h0,afA,hl];have:decide (0<=(i:Int)-1)=true:=by simp;omega
   have h2:decide ((i:Int)-1<((aW s).length:Int))=true:=by simp;omega
   rw[this,h2,show((i:Int)-1).toNat=i-1 by omega];simp
 have w2:yM ((cG s).dd i)=(cG s).jY (i:Int):=by
  unfold TX.jY;rw[hl];by_cases ar:i<(aW s).length
  ·rw[afA];simp[ar]
  ·rw[XO (by omega)];have:decide ((i:Int)<((aW s).length:Int))=false:=by simp;omega
   rw[this];simp[yM]
 unfold Jg qF;by_cases e0:e=0
 ·rw[if_pos e0,if_pos e0];unfold B_;by_cases h0:i=0
  ·subst h0;simp
  ·rw[if_neg h0];have:=XP (s:=s) (i:=i-1) (by omega);rw[Av];simp;omega
 ·rw[if_neg e0,if_neg e0];by_cases e1:e=1
  ·rw[if_pos e1,if_pos e1,hl];by_cases ar:i<(aW s).length
   ·have:=XP ar;rw[Av];simp;omega
   ·rw[XO (by omega)];rw[Av];simp;omega
  ·rw[if_neg e1,if_neg e1,w1,w2];by_cases e2:e=2
   ·subst e2;simp
   ·rw[if_neg e2];have:(e==2)=false:=(by simpa using e2);rw[this];simp
open Go.Maps
theorem afu(s:ByteArray)(p:Nat)(w:World)(hp:p<=s.size)(hs:s.size<=1000000000)(hT:j9 w):Calls prog 47 #[.string s,.int .i64 (p:Int)] w fun e w'=>e=.returned (.int .i64 (max ((Lib.decodeGo (s.extract p s.size)).2:Int) 1))/\I aq w w':=by
 have cD:=aaD (s.extract p s.size) w hT;go_in;go_wp2_with fail;refine cD.mono ?_;rintro e w' ⟨rfl,hK⟩;clear cD;go_wp2_with fail;go_ret;exact⟨rfl,hK⟩
theorem agD(x k:Nat)(hx:x<18446744073709551616):(bits BinOp.and IntKind.u64 ((x:Int) /2^k) 1 !=0)=x.testBit k:=by
 have ar:x/2^k<2^64:=Nat.lt_of_le_of_lt (Nat.div_le_self _ _) (by omega);have h:=(bits_nat .u64 64 (by decide) wraps_u64 (x/2^k) 1 ar (by decide)).1;have e:((x:Int) /2^k)=((x/2^k:Nat):Int):=by simp
 rw[e,show(1:Int)=((1:Nat):Int)from rfl,h,Nat.testBit,Nat.shiftRight_eq_div_pow,Nat.and_comm];rw[Av];simp only[Eh,ne_eq];omega
theorem U2(w:World)(B o len cap:Nat)(x:Nat)(u:Nat)(hx:x<18446744073709551616)(hu:u/64<len)(oO:u<100000)(hc:w.cell? ⟨B,o+u/64,none⟩=some (.int .u64 (x:Int))):Calls prog 78 #[.slice (some ⟨B,o,none⟩) len cap,.int .i64 (u:Int)] w fun e w'=>e=.returned (.bool (x.testBit (u % 64)))/\w'=w:=by
 go_in
 go_wp2_with fail
 go_ret
 exact⟨by rw[agD x _ hx];rfl,rfl⟩
theorem agE(x k:Nat)(hx:x<18446744073709551616)(hk:k<64):bits BinOp.or IntKind.u64 (x:Int) (IntKind.u64.wrap (2^k))=((x|||2^k:Nat):Int):=by
 have h2:2^k<2^64:=Nat.pow_lt_pow_right (by decide) hk;have e:(2:Int) ^k=((2^k:Nat):Int):=by simp
 rw[e,wraps_u64 _ (Int.natCast_nonneg _) (by exact_mod_cast h2)];exact(bits_nat .u64 64 (by decide) wraps_u64 x (2^k) (by omega) h2).2
theorem amN(w:World)(B o len cap:Nat)(x:Nat)(u:Nat)(hx:x<18446744073709551616)(hu:u/64<len)(oO:u<100000)(hc:w.cell? ⟨B,o+u/64,none⟩=some (.int .u64 (x:Int)))(hf:w.frozen? ⟨B,o+u/64,none⟩=false):Calls prog 104 #[.slice (some ⟨B,o,none⟩) len cap,.int .i64 (u:Int)] w fun e w'=>e=.returned (.tuple #[])/\w'=w.drew.setCell ⟨B,o+u/64,none⟩ (.int .u64 ((x|||2^ (u % 64):Nat):Int)):=by
 go_in
 refine kH (S:=fun W=>W.cell? ⟨B,o+u/64,none⟩=some (.int .u64 (x:Int))) 10 (by kernel_rfl) rfl rfl rfl (by kernel_rfl) (by kernel_rfl) ?_;have az:(fun W:World=>W.cell? ⟨B,o+u/64,none⟩=some (.int .u64 (x:Int))) w.drew:=hc;refine aB 0 4 (.slice (some ⟨B,o,none⟩) len cap) az ?_;refine aB 1 5 (.int .i64 (u:Int)) az ?_;refine jV 2 6 (.int .i64 ((u:Int) /64)) rfl rfl (by kernel_rfl) (by kernel_rfl) (by kernel_rfl) (fun _ _ _ h=>h) (Or.inl ⟨by rfl,fun W dJ=>by go_simp;rw[By];omega⟩) az ?_;refine jV 3 7 (.pointer (some ⟨B,o+u/64,none⟩)) rfl rfl (by kernel_rfl) (by kernel_rfl) (by kernel_rfl) (fun _ _ _ h=>h) (Or.inl ⟨by rfl,fun W dJ=>by go_simp;rw[if_pos (by omega),show((u:Int) /64).toNat=u/64 by omega]⟩) az ?_;refine aB 4 8 (.int .u64 (x:Int)) az ?_;refine aB 5 9 (.int .i64 (u:Int)) az ?_;refine jV 6 10 (.int .i64 ((u:Int) % 64)) rfl rfl (by kernel_rfl) (by kernel_rfl) (by kernel_rfl) (fun _ _ _ h=>h) (Or.inl ⟨by rfl,fun W dJ=>by go_simp;exact Int.tmod_eq_emod_of_nonneg (by omega)⟩) az ?_;refine jV 7 11 (.int .u64 (IntKind.u64.wrap (2^ (u % 64)))) rfl rfl (by kernel_rfl) (by kernel_rfl) (by kernel_rfl) (fun _ _ _ h=>h) (Or.inl ⟨by rfl,fun W dJ=>by go_simp;rw[show((u:Int) % 64).toNat=u % 64 by omega]⟩) az ?_;refine aB 8 12 (.int .u64 (bits .or .u64 (x:Int) (IntKind.u64.wrap (2^ (u % 64))))) az ?_;refine jV 9 13 (.pointer (some ⟨B,o+u/64,none⟩)) rfl rfl (by kernel_rfl) (by kernel_rfl) (by kernel_rfl) (fun _ _ _ h=>h) (Or.inl ⟨by rfl,fun W dJ=>by go_simp;rw[if_pos (by omega),show((u:Int) /64).toNat=u/64 by omega]⟩) az ?_;simp only[Act.put,Ac,Ak,Aj];refine Ba (by kernel_rfl) ?_ _;unfold iu;simp only[A4,Am,Ap];go_simp;rw[agE x _ hx (by omega)];go_end0;exact⟨rfl,rfl⟩
theorem amq(w:World)(b:Nat)(f t st en wd:Int)(h:ay w b #[.int .i64 f,.int .i64 t] 84)(h0:0<=en/\en<=1000000000)(h1:0<=wd/\wd<=4):Calls prog 49 #[.pointer (some ⟨b,0,none⟩),.int .i64 st,.int .i64 en,.int .i64 wd] w fun e w'=>
 e=.returned (.bool (!(st==en&&en==t)))/\I (fun i=>i=b) w w'/\ay w' b #[.int .i64 (if st=en then en+wd else en),.int .i64 en] 84:=by
 have c0:w.cell? ⟨b,0,none⟩=some (.int .i64 f):=h.cell 0;have c1:w.cell? ⟨b,1,none⟩=some (.int .i64 t):=h.cell 1;have f0:=h.frozen 0;have f1:=h.frozen 1;have H:=ai h;clear h;by_cases e1:st=en
 ·subst e1;by_cases e2:st=t
  ·subst e2;go_in;go_wp2_with fail;go_ret;refine⟨by simp,((I.refl (fun i=>i=b) w).setCell (p:=⟨b,0,none⟩) (Or.inl rfl) _).setCell (p:=⟨b,0,none⟩) (Or.inl rfl) _,?_⟩;have:=((H.out).setCell 0 (.int .i64 st)).setCell 0 (.int .i64 (st+wd));simpa using this
  ·have e3:(st==t)=false:=(by simpa using e2);go_in;go_wp2_with fail;go_ret;refine⟨by simp,(((I.refl (fun i=>i=b) w).setCell (p:=⟨b,0,none⟩) (Or.inl rfl) _).setCell (p:=⟨b,0,none⟩) (Or.inl rfl) _).setCell (p:=⟨b,1,none⟩) (Or.inl rfl) _,?_⟩;have:=(((H.out).setCell 0 (.int .i64 st)).setCell 0 (.int .i64 (st+wd))).setCell 1 (.int .i64 st);simpa using this
 ·have e3:(st==en)=false:=by simpa using e1
  go_in
  go_wp2_with fail
  go_ret
  refine⟨by simp,((I.refl (fun i=>i=b) w).setCell (p:=⟨b,0,none⟩) (Or.inl rfl) _).setCell (p:=⟨b,1,none⟩) (Or.inl rfl) _,?_⟩;have:=((H.out).setCell 0 (.int .i64 en)).setCell 1 (.int .i64 en);simpa using this
theorem acT(w:World)(c:Int):Calls prog 123 #[.int .i32 c] w fun e w'=>e=.returned (.bool (yM c))/\w'=w:=by
 go_in
 go_wp2_with fail
 all_goals go_ret
 all_goals refine⟨?_,rfl⟩
 all_goals refine congrArg Ending.returned ?_
 all_goals refine congrArg Value.bool ?_
 all_goals unfold yM
 all_goals rw[Av]
 all_goals simp
 all_goals omega
theorem ajD(w:World)(e a b:Int):Calls prog 103 #[.int .i64 e,.int .i32 a,.int .i32 b] w fun r w'=>r=.returned (.bool (Jg e a b))/\w'=w:=by
 have H1:=fun W=>acT W a
 have H2:=fun W=>acT W b
 have h1:=ai H1;have h2:=ai H2;clear H1 H2;unfold Jg;by_cases e0:e=0
 ·subst e0;go_in;go_wp2_with fail;go_ret;exact⟨rfl,rfl⟩
 ·by_cases e1:e=1
  ·subst e1;go_in;go_wp2_with fail;go_ret;exact⟨rfl,rfl⟩
  ·have b0:(e==0)=false:=(by simpa using e0);have b1:(e==1)=false:=(by simpa using e1);go_in;go_wp2_with fail;refine(h1.out w).mono ?_;rintro r w' ⟨rfl,rfl⟩;go_wp2_with fail;refine(h2.out _).mono ?_;rintro r w' ⟨rfl,rfl⟩;go_wp2_with fail;go_ret;exact⟨rfl,rfl⟩
theorem agf(w:World)(s:ByteArray)(p:Nat)(A B C:Int)(hp:p<=s.size)(hs:s.size<=1000000000)(hT:j9 w):Calls prog 101 #[.agg #[.string s,.int .i64 A,.int .i32 B,.int .i32 C,.bool false],.int .i64 (p:Int)] w fun e w'=>
 e=.returned (.tuple #[.int .i32 (if 0<p then((Lib.decodeLastL (s.extract 0 p).data.toList).1:Int)else B),.int .i32 (if p<s.size then((Lib.decodeGo (s.extract p s.size)).1:Int)else C)])/\I aq w w':=by
 have yp:(s.extract 0 p).size<=9223372036854775807:=by rw[extract_size s 0 p hp];omega
 have cL:=ai fun(W:World) (hW:j9 W)=>ahP (s.extract 0 p) W yp hW
 have cD:=ai fun(W:World) (hW:j9 W)=>aaD (s.extract p s.size) W hW
 have HT:=ai hT;clear hT;generalize((Lib.decodeLastL (s.extract 0 p).data.toList).1:Int)=la at cL⊢;generalize((Lib.decodeLastL (s.extract 0 p).data.toList).2:Int)=la2 at cL;generalize((Lib.decodeGo (s.extract p s.size)).1:Int)=lb at cD⊢;generalize((Lib.decodeGo (s.extract p s.size)).2:Int)=Re at cD;obtain⟨a,HA⟩:∃a,Hid (a=if 0<p then la else B):=⟨_,(rfl:_=_)⟩
 obtain⟨b,HB⟩:∃b,Hid (b=if p<s.size then lb else C):=⟨_,(rfl:_=_)⟩
 rw[<-HA.out,<-HB.out];go_in;go_wp2_with fail;have c0:(w.alloc (.cells #[.string s,.int .i64 A,.int .i32 B,.int .i32 C,.bool false] 88)).cell? ⟨w.heap.size,0,none⟩=some (.string s):=(ay.new w _ _).cell 0;have c2:(w.alloc (.cells #[.string s,.int .i64 A,.int .i32 B,.int .i32 C,.bool false] 88)).cell? ⟨w.heap.size,2,none⟩=some (.int .i32 B):=(ay.new w _ _).cell 2;have c3:(w.alloc (.cells #[.string s,.int .i64 A,.int .i32 B,.int .i32 C,.bool false] 88)).cell? ⟨w.heap.size,3,none⟩=some (.int .i32 C):=(ay.new w _ _).cell 3;have BB:=ai (ay.new w #[.string s,.int .i64 A,.int .i32 B,.int .i32 C,.bool false] 88);have KK:Hid (I aq w (w.alloc (.cells #[.string s,.int .i64 A,.int .i32 B,.int .i32 C,.bool false] 88))):=(I.refl aq w).alloc _;generalize hW:(w.alloc (.cells #[.string s,.int .i64 A,.int .i32 B,.int .i32 C,.bool false] 88))=W at*;clear hW;go_big_quiet (fail);have Th:=ai (HT.out.nY (KK.out.drewN nq));have K1:=ai (KK.out.drewN nq);by_cases h0:0<p
 ·have h0':(0:Int)<(p:Int):=by omega
  go_wp2_with fail
  refine(cL.out _ Th.out).mono ?_;rintro e w2 ⟨rfl,IG⟩;have B1:ay (W.drewN nq) w.heap.size #[.string s,.int .i64 A,.int .i32 B,.int .i32 C,.bool false] 88:=BB.out;have d0:w2.cell? ⟨w.heap.size,0,none⟩=some (.string s):=(B1.kept IG (fun h=>h)).cell 0;have HT2:=ai (Th.out.nY IG);have K2:=ai (K1.out.trans IG);clear IG B1;by_cases h1:p<s.size
  ·have jx:(p:Int)<(s.size:Int):=(by omega);go_wp2_with fail;refine(cD.out _ HT2.out).mono ?_;rintro e w3 ⟨rfl,wJ⟩;go_wp2_with fail;go_ret2;rw[show a=_ from HA.out.trans (if_pos h0),show b=_ from HB.out.trans (if_pos h1)];exact⟨rfl,K2.out.trans wJ⟩
  ·have jx:¬(p:Int)<(s.size:Int):=(by omega);go_wp2_with fail;go_ret2;rw[show a=_ from HA.out.trans (if_pos h0),show b=_ from HB.out.trans (if_neg h1)];exact⟨rfl,K2.out⟩
 ·have h0':¬(0:Int)<(p:Int):=by omega
  by_cases h1:p<s.size
  ·have jx:(p:Int)<(s.size:Int):=(by omega);go_wp2_with fail;refine(cD.out _ Th.out).mono ?_;rintro e w3 ⟨rfl,wJ⟩;go_wp2_with fail;go_ret2;rw[show a=_ from HA.out.trans (if_neg h0),show b=_ from HB.out.trans (if_pos h1)];exact⟨rfl,K1.out.trans wJ⟩
  ·have jx:¬(p:Int)<(s.size:Int):=(by omega);go_wp2_with fail;go_ret2;rw[show a=_ from HA.out.trans (if_neg h0),show b=_ from HB.out.trans (if_neg h1)];exact⟨rfl,K1.out⟩
theorem aaC(p:Nat->Bool):∀n,(∀a b,a<=b->b<n->p a=true->p b=true)->(List.range n).countP (fun i=>!p i)<=n/\(∀t,t<(List.range n).countP (fun i=>!p i)->p t=false)/\(∀t,(List.range n).countP (fun i=>!p i)<=t->t<n->p t=true)
 |0,_=>⟨by simp,fun t h=>by simp at h,fun t _ h=>by omega⟩
 |n+1,hm=>by
  obtain⟨h1,h2,h3⟩:=aaC p n (fun a b h1 h2=>hm a b h1 (by omega));rw[Ey,List.countP_append]
  cases e:p n with
  |true=>
   have:List.countP (fun i=>!p i) [n]=0:=by simp[e]
   rw[this,E3];refine⟨by omega,h2,fun t ht hn=>?_⟩;by_cases h:t=n
   ·rw[h];exact e
   ·exact h3 t ht (by omega)
  |false=>
   have:List.countP (fun i=>!p i) [n]=1:=by simp[e]
   rw[this]
   have qI:∀t,t<n->p t=false:=fun t ht=>by
    cases e2:p t with
    |false=>rfl
    |true=>have:=hm t n (by omega) (by omega) e2;rw[e]at this;cases this
   have hk:(List.range n).countP (fun i=>!p i)=n:=by
    refine Nat.le_antisymm h1 ?_;refine Nat.le_of_not_lt fun ar=>?_
    have:=h3 _ (Aa _) ar;rw[qI _ ar]at this
    cases this
   rw[hk];refine⟨by omega,fun t ht=>?_,fun t ht hn=>by omega⟩;by_cases h:t=n
   ·rw[h];exact e
   ·exact qI t (by omega)
def xE(S:bN)(i:Nat):Int:=(S.getD i (0,0)).2
def Pr(S:bN)(i:Nat):Int:=(S.getD i (0,0)).1
theorem J1{S:bN}{i:Nat}(h:i<S.length):xE S i=(S[i]).2:=by unfold xE;rw[Ae,Ab h];rfl
theorem UA{S:bN}{i:Nat}(h:i<S.length):Pr S i=(S[i]).1:=by unfold Pr;rw[Ae,Ab h];rfl
theorem afj{S:bN}(h:pY S){a b:Nat}(Gh:a<=b)(hb:b<S.length):xE S a<=xE S b:=by
 rw[J1 (by omega),J1 hb];by_cases e:a=b
 ·subst e;exact Da _
 ·have:=D0.1 h.1 a b (by omega) hb (by omega);have:=h.2 _ (Ay hb);omega
def zl(S:bN)(c:Int):Nat:=(List.range S.length).countP (fun i=>!decide (c<=xE S i))
theorem anv{S:bN}(ht:pY S)(c:Int):zl S c<=S.length/\(decide (zl S c<S.length)&&decide (Pr S (zl S c)<=c))=bM S c:=by
 obtain⟨h1,h2,h3⟩:=aaC (fun i=>decide (c<=xE S i)) S.length (fun a b h1 h2 h=>by
  have:=afj ht h1 h2;simp only[B7]at h⊢;omega)
 refine⟨h1,?_⟩;change zl S c<=S.length at h1;have h2:∀t,t<zl S c->¬c<=xE S t:=fun t hh=>by have:=h2 t hh;simpa using this
 have h3:∀t,zl S c<=t->t<S.length->c<=xE S t:=fun t hh hl=>by have:=h3 t hh hl;simpa using this
 generalize zl S c=k at*
 rw[Av,Js];simp only[Bi,B7];constructor
 ·rintro⟨a,b⟩;have:=h3 k (Aa _) a;rw[UA a]at b;rw[J1 a]at this;exact⟨_,Ay a,b,this⟩
 ·rintro⟨s,hs,a,b⟩;obtain⟨t,hl,rfl⟩:=Do hs
  have hkt:k<=t:=by
   refine Nat.le_of_not_lt fun ar=>?_
   have:=h2 t ar;rw[J1 hl]at this;exact this b
  have hk:k<S.length:=by omega
  refine⟨hk,?_⟩;rw[UA hk];by_cases e:k=t
  ·subst e;exact a
  ·have q:=D0.1 ht.1 k t hk hl (by omega);have:=h3 k (Aa _) hk;rw[J1 hk]at this;omega
theorem aiS(w:World)(Bs Bc bs i cap:Nat)(S:bN)(c:Int)(h1:w.cell? ⟨Bs,0,none⟩=some (.slice (some ⟨bs,0,none⟩) S.length cap))(h2:w.cell? ⟨Bc,0,none⟩=some (.int .i32 c))(h3:w.cell? ⟨bs,i*2+1,none⟩=some (.int .i32 (xE S i)))(hi:i<S.length)(hl:S.length<=6000):
 Calls prog 122 #[.int .i64 (i:Int),.pointer (some ⟨Bs,0,none⟩),.pointer (some ⟨Bc,0,none⟩)] w fun e w'=>e=.returned (.bool (decide (c<=xE S i)))/\∃q,w'=w.drewN q:=by
 go_in
 go_wp2_with fail
 go_big_quiet (fail)
 go_wp2_with fail
 go_ret
 exact⟨rfl,_,rfl⟩
theorem afO(w:World)(sa:Option Addr)(sc bs:Nat)(S:bN)(c:Int)(ha:S≠ []->sa=some ⟨bs,0,none⟩/\bs<w.heap.size)(hc:gF w bs S)(ht:pY S)(hl:S.length<=6000):
 Calls prog 102 #[.slice sa S.length sc,.int .i32 c] w fun e w'=>e=.returned (.bool (bM S c))/\I aq w w':=by
 obtain⟨W0,LP⟩:∃W0,W0=(w.alloc (.cells #[.slice sa S.length sc] 40)).alloc (.cells #[.int .i32 c] 21):=⟨_,rfl⟩
 have K0:Hid (I aq w W0):=by rw[LP];exact((I.refl aq w).alloc _).alloc _
 have zD:W0.heap.size=w.heap.size+1+1:=by rw[LP];simp
 have B1:ay W0 w.heap.size #[.slice sa S.length sc] 40:=by rw[LP];exact(ay.new w _ _).alloc _
 have B2:ay W0 (w.heap.size+1) #[.int .i32 c] 21:=by
  rw[LP];have:=ay.new (w.alloc (.cells #[.slice sa S.length sc] 40)) #[.int .i32 c] 21;simpa using this
 have HS:=ai (anv ht c);have eg:∀args w,(callFunc 122 args).run prog w=.ok (.enter 122 args) w:=enters_of func122 (by kernel_rfl) rfl
 have hF:=Any.sort_Search Tryz.anu 122 #[.pointer (some ⟨w.heap.size,0,none⟩),.pointer (some ⟨w.heap.size+1,0,none⟩)] S.length (fun i=>decide (c<=xE S i)) W0 eg (by omega)
  (fun m os i hi=>by
    have aF:S≠ []:=by intro e;subst e;simp at hi
    obtain⟨rfl,hb⟩:=ha aF;have ck:∀{a:Addr} {v:Value},a.block<W0.heap.size->W0.cell? a=some v->(grow (W0.drewN m) os).cell? a=some v:=(fun ar ki=>cell_grown ar ki m os);refine(aiS (grow (W0.drewN m) os) w.heap.size (w.heap.size+1) bs i sc S c (ck (by show w.heap.size<_;omega) (B1.cell 0)) (ck (by show w.heap.size+1<_;omega) (B2.cell 0)) (ck (by show bs<_;omega) ((K0.out.cell (p:=⟨bs,i*2+1,none⟩) hb (fun h=>h)).trans (by rw[J1 hi];exact(hc i hi).2))) hi hl).mono ?_
    rintro e w' ⟨h1,n,h2⟩;exact⟨h1,n,#[],by rw[h2,grow_empty]⟩)
  (fun a b h1 h2 h=>by
    have:=afj ht h1 h2;simp only[B7]at h⊢;omega)
 change Calls _ _ _ _ (fun e w'=>e=.returned (.int .i64 (zl S c:Nat))/\_)at hF
 have HF:=ai hF;have HC:=ai hc;have HA:=ai ha;have nz:=ai B1;have HB2:=ai B2;clear hF hc ha ht B1 B2 eg;obtain⟨k,hk⟩:∃k,k=zl S c:=⟨_,rfl⟩
 rw[<-hk]at HS HF;clear hk;go_in;go_wp2_with fail;rw[<-LP];refine(HF.out).mono ?_;rintro e w1 ⟨rfl,q,os,rfl⟩;have ck:Hid (∀{a:Addr} {v:Value},a.block<W0.heap.size->W0.cell? a=some v->(grow (W0.drewN q) os).cell? a=some v):=fun ar ki=>cell_grown ar ki q os
 have e1:(grow (W0.drewN q) os).cell? ⟨w.heap.size,0,none⟩=some (.slice sa S.length sc):=ck.out (by show w.heap.size<_;omega) (nz.out.cell 0);have e2:(grow (W0.drewN q) os).cell? ⟨w.heap.size+1,0,none⟩=some (.int .i32 c):=ck.out (by show w.heap.size+1<_;omega) (HB2.out.cell 0);have KF:Hid (I aq w (grow (W0.drewN q) os)):=K0.out.trans (QX (below_grown_sl W0.heap.size W0 q os (Aa _)));by_cases ar:k<S.length
 ·have aF:S≠ []:=by intro e;subst e;simp at ar
  obtain⟨rfl,hb⟩:=HA.out aF;have e3:(grow (W0.drewN q) os).cell? ⟨bs,k*2,none⟩=some (.int .i32 (Pr S k)):=ck.out (by show bs<_;omega) ((K0.out.cell (p:=⟨bs,k*2,none⟩) hb (fun h=>h)).trans (by rw[UA ar];exact(HC.out k ar).1));generalize hW:grow (W0.drewN q) os=W at*;clear ck hW;go_wp2_with fail;go_big_quiet (fail);go_wp2_with fail;go_ret;refine⟨?_,KF.out.drewN _⟩;rw[<-HS.out.2];simp[ar]
 ·generalize hW:grow (W0.drewN q) os=W at*
  clear ck hW;go_wp2_with fail;go_big_quiet (fail);go_wp2_with fail;go_ret;refine⟨?_,KF.out.drewN _⟩;rw[<-HS.out.2];simp[ar]
def dP(ws:List Nat):List Value:=ws.map fun(x:Nat)=>Value.int .u64 (x:Int)
theorem yL(ws:List Nat):(dP ws).length=ws.length:=by simp[dP]
def h_(ws:List Nat):Prop:=∀x∈ws,x<18446744073709551616
def ia(ws:List Nat)(o u:Nat):Bool:=(ws.getD (o+u/64) 0).testBit (u % 64)
def uI(ws:List Nat)(o u:Nat):List Nat:=ws.set (o+u/64) (ws.getD (o+u/64) 0|||2^ (u % 64))
theorem RO(ws:List Nat)(o u:Nat):(uI ws o u).length=ws.length:=by simp[uI]
theorem Pt(l:List Nat)(k m:Nat)(v d:Nat)(h:k<l.length):(l.set k v).getD m d=if k=m then v else l.getD m d:=by
 rw[Ae,Ae,Dj];by_cases e:k=m
 ·subst e;simp[h]
 ·simp[e]
theorem h_.getD{ws:List Nat}(h:h_ ws)(k:Nat):ws.getD k 0<18446744073709551616:=by
 rw[Ae]
 cases e:ws[k]? with
 |none=>simp
 |some x=>exact h x (Cg e)
theorem h_.put{ws:List Nat}(h:h_ ws)(o u:Nat):h_ (uI ws o u):=fun x hx=>by
 unfold uI at hx;rcases D1 hx with h1|h1
 ·exact h x h1
 ·subst h1;have h2:(2:Nat) ^ (u % 64)<2^64:=Nat.pow_lt_pow_right (by decide) (Nat.mod_lt _ (by decide));exact Nat.or_lt_two_pow (n:=64) (h.getD _) h2
theorem agC{ws:List Nat}{o u v:Nat}(h:o+u/64<ws.length):ia (uI ws o u) o v=(ia ws o v||decide (v=u)):=by
 unfold ia uI;rw[Pt _ _ _ _ _ h];by_cases e:o+u/64=o+v/64
 ·rw[if_pos e,Nat.testBit_or,Nat.testBit_two_pow,<-e];congr 1;rw[Av];simp only[B7];omega
 ·rw[if_neg e]
  have:decide (v=u)=false:=by
   rw[decide_eq_false_iff_not];intro h;subst h;exact e rfl
  rw[this,Br]
theorem AN(l:List Nat)(o:Nat)(cs:List Nat)(h:o+cs.length<=l.length)(k d:Nat):(splice l o cs).getD k d=if o<=k/\k<o+cs.length then cs.getD (k-o) d else l.getD k d:=by
 unfold splice;simp only[Ae];have hl:(l.take o).length=o:=by simp;omega
 by_cases h1:k<o
 ·rw[if_neg (by omega),Au (by omega),Al h1]
 ·rw[Be (by omega),hl];by_cases h2:k<o+cs.length
  ·rw[if_pos (by omega),Au (by omega)]
  ·rw[if_neg (by omega),Be (by omega),Du];congr 2;omega
theorem Yf(l:List Nat)(o:Nat)(cs:List Nat):splice (dP l) o (dP cs)=dP (splice l o cs):=by
 unfold splice dP;simp[List.map_take,List.map_drop]
theorem h_.splice{l cs:List Nat}(hl:h_ l)(hc:h_ cs)(o:Nat):h_ (splice l o cs):=fun x hx=>by
 unfold Go.splice at hx;rcases A2.1 hx with h|h
 ·exact hl x (B9 h)
 ·rcases A2.1 h with h|h
  ·exact hc x h
  ·exact hl x (Ep h)
theorem O9{l:List Nat}{o:Nat}{cs:List Nat}(h:o+cs.length<=l.length){u:Nat}(hu:u/64<cs.length):ia (splice l o cs) o u=ia cs 0 u:=by
 unfold ia;rw[AN l o cs h,if_pos (by omega)];congr 2;omega
theorem aag{l:List Nat}{o o' L:Nat}{cs:List Nat}(h:o+cs.length<=l.length)(hd:o'+L<=o\/o+cs.length<=o'){u:Nat}(hu:u/64<L):ia (splice l o cs) o' u=ia l o' u:=by
 unfold ia;rw[AN l o cs h,if_neg (by omega)]
def oe(l:List Nat)(o L:Nat):List Nat:=(l.drop o).take L
theorem R6{l:List Nat}{o L:Nat}(h:o+L<=l.length):(oe l o L).length=L:=by unfold oe;simp;omega
theorem R5{l:List Nat}{o L k d:Nat}(hk:k<L):(oe l o L).getD k d=l.getD (o+k) d:=by
 unfold oe;simp only[Ae];rw[Al hk,Du]
theorem TD{l:List Nat}{o L u:Nat}(hu:u/64<L):ia (oe l o L) 0 u=ia l o u:=by
 unfold ia;rw[Co,R5 hu]
theorem h_.oe{l:List Nat}(h:h_ l)(o L:Nat):h_ (oe l o L):=fun x hx=>h x (Ep (B9 hx))
theorem aib{a b:List Nat}(hl:a.length=b.length)(hg:∀k,a.getD k 0=b.getD k 0):a=b:=by
 refine List.ext_getElem hl fun k h1 h2=>?_
 have:=hg k;rw[Ae,Ae,Ab h1,Ab h2]at this;simpa using this
theorem amM{l cs:List Nat}{o u:Nat}(h:o+cs.length<=l.length)(hu:u/64<cs.length):uI (splice l o cs) o u=splice l o (uI cs 0 u):=by
 have dA:=Dd l o cs h;have hp:o+(uI cs 0 u).length<=l.length:=by rw[RO];exact h
 refine aib ?_ fun k=>?_
 ·rw[RO,dA,Dd l o _ hp]
 ·rw[AN l o _ hp,RO];unfold uI;rw[Pt _ _ _ _ _ (by omega),AN l o cs h,AN l o cs h];by_cases e1:o+u/64=k
  ·subst e1;rw[if_pos rfl,if_pos (by omega),if_pos (by omega),Eb,Co,Pt _ _ _ _ _ hu,if_pos rfl]
  ·rw[if_neg e1];by_cases e2:o<=k/\k<o+cs.length
   ·rw[if_pos e2,if_pos e2,Co,Pt _ _ _ _ _ hu,if_neg (by omega)]
   ·rw[if_neg e2,if_neg e2]
theorem aah(L u:Nat):ia (List.replicate L 0) 0 u=false:=by
 unfold ia;rw[Ae,Ec];split<;>simp
theorem h_.N_(L:Nat):h_ (List.replicate L 0):=fun x hx=>by rw[D6 hx];omega
theorem apB(v:Value)(n:Nat):(Builtin.zeroCells #[v] n).toList=List.replicate n v:=by
 unfold Builtin.zeroCells;refine List.ext_getElem (by simp) fun k h1 h2=>?_
 simp[Nat.mod_one]
theorem I.row{w:World}(g:Nat)(cs:Array Value):I (fun i=>i=g) w (w.setRow g cs):=⟨rfl,rfl,rfl,by simp[World.setRow],fun k _ hk=>setRow_other w g k cs hk⟩
theorem aq3{P:Program}{w:World}{ops:Array Oper}{rest:List Oper}{o:Oper}{a:Act}{Q:Exit->Act->World->Prop}(qg:o.guard=none)(d s:Operand)(dT sT:TypeId)
 (ho:o.op=.call {callee:=.builtin .copy,args:=#[d,s],argTypes:=#[dT,sT]})(elem:TypeId)(hu:P.underlying dT=some (.slice elem))(bm:(P.info? elem).map (·.size)=some 1)
 (g off L Lg NP g2 xq:Nat)(hd:a.eval d=.slice (some ⟨g,off,none⟩) L Lg)(hs:a.eval s=.slice (some ⟨g2,xq,none⟩) L NP)
 (ws:List Nat)(t:TypeId)(hg:ay w g (dP ws).toArray t)(cs:List Nat)(hn:cs.length=L)
 (DQ:∀k,k<L->w.cell? ⟨g2,xq+k,none⟩=some (.int .u64 (cs.getD k 0:Nat)))(qf:off+L<=ws.length)
 (h:∀w',ay w' g (dP (splice ws off cs)).toArray t->I (fun i=>i=g) w w'->wpList P ops Q rest (a.put o.dst (goInt L)) w'):wpList P ops Q (o::rest) a w:=by
 subst hn;refine wpList_copy_own qg d s dT sT ho elem hu bm g off cs.length Lg ⟨g2,xq,none⟩ cs.length NP hd hs _ t hg (dP cs) (by simp[yL]) (fun j v hv=>?_) (by simpa[yL]using qf) (fun v hv=>?_) ?_
 ·have hj:j<cs.length:=by have:=(Af.1 hv).1;simpa[yL]using this
  have:=DQ j hj;have e:(⟨g2,xq,none⟩:Addr).add j=⟨g2,xq+j,none⟩:=by unfold Addr.add;split<;>simp_all
  rw[e,this];unfold dP at hv;simp[Ae,Ab hj]at hv⊢;exact hv
 ·unfold dP at hv;obtain⟨x,_,rfl⟩:=Bh.1 hv;rfl
 ·rw[yL];refine h _ ?_ (I.row g _);have:=setRow_heap w g _ (List.take off (dP ws)++(dP cs++List.drop (off+cs.length) (dP ws))).toArray t _ hg;rw[<-Yf];unfold splice ay;rw[yL];exact this
theorem afE{P:Program}{w:World}{o:Oper}{a:Act}{K:Act->World->Prop}{Q:Exit->Act->World->Prop}(d s:Operand)(dT sT:TypeId)
 (ho:o.op=.call {callee:=.builtin .copy,args:=#[d,s],argTypes:=#[dT,sT]})(elem:TypeId)(hu:P.underlying dT=some (.slice elem))(bm:(P.info? elem).map (·.size)=some 1)
 (g off L Lg NP g2 xq:Nat)(hd:a.eval d=.slice (some ⟨g,off,none⟩) L Lg)(hs:a.eval s=.slice (some ⟨g2,xq,none⟩) L NP)
 (ws:List Nat)(t:TypeId)(hg:ay w g (dP ws).toArray t)(cs:List Nat)(hn:cs.length=L)
 (DQ:∀k,k<L->w.cell? ⟨g2,xq+k,none⟩=some (.int .u64 (cs.getD k 0:Nat)))(qf:off+L<=ws.length)
 (h:∀w',ay w' g (dP (splice ws off cs)).toArray t->I (fun i=>i=g) w w'->K (a.put o.dst (goInt L)) w'):o.wp P a w K Q:=by
 subst hn
 have zC:=run_copy_row P w dT sT o.type elem g off cs.length Lg ⟨g2,xq,none⟩ cs.length NP (dP ws).toArray t (dP cs) hu bm hg (by simp[yL]) (fun j v hv=>by
  have hj:j<cs.length:=by have:=(Af.1 hv).1;simpa[yL]using this
  have:=DQ j hj;have e:(⟨g2,xq,none⟩:Addr).add j=⟨g2,xq+j,none⟩:=by unfold Addr.add;split<;>simp_all
  rw[e,this];unfold dP at hv;simp[Ae,Ab hj]at hv⊢;exact hv) (by simpa[yL]using qf) (fun v hv=>by
  unfold dP at hv;obtain⟨x,_,rfl⟩:=Bh.1 hv;rfl)
 unfold Oper.wp;simp[execOp,ho,resolve,invoke,builtin,hd,hs,zC,Result.andThen];rw[yL];refine h _ ?_ (I.row g _);have:=setRow_heap w g _ (List.take off (dP ws)++(dP cs++List.drop (off+cs.length) (dP ws))).toArray t _ hg;rw[<-Yf];unfold splice ay;rw[yL];exact this
theorem apw{P:Program}{w:World}{ops:Array Oper}{rest:List Oper}{o:Oper}{a:Act}{Q:Exit->Act->World->Prop}(qg:o.guard=none)(d:Operand)(dT:TypeId)
 (ho:o.op=.call {callee:=.builtin .clear,args:=#[d],argTypes:=#[dT]})(elem:TypeId)(hu:P.underlying dT=some (.slice elem))(hz:(zeroValue elem).run P w=.ok (.int .u64 0) w)
 (g off n c:Nat)(hd:a.eval d=.slice (some ⟨g,off,none⟩) n c)(hn:n≠0)
 (ws:List Nat)(t:TypeId)(hg:ay w g (dP ws).toArray t)(qf:off+n<=ws.length)
 (h:∀w',ay w' g (dP (splice ws off (List.replicate n 0))).toArray t->I (fun i=>i=g) w w'->wpList P ops Q rest (a.put o.dst (.tuple #[])) w'):wpList P ops Q (o::rest) a w:=by
 refine wpList_plain qg fun K hK=>?_
 have h:=h _ (setRow_heap w g _ _ t _ hg) (I.row g _);have cS:=run_storeCells_at P g off t (List.replicate n (.int .u64 0)) 0 _ w hg (by simpa[dP]using qf) (by intro v hv;rw[D6 hv];rfl)
 have zC:(Builtin.clear_ #[dT] o.type #[.slice (some ⟨g,off,none⟩) n c]).run P w=.ok (.tuple #[]) (w.setRow g (dP (splice ws off (List.replicate n 0))).toArray):=by
  obtain⟨m,rfl⟩:∃m,n=m+1:=⟨n-1,by omega⟩
  have e:(Value.cells (.int .u64 0))=#[.int .u64 0]:=rfl;have e2:dP (List.replicate (m+1) 0)=List.replicate (m+1) (.int .u64 0):=by simp[dP]
  simp only[Builtin.clear_,go_sem];simp[run_underlying hu,hz,apB,cS];rw[<-Yf,e2];unfold splice;simp
 unfold Oper.wp;simp[execOp,ho,resolve,invoke,builtin,hd,zC,Result.andThen];exact hK _ _ h
theorem j9.lt{w:World}(h:j9 w):0<w.heap.size/\1<w.heap.size:=
 ⟨Dq _ _ (h.1 0 (by omega)),Dq _ _ (h.2 0 (by omega)).1⟩
structure Fu(w:World)(lo hi mb c:Nat)(vs:List Sv)(ms:List MS):Prop where
 qZ:jg w mb vs ms
 Hr:∀i,(h:i<vs.length)->(h':i<ms.length)->gw w lo hi vs[i] ms[i]
 le:hi<=w.heap.size
 vR:j9 w
theorem Fu.kept{w w':World}{lo hi mb c:Nat}{vs:List Sv}{ms:List MS}(h:Fu w lo hi mb c vs ms)(k:I aq w w'):Fu w' lo hi mb c vs ms:=
 ⟨h.qZ.kept k (fun h=>h),fun i a b=>(h.Hr i a b).kept k (fun _ _ _ h=>h) h.le,Bf h.le k.size,h.vR.nY k⟩
end Go.Proofs.YtmbpfhlnifdhgaaGreatDoor
