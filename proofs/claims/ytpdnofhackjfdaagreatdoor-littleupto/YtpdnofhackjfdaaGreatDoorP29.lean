/- Arguments that a -/
import Derived.Test.YtpdnofhackjfdaaGreatDoorP28
set_option linter.all false
set_option maxRecDepth 100000
namespace Go.Proofs.YtpdnofhackjfdaaGreatDoor
open Go.Proofs.Tryz
open Go.ChangeShapes Go.WideShapes Go.ChangeAt Go.RowKit
theorem am9{H:Type}{oo:TypeId×Value->H}{P:Program}{f:Func}{s:ChangeSpec}{apart fresh handsOn again:Bool}{W W':World}{args:Array Value}{v:Value}{ds gs:List (DataW H)}{before pa pv:List MemPlace}
 (hW:DataW.Whole oo P f.params.toList s.vars apart W args.toList ds gs before)
 (mw:∀(b:Nat) (sp:Nat->Bool) (hd:Bool),DataW.TrodAll oo P W' b sp hd f.resultTypes.toList (v.resultList f.resultTypes.size) (s.fn H (ds++gs)).results [])
 (UG:∀sp:Nat->Bool,(∀p∈before,sp p.block=true)->DataW.TrodAll oo P W' 0 sp true f.params.toList args.toList (s.fn H (ds++gs)).args pa)
 (ab4:∀sp:Nat->Bool,(∀p∈before,sp p.block=true)->DataW.TrodVars oo P W' sp s.vars (s.fn H (ds++gs)).vars pv)
 (nO:before=pa++pv)(hk:aa af W W')
 (dD:∀(j:Nat) (t:TypeId) (r:Value),f.resultTypes[j]? =some t->(v.resultList f.resultTypes.size)[j]? =some r->Value.okWide P W' .any 0 t r):
 s.post oo P f apart fresh handsOn again W args v W':=by
 have aw:=hW.lt;have hold:∀p∈before,(fun b=>decide (b<W.heap.size)) p.block=true:=fun p hp=>by simpa using aw p hp
 refine⟨ds,gs,before,[],pa,pv,hW,mw _ _ _,UG _ hold,ab4 _ hold,World.keptBut_mono (fun p hp=>⟨hp,?_⟩) ((hk.below (Ab _) (fun _ _ h=>h)).frame _),fun _=>?_⟩
 ·rw[nO,Al]at hp;exact Or.inr hp
 ·obtain⟨_,_,_,_,_,hz,hn⟩:=hW;refine⟨dD,_,_,([]++pa)++pv,⟨[]++pa,pv,trodAll_append (UG _ (fun _ _=>rfl)) (mw _ _ _),ab4 _ (fun _ _=>rfl),rfl,?_,?_⟩,?_⟩
  ·intro b off hp;have xe:MemPlace.cell b off∈before:=by rw[nO];simpa using hp
   rw[hk.frozen (p:=⟨b,off,none⟩) (aw _ xe) (fun h=>h)];exact hz b off xe
  ·intro ha;have:=hn ha;rw[nO]at this;simpa using this
  ·intro p hp _;rw[nO];simpa using hp
theorem agp{H:Type}(l:List Int):(lits (H:=H) .i64 l).length<=Rows.uptoBulkAll (lits (H:=H) .i64 l):=by
 induction l with
 |nil=>exact Ab _
 |cons x l ih=>
  show(lits (H:=H) .i64 l).length+1<=1+Rows.uptoBulkAll (lits (H:=H) .i64 l)
  omega
theorem Tryz.aad:prog.cellsOf 3=1:=by kernel_rfl
theorem adg{H:Type}{oo:TypeId×Value->H}{W:World}{v:Value}{d:DataW H}{p:List MemPlace}{base:Nat}(hv:Value.okWide prog W .any base 22 v)(h:DataW.Trod oo prog W 0 (fun _=>true) true 22 v d p):
 ∃zs,Iw W v zs/\zs.length<=Rows.uptoBulk d/\∀W',aa af W W'->∀sp:Nat->Bool,(∀q∈p,sp q.block=true)->DataW.Trod oo prog W' 0 sp true 22 v d p:=by
 obtain⟨a0,Ha,aac,rfl⟩:=okWide_slice underlying22 hv;obtain⟨fuel,hf⟩:=h;rcases open_ints underlying22 underlying3 Tryz.aad hf with⟨h_,hx⟩|⟨a,len,cap,zs,h_,hb,hl,hm,hz,hx,rD,QI⟩
 ·simp[Value.cells]at h_
  obtain⟨rfl,rfl,rfl⟩:=h_;simp only[Cm]at hx;obtain⟨rfl,rfl⟩:=hx;exact⟨[],Or.inl ⟨rfl,rfl⟩,Ao _,fun W' _ sp _=>shut_slice_nil underlying22⟩
 ·simp[Value.cells]at h_
  obtain⟨rfl,rfl,rfl⟩:=h_;simp only[Cm]at hx;obtain⟨rfl,rfl⟩:=hx;simp only[if_true]at hz;have cT:(zs.take Ha).length=Ha:=by rw[Dq];omega
  refine⟨zs.take Ha,Or.inr ⟨a,aac,by rw[cT],by rw[cT];exact hl,fun i hi=>?_,fun z VP=>?_⟩,?_,fun W' k sp QB=>?_⟩
  ·rw[cT]at hi;rw[rD i (by omega)];simp[Af,hi]
  ·have:=QI z (Cf VP);simpa[Lit.wf,IntKind.min,IntKind.max,IntKind.signed,IntKind.bits]using this
  ·have h1:=agp (H:=H) (zs.take Ha);have h2:(lits (H:=H) .i64 (zs.take Ha)).length=(zs.take Ha).length:=by unfold lits;rw[Db]
   simp only[Rows.uptoBulk];omega
  ·refine⟨2,?_⟩
   have aP:zs.length=(if sp a.block then aac else Ha):=by
    by_cases h0:zs.length=0
    ·rw[h0];split<;>omega
    ·have:sp a.block=true:=QB (.cell a.block (a.off+0)) (by unfold MemPlace.row;exact Bg.2 ⟨0,Eu.2 (by omega),rfl⟩);rw[this];simpa using hz
   exact shut_ints 0 underlying22 underlying3 Tryz.aad (Ao _) hl hm aP (fun i hi=>(k.cell (p:=a.add i) (Bk _ _ (rD i hi)) (fun h=>h)).trans (rD i hi)) QI
def RS.on(st:RS)(n:Nat):RS:={st with next:=st.next+n}
theorem RS.Nm(st:RS)(a b:Nat):(st.on a).on b=st.on (a+b):=by unfold RS.on;simp[Di]
theorem RS.Nn(st:RS):st.on 0=st:=rfl
theorem JR{g:RG}{st:RS}{l:List Int}(h:g.rs.drop st.next=l):ay g st=l.headD (-1):=by
 unfold ay;rw[<-h];simp[Af,List.headD_eq_head?_getD,List.head?_drop]
theorem IL{g:RG}{st:RS}{u v:List Int}(h:g.rs.drop st.next=u++v):g.rs.drop (st.on u.length).next=v:=by
 show g.rs.drop (st.next+u.length)=v
 rw[<-Fg,h];simp
theorem aau{g:RG}{st:RS}{u v:List Int}(h:g.rs.drop st.next=u++v):u.length<=g.rs.length:=by
 have:=congrArg List.length h;simp at this;omega
def Iu(r:Int):Prop:=aG JE r=false/\aG JC r=false/\aG ic r=false/\aG JA r=false
def Stop(r:Int):Prop:=r= -1\/r=41
def DZ(r:Int):Prop:=r= -1\/r=41\/r=124
theorem Stop.cA{r:Int}(h:Stop r):DZ r:=h.elim Or.inl (fun h=>Or.inr (Or.inl h))
theorem DZ.alE{r:Int}(h:DZ r):Iu r:=by
 rcases h with rfl|rfl|rfl<;>exact⟨rfl,rfl,rfl,rfl⟩
theorem DZ.stop{r:Int}(h:DZ r):r= -1\/aG oG r=true:=by
 rcases h with rfl|rfl|rfl
 ·exact Or.inl rfl
 ·exact Or.inr rfl
 ·exact Or.inr rfl
theorem Stop.alC{r:Int}(h:Stop r):aG tf r=false:=by
 rcases h with rfl|rfl<;>rfl
structure qj(d:Nat)(u:List Int)(ps:List PT)(cs:List CT):Prop where
 len:ps.length=cs.length
 bJ:ps.length<=u.length
 run:∀(g:RG) (st:RS) (rest:List Int) (k m:Nat) (aA:List PT) (sy:List CT),d<=k->g.rs.drop st.next=u++rest->Iu (rest.headD (-1))->
  gS g (aQ g k) (m+ps.length) st aA=gS g (aQ g k) m (st.on u.length) (aA++ps)/\km g (aQ g k) (dh g k) false (m+cs.length) st sy=km g (aQ g k) (dh g k) false m (st.on u.length) (sy++cs)
theorem qj.nil(d:Nat):qj d [] [] []:=⟨rfl,Ab _,fun g st rest k m aA sy _ _ _=>⟨by simp[RS.Nn],by simp[RS.Nn]⟩⟩
theorem qj.append{d:Nat}{u v:List Int}{ps qs:List PT}{cs ds:List CT}(h1:qj d u ps cs)(h2:qj d v qs ds)(hv:∀r,v.head?=some r->Iu r):qj d (u++v) (ps++qs) (cs++ds):=by
 refine⟨by simp[h1.len,h2.len],by have:=h1.bJ;have:=h2.bJ;simp;omega,fun g st rest k m aA sy hk hd hr=>?_⟩;rw[Bd]at hd
 have A_:Iu ((v++rest).headD (-1)):=by
  cases v with
  |nil=>exact hr
  |cons a v=>exact hv a rfl
 have a1:=h1.run g st (v++rest) k (m+qs.length) aA sy hk hd A_;have a2:=h1.run g st (v++rest) k (m+ds.length) aA sy hk hd A_;have b:=h2.run g (st.on u.length) rest k m (aA++ps) (sy++cs) hk (IL hd) hr;rw[Aj,Aj,Aj,show m+(ps.length+qs.length)=m+qs.length+ps.length by omega,show m+(cs.length+ds.length)=m+ds.length+cs.length by omega];exact⟨by rw[a1.1,b.1,RS.Nm,Bd],by rw[a2.2,b.2,RS.Nm,Bd]⟩
structure H0(d:Nat)(u:List Int)(p:PT)(c:CT):Prop where
 aB:∃r v,u=r::v/\r≠ -1/\aG oG r=false
 run:∀(g:RG) (st:RS) (rest:List Int) (k:Nat),d<=k->g.rs.drop st.next=u++rest->dq g (aQ g k) st=(st.on u.length,p)/\jG g (dh g k) false st=c
def OF(v:List Int)(fp:PT->PT)(fc:CT->CT):Prop:=∀(g:RG) (st:RS) (rest:List Int),g.rs.drop st.next=v++rest->Iu (rest.headD (-1))->∀p c,gJ g p st=(st.on v.length,fp p)/\mh g c st=fc c
theorem OF.none:OF [] id id:=fun g st rest hd hr p c=>by
 have hs:=JR (l:=rest) hd;unfold gJ mh;rw[hs];generalize rest.headD (-1)=r at hr;obtain⟨h1,h2,h3,h4⟩:=hr;simp[h1,h2,h3,h4,RS.Nn]
theorem H0.akf{d:Nat}{u v:List Int}{p:PT}{c:CT}{fp:PT->PT}{fc:CT->CT}(h:H0 d u p c)(hv:OF v fp fc):qj d (u++v) [fp p] [fc c]:=by
 obtain⟨r,t,hu,A_,sW⟩:=h.aB;refine⟨rfl,by rw[hu];simp,fun g st rest k m aA sy hk hd hr=>?_⟩;rw[Bd]at hd;have hs:ay g st=r:=by rw[JR hd,hu];rfl
 obtain⟨a1,a2⟩:=h.run g st (v++rest) k hk hd;obtain⟨b1,b2⟩:=hv g (st.on u.length) rest (IL hd) hr p c;have lR:¬(ay g st= -1\/aG oG (ay g st)=true):=by rw[hs,sW];simp[A_]
 constructor
 ·show gS g (aQ g k) (m+1) st aA=_
  unfold gS;rw[if_neg lR,a1];simp only;rw[b1,RS.Nm,Aj]
  cases m<;>rfl
 ·show km g (aQ g k) (dh g k) false (m+1) st sy=_
  unfold km;rw[if_neg lR,a1,a2];simp only;rw[b1,b2,RS.Nm,Aj]
  cases m<;>rfl
def vZ(ps:List PT):PT:=.node 2 ps 0 0
def JU(cs:List CT):CT:=.node 3 [] false false 0 0 0 0 false cs
def Tn(ps:List PT):PT:=.node 3 ps 0 0
def OR(cs:List CT):CT:=.node 4 [] false false 0 0 0 0 false cs
theorem amA{g:RG}{aE:RS->RS×PT}{m:Nat}{st:RS}{aA:List PT}(h:ay g st= -1\/aG oG (ay g st)=true):gS g aE m st aA=(st,aA):=by
 cases m with
 |zero=>rfl
 |succ m=>unfold gS;rw[if_pos h]
theorem qj.apn{d:Nat}{u:List Int}{ps:List PT}{cs:List CT}(h:qj d u ps cs){g:RG}{st:RS}{rest:List Int}{k:Nat}(hk:d<=k)(hd:g.rs.drop st.next=u++rest)(hr:DZ (rest.headD (-1))):
 dK g (aQ g k) st=(st.on u.length,vZ ps)/\lJ g (aQ g k) (dh g k) false st=JU cs:=by
 have hl:=aau hd;have hf:=h.bJ;obtain⟨m,hm⟩:∃m,g.rs.length+1=m+ps.length:=⟨g.rs.length+1-ps.length,by omega⟩
 have a:=h.run g st rest k m [] [] hk hd hr.alE;have hs:ay g (st.on u.length)= -1\/aG oG (ay g (st.on u.length))=true:=by rw[JR (IL hd)];exact hr.stop
 unfold dK lJ;rw[hm];refine⟨by rw[a.1,amA hs];rfl,?_⟩;rw[h.len,a.2,TA _ _ _ _ _ _ _ hs];rfl
structure NQ(d:Nat)(u:List Int)(ps:List PT)(cs:List CT):Prop where
 len:ps.length=cs.length
 bJ:ps.length<=u.length
 aB:∀r,u.head?=some r->r=124
 run:∀(g:RG) (st:RS) (rest:List Int) (k m:Nat) (aA:List PT) (sy:List CT),d<=k->g.rs.drop st.next=u++rest->Stop (rest.headD (-1))->
  gi g (aQ g k) (m+ps.length) st aA=gi g (aQ g k) m (st.on u.length) (aA++ps)/\jU g (aQ g k) (dh g k) false (m+cs.length) st sy=jU g (aQ g k) (dh g k) false m (st.on u.length) (sy++cs)
theorem NQ.nil(d:Nat):NQ d [] [] []:=⟨rfl,Ab _,(fun r h=>by cases h),fun g st rest k m aA sy _ _ _=>⟨by simp[RS.Nn],by simp[RS.Nn]⟩⟩
def Sf(d:Nat)(u:List Int)(p:PT)(c:CT):Prop:=∀(g:RG) (st:RS) (rest:List Int) (k:Nat),d<=k->g.rs.drop st.next=u++rest->Stop (rest.headD (-1))->aQ g (k+1) st=(st.on u.length,p)/\dh g (k+1) false st=c
theorem qj.aE{d:Nat}{u v:List Int}{ps qs:List PT}{cs ds:List CT}(h1:qj d u ps cs)(h2:NQ d v qs ds):Sf d (u++v) (Tn (vZ ps::qs)) (OR (JU cs::ds)):=fun g st rest k hk hd hr=>by
 rw[Bd]at hd
 have bC:DZ ((v++rest).headD (-1)):=by
  cases v with
  |nil=>exact hr.cA
  |cons a v=>have:=h2.aB a rfl;subst this;exact Or.inr (Or.inr rfl)
 obtain⟨a1,a2⟩:=h1.apn hk hd bC;have AN:=IL hd;have hl:=aau AN;have hf:=h2.bJ;obtain⟨m,hm⟩:∃m,g.rs.length+1=m+qs.length:=⟨g.rs.length+1-qs.length,by omega⟩
 have b:=h2.run g (st.on u.length) rest k m [vZ ps] [JU cs] hk AN hr;have ff:aG tf (ay g ((st.on u.length).on v.length))=false:=by rw[JR (IL AN)];exact hr.alC
 constructor
 ·show((gi g (aQ g k) (g.rs.length+1) (dK g (aQ g k) st).1 [(dK g (aQ g k) st).2]).1,PT.node 3 (gi g (aQ g k) (g.rs.length+1) (dK g (aQ g k) st).1 [(dK g (aQ g k) st).2]).2 0 0)=_
  rw[a1,hm];simp only;rw[b.1]
  have e:gi g (aQ g k) m ((st.on u.length).on v.length) ([vZ ps]++qs)=((st.on u.length).on v.length,[vZ ps]++qs):=by
   cases m with
   |zero=>rfl
   |succ m=>unfold gi;rw[if_neg (by rw[ff];simp)]
  rw[e,RS.Nm,Aj];rfl
 ·show CT.node 4 [] false false 0 0 0 0 false (jU g (aQ g k) (dh g k) false (g.rs.length+1) (dK g (aQ g k) st).1 [lJ g (aQ g k) (dh g k) false st])=_
  rw[a1,a2,hm,h2.len];simp only;rw[b.2,Z8 _ _ _ _ _ _ _ ff];rfl
variable {x:TX} {s:ByteArray} {sp:bF} {fo nt:Bool}
def jM(s:ByteArray):Prop:=∀b∈s.data.toList,b.toNat<128
theorem jM.get{s:ByteArray}(h:jM s){p:Nat}(hp:p<s.size):(s.get! p).toNat<128:=by
 have e:s.get! p=s.data[p]'hp:=by
  show s.data[p]! =_
  exact getElem!_pos s.data p hp
 rw[e];exact h _ (by rw[<-Es];exact A5 _)
theorem jM.decode{s:ByteArray}(h:jM s){p:Nat}(hp:p<s.size):Utf8.decode s p=((s.get! p).toNat,1):=(zP s p hp).2.2.2.2.1 (h.get hp)
theorem jM.IF{s:ByteArray}(h:jM s):∀i,i<=(aF s).length->bd s i=i
 |0,_=>sB s
 |i+1,hi=>by
  have e:=h.IF i (by omega);rw[sA (by omega),h.decode (u2 (by omega)),e]
theorem jM.len{s:ByteArray}(h:jM s):(aF s).length=s.size:=by
 have h1:=h.IF _ (Ab _);rw[mP (Ab _)]at h1;exact h1.symm
theorem jM.bd{s:ByteArray}(h:jM s){i:Nat}(hi:i<=s.size):bd s i=i:=h.IF i (by rw[h.len];exact hi)
theorem jM.bl{s:ByteArray}(h:jM s){i:Nat}(hi:i<s.size):(fP s).bl i=((s.get! i).toNat:Int):=by
 rw[Nz (by rw[h.len];exact hi),h.bd (by omega),h.decode hi]
theorem H0.plain{d:Nat}{c:Int}(h1:c≠ -1)(h2:aG oG c=false)(h3:aG G_ c=false)(h4:aG JB c=false)(h5:aG f_ c=false)(h6:aG M7 c=false)(h7:aG M6 c=false):H0 d [c] gG (kj [(c,c)] false false):=
 ⟨⟨c,[],rfl,h1,h2⟩,fun g st rest k hk hd=>by
   have hs:ay g st=c:=by rw[JR hd];rfl
   unfold dq jG pq;rw[hs,h3,h4,h5,h6,h7];simp[h1];rfl⟩
def oZ(p:ByteArray):List Int:=p.data.toList.map fun b=>(b.toNat:Int)
theorem aej{p:ByteArray}(h:jM p):∀m i,p.size-i<=m->(fN p m i).map (·.2)=(oZ p).drop i/\∀q∈fN p m i,q.2<128
 |0,i,hm=>by
  refine⟨?_,fun q hq=>by cases hq⟩;rw[C2 (by unfold oZ;simp;omega)];rfl
 |m+1,i,hm=>by
  by_cases hi:i<p.size
  ·have hd:=h.decode hi;have hg:=h.get hi;obtain⟨a,b⟩:=aej h m (i+1) (by omega)
   have e:fN p (m+1) i=(i,((p.get! i).toNat:Int))::fN p m (i+1):=by
    show(if i<p.size then _ else _)=_
    rw[if_pos hi,hd]
   have hl:i<(oZ p).length:=by unfold oZ;simpa using hi
   have e3:p.get! i=p.data[i]:=by
    show p.data[i]! =_
    exact getElem!_pos p.data i hi
   have e4:(oZ p)[i]? =some ((p.get! i).toNat:Int):=by
    unfold oZ;rw[Bv,Ae (show i<p.data.toList.length by simpa using hi),e3,Es];rfl
   have e2:(oZ p)[i]=((p.get! i).toNat:Int):=(Ag.1 e4).2;rw[e];refine⟨?_,fun q hq=>?_⟩
   ·rw[Bw,a,Bj hl,e2]
   ·rcases Cg.1 hq with rfl|hq
    ·show((p.get! i).toNat:Int)<128;omega
    ·exact b q hq
  ·have e:fN p (m+1) i=[]:=by
    show(if i<p.size then _ else _)=_
    rw[if_neg hi]
   rw[e,C2 (by unfold oZ;simp;omega)];exact⟨rfl,fun q hq=>by cases hq⟩
theorem aaP{p:ByteArray}:∀l:List (Nat×Int),(∀q∈l,q.2<128)->l.foldl (fun F q=>if B_ p q then F.eo 2 q.1 else F) zW=zW
 | [],_=>rfl
 |q::l,h=>by
  have hq:=h q (Gf)
  have e:B_ p q=false:=by
   unfold B_;have:(q.2==65533)=false:=by simp;omega
   rw[this];rfl
  rw[Dn,e];exact aaP l (fun r hr=>h r (Et _ hr))
theorem amL{p:ByteArray}{d:Nat}{pw:PT}{cw:CT}(hA:jM p)(aP:p.size<=300)(h:Sf d (oZ p) pw cw)(hd:d<=p.size)(hs:pw.size<=1000):qP p=0/\lB p=0/\nb p=cw:=by
 obtain⟨s1,s2⟩:=aej hA (p.size+1) 0 (by omega);have cT:(oZ p).length=p.size:=by unfold oZ;simp
 have kE:(mF p).rs=oZ p:=s1;have hf:(di p).bm=zW:=aaP _ s2;have hl:(mF p).rs.length=p.size:=by rw[kE,cT]
 have rE:(mF p).rs.drop (di p).next=oZ p++[]:=by rw[kE];show(oZ p).drop 0=_;simp
 obtain⟨a1,a2⟩:=h (mF p) (di p) [] ((mF p).rs.length) (by omega) rE (Or.inl rfl);have ff:ay (mF p) ((di p).on (oZ p).length)= -1:=by rw[JR (IL rE)];rfl
 have hw:dY (mF p) (di p)=((di p).on (oZ p).length,pw):=by
  unfold dY;rw[a1,if_pos ff]
 refine⟨?_,?_,?_⟩
 ·unfold qP;rw[if_neg (by omega)];unfold lK;rw[hw];simp only;rw[if_neg (by omega)];show(pick (di p).bm).1=0
  rw[hf];rfl
 ·unfold lB;rw[hw];rfl
 ·exact a2
def Hu(l:List UInt8):List Int:=l.map fun b=>(b.toNat:Int)
def th(b:UInt8):CT:=kj [((b.toNat:Int),(b.toNat:Int))] false false
theorem aeE:∀l:List UInt8,PT.i_ (l.map fun _=>gG)<=l.length/\0<=PT.i_ (l.map fun _=>gG)
 | []=>⟨Ce _,Ce _⟩
 |b::l=>by
  have h:=aeE l
  have e:PT.i_ ((b::l).map fun _=>gG)=PT.size gG+PT.i_ (l.map fun _=>gG):=by
   rw[Bw,PT.i_]
  have e1:PT.size gG=1:=by decide
  rw[e,e1,Av];omega
theorem an4(l:List UInt8):PT.size (vZ (l.map fun _=>gG))<=l.length/\0<=PT.size (vZ (l.map fun _=>gG)):=by
 have h:=aeE l
 have e:PT.size (vZ (l.map fun _=>gG))=min (PT.i_ (l.map fun _=>gG)) 1001:=by
  unfold vZ;rw[PT.size];simp
 rw[e];omega
def CR(wd t:List UInt8):Bool:=wd.isPrefixOf t
theorem akF{s:ByteArray}(h:jM s)(b:UInt8)(k:aH)(i:Nat)(gs:List Int):qW (fP s) [((b.toNat:Int),(b.toNat:Int))] false false k i gs=if(s.data.toList.drop i).head?=some b then k (i+1) gs else none:=by
 have hl:(fP s).l.length=s.size:=h.len;unfold qW;by_cases hi:i<s.size
 ·have hi':i<s.data.toList.length:=by simpa using hi
  have e:s.get! i=s.data.toList[i]:=by
   show s.data[i]! =_
   rw[getElem!_pos s.data i hi,Es]
  rw[hl,Cz hi,D9,h.bl hi,e,List.head?_drop,Ae hi'];generalize s.data.toList[i]=c;by_cases hc:c=b
  ·subst hc;simp[eV,bV]
  ·have az:(c.toNat:Int)≠b.toNat:=fun hx=>hc (UInt8.toNat_inj.1 (by omega))
   have h1:eV [((b.toNat:Int),(b.toNat:Int))] false false (c.toNat:Int)=false:=by
    simp[eV,bV]
    omega
   rw[h1];simp[hc]
 ·rw[hl,Bh hi,C2 (by simp;omega)];simp
theorem aff{s:ByteArray}(h:jM s):∀(wd:List UInt8) (i:Nat) (gs:List Int),(qT (fP s) (wd.map th) (mi,mi)).2 i gs=if CR wd (s.data.toList.drop i)then some (i+wd.length,gs)else none
 | [],i,gs=>by simp[qT,CR,mi]
 |b::wd,i,gs=>by
  have ih:=aff h wd (i+1) gs
  have e:(qT (fP s) ((b::wd).map th) (mi,mi)).2=qW (fP s) [((b.toNat:Int),(b.toNat:Int))] false false (qT (fP s) (wd.map th) (mi,mi)).2:=by
   simp[qT,pZ,th,kj]
  rw[e,akF h];unfold CR at ih⊢
  cases hd:s.data.toList.drop i with
  |nil=>simp
  |cons c t=>
   have hdt:s.data.toList.drop (i+1)=t:=by
    rw[<-Fg,hd];rfl
   rw[hdt]at ih;by_cases hc:c=b
   ·subst hc;simp only[List.head?_cons,if_true,ih,List.isPrefixOf_cons_cons,beq_self_eq_true,D9,Av];congr 3;omega
   ·have hb:(b==c)=false:=(by simpa using fun e=>hc e.symm);simp[hc];intro e;exact absurd e.symm hc
def vB(ws:List (List UInt8))(t:List UInt8):Nat:=match ws with
 | []=>0
 |w::ws=>if CR w t then w.length else vB ws t
theorem abC(t:List UInt8):∀ws,vB ws t<=t.length
 | []=>Ao _
 |w::ws=>by
  unfold vB;split
  ·rename_i h
   exact(List.isPrefixOf_iff_prefix.1 h).length_le
  ·exact abC t ws
def vm(n:Nat)(h:Nat->Nat):Nat->Nat->List (Nat×Nat)
 |0,_=>[]
 |f+1,i=>if n<=i then []else if h i=0 then vm n h f (i+1)else(i,i+h i)::vm n h f (i+h i)
def vh(n:Nat)(h:Nat->Nat)(i:Nat):List (Nat×Nat):=vm n h (n-i) i
theorem Uc(n:Nat)(h:Nat->Nat):∀f g i,n-i<=f->f<=g->vm n h g i=vm n h f i
 |0,0,i,_,_=>rfl
 |0,g+1,i,hf,_=>by
  show(if n<=i then []else _)=_
  rw[if_pos (by omega)];rfl
 |f+1,0,i,_,hg=>by omega
 |f+1,g+1,i,hf,hg=>by
  show(if n<=i then []else if h i=0 then vm n h g (i+1)else(i,i+h i)::vm n h g (i+h i))=(if n<=i then []else if h i=0 then vm n h f (i+1)else(i,i+h i)::vm n h f (i+h i))
  by_cases hi:n<=i
  ·rw[if_pos hi,if_pos hi]
  ·rw[if_neg hi,if_neg hi];by_cases hz:h i=0
   ·rw[if_pos hz,if_pos hz,Uc n h f g _ (by omega) (by omega)]
   ·rw[if_neg hz,if_neg hz,Uc n h f g _ (by omega) (by omega)]
theorem aa6{n:Nat}{h:Nat->Nat}{i:Nat}(hi:n<=i):vh n h i=[]:=by
 unfold vh;rw[show n-i=0 by omega];rfl
theorem aa7{n:Nat}{h:Nat->Nat}{i:Nat}(hi:i<n)(hz:h i=0):vh n h i=vh n h (i+1):=by
 unfold vh;obtain⟨f,hf⟩:∃f,n-i=f+1:=⟨n-i-1,by omega⟩
 rw[hf];show(if n<=i then []else if h i=0 then vm n h f (i+1)else _)=_
 rw[if_neg (by omega),if_pos hz,show n-(i+1)=f by omega]
theorem aa9{n:Nat}{h:Nat->Nat}{i:Nat}(hi:i<n)(hz:h i≠0):vh n h i=(i,i+h i)::vh n h (i+h i):=by
 unfold vh;obtain⟨f,hf⟩:∃f,n-i=f+1:=⟨n-i-1,by omega⟩
 rw[hf];show(if n<=i then []else if h i=0 then _ else(i,i+h i)::vm n h f (i+h i))=_
 rw[if_neg (by omega),if_neg hz,Uc n h (n-(i+h i)) f _ (by omega) (by omega)]
theorem ahH{T:Nat->ik}{n:Nat}{h:Nat->Nat}(hT:∀i,i<=n->T i=if h i=0 then none else some (i+h i,[]))(hn:∀i,i<=n->i+h i<=n)(hg:mJ T n):
 ∀(d i:Nat) (told:Option Nat),n-i=d->i<=n->sH T n i told=(vh n h i).map fun p=>(⟨p.1,p.2,[]⟩:Ev):=by
 intro d;induction d using Nat.strongRecOn with
 |ind d ih=>
  intro i told hd hi;have hle:=hn i hi;have e:=hT i hi;by_cases hz:h i=0
  ·rw[if_pos hz]at e;by_cases h0:i=n
   ·rw[aaL hi e,ahF (by omega),aa6 (by omega)];rfl
   ·rw[aaL hi e,aa7 (by omega) hz,ih (n-(i+1)) (by omega) _ _ rfl (by omega)]
  ·rw[if_neg hz]at e;rw[ahG hg hi e,if_neg (by omega),ih (n-(i+h i)) (by omega) _ _ rfl (by omega),aa9 (i:=i) (by omega) hz];rfl
def ti:List UInt8:=[97,98,99,120]
theorem akN{d:Nat}{b:UInt8}(hb:b∈ti):qj d (Hu [b]) [gG] [th b]:=by
 have hm:b=97\/b=98\/b=99\/b=120:=by simpa[ti]using hb
 have key:H0 d (Hu [b]) gG (th b)->qj d (Hu [b]) [gG] [th b]:=fun h=>by
  have:=h.akf OF.none;rw[C8]at this;exact this
 rcases hm with rfl|rfl|rfl|rfl<;>exact key (H0.plain (by decide) rfl rfl rfl rfl rfl rfl)
theorem akM{wd:List UInt8}(h:∀b∈wd,b∈ti):∀r,(Hu wd).head?=some r->Iu r:=by
 intro r hr
 cases wd with
 |nil=>cases hr
 |cons b wd=>
  have hm:b=97\/b=98\/b=99\/b=120:=by simpa[ti]using h b (Gf)
  rcases hm with rfl|rfl|rfl|rfl<;>(cases hr;exact⟨rfl,rfl,rfl,rfl⟩)
theorem acG{d:Nat}:∀{wd:List UInt8},(∀b∈wd,b∈ti)->qj d (Hu wd) (wd.map fun _=>gG) (wd.map th)
 | [],_=>qj.nil d
 |b::wd,h=>(akN (d:=d) (h b (Gf))).append (acG (d:=d) (wd:=wd) (fun c hc=>h c (Et _ hc))) (akM (fun c hc=>h c (Et _ hc)))
def vT(a:List UInt8):CT:=OR [JU (a.map th)]
def Q6(a:List UInt8):PT:=Tn [vZ (a.map fun _=>gG)]
theorem apx{a:List UInt8}(ha:∀x∈a,x∈ti):Sf 0 (Hu a) (Q6 a) (vT a):=by
 have h:=(acG (d:=0) ha).aE (NQ.nil 0);rw[C8]at h;exact h
theorem alT(a:List UInt8)(ha:a.length<=100):PT.size (Q6 a)<=1000:=by
 have h1:=an4 a
 have e:PT.size (Q6 a)=min (PT.size (vZ (a.map fun _=>gG))+0) 1001:=by
  unfold Q6 Tn;rw[PT.size];simp[PT.i_]
 rw[e];omega
theorem ade{p:ByteArray}(hp:∀x∈p.data.toList,x∈ti)(hl:p.size<=100):qP p=0/\lB p=0/\nb p=vT p.data.toList:=by
 have hA:jM p:=fun x hx=>by
  have hm:x=97\/x=98\/x=99\/x=120:=by simpa[ti]using hp x hx
  rcases hm with rfl|rfl|rfl|rfl<;>decide
 have hI:oZ p=Hu p.data.toList:=rfl;have dD:=apx hp;rw[<-hI]at dD
 exact amL hA (by omega) dD (Ao _) (alT _ (by have e:p.size=p.data.toList.length:=by simp
                                              omega))
theorem aoY{s:ByteArray}(h:jM s){a:List UInt8}(ha:a≠ [])(i:Nat):CU (vT a) 0 (fP s) i=if vB [a] (s.data.toList.drop i)=0 then none else some (i+vB [a] (s.data.toList.drop i),[]):=by
 have la:a.length≠0:=fun e=>ha (Ax.1 e)
 have e:(pZ (fP s) (vT a) (mi,mi)).2=(qT (fP s) (a.map th) (mi,mi)).2:=by
  simp[vT,OR,JU,pZ,vY]
 unfold CU;rw[e,aff h];simp only[vB,Nat.mul_zero,List.replicate_zero];by_cases hA:CR a (s.data.toList.drop i)=true
 ·simp[hA,la]
 ·simp[hA]
theorem aa8{n T:Nat}{h:Nat->Nat}(hT:T<=n)(hz:∀i,i<T->h i=0):∀d i,T-i=d->i<=T->vh n h i=vh n h T
 |0,i,hd,hi=>by rw[show i=T by omega]
 |d+1,i,hd,hi=>by rw[aa7 (by omega) (hz i (by omega)),aa8 hT hz d (i+1) (by omega) (by omega)]
theorem ahS{p t:ByteArray}{a:List UInt8}(hp:p.data.toList=120::a)(jX:∀x∈p.data.toList,x∈ti)(hl:p.size<=100)(ht:∀x∈t.data.toList,x∈ [97,98,99]):LD p (t++p)=[⟨t.size,t.size+p.size,[]⟩]:=by
 obtain⟨h1,h2,h3⟩:=ade jX hl;have aw:∀x∈ti,x.toNat<128:=by decide
 have hs:jM (t++p):=fun x hx=>by
  rw[Cy,Do,Al]at hx;rcases hx with hx|hx
  ·have hm:x=97\/x=98\/x=99:=(by simpa using ht x hx);rcases hm with rfl|rfl|rfl<;>decide
  ·exact aw x (jX x hx)
 have yv:=(adX (by omega) h1).2.2.1;have hg:=aoX yv (t++p);unfold LD;rw[h3,h2]at hg⊢;rw[hs.len]at hg⊢;have oE:t.size=t.data.toList.length:=by simp
 have nO:p.size=p.data.toList.length:=by simp
 have hss:(t++p).size=t.size+p.size:=Du;have hdl:(t++p).data.toList=t.data.toList++p.data.toList:=by rw[Cy,Do]
 rw[ahH (h:=fun i=>vB [p.data.toList] ((t++p).data.toList.drop i)) (fun i hi=>aoY hs (by rw[hp];simp) i) (fun i hi=>by
  have h4:=abC ((t++p).data.toList.drop i) [p.data.toList];have h5:((t++p).data.toList.drop i).length=(t++p).size-i:=by simp
  omega) hg _ 0 none rfl (Ao _)]
 rw[aa8 (T:=t.size) (by omega) (fun i hi=>by
  have az:∃c l,(t++p).data.toList.drop i=c::l/\c≠120:=by
   rw[hdl,List.drop_append_of_le_length (by omega)];have hx:i<t.data.toList.length:=(by omega);rw[Bj hx];refine⟨_,_,rfl,fun e=>?_⟩;have:=ht _ (A5 hx);rw[e]at this;exact absurd this (by decide)
  obtain⟨c,l,e,hc⟩:=az;show vB [p.data.toList] ((t++p).data.toList.drop i)=0
  rw[e,hp];have hb:((120:UInt8)==c)=false:=by simpa using fun e=>hc e.symm
  simp[vB,CR,hb]
  intro e _;exact absurd e.symm hc) _ 0 rfl (Ao _)]
 have hh:vB [p.data.toList] ((t++p).data.toList.drop t.size)=p.size:=by
  have e:(t++p).data.toList.drop t.size=p.data.toList:=by
   rw[hdl,oE,List.drop_left]
  rw[e];have:CR p.data.toList p.data.toList=true:=by unfold CR;exact List.isPrefixOf_iff_prefix.2 (List.prefix_refl _)
  simp[vB,this]
 have hp0:p.size≠0:=by rw[nO,hp];simp
 rw[aa9 (by omega) (by rw[hh];exact hp0),hh,aa6 (by omega)];rfl
open Go.Shelf Go.Lib
def Tryz.Wb:Go.Shelf.Ren:=⟨fun|32=>103|33=>128|49=>127|50=>160|n=>n,fun|0=>0|3=>3|4=>4|5=>5|21=>21|25=>197|30=>42|33=>176|66=>193|68=>195|69=>196|n=>n,fun|2=>0|3=>1|n=>n⟩
theorem Tryz.Wa:Go.Proofs.Lays7.n33 prog Tryz.Wb:={
 mixed:=by kernel_rfl
 f32:=func103.trans (congrArg some (by kernel_rfl))
 f33:=func128.trans (congrArg some (by kernel_rfl))
 f49:=func127.trans (congrArg some (by kernel_rfl))
 f50:=func160.trans (congrArg some (by kernel_rfl))
 t0:=underlying0
 a0:=isAgg0
 z0:=sizeOf0
 v0:=zeroValue0
 i0:=by kernel_rfl
 t3:=underlying3
 a3:=isAgg3
 z3:=sizeOf3
 v3:=zeroValue3
 i3:=by kernel_rfl
 t4:=underlying4
 a4:=isAgg4
 z4:=sizeOf4
 v4:=zeroValue4
 i4:=by kernel_rfl
 t5:=underlying5
 a5:=isAgg5
 z5:=sizeOf5
 v5:=zeroValue5
 i5:=by kernel_rfl
 t21:=underlying21
 a21:=isAgg21
 z21:=sizeOf21
 v21:=zeroValue21
 i21:=by kernel_rfl
 t25:=underlying197
 a25:=isAgg197
 z25:=sizeOf197
 v25:=zeroValue197
 i25:=by kernel_rfl
 t30:=underlying42
 a30:=isAgg42
 z30:=sizeOf42
 v30:=zeroValue42
 i30:=by kernel_rfl
 t33:=underlying176
 a33:=isAgg176
 z33:=sizeOf176
 v33:=zeroValue176
 i33:=by kernel_rfl
 t66:=underlying193
 a66:=isAgg193
 z66:=sizeOf193
 t68:=underlying195
 a68:=isAgg195
 z68:=sizeOf195
 v68:=zeroValue195
 i68:=by kernel_rfl
 t69:=underlying196
 a69:=isAgg196
 z69:=sizeOf196
 v69:=zeroValue196
 i69:=by kernel_rfl
 g2:=by kernel_rfl
 g3:=by kernel_rfl}
def Tryz.Xn:Go.Shelf.Ren:=⟨fun|4=>106|n=>n,fun|4=>4|22=>42|5=>5|n=>n,fun|n=>n⟩
theorem Tryz.aeF:Go.Proofs.SlLaysK.n4 prog Tryz.Xn:={
 mixed:=by kernel_rfl
 f4:=func106.trans (congrArg some (by kernel_rfl))
 t4:=underlying4
 a4:=isAgg4
 z4:=sizeOf4
 v4:=zeroValue4
 t22:=underlying42
 a22:=isAgg42
 z22:=sizeOf42
 v22:=zeroValue42
 t5:=underlying5
 i5:=by kernel_rfl}
def jN(w:World)(v:Value)(s:ByteArray):Prop:=(v=.slice none 0 0/\s.size=0)\/∃b off cap,v=.slice (some ⟨b,off,none⟩) s.size cap/\s.size<=cap/\∀j,j<s.size->w.cell? ⟨b,off+j,none⟩=some (.int .u8 (s.get! j).toNat)
theorem jN.kept{w w':World}{v:Value}{s:ByteArray}{K:Nat->Prop}(h:jN w v s)(k:aa K w w')(hK:∀i,v.ownBlock=some i->¬K i):jN w' v s:=by
 rcases h with h|⟨b,off,cap,rfl,h1,h2⟩
 ·exact Or.inl h
 ·exact Or.inr ⟨b,off,cap,rfl,h1,fun j hj=>(k.cell (Bk _ _ (h2 j hj)) (hK b rfl)).trans (h2 j hj)⟩
theorem jN.new{w w':World}{v:Value}{s:ByteArray}(h:jN w v s)(k:aa af w w'):jN w' v s:=h.kept k (fun _ _ h=>h)
theorem aan{w:World}{v:Value}{s:ByteArray}(h:jN w v s)(hT:jf w):Calls prog 103 #[v] w fun e w'=>e=.returned (.tuple #[.int .i32 (Lib.decodeGo s).1,.int .i64 (Lib.decodeGo s).2])/\aa af w w':=by
 rcases h with⟨rfl,h0⟩|⟨b,off,cap,rfl,h1,h2⟩
 ·refine(Any7.utf8_DecodeRune_nil (ρ:=Tryz.Wb) {Tryz.Wa with} w).mono ?_;rintro e w' ⟨h1,rfl⟩;refine⟨?_,aa.refl _ _⟩;rw[h1];unfold Lib.decodeGo;rw[if_pos h0];rfl
 ·refine(Any7.utf8_DecodeRune (ρ:=Tryz.Wb) {Tryz.Wa with} s b off cap w hT h2).mono ?_;rintro e w' ⟨h1,h2⟩;exact⟨h1,CE h2⟩
theorem ahg{w:World}{v:Value}{s:ByteArray}(h:jN w v s)(h0:0<s.size)(hs:s.size<=9223372036854775807)(hT:jf w):Calls prog 128 #[v] w fun e w'=>e=.returned (.tuple #[.int .i32 (Lib.decodeLastL s.data.toList).1,.int .i64 (Lib.decodeLastL s.data.toList).2])/\aa af w w':=by
 rcases h with⟨rfl,h1⟩|⟨b,off,cap,rfl,h1,h2⟩
 ·omega
 ·refine(Any7.utf8_DecodeLastRune Tryz.Wa s b off cap w h1 h2 hs hT).mono ?_;rintro e w' ⟨h1,h2⟩;exact⟨h1,CE h2⟩
def jT(s:ByteArray):List Value:=s.data.toList.map fun c=>.int .u8 (c.toNat:Int)
theorem Ty(s:ByteArray):(jT s).length=s.size:=by unfold jT;simp
theorem Z4(s:ByteArray){j:Nat}(h:j<s.size):(jT s)[j]? =some (.int .u8 ((s.get! j).toNat:Int)):=by
 unfold jT;have:j<s.data.toList.length:=by simpa using h
 rw[Bv,Ae this];rw[Utf8W.get!_of_lt s j h];simp;rfl
theorem ZK(b off q:Nat):(Addr.mk b off none).add q=⟨b,off+q,none⟩:=by
 unfold Addr.add;by_cases h:q=0
 ·rw[if_pos h,h];rfl
 ·rw[if_neg h]
theorem agT{w:World}{v:Value}{s:ByteArray}(h:jN w v s)(hs:s.size<=140737488355328):Calls prog 106 #[v] w fun e w'=>∃v',e=.returned v'/\w'.ownsRow w.heap.size 5 1 v' s.size (jT s)/\aa af w w':=by
 rcases h with⟨rfl,h1⟩|⟨b,off,cap,rfl,h1,h2⟩
 ·refine(Any.bytes_Clone_nil (ρ:=Tryz.Xn) Tryz.aeF 0 0 w).mono ?_;rintro e w' ⟨h2,rfl⟩;refine⟨_,h2,⟨by rw[Ty,Nat.mul_one],Or.inl ⟨rfl,h1⟩⟩,aa.refl _ _⟩
 ·refine(Any.bytes_Clone_at (ρ:=Tryz.Xn) Tryz.aeF ⟨b,off,none⟩ s.size cap (s.data.toList.map fun c=>(c.toNat:Int)) w (by simp) hs (fun i hi=>?_)).mono ?_
  ·have:=h2 i hi
   have e:(s.data.toList.map fun c=>(c.toNat:Int)).getD i 0=((s.get! i).toNat:Int):=by
    have hl:i<s.data.toList.length:=(by simpa using hi);rw[List.getD,Bv,Ae hl,Utf8W.get!_of_lt s i hi];simp;rfl
   rw[e,ZK];exact this
  ·rintro e w' ⟨v',h3,h4,h5,h6⟩;refine⟨v',h3,?_,CE h6⟩;have e:(s.data.toList.map fun c=>(c.toNat:Int)).map (Value.int .u8)=jT s:=by unfold jT;simp
   rw[e]at h4;exact h4
theorem aaU{ms:List MS}(hg:eW ms)(ah bh:Int):∀(d e u:Nat) (st:Int) (f:FS),u<d->u<e->u<ms.length->gw ms ah bh d u st f=gw ms ah bh e u st f
 |0,e,u,st,f,h,_,_=>absurd h (by omega)
 |d+1,0,u,st,f,_,h,_=>absurd h (by omega)
 |d+1,e+1,u,st,f,hd,he,hu=>by
  unfold gw;simp only[Ay];rw[Ae hu];have hm:ms[u]? =some ms[u]:=Ae hu;generalize ms[u]=m at hm⊢;obtain⟨⟨k0,k4⟩,g1,g2,g3⟩:=hg u m hm;dsimp only
  have T:∀v:Int,0<=v->v<u->∀f,gw ms ah bh d v st f=gw ms ah bh e v st f:=fun v h0 hv f=>by
   obtain⟨k,rfl⟩:=Au h0;exact aaU hg ah bh d e k st f (by omega) (by omega) (by omega)
  congr 1
  by_cases e0:m.kind=0
  ·rw[if_pos e0,if_pos e0]
  ·rw[if_neg e0,if_neg e0];by_cases e1:m.kind=1
   ·rw[if_pos e1,if_pos e1]
   ·rw[if_neg e1,if_neg e1];have hn:=g2 (by omega);by_cases e2:m.kind=2
    ·rw[if_pos e2,if_pos e2,T _ hn.1 hn.2]
    ·rw[if_neg e2,if_neg e2];by_cases e3:m.kind=3
     ·rw[if_pos e3,if_pos e3,T _ hn.1 hn.2]
     ·rw[if_neg e3,if_neg e3];have ho:=g3 (by omega);rw[T _ hn.1 hn.2,T _ ho.1 ho.2]
def fH(ms:List MS)(ah bh:Int)(u:Int)(st:Int)(f:FS):FS×Bool:=gw ms ah bh ms.length u st f
def FS.mark(f:FS)(u:Nat):FS:=⟨f.seen.set u true,f.dI,f.next⟩
theorem aib{ms:List MS}{ah bh:Int}{u:Nat}{st:Int}{f:FS}(hu:u<ms.length)(hs:f.seen.getD u true=true):fH ms ah bh u st f=(f,false):=by
 unfold fH;obtain⟨d,hd⟩:∃d,ms.length=d+1:=⟨ms.length-1,by omega⟩
 rw[hd];unfold gw;rw[Ay,if_pos hs]
theorem aaQ{ms:List MS}(hg:eW ms){ah bh:Int}{u:Nat}{st:Int}{f:FS}{m:MS}(hm:ms[u]? =some m)(hs:f.seen.getD u true=false):
 (m.kind=0->fH ms ah bh u st f=(f.mark u,true))/\(m.kind=1->fH ms ah bh u st f=(l7 m bh st (f.mark u),false))/\
 (m.kind=2->fH ms ah bh u st f=if e_ m.eE ah bh then fH ms ah bh m.next st (f.mark u)else(f.mark u,false))/\
 (m.kind=3->fH ms ah bh u st f=fH ms ah bh m.next st (f.mark u))/\
 (m.kind=4->fH ms ah bh u st f=if(fH ms ah bh m.next st (f.mark u)).2 then fH ms ah bh m.next st (f.mark u)else fH ms ah bh m.a_ st (fH ms ah bh m.next st (f.mark u)).1):=by
 have hu:=(Ag.1 hm).1;obtain⟨⟨k0,k4⟩,g1,g2,g3⟩:=hg u m hm;obtain⟨d,hd⟩:∃d,ms.length=d+1:=⟨ms.length-1,by omega⟩
 have T:∀v:Int,0<=v->v<u->∀f,gw ms ah bh d v st f=fH ms ah bh v st f:=fun v h0 hv f=>by
  obtain⟨k,rfl⟩:=Au h0;exact aaU hg ah bh d ms.length k st f (by omega) (by omega) (by omega)
 have E:fH ms ah bh u st f=gw ms ah bh (d+1) u st f:=by unfold fH;rw[hd]
 rw[E];unfold gw;rw[Ay,hs,hm];simp only[Aq,if_false];refine⟨fun e=>by rw[if_pos e];rfl,fun e=>by rw[if_neg (by omega),if_pos e];rfl,fun e=>?_,fun e=>?_,fun e=>?_⟩
 ·have hn:=g2 (by omega);rw[if_neg (by omega),if_neg (by omega),if_pos e,T _ hn.1 hn.2];rfl
 ·have hn:=g2 (by omega);rw[if_neg (by omega),if_neg (by omega),if_neg (by omega),if_pos e,T _ hn.1 hn.2];rfl
 ·have hn:=g2 (by omega);have ho:=g3 e;rw[if_neg (by omega),if_neg (by omega),if_neg (by omega),if_neg (by omega),T _ hn.1 hn.2,T _ ho.1 ho.2];rfl
def oP(n:Nat)(f:FS):Prop:=f.next.length+f.dI.countP (fun b=>!b)<=n
theorem countP_set{l:List Bool}{k:Nat}(h:l[k]? =some false):(l.set k true).countP (fun b=>!b)+1=l.countP (fun b=>!b):=by
 induction l generalizing k with
 |nil=>simp at h
 |cons a t ih=>
  cases k with
  |zero=>
   simp only[Fb,Ba]at h;subst h;simp[Eb]
  |succ k=>
   simp only[Ea]at h;simp only[Ac,Eb];have:=ih h;omega
theorem aeY{n:Nat}{m:MS}{bh st:Int}{f:FS}(h:oP n f):oP n (l7 m bh st f):=by
 unfold l7;split
 ·rename_i hc
  simp only[Co,Cb]at hc;unfold oP at*
  have hb:f.dI[m.next.toNat]? =some false:=by
   have:=hc.2;rw[Af]at this
   cases hx:f.dI[m.next.toNat]? with
   |none=>rw[hx]at this;cases this
   |some v=>rw[hx]at this;simp at this;rw[this]
  have:=countP_set hb;simp only[Aj,Av,A8];omega
 ·exact h
theorem aoK{n:Nat}{m:MS}{bh st:Int}{f:FS}(h:DX n f):DX n (l7 m bh st f):=by
 unfold l7;split
 ·exact⟨h.1,by simp only[Bm];exact h.2⟩
 ·exact h
structure DW(ms:List MS)(ah jF bh qo:Int):Prop where
 take:∀(u:Nat) (m:MS),ms[u]? =some m->m.kind=1->eV m.sp m.fo m.nt bh=eV m.sp m.fo m.nt qo
 eE:∀(u:Nat) (m:MS),ms[u]? =some m->m.kind=2->e_ m.eE ah bh=e_ m.eE jF qo
def gV(φ:Int->Int)(l:List bG):List bG:=l.map fun t=>(t.1,φ t.2)
def FS.gV(φ:Int->Int)(f:FS):FS:=⟨f.seen,f.dI,Go.Proofs.YtpdnofhackjfdaaGreatDoor.gV φ f.next⟩
theorem aaS{ms:List MS}{ah jF bh qo:Int}(h:DW ms ah jF bh qo)(φ:Int->Int):∀(d:Nat) (u st:Int) (f:FS),gw ms jF qo d u (φ st) (f.gV φ)=((gw ms ah bh d u st f).1.gV φ,(gw ms ah bh d u st f).2)
 |0,u,st,f=>rfl
 |d+1,u,st,f=>by
  unfold gw;have IH:=fun u st f=>aaS h φ d u st f
  by_cases h1:f.seen.getD u.toNat true=true
  ·rw[if_pos (show(f.gV φ).seen.getD u.toNat true=true from h1),if_pos h1]
  ·rw[if_neg (show¬(f.gV φ).seen.getD u.toNat true=true from h1),if_neg h1]
   cases hm:ms[u.toNat]? with
   |none=>rfl
   |some m=>
    dsimp only;have R:(⟨(f.gV φ).seen.set u.toNat true,(f.gV φ).dI,(f.gV φ).next⟩:FS)=FS.gV φ ⟨f.seen.set u.toNat true,f.dI,f.next⟩:=rfl;rw[R];by_cases e0:m.kind=0
    ·rw[if_pos e0,if_pos e0]
    ·rw[if_neg e0,if_neg e0];by_cases e1:m.kind=1
     ·rw[if_pos e1,if_pos e1];unfold l7;rw[<-h.take _ m hm e1];by_cases hc:(eV m.sp m.fo m.nt bh&& !f.dI.getD m.next.toNat true)=true
      ·rw[if_pos (show(eV m.sp m.fo m.nt bh&& !(FS.gV φ ⟨f.seen.set u.toNat true,f.dI,f.next⟩).dI.getD m.next.toNat true)=true from hc),if_pos (show(eV m.sp m.fo m.nt bh&& !(⟨f.seen.set u.toNat true,f.dI,f.next⟩:FS).dI.getD m.next.toNat true)=true from hc)];simp[FS.gV,gV]
      ·rw[if_neg (show¬(eV m.sp m.fo m.nt bh&& !(FS.gV φ ⟨f.seen.set u.toNat true,f.dI,f.next⟩).dI.getD m.next.toNat true)=true from hc),if_neg (show¬(eV m.sp m.fo m.nt bh&& !(⟨f.seen.set u.toNat true,f.dI,f.next⟩:FS).dI.getD m.next.toNat true)=true from hc)]
     ·rw[if_neg e1,if_neg e1];by_cases e2:m.kind=2
      ·rw[if_pos e2,if_pos e2,<-h.eE _ m hm e2];by_cases hh:e_ m.eE ah bh=true
       ·rw[if_pos hh,if_pos hh];exact IH _ _ _
       ·rw[if_neg hh,if_neg hh]
      ·rw[if_neg e2,if_neg e2];by_cases e3:m.kind=3
       ·rw[if_pos e3,if_pos e3];exact IH _ _ _
       ·rw[if_neg e3,if_neg e3,IH];by_cases hr:(gw ms ah bh d m.next st ⟨f.seen.set u.toNat true,f.dI,f.next⟩).2=true
        ·rw[if_pos hr,if_pos hr]
        ·rw[if_neg hr,if_neg hr];exact IH _ _ _
theorem aeM{ms:List MS}{ah jF bh qo:Int}(h:DW ms ah jF bh qo)(φ:Int->Int):∀(l:List bG) (f:FS),iK ms jF qo (gV φ l) (f.gV φ)=((iK ms ah bh l f).1.gV φ,(iK ms ah bh l f).2.map φ)
 | [],f=>rfl
 |t::ts,f=>by
  show iK ms jF qo ((t.1,φ t.2)::gV φ ts) (f.gV φ)=_
  unfold iK;rw[aaS h φ];by_cases hr:(gw ms ah bh ms.length t.1 t.2 f).2=true
  ·rw[if_pos hr,if_pos hr];rfl
  ·rw[if_neg hr,if_neg hr];exact aeM h φ ts _
theorem Xs{ms:List MS}{ah jF bh qo:Int}(h:DW ms ah jF bh qo)(φ:Int->Int)(l:List bG):aZ ms jF qo (gV φ l)=(gV φ (aZ ms ah bh l).1,(aZ ms ah bh l).2.map φ):=by
 have:=aeM h φ l (FS.new ms.length);have e:(FS.new ms.length).gV φ=FS.new ms.length:=rfl;rw[e]at this;unfold aZ;rw[this];rfl
