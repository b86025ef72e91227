/- What the states  -/
import Derived.Test.YtpdnofhackjfdaaGreatDoorP12
set_option linter.all false
set_option maxRecDepth 100000
set_option maxHeartbeats 1000000
namespace Go.Proofs.YtpdnofhackjfdaaGreatDoor
open Go.Proofs.Tryz
variable {a:Act} {cs:Array Value} {f:Func} {M st:List MS} {m:MS} {b c hi i lo pb:Nat} {K R:Nat->Prop} {N:Nv} {t:TypeId} {V:VS} {v v' v1:Value} {W w w' w0 w1 w2:World}
def eW(ms:List MS):Prop:=∀(u:Nat) (m:MS),ms[u]? =some m->(0<=m.kind/\m.kind<=4)/\(m.kind=1->0<=m.next/\m.next<ms.length)/\(m.kind=2\/m.kind=3\/m.kind=4->0<=m.next/\m.next<u)/\(m.kind=4->0<=m.a_/\m.a_<u)
theorem xD{k s:Nat}(hk:V.aL[k]? =some s)(hm:M[s]? =some m):(sorted M V)[k]? =some {m with next:=V.num.getD m.next.toNat 0,a_:=V.num.getD m.a_.toNat 0}:=by
 unfold sorted;rw[Bv,hk];simp[Af,hm]
theorem aeJ(M:List MS)(V:VS):(sorted M V).length=V.aL.length:=by unfold sorted;simp
theorem vR{t:Nat}{u:Nat}(h:V.num[t]? =some (u:Int)):V.num.getD t 0=(u:Int):=by rw[Af,h];rfl
theorem aoj{x:TX}(hV:jE M R V)(hS:Shut M R)
 (vE:∀t,(∃(s:Nat) (m:MS),s∈V.aL/\M[s]? =some m/\m.kind=1/\t=m.next.toNat)->∃u:Nat,V.num[t]? =some (u:Int)){s:Int}{gs:List Int}{r:ik}(h:cR M x s i gs r):
 ∀k:Nat,V.num[s.toNat]? =some (k:Int)->cR (sorted M V) x (k:Int) i gs r:=by
 have CL:∀{s k:Nat},V.num[s]? =some (k:Int)->V.aL[k]? =some s:=fun{s k} h=>by
  obtain⟨k',e,h'⟩:=hV.has s k h (by omega);have:k'=k:=by omega
  rw[<-this];exact h'
 have NK:∀{s k:Nat} {m:MS} {t:Int},V.aL[k]? =some s->M[s]? =some m->tL M s t->∃k':Nat,V.num[t.toNat]? =some (k':Int):=fun h1 h2 h3=>by
  obtain⟨k',_,h'⟩:=(hV.next _ _ _ h1 h2).2 _ h3;exact⟨k',h'⟩
 induction h with
 |done s m i gs h hk=>intro k hn;exact cR.done _ _ _ _ (xD (CL (by simpa using hn)) h) hk
 |js s m i gs r h hk ht hn ih=>
  intro k rK;have ho:=CL (s:=s) (by simpa using rK);obtain⟨u,hu⟩:=vE m.next.toNat ⟨s,m,Ca ho,h,hk,rfl⟩
  exact cR.js _ _ _ _ _ (xD ho h) hk ht (by show cR _ _ (V.num.getD m.next.toNat 0) _ _ _;rw[vR hu];exact ih u hu)
 |ja s m i gs h hk ht=>intro k hn;exact cR.ja _ _ _ _ (xD (CL (by simpa using hn)) h) hk ht
 |RI s m i gs r h hk he hn ih=>
  intro k rK;have ho:=CL (s:=s) (by simpa using rK);obtain⟨u,hu⟩:=NK (t:=m.next) ho h ⟨s,m,rfl,h,Or.inl ⟨Or.inl hk,rfl⟩⟩;exact cR.RI _ _ _ _ _ (xD ho h) hk he (by show cR _ _ (V.num.getD m.next.toNat 0) _ _ _;rw[vR hu];exact ih u hu)
 |RH s m i gs h hk he=>intro k hn;exact cR.RH _ _ _ _ (xD (CL (by simpa using hn)) h) hk he
 |mark s m i gs r h hk hn ih=>
  intro k rK;have ho:=CL (s:=s) (by simpa using rK);obtain⟨u,hu⟩:=NK (t:=m.next) ho h ⟨s,m,rfl,h,Or.inl ⟨Or.inr (Or.inl hk),rfl⟩⟩;exact cR.mark _ _ _ _ _ (xD ho h) hk (by show cR _ _ (V.num.getD m.next.toNat 0) _ _ _;rw[vR hu];exact ih u hu)
 |zY s m i gs v h hk hn ih=>
  intro k rK;have ho:=CL (s:=s) (by simpa using rK);obtain⟨u,hu⟩:=NK (t:=m.next) ho h ⟨s,m,rfl,h,Or.inl ⟨Or.inr (Or.inr hk),rfl⟩⟩;exact cR.zY _ _ _ _ _ (xD ho h) hk (by show cR _ _ (V.num.getD m.next.toNat 0) _ _ _;rw[vR hu];exact ih u hu)
 |zX s m i gs r h hk hn AW ih uj=>
  intro k rK;have ho:=CL (s:=s) (by simpa using rK);obtain⟨u,hu⟩:=NK (t:=m.next) ho h ⟨s,m,rfl,h,Or.inl ⟨Or.inr (Or.inr hk),rfl⟩⟩;obtain⟨u',MI⟩:=NK (t:=m.a_) ho h ⟨s,m,rfl,h,Or.inr ⟨hk,rfl⟩⟩;exact cR.zX _ _ _ _ _ (xD ho h) hk (by show cR _ _ (V.num.getD m.next.toNat 0) _ _ _;rw[vR hu];exact ih u hu) (by show cR _ _ (V.num.getD m.a_.toNat 0) _ _ _;rw[vR MI];exact uj u' MI)
theorem aoh(hV:jE M R V)(hS:Shut M R)(cW:∀m∈M,0<=m.kind/\m.kind<=4)
 (vE:∀t,(∃(s:Nat) (m:MS),s∈V.aL/\M[s]? =some m/\m.kind=1/\t=m.next.toNat)->∃u:Nat,V.num[t]? =some (u:Int)):eW (sorted M V):=by
 intro k m' fS;have aw:k<V.aL.length:=by rw[<-aeJ M V];exact(Ag.1 fS).1
 have ho:V.aL[k]? =some V.aL[k]:=Ae aw;obtain⟨m,hm,_⟩:=hS.cl _ (hV.QK _ (A5 aw));rw[xD ho hm]at fS
 cases fS;have bC:=hV.next k _ m ho hm
 refine⟨cW m (Ca hm),fun h1=>?_,fun h1=>?_,fun h1=>?_⟩
 ·obtain⟨u,hu⟩:=vE m.next.toNat ⟨_,m,A5 aw,hm,h1,rfl⟩
  simp only;rw[vR hu,aeJ];obtain⟨k',e,h'⟩:=hV.has _ _ hu (by omega);have:=(Ag.1 h').1;omega
 ·obtain⟨k',h2,h3⟩:=bC.2 m.next ⟨_,m,rfl,hm,Or.inl ⟨h1,rfl⟩⟩
  simp only;rw[vR h3];omega
 ·obtain⟨k',h2,h3⟩:=bC.2 m.a_ ⟨_,m,rfl,hm,Or.inr ⟨h1,rfl⟩⟩;simp only;rw[vR h3];omega
def afB(ms:List MS)(x:TX)(u:Int)(i:Nat):Prop:=∃gs v,cR ms x u i gs (some v)
noncomputable def off(ms:List MS)(x:TX)(u:Int)(i:Nat):Bool:=@decide (afB ms x u i) (Classical.propDecidable _)
open Go.RowKit Go.Maps
structure Sv where
 k:Int
 sa:Option Addr
 sn:Nat
 sc:Nat
 ed:Int
 sl:Int
 nx:Int
 ot:Int
def Sv.cells(q:Sv):Array Value:=#[.int .i64 q.k,.slice q.sa q.sn q.sc,.int .i64 q.ed,.int .i64 q.sl,.int .i64 q.nx,.int .i64 q.ot]
def Sv.val(q:Sv):Value:=.agg q.cells
def jw:List Sv->List Value
 | []=>[]
 |q::qs=>q.cells.toList++jw qs
theorem Sv.EE(q:Sv):q.cells.toList.length=6:=rfl
theorem aaO(a b:List Sv):jw (a++b)=jw a++jw b:=by
 induction a with
 |nil=>rfl
 |cons q qs ih=>simp[jw,ih]
theorem Pj(qs:List Sv)(i:Nat)(h:i<qs.length)(j:Nat)(hj:j<6):(jw qs)[i*6+j]? =(qs[i]).cells[j]? :=by
 induction qs generalizing i with
 |nil=>simp at h
 |cons q qs ih=>
  cases i with
  |zero=>
   simp only[jw,Ai];rw[A9 (by rw[Sv.EE];omega),show 0*6+j=j by omega];simp
  |succ i=>
   have:=ih i (by simpa using h);simp only[jw,Ah];rw[Cl (by rw[Sv.EE];omega),Sv.EE,show(i+1)*6+j-6=i*6+j by omega];exact this
theorem Sv.one(q:Sv):∀u∈q.cells.toList,u.oneCell'=true:=by
 intro u hu;simp[Sv.cells]at hu;rcases hu with rfl|rfl|rfl|rfl|rfl|rfl<;>rfl
structure gu(w:World)(lo hi:Nat)(s:Sv)(m:MS):Prop where
 k:s.k=m.kind
 ed:s.ed=m.eE
 sl:s.sl=m.slot
 nx:s.nx=m.next
 ot:s.ot=m.a_
 kr:0<=m.kind/\m.kind<=4
 set:m.kind=1->∃(S:bF) (bs:Nat),s.sn=S.length/\(S≠ []->s.sa=some ⟨bs,0,none⟩/\lo<=bs/\bs<hi)/\fV w bs S/\uV S m.sp m.fo m.nt/\dz S/\S.length<=6000
theorem gu.kept{s:Sv}(h:gu w lo hi s m)(k:aa K w w')(hs:∀i,lo<=i->i<hi->¬K i)(hle:hi<=w.heap.size):gu w' lo hi s m:=
 ⟨h.k,h.ed,h.sl,h.nx,h.ot,h.kr,fun e=>by
   obtain⟨S,bs,a1,a2,a3,a4⟩:=h.set e;refine⟨S,bs,a1,a2,fun i hi'=>?_,a4⟩;have az:S≠ []:=by intro e;subst e;simp at hi'
   obtain⟨_,b1,b2⟩:=a2 az;exact⟨(k.cell (p:=⟨bs,i*2,none⟩) (by show bs<_;omega) (hs bs b1 b2)).trans (a3 i hi').1,(k.cell (p:=⟨bs,i*2+1,none⟩) (by show bs<_;omega) (hs bs b1 b2)).trans (a3 i hi').2⟩⟩
structure dr(w:World)(b lo hi:Nat)(v:Value)(st:List MS):Prop where
 aj:aq w b #[v] 109
 row:∃vs:List Sv,w.ownsRow (b+1) 113 6 v st.length (jw vs)/\vs.length=st.length/\∀i,(h:i<vs.length)->(h':i<st.length)->gu w lo hi vs[i] st[i]
 dQ:hi<=b
 bJ:st.length<=10000
def Own(b:Nat)(v:Value):Nat->Prop:=fun i=>i=b\/v.ownBlock=some i
theorem dr.slice(h:dr w b lo hi v st):∃ao c,v=.slice ao st.length c:=by
 obtain⟨vs,h1,_⟩:=h.row;exact cK h1
theorem dr.block(h:dr w b lo hi v st)(hi':v.ownBlock=some i):b+1<=i/\i<w.heap.size:=by
 obtain⟨vs,h1,_⟩:=h.row;exact dE h1 hi'
theorem dr.au(h:dr w b lo hi v st)(hi':Own b v i):b<=i/\i<w.heap.size:=by
 rcases hi' with rfl|hi'
 ·exact⟨Ab _,h.aj.lt⟩
 ·have:=h.block hi';omega
theorem dr.kept(h:dr w b lo hi v st)(k:aa K w w')(hK:∀i,K i->¬Own b v i/\(i<lo\/hi<=i)):dr w' b lo hi v st where
 aj:=h.aj.kept k (fun hx=>(hK b hx).1 (Or.inl rfl))
 row:=by
  obtain⟨vs,h1,h2,h3⟩:=h.row;refine⟨vs,bY h1 k (fun i hi' hx=>(hK i hx).1 (Or.inr hi')),h2,fun i a1 a2=>(h3 i a1 a2).kept k (fun j j1 j2 hx=>by have:=(hK j hx).2;omega) (by have:=h.dQ;have:=h.aj.lt;omega)⟩
 dQ:=h.dQ
 bJ:=h.bJ
theorem dr.new(h:dr w b lo hi v st)(k:aa af w w'):dr w' b lo hi v st:=h.kept k (fun i hx=>hx.elim)
structure ee(b:Nat)(w w':World)(v v':Value):Prop where
 kept:aa (Own b v) w w'
 aj:∀i,v'.ownBlock=some i->v.ownBlock=some i\/w.heap.size<=i
theorem ee.refl(b:Nat)(w:World)(v:Value):ee b w w v v:=⟨aa.refl _ _,fun i h=>Or.inl h⟩
theorem ee.trans{v2:Value}(h:ee b w w1 v v1)(h':ee b w1 w2 v1 v2):ee b w w2 v v2 where
 kept:=h.kept.bZ h'.kept (fun i hi hx=>by
  rcases hx with rfl|hx
  ·exact Or.inl rfl
  ·rcases h.aj i hx with h1|h1
   ·exact Or.inr h1
   ·omega)
 aj i hi:=by
  have hs:=h.kept.size;rcases h'.aj i hi with h1|h1
  ·exact h.aj i h1
  ·right;omega
theorem ee.new(h:ee b w w1 v v1)(k:aa af w1 w2):ee b w w2 v v1:=⟨h.kept.bZ k (fun i _ hx=>hx.elim),h.aj⟩
theorem ee.alloc(h:ee b w w1 v v1)(o:Obj):ee b w (w1.alloc o) v v1:=⟨h.kept.alloc o,h.aj⟩
theorem ee.apart(h:ee b w w' v v')(hc:c<w.heap.size)(hn:¬Own b v c):¬Own b v' c:=by
 intro hx;rcases hx with rfl|hx
 ·exact hn (Or.inl rfl)
 ·rcases h.aj c hx with h1|h1
  ·exact hn (Or.inr h1)
  ·omega
theorem ee.cells(h:ee b w w' v v')(hB:aq w c cs t)(hn:¬Own b v c):aq w' c cs t:=hB.kept h.kept hn
theorem Tryz.acd:(prog.info? 113).map (fun i=>(i.zero,i.size,i.bytes))=some (some (.agg #[.int .i64 0,.slice none 0 0,.int .i64 0,.int .i64 0,.int .i64 0,.int .i64 0]),6,64):=by kernel_rfl
theorem RK{P:Program}{ops:Array Oper}{o:Oper}{K:Act->World->Prop}{Q:Exit->Act->World->Prop}{E:Prop}
 (hg:o.guard=none)(s x:Operand)(t:TypeId)(eh:o.op=.call {callee:=.builtin .append,args:=#[s,x],argTypes:=#[t,t]})
 (base:Nat)(e:TypeId)(i:TypeInfo)(z:Value)(size bytes:Nat)(ht:P.underlying t=some (.slice e))(hi:P.info? e=some i)(hz:i.zero=some z)(xm:i.size=size)(AJ:i.bytes=bytes)(BY:z.cells.size=size)(aP:0<size)
 (v:Value)(n:Nat)(xs:List Value)(hs:a.eval s=v)(bt:w.ownsRow base e size v n xs)
 (ad:Addr)(m c:Nat)(news:List Value)(hx:a.eval x=.slice (some ad) m c)(hl:news.length=m*size)(Jf:∀j u,news[j]? =some u->w.cell? (ad.add j)=some u)(h1:∀u∈news,u.oneCell'=true)
 (An:n+m<=maxLen)(AK:(n+m)*bytes<=140737488355328)(UN:base<=w.heap.size)
 (hK:∀v' w',w'.ownsRow base e size v' (n+m) (xs++news)->w.grownBy w' v.ownBlock->(v'.ownBlock=v.ownBlock\/v'.ownBlock=some w.heap.size)->K (a.put o.dst v') w'):
 if Region.wanted o (yielded ops a.tmps)=true then Oper.wp P o a w K Q else E:=by
 have hw:Region.wanted o (yielded ops a.tmps)=true:=by simp[Region.wanted,hg]
 rw[if_pos hw];obtain⟨v',w',hr,h2,h3,h4,h5⟩:=run_append_own_at (P:=P) w base t o.type e i z size bytes ht hi hz xm AJ BY aP v n xs bt ad m c news hl Jf h1 An AK UN;unfold Oper.wp;simp[execOp,eh,resolve,invoke,builtin,hs,hx,hr,Result.andThen];exact hK v' w' h2 h3 h5
theorem dr.eQ{w7:World}{ao c n:Nat}(h:dr w b lo hi v st){s:Sv}(hs:gu w lo hi s m)(dw:st.length<10000){vs:List Sv}(dO:w.ownsRow (b+1) 113 6 v st.length (jw vs))(cT:vs.length=st.length)
 (qH:∀i,(h:i<vs.length)->(h':i<st.length)->gu w lo hi vs[i] st[i])(k0:aa af w W)
 (bH:w7.ownsRow (b+1) 113 6 v' (st.length+1) (jw vs++s.cells.toList))(b_:W.grownBy w7 v.ownBlock)(cB:v'.ownBlock=v.ownBlock\/v'.ownBlock=some W.heap.size):
 aq w7 b #[v] 109/\dr (w7.setCell ⟨b,0,none⟩ v') b lo hi v' (st++[m])/\ee b w (w7.setCell ⟨b,0,none⟩ v') v v':=by
 have aw:=h.aj.lt;have VG:=k0.size;have k7:aa (fun i=>v.ownBlock=some i) w w7:=(k0.mono (fun i hx=>hx.elim)).eQ b_ (fun j hj=>Or.inl hj);have vz:v.ownBlock≠some b:=fun e=>by have:=dE dO e;omega
 have b7:aq w7 b #[v] 109:=h.aj.kept k7 vz;have aqJ:=k7.size
 have lP:∀i,v'.ownBlock=some i->v.ownBlock=some i\/w.heap.size<=i:=by
  intro i hi';rcases cB with hl|hl
  ·exact Or.inl (hl▸hi')
  ·rw[hl]at hi';cases hi';right;omega
 have hvb:v'.ownBlock≠some b:=fun e=>by
  rcases lP b e with h1|h1
  ·exact vz h1
  ·omega
 have b8:aq (w7.setCell ⟨b,0,none⟩ v') b #[v'] 109:=b7.setCell 0 v';have k8:aa (Own b v) w (w7.setCell ⟨b,0,none⟩ v'):=aa.setCell (S:=Own b v) (k7.mono (S':=Own b v) (fun i hi'=>Or.inr hi')) (p:=⟨b,0,none⟩) (Or.inl (Or.inl rfl)) _
 have o8:(w7.setCell ⟨b,0,none⟩ v').ownsRow (b+1) 113 6 v' (st++[m]).length (jw (vs++[s])):=by
  have h1:(jw (vs++[s]))=jw vs++s.cells.toList:=by rw[aaO];simp[jw]
  rw[h1,Aj];exact bY bH ((aa.refl (fun i=>i=b) w7).setCell (p:=⟨b,0,none⟩) (Or.inl rfl) v') (fun i hi' e=>hvb (e▸hi'))
 have dQ:=h.dQ;have abO:∀i,lo<=i->i<hi->¬Own b v i:=fun i h1 h2 hx=>by have:=h.au hx;omega
 refine⟨b7,?_,⟨k8,lP⟩⟩;refine⟨b8,⟨vs++[s],o8,by simp[cT],fun i h1 h2=>?_⟩,dQ,by simp;omega⟩;by_cases iX:i<st.length
 ·have e1:(vs++[s])[i]=vs[i]'(by omega):=Cp _;have e2:(st++[m])[i]=st[i]:=Cp _;rw[e1,e2];exact(qH i (by omega) iX).kept k8 abO (by omega)
 ·have e:i=st.length:=by simp at h2;omega
  subst e;have e1:(vs++[s])[st.length]=s:=by simp[<-cT]
  have e2:(st++[m])[st.length]=m:=by simp
  rw[e1,e2];exact hs.kept k8 abO (by omega)
theorem aeW(q:Sv)(j:Nat)(u:Value)(h:q.cells.toList[j]? =some u):(w.alloc (.cells q.cells 113)).cell? (Addr.add ⟨w.heap.size,0,none⟩ j)=some u:=uy w q.cells 113 j u h
theorem IA(h:dr w b lo hi v st){s:Sv}(hs:gu w lo hi s m)(dw:st.length<10000):
 Calls prog 43 #[.pointer (some ⟨b,0,none⟩),Sv.val s] w fun e w'=>e=.returned (.int .i64 st.length)/\∃v',dr w' b lo hi v' (st++[m])/\ee b w w' v v':=by
 obtain⟨i0,cS,dm,dp,c_⟩:=Bp Tryz.acd;obtain⟨ao,c,hv⟩:=h.slice;have aw:=h.aj.lt;obtain⟨vs,dO,cT,qH⟩:=h.row;have c0:w.cell? ⟨b,0,none⟩=some v:=h.aj.cell 0;have f0:=h.aj.frozen 0;have HR:Hid (∀W,aa af w W->W.ownsRow (b+1) 113 6 v st.length (jw vs)):=fun W k=>bY dO k (fun i _ hx=>hx)
 have GR:Hid (∀W w7 v',aa af w W->w7.ownsRow (b+1) 113 6 v' (st.length+1) (jw vs++s.cells.toList)->W.grownBy w7 v.ownBlock->(v'.ownBlock=v.ownBlock\/v'.ownBlock=some W.heap.size)->aq w7 b #[v] 109/\dr (w7.setCell ⟨b,0,none⟩ v') b lo hi v' (st++[m])/\ee b w (w7.setCell ⟨b,0,none⟩ v') v v'):=
  fun W w7 v' k h1 h2 h3=>h.eQ (ao:=0) (c:=0) (n:=0) hs dw dO cT qH k h1 h2 h3
 have NW:Hid (∀j u,s.cells.toList[j]? =some u->(((w.alloc (.cells s.cells 113)).alloc (.cells s.cells 113)).drew).cell? (Addr.add ⟨w.heap.size+1,0,none⟩ j)=some u):=by
  intro j u hu;have:=aeW (w:=w.alloc (.cells s.cells 113)) s j u hu;simpa using this
 clear h hs qH dO;subst hv;simp only[Sv.val,Sv.cells];go_in;go_wp2_with fail;go_region_law (refine RK rfl (.tmp 9) (.tmp 11) 71 rfl (b+1) 113 i0 _ 6 64 underlying71 cS dm dp c_ rfl (by decide) _ _ _ rfl (HR.o _ (by repeat first|exact aa.refl _ _|apply aa.alloc|apply aa.drew|apply aa.drewN)) ⟨w.heap.size+1,0,none⟩ 1 1 s.cells.toList rfl rfl NW.o s.one (by unfold maxLen;omega) (by omega) (by simp;omega) ?_;intro v' w7 ho hg hl;obtain⟨jg,c',rfl⟩:=cK ho;obtain⟨b7,fZ,aX⟩:=GR.o _ _ _ (by repeat first|exact aa.refl _ _|apply aa.alloc|apply aa.drew|apply aa.drewN) ho hg hl;have c7:w7.cell? ⟨b,0,none⟩=some (.slice ao st.length c):=b7.cell 0;have f7:w7.frozen? ⟨b,0,none⟩=false:=b7.frozen 0)
 all_goals
  clear HR GR NW;go_wp2_with fail;go_ret;exact⟨rfl,_,fZ,aX⟩
theorem ij(w:World)(o:Obj):(w.alloc o).heap.size=w.heap.size+1:=by simp
theorem ab{p:Prop}(h:p):Hid p:=h
def cJ(x:Ex):Value:=.agg #[.int .i64 x.1,.int .i64 x.2]
def l9(w:World)(b lo hi:Nat)(v:Value)(k_:List MS)(r:Value):Ending->World->Prop:=fun e w'=>e=.returned r/\∃v',dr w' b lo hi v' k_/\ee b w w' v v'
theorem gu.lL(w:World)(lo hi:Nat)(a b:Int):gu w lo hi ⟨4,none,0,0,0,0,a,b⟩ (kt a b):=⟨rfl,rfl,rfl,rfl,rfl,by simp[kt],fun e=>by simp[kt]at e⟩
def aI(x:Ex):Array Value:=#[.int .i64 x.1,.int .i64 x.2]
structure bc(w:World)(b:Nat)(v:Value)(c:Nat)(cs:Array Value)(t:TypeId):Prop where
 aj:aq w c cs t
 not:¬Own b v c
theorem bc.aX(h:bc w b v c cs t)(k:ee b w w' v v'):bc w' b v' c cs t:=⟨k.cells h.aj h.not,k.apart h.aj.lt h.not⟩
theorem dr.fresh(h:dr w b lo hi v st)(hc:w.heap.size<=c):¬Own b v c:=fun hx=>by have:=h.au hx;omega
theorem bc.new(h:dr w b lo hi v st)(cs:Array Value)(t:TypeId):bc (w.alloc (.cells cs t)) b v w.heap.size cs t:=⟨aq.new w cs t,h.fresh (Ab _)⟩
theorem bc.alloc(h:bc w b v c cs t)(o:Obj):bc (w.alloc o) b v c cs t:=⟨h.aj.alloc o,h.not⟩
theorem bc.setCell(h:bc w b v c cs t)(i:Nat)(u:Value):bc (w.setCell ⟨c,i,none⟩ u) b v c (cs.setIfInBounds i u) t:=⟨h.aj.setCell i u,h.not⟩
theorem bc.a_(h:bc w b v c cs t){d:Nat}(hd:c≠d)(i:Nat)(u:Value):bc (w.setCell ⟨d,i,none⟩ u) b v c cs t:=⟨h.aj.y9 hd u,h.not⟩
theorem dr.set(h:dr w b lo hi v st)(hc:¬Own b v c)(AH:b<=c)(j:Nat)(u:Value):dr (w.setCell ⟨c,j,none⟩ u) b lo hi v st:=
 h.kept ((aa.refl (fun i=>i=c) w).setCell (p:=⟨c,j,none⟩) (Or.inl rfl) u) (fun i hi'=>by subst hi';exact⟨hc,Or.inr (by have:=h.dQ;omega)⟩)
theorem dr.alloc(h:dr w b lo hi v st)(o:Obj):dr (w.alloc o) b lo hi v st:=h.new ((aa.refl _ _).alloc o)
theorem ee.set(h:ee b w w1 v v1)(hc:w.heap.size<=c)(j:Nat)(u:Value):ee b w (w1.setCell ⟨c,j,none⟩ u) v v1:=⟨h.kept.setCell (p:=⟨c,j,none⟩) (Or.inr hc) u,h.aj⟩
theorem aaM{Q:Ending->World->Prop}{x:Ex}(mw:f.results=#[ResultVar.cell i 115])(sZ:a.tmps.getD i undef=.pointer (some ⟨c,0,none⟩))(hd:a.defers=[])
 (hb:aq W c (aI x) 115)(hQ:Q (.returned (cJ x)) W):bodyPost prog f Q Exit.ret a W:=by
 have r0:W.cell? ⟨c,0,none⟩=some (.int .i64 x.1):=hb.cell 0;have r1:W.cell? ⟨c,1,none⟩=some (.int .i64 x.2):=hb.cell 1;have gg:a.tmps[i]?.getD undef=.pointer (some ⟨c,0,none⟩):=by simpa using sZ
 exact Bi (v:=cJ x) (by simp[results,mw,go_sem,gg,r0,r1,cJ]) hd hQ
theorem T4(h:dr w b lo hi v st)(x y:Int)(dw:st.length<10000):
 Calls prog 119 #[.pointer (some ⟨b,0,none⟩),.int .i64 x,.int .i64 y] w (l9 w b lo hi v (dL st x y).1 (.int .i64 (dL st x y).2)):=by
 unfold l9 dL;by_cases hx:x= -1
 ·have hb:(x== -1)=true:=by simp[hx]
  simp only[if_pos hx];clear hx;go_in;go_wp2_with fail;go_ret;exact⟨rfl,v,h.new (aa.refl _ _),ee.refl _ _ _⟩
 ·have hb:(x== -1)=false:=by simp[hx]
  simp only[if_neg hx];by_cases hy:y= -1
  ·have mS:(y== -1)=true:=(by simp[hy]);simp only[if_pos hy];clear hy hx;go_in;go_wp2_with fail;go_ret;exact⟨rfl,v,h.new (aa.refl _ _),ee.refl _ _ _⟩
  ·have mS:(y== -1)=false:=(by simp[hy]);simp only[if_neg hy];have Sm:=IA h (gu.lL w lo hi x y) dw;simp only[Sv.val,Sv.cells]at Sm;have HA:=ab Sm;clear Sm;clear hy hx h;go_in;go_wp2_with fail;refine(HA.o).mono ?_;rintro e w1 ⟨rfl,v1,h1,k1⟩;go_wp2_with fail;go_ret;exact⟨rfl,v1,h1,k1⟩
theorem mR{w4:World}{v4:Value}{NG:List MS}{r1 r2 z1 z2:Int}(a1:dr w4 b lo hi v4 NG)(a2:ee b w w4 v v4)(a3:bc w4 b v4 c #[.int .i64 z1,.int .i64 z2] 115)(hc:w.heap.size<=c)(AH:b<=c)
 (mw:f.results=#[ResultVar.cell i 115])(sZ:a.tmps.getD i undef=.pointer (some ⟨c,0,none⟩))(hd:a.defers=[]):
 bodyPost prog f (l9 w b lo hi v NG (cJ (r1,r2))) Exit.ret a ((w4.setCell ⟨c,0,none⟩ (.int .i64 r1)).setCell ⟨c,1,none⟩ (.int .i64 r2)):=by
 refine aaM mw sZ hd (x:=(r1,r2)) ?_ ?_
 ·exact((a3.setCell 0 (.int .i64 r1)).setCell 1 (.int .i64 r2)).aj
 ·exact⟨rfl,v4,(a1.set a3.not AH 0 _).set a3.not AH 1 _,(a2.set hc 0 _).set hc 1 _⟩
theorem bc.cA{p q:Int}(h:bc w b v c #[.int .i64 p,.int .i64 q] t):w.cell? ⟨c,0,none⟩=some (.int .i64 p)/\w.cell? ⟨c,1,none⟩=some (.int .i64 q)/\w.frozen? ⟨c,0,none⟩=false/\w.frozen? ⟨c,1,none⟩=false:=⟨h.aj.cell 0,h.aj.cell 1,h.aj.frozen 0,h.aj.frozen 1⟩
theorem T6(h:dr w b lo hi v st)(x y:Ex)(dw:st.length+2<=10000):
 Calls prog 94 #[.pointer (some ⟨b,0,none⟩),cJ x,cJ y] w (l9 w b lo hi v (gC st x y).1 (cJ (gC st x y).2)):=by
 have aw:=h.aj.lt;have g1:=tQ st x.2 y.2;obtain⟨x1,x2⟩:=x;obtain⟨y1,y2⟩:=y;simp only at g1;have l1:=((bc.new h (aI (x1,x2)) 115).alloc (.cells (aI (y1,y2)) 115)).alloc (.cells (aI (0,0)) 115);have h1:=h.alloc (.cells (aI (x1,x2)) 115);have l2:=(bc.new h1 (aI (y1,y2)) 115).alloc (.cells (aI (0,0)) 115);have h2:=h1.alloc (.cells (aI (y1,y2)) 115);have l3:=bc.new h2 (aI (0,0)) 115;have h3:=h2.alloc (.cells (aI (0,0)) 115);have W3:=(((ee.refl b w v).alloc (.cells (aI (x1,x2)) 115)).alloc (.cells (aI (y1,y2)) 115)).alloc (.cells (aI (0,0)) 115);have F1:=ab (T4 h3 x2 y2 (by omega));simp only[aI,ij]at l1 l2 l3 h3 W3 F1;clear h h1 h2;simp only[cJ];unfold gC;simp only;by_cases c:x1=x2/\y1=y2
 ·have d1:(x1==x2)=true:=by simp[c.1]
  have d2:(y1==y2)=true:=by simp[c.2]
  simp only[if_pos c];clear c;go_in;go_wp2_with fail;refine(F1.o).mono ?_;rintro e w4 ⟨rfl,v4,h4,k4⟩;obtain⟨m1,m2,m3⟩:=And.intro (l1.aX k4) (And.intro (l2.aX k4) (l3.aX k4));have k5:=W3.trans k4;obtain⟨a0,a1,_,_⟩:=m1.cA;obtain⟨b0,b1,_,_⟩:=m2.cA;obtain⟨c0,c1,f0,f1⟩:=m3.cA;have ax:=ab (And.intro h4 (And.intro k5 m3));clear l1 l2 l3 h3 F1 m1 m2 m3 h4 k4 k5 W3;go_wp2_with fail;exact mR ax.o.1 ax.o.2.1 ax.o.2.2 (by omega) (by omega) results94 rfl rfl
 ·simp only[if_neg c];have g2:=tQ (dL st x2 y2).1 x1 y1;by_cases e1:x1=x2
  ·have e2:y1≠y2:=(fun e=>c ⟨e1,e⟩);have d1:(x1==x2)=true:=(by simp[e1]);have d2:(y1==y2)=false:=(by simp[e2]);clear c e1 e2;go_in;go_wp2_with fail;refine(F1.o).mono ?_;rintro e w4 ⟨rfl,v4,h4,k4⟩;obtain⟨m1,m2,m3⟩:=And.intro (l1.aX k4) (And.intro (l2.aX k4) (l3.aX k4));have k5:=W3.trans k4;obtain⟨a0,a1,_,_⟩:=m1.cA;obtain⟨b0,b1,_,_⟩:=m2.cA;have F2:=ab (T4 h4 x1 y1 (by omega));have ax:=ab (And.intro k5 m3);clear l1 l2 l3 h3 F1 m1 m2 m3 h4 k4 k5 W3;go_wp2_with fail;refine(F2.o).mono ?_;rintro e w6 ⟨rfl,v6,h6,k6⟩;have m6:=ax.o.2.aX k6;obtain⟨c0,c1,f0,f1⟩:=m6.cA;have uE:=ab (And.intro h6 (And.intro (ax.o.1.trans k6) m6));clear h6 k6 m6 ax F2;go_wp2_with fail;exact mR uE.o.1 uE.o.2.1 uE.o.2.2 (by omega) (by omega) results94 rfl rfl
  ·have d1:(x1==x2)=false:=(by simp[e1]);clear c e1;go_in;go_wp2_with fail;refine(F1.o).mono ?_;rintro e w4 ⟨rfl,v4,h4,k4⟩;obtain⟨m1,m2,m3⟩:=And.intro (l1.aX k4) (And.intro (l2.aX k4) (l3.aX k4));have k5:=W3.trans k4;obtain⟨a0,a1,_,_⟩:=m1.cA;obtain⟨b0,b1,_,_⟩:=m2.cA;have F2:=ab (T4 h4 x1 y1 (by omega));have ax:=ab (And.intro k5 m3);clear l1 l2 l3 h3 F1 m1 m2 m3 h4 k4 k5 W3;go_wp2_with fail;refine(F2.o).mono ?_;rintro e w6 ⟨rfl,v6,h6,k6⟩;have m6:=ax.o.2.aX k6;obtain⟨c0,c1,f0,f1⟩:=m6.cA;have uE:=ab (And.intro h6 (And.intro (ax.o.1.trans k6) m6));clear h6 k6 m6 ax F2;go_wp2_with fail;exact mR uE.o.1 uE.o.2.1 uE.o.2.2 (by omega) (by omega) results94 rfl rfl
theorem aaB(h:dr w b lo hi v st)(lz:Bool)(x y:Ex)(dw:st.length+2<=10000):
 Calls prog 120 #[.pointer (some ⟨b,0,none⟩),.bool lz,cJ x,cJ y] w (l9 w b lo hi v (dj lz st x y).1 (cJ (dj lz st x y).2)):=by
 have aw:=h.aj.lt;obtain⟨x1,x2⟩:=x;obtain⟨y1,y2⟩:=y;have l1:=((bc.new h (aI (x1,x2)) 115).alloc (.cells (aI (y1,y2)) 115)).alloc (.cells (aI (0,0)) 115);have h1:=h.alloc (.cells (aI (x1,x2)) 115);have l2:=(bc.new h1 (aI (y1,y2)) 115).alloc (.cells (aI (0,0)) 115);have h2:=h1.alloc (.cells (aI (y1,y2)) 115);have l3:=bc.new h2 (aI (0,0)) 115;have h3:=h2.alloc (.cells (aI (0,0)) 115);have W3:=(((ee.refl b w v).alloc (.cells (aI (x1,x2)) 115)).alloc (.cells (aI (y1,y2)) 115)).alloc (.cells (aI (0,0)) 115);have F1:=T6 h3 (x1,x2) (y1,y2) (by omega);have F2:=T6 h3 (y1,y2) (x1,x2) (by omega);simp only[aI,cJ,ij]at l1 l2 l3 h3 W3 F1 F2;have F1:=ab F1;have F2:=ab F2;clear h h1 h2;simp only[cJ];unfold dj
 cases lz
 ·simp only[Aq,if_false];go_in;go_wp2_with fail;refine(F1.o).mono ?_;rintro e w4 ⟨rfl,v4,h4,k4⟩;obtain⟨c0,c1,f0,f1⟩:=(l3.aX k4).cA;have ax:=ab (And.intro h4 (And.intro (W3.trans k4) (l3.aX k4)));clear l1 l2 l3 h3 F1 F2 h4 k4 W3;go_wp2_with fail;exact mR ax.o.1 ax.o.2.1 ax.o.2.2 (by omega) (by omega) results120 rfl rfl
 ·simp only[if_true];go_in;go_wp2_with fail;refine(F2.o).mono ?_;rintro e w4 ⟨rfl,v4,h4,k4⟩;obtain⟨c0,c1,f0,f1⟩:=(l3.aX k4).cA;have ax:=ab (And.intro h4 (And.intro (W3.trans k4) (l3.aX k4)));clear l1 l2 l3 h3 F1 F2 h4 k4 W3;go_wp2_with fail;exact mR ax.o.1 ax.o.2.1 ax.o.2.2 (by omega) (by omega) results120 rfl rfl
def Sv.yO(s:Sv)(n:Int):Sv:={s with nx:=n}
theorem bc.JW{s:Sv}(h:bc w b v c s.cells t):(w.cell? ⟨c,0,none⟩=some (.int .i64 s.k)/\w.cell? ⟨c,1,none⟩=some (.slice s.sa s.sn s.sc)/\w.cell? ⟨c,2,none⟩=some (.int .i64 s.ed)/\w.cell? ⟨c,3,none⟩=some (.int .i64 s.sl)/\w.cell? ⟨c,4,none⟩=some (.int .i64 s.nx)/\w.cell? ⟨c,5,none⟩=some (.int .i64 s.ot))/\w.frozen? ⟨c,4,none⟩=false:=
 ⟨⟨h.aj.cell 0,h.aj.cell 1,h.aj.cell 2,h.aj.cell 3,h.aj.cell 4,h.aj.cell 5⟩,h.aj.frozen 4⟩
theorem Wd(h:dr w b lo hi v st)(s:Sv)(mk:Int->MS)(HS:∀W n,gu W lo hi (s.yO n) (mk n))(x:Ex)(dw:st.length+2<=10000):
 Calls prog 65 #[.pointer (some ⟨b,0,none⟩),Sv.val s,cJ x] w (l9 w b lo hi v (fe mk st x).1 (cJ (fe mk st x).2)):=by
 have aw:=h.aj.lt;obtain⟨x1,x2⟩:=x;have l1':=(((bc.new h (s.yO x2).cells 113).alloc (.cells (aI (x1,x2)) 115)).alloc (.cells (aI (0,0)) 115));have h1:=h.alloc (.cells (s.yO x2).cells 113);have V7:=(bc.new h1 (aI (x1,x2)) 115).alloc (.cells (aI (0,0)) 115);have h2:=h1.alloc (.cells (aI (x1,x2)) 115);have V8:=bc.new h2 (aI (0,0)) 115;have yl:=h2.alloc (.cells (aI (0,0)) 115);have ZG:=(((ee.refl b w v).alloc (.cells (s.yO x2).cells 113)).alloc (.cells (aI (x1,x2)) 115)).alloc (.cells (aI (0,0)) 115);have F1:=IA yl (HS _ x2) (by omega);simp only[aI,ij]at V7 V8;simp only[Sv.val,Sv.cells,Sv.yO,aI]at F1;clear h h1 h2;have F1:=ab F1;have L1:=ab l1';have PK:=ab (And.intro V7 (And.intro V8 ZG));clear l1' V7 V8 yl ZG;simp only[cJ,Sv.val,Sv.cells];unfold fe;simp only;by_cases c1:x1=x2
 ·have d1:(x1==x2)=true:=by simp[c1]
  simp only[if_pos c1];clear c1;go_in;go_wp2_with fail;refine(F1.o).mono ?_;rintro e w4 ⟨rfl,v4,h4,k4⟩;obtain⟨l2,l3,W3⟩:=PK.o;obtain⟨a0,a1,_,_⟩:=(l2.aX k4).cA;obtain⟨c0,c1,f0,f1⟩:=(l3.aX k4).cA;have ax:=ab (And.intro h4 (And.intro (W3.trans k4) (l3.aX k4)));clear l2 l3 h4 k4 W3 F1 PK L1;go_wp2_with fail;exact mR ax.o.1 ax.o.2.1 ax.o.2.2 (by omega) (by omega) results65 rfl rfl
 ·have d1:(x1==x2)=false:=by simp[c1]
  simp only[if_neg c1];clear c1;by_cases c2:x1= -1
  ·have d2:(x1== -1)=true:=(by simp[c2]);simp only[if_pos c2];clear c2;go_in;go_wp2_with fail;refine(F1.o).mono ?_;rintro e w4 ⟨rfl,v4,h4,k4⟩;obtain⟨l2,l3,W3⟩:=PK.o;obtain⟨a0,a1,_,_⟩:=(l2.aX k4).cA;obtain⟨c0,c1,f0,f1⟩:=(l3.aX k4).cA;have ax:=ab (And.intro h4 (And.intro (W3.trans k4) (l3.aX k4)));clear l2 l3 h4 k4 W3 F1 PK L1;go_wp2_with fail;exact mR ax.o.1 ax.o.2.1 ax.o.2.2 (by omega) (by omega) results65 rfl rfl
  ·have d2:(x1== -1)=false:=(by simp[c2]);simp only[if_neg c2];clear c2;go_in;go_wp2_with fail;refine(F1.o).mono ?_;rintro e w4 ⟨rfl,v4,h4,k4⟩;obtain⟨l2,l3,W3⟩:=PK.o;obtain⟨a0,a1,_,_⟩:=(l2.aX k4).cA;have L4:=L1.o.aX k4;obtain⟨⟨b0,b1,b2,b3,b4,b5⟩,b6⟩:=L4.JW;simp only[Sv.yO]at b0 b1 b2 b3 b4 b5;have h5:=h4.set L4.not (by omega) 4 (.int .i64 x1);have W5:=(W3.trans k4).set (c:=w.heap.size) (Ab _) 4 (.int .i64 x1);have l5:=(l3.aX k4).a_ (d:=w.heap.size) (by omega) 4 (.int .i64 x1);have F2:=IA h5 (HS _ x1) (by simp;omega);simp only[Sv.val,Sv.cells,Sv.yO]at F2;have F2:=ab F2;have mN:=ab (And.intro W5 l5);clear l2 l3 h4 k4 W3 F1 PK L1 L4 h5 W5 l5;go_wp2_with fail;refine(F2.o).mono ?_;rintro e w6 ⟨rfl,v6,h6,k6⟩;obtain⟨W5,l5⟩:=mN.o;have l6:=l5.aX k6;obtain⟨c0,c1,f0,f1⟩:=l6.cA;have ax:=ab (And.intro h6 (And.intro (W5.trans k6) l6));clear h6 k6 W5 l5 l6 F2 mN;go_wp2_with fail;exact mR ax.o.1 ax.o.2.1 ax.o.2.2 (by omega) (by omega) results65 rfl rfl
def fa(lo hi:Nat)(w0 w:World):Prop:=∀i,lo<=i->i<hi->w.heap[i]? =w0.heap[i]?
theorem fa.refl(lo hi:Nat)(w:World):fa lo hi w w:=fun _ _ _=>rfl
theorem fa.alloc(h:fa lo hi w0 w)(hle:hi<=w.heap.size)(o:Obj):fa lo hi w0 (w.alloc o):=fun i h1 h2=>(Below.heap_alloc w o i (by omega)).trans (h i h1 h2)
theorem fa.aX(h:fa lo hi w0 w)(hB:dr w b lo hi v st)(k:ee b w w' v v'):fa lo hi w0 w':=fun i h1 h2=>by
 have:=hB.dQ;have:=hB.aj.lt;exact(k.kept.block i (by omega) (fun hx=>by have:=hB.au hx;omega)).trans (h i h1 h2)
theorem fa.set(h:fa lo hi w0 w)(hc:hi<=c)(j:Nat)(u:Value):fa lo hi w0 (w.setCell ⟨c,j,none⟩ u):=fun i h1 h2=>(Ct w ⟨c,j,none⟩ u i (by show i≠c;omega)).trans (h i h1 h2)
theorem fa.cell(h:fa lo hi w0 w){j:Nat}(h1:lo<=i)(h2:i<hi):w.cell? ⟨i,j,none⟩=w0.cell? ⟨i,j,none⟩:=Bz (w:=w0) (h i h1 h2)
def oT(w:World)(pb i:Nat)(N:Nv):Prop:=∀j,j<8->w.cell? ⟨pb,i*8+j,none⟩=N.cells[j]?
theorem oT.lX(h:oT w0 pb i N)(hs:fa lo hi w0 w)(h1:lo<=pb)(h2:pb<hi):oT w pb i N:=fun j hj=>(hs.cell h1 h2).trans (h j hj)
theorem oT.gZ(h:oT w pb i N):(w.cell? ⟨pb,i*8,none⟩=some (.int .i64 N.k)/\w.cell? ⟨pb,i*8+1,none⟩=some (.slice N.pa N.pn N.pc)/\w.cell? ⟨pb,i*8+2,none⟩=some (.slice N.sa N.sn N.sc)/\w.cell? ⟨pb,i*8+3,none⟩=some (.int .i64 N.ed))/\
 w.cell? ⟨pb,i*8+4,none⟩=some (.int .i64 N.gr)/\w.cell? ⟨pb,i*8+5,none⟩=some (.int .i64 N.lo)/\w.cell? ⟨pb,i*8+6,none⟩=some (.int .i64 N.hi)/\w.cell? ⟨pb,i*8+7,none⟩=some (.bool N.lz):=
 ⟨⟨h 0 (by omega),h 1 (by omega),h 2 (by omega),h 3 (by omega)⟩,h 4 (by omega),h 5 (by omega),h 6 (by omega),h 7 (by omega)⟩
theorem oT.zero(h:oT w pb 0 N):(w.cell? ⟨pb,0,none⟩=some (.int .i64 N.k)/\w.cell? ⟨pb,1,none⟩=some (.slice N.pa N.pn N.pc)/\w.cell? ⟨pb,2,none⟩=some (.slice N.sa N.sn N.sc)/\w.cell? ⟨pb,3,none⟩=some (.int .i64 N.ed))/\
 w.cell? ⟨pb,4,none⟩=some (.int .i64 N.gr)/\w.cell? ⟨pb,5,none⟩=some (.int .i64 N.lo)/\w.cell? ⟨pb,6,none⟩=some (.int .i64 N.hi)/\w.cell? ⟨pb,7,none⟩=some (.bool N.lz):=
 ⟨⟨h 0 (by omega),h 1 (by omega),h 2 (by omega),h 3 (by omega)⟩,h 4 (by omega),h 5 (by omega),h 6 (by omega),h 7 (by omega)⟩
def wJ(b lo hi:Nat)(w0:World)(q:Nv)(C:CT):Prop:=∀(W:World) (v:Value) (st:List MS) (x:Ex),dr W b lo hi v st->da st.length x->fa lo hi w0 W->st.length+4*C.sz.toNat<=9000->
 Calls prog 44 #[.pointer (some ⟨b,0,none⟩),Nv.val q,cJ x] W (l9 W b lo hi v (bu C st x).1 (cJ (bu C st x).2))
theorem gu.mark(w:World)(lo hi:Nat)(s:Int)(n:Int):gu w lo hi (Sv.yO ⟨3,none,0,0,0,s,0,0⟩ n) (iB s n):=⟨rfl,rfl,rfl,rfl,rfl,by simp[iB],fun e=>by simp[iB]at e⟩
theorem gu.qV(w:World)(lo hi:Nat)(s:Int)(n:Int):gu w lo hi (Sv.yO ⟨2,none,0,0,s,0,0,0⟩ n) (se s n):=⟨rfl,rfl,rfl,rfl,rfl,by simp[se],fun e=>by simp[se]at e⟩
theorem ak0{q:Nv}{C:CT}(h:dr w b lo hi v st)(x:Ex)(hx:da st.length x)(hS:fa lo hi w0 w)(dD:C.ok)(aP:C.sz<=1000)(hP:wJ b lo hi w0 N C)
 (mX:q.pa=some ⟨pb,0,none⟩)(iJ:q.pn=1)(dX:lo<=pb/\pb<hi)(hK:oT w pb 0 N)(dN:0<=q.gr/\q.gr<=300)(dw:st.length+4+4*C.sz.toNat<=9000):
 Calls prog 66 #[.pointer (some ⟨b,0,none⟩),Nv.val q,cJ x] w (l9 w b lo hi v
  (if q.gr=0 then bu C st x else fe (iB (2*(q.gr-1))) (bu C (fe (iB (2*(q.gr-1)+1)) st x).1 (fe (iB (2*(q.gr-1)+1)) st x).2).1 (bu C (fe (iB (2*(q.gr-1)+1)) st x).1 (fe (iB (2*(q.gr-1)+1)) st x).2).2).1
  (cJ (if q.gr=0 then bu C st x else fe (iB (2*(q.gr-1))) (bu C (fe (iB (2*(q.gr-1)+1)) st x).1 (fe (iB (2*(q.gr-1)+1)) st x).2).1 (bu C (fe (iB (2*(q.gr-1)+1)) st x).1 (fe (iB (2*(q.gr-1)+1)) st x).2).2).2)):=by
 have aw:=h.aj.lt;have dQ:=h.dQ;obtain⟨x1,x2⟩:=x;have jX:pb<w.heap.size:=by omega
 obtain⟨qk,gA,eH,fg,bS,cd,bT,bI,dc,dZ,dU,eD⟩:=q;simp only at mX iJ dN;subst mX iJ;have h1:=h.alloc (.cells #[.int .i64 qk,.slice (some ⟨pb,0,none⟩) 1 fg,.slice bS cd bT,.int .i64 bI,.int .i64 dc,.int .i64 dZ,.int .i64 dU,.bool eD] 64);have h2:=h1.alloc (.cells (aI (x1,x2)) 115);have h3:=h2.alloc (.cells (aI (0,0)) 115);have h4:=h3.alloc (.cells N.cells 64);have l1:=((bc.new h1 (aI (x1,x2)) 115).alloc (.cells (aI (0,0)) 115)).alloc (.cells N.cells 64);have l2:=(bc.new h2 (aI (0,0)) 115).alloc (.cells N.cells 64);have l3:=bc.new h3 N.cells 64;have W4:=((((ee.refl b w v).alloc (.cells #[.int .i64 qk,.slice (some ⟨pb,0,none⟩) 1 fg,.slice bS cd bT,.int .i64 bI,.int .i64 dc,.int .i64 dZ,.int .i64 dU,.bool eD] 64)).alloc (.cells (aI (x1,x2)) 115)).alloc (.cells (aI (0,0)) 115)).alloc (.cells N.cells 64);have S4:=(((hS.alloc (by omega) (.cells #[.int .i64 qk,.slice (some ⟨pb,0,none⟩) 1 fg,.slice bS cd bT,.int .i64 bI,.int .i64 dc,.int .i64 dZ,.int .i64 dU,.bool eD] 64)).alloc (by simp;omega) (.cells (aI (x1,x2)) 115)).alloc (by simp;omega) (.cells (aI (0,0)) 115)).alloc (by simp;omega) (.cells N.cells 64);have K3:=(hK.lX ((((fa.refl lo hi w).alloc (by omega) (.cells #[.int .i64 qk,.slice (some ⟨pb,0,none⟩) 1 fg,.slice bS cd bT,.int .i64 bI,.int .i64 dc,.int .i64 dZ,.int .i64 dU,.bool eD] 64)).alloc (by simp;omega) (.cells (aI (x1,x2)) 115)).alloc (by simp;omega) (.cells (aI (0,0)) 115)) dX.1 dX.2).zero;simp only[aI]at K3;obtain⟨⟨k0,k1,k2,k3⟩,k4,k5,k6,k7⟩:=K3;simp only[ij]at l1 l2 l3;simp only[Nv.val,Nv.cells,cJ];by_cases g0:dc=0
 ·have d1:(dc==0)=true:=by simp[g0]
  simp only[if_pos g0];have F1:=hP _ v st (x1,x2) h4 hx S4 (by omega);simp only[Nv.val,Nv.cells,cJ,aI]at F1;simp only[aI]at l2 W4;have F1:=ab F1;have PK:=ab (And.intro l2 W4);clear h h1 h2 h3 h4 l1 l2 l3 W4 S4 hS hK g0;go_in;go_wp2_with fail;refine(F1.o).mono ?_;rintro e w4 ⟨rfl,v4,h4,jm⟩;have l2:=PK.o.1.aX jm;obtain⟨c0,c1,f0,f1⟩:=l2.cA;have ax:=ab (And.intro h4 (And.intro (PK.o.2.trans jm) l2));clear l2 h4 jm F1 PK;go_wp2_with fail;exact mR ax.o.1 ax.o.2.1 ax.o.2.2 (by omega) (by omega) results66 rfl rfl
 ·have d1:(dc==0)=false:=by simp[g0]
  simp only[if_neg g0];have iz:=od C dD aP;have iW:=BS.mark (2*(dc-1)+1);have F1:=Wd h4 ⟨3,none,0,0,0,2*(dc-1)+1,0,0⟩ (iB (2*(dc-1)+1)) (fun W n=>gu.mark W lo hi _ n) (x1,x2) (by omega);have X1:=iW.fI st (x1,x2) hx;have N1:=iW.bJ st (x1,x2);generalize IX:fe (iB (2*(dc-1)+1)) st (x1,x2)=R1 at*;obtain⟨aC,y1,y2⟩:=R1;simp only at X1 N1;have X2:=iz.fI aC (y1,y2) X1;have N2:=iz.bJ aC (y1,y2);have G2:=iz.grow aC (y1,y2);simp only[Sv.val,Sv.cells,cJ,aI]at F1;simp only[aI]at l1 l2 l3 W4;have F1:=ab F1;have PK:=ab (And.intro (And.intro l1 (And.intro l2 l3)) (And.intro W4 (And.intro h4 S4)));have HP:=ab hP;clear h h1 h2 h3 h4 l1 l2 l3 W4 S4 hS hK g0 hP iz iW IX;have r1: -9223372036854775808<=2*(dc-1)/\2*(dc-1)+1<=9223372036854775807:=by omega
  go_in
  go_wp2_with fail
  refine(F1.o).mono ?_;rintro e w5 ⟨rfl,v5,h5,Jv⟩;obtain⟨⟨l1,l2,l3⟩,W4,h4,S4⟩:=PK.o;have S5:=S4.aX h4 Jv;have m1:=l1.aX Jv;have m2:=l2.aX Jv;have m3:=l3.aX Jv;have W5:=W4.trans Jv;have m1':=(m1.setCell 0 (.int .i64 y1)).setCell 1 (.int .i64 y2);have CH:=(m2.a_ (d:=w.heap.size+1) (by omega) 0 (.int .i64 y1)).a_ (d:=w.heap.size+1) (by omega) 1 (.int .i64 y2);have m3':=(m3.a_ (d:=w.heap.size+1) (by omega) 0 (.int .i64 y1)).a_ (d:=w.heap.size+1) (by omega) 1 (.int .i64 y2);have LP:=(h5.set m1.not (by omega) 0 (.int .i64 y1)).set m1.not (by omega) 1 (.int .i64 y2);have ZH:=(W5.set (c:=w.heap.size+1) (by omega) 0 (.int .i64 y1)).set (c:=w.heap.size+1) (by omega) 1 (.int .i64 y2);have Zs:=(S5.set (c:=w.heap.size+1) (by omega) 0 (.int .i64 y1)).set (c:=w.heap.size+1) (by omega) 1 (.int .i64 y2);obtain⟨c0,c1,f0,f1⟩:=m1.cA;obtain⟨e0,e1,e2,e3,e4,e5,e6,e7⟩:=m3.aj.gZ;have F2:=HP.o _ v5 aC (y1,y2) LP X1 Zs (by omega);simp only[Nv.val,Nv.cells,cJ]at F2;have F2:=ab F2;have mN:=ab (And.intro CH (And.intro ZH LP));clear l1 l2 l3 W4 h4 S4 Jv S5 m1 m2 m3 W5 m1' CH m3' LP ZH Zs h5 F1 PK HP;go_wp2_with fail;refine(F2.o).mono ?_;rintro e w6 ⟨rfl,v6,h6,V3⟩;obtain⟨m2,W5,h5⟩:=mN.o;have m6:=m2.aX V3;have W6:=W5.trans V3;have F3:=Wd h6 ⟨3,none,0,0,0,2*(dc-1),0,0⟩ (iB (2*(dc-1))) (fun W n=>gu.mark W lo hi _ n) (bu C aC (y1,y2)).2 (by omega);simp only[Sv.val,Sv.cells,cJ]at F3;have F3:=ab F3;have kh:=ab (And.intro m6 W6);clear m2 W5 h5 m6 W6 h6 V3 F2 mN;go_wp2_with fail;refine(F3.o).mono ?_;rintro e w7 ⟨rfl,v7,h7,GY⟩;obtain⟨m6,W6⟩:=kh.o;have m7:=m6.aX GY;obtain⟨c0,c1,f0,f1⟩:=m7.cA;have ax:=ab (And.intro h7 (And.intro (W6.trans GY) m7));clear m6 W6 m7 h7 GY F3 kh;go_wp2_with fail;exact mR ax.o.1 ax.o.2.1 ax.o.2.2 (by omega) (by omega) results66 rfl rfl
