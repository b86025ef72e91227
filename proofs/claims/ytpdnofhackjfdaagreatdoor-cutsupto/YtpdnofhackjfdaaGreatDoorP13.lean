/- What the states in their new order match; which of them come -/
import Derived.Test.YtpdnofhackjfdaaGreatDoorP12
set_option linter.all false
set_option maxRecDepth 100000
set_option maxHeartbeats 1000000
namespace Go.Proofs.YtpdnofhackjfdaaGreatDoor
open Go.Proofs.Tryz
variable {a:Act} {cs:Array Value} {f:Func} {M st:List MS} {m:MS} {b c hi i lo pb:Nat} {K R:Nat->Prop} {N:Nv} {t:TypeId} {V:VS} {v v' v1:Value} {W w w' w0 w1 w2:World}
def eR(ms:List MS):Prop:=∀(u:Nat) (m:MS),ms[u]? =some m->(0<=m.kind/\m.kind<=4)/\(m.kind=1->0<=m.next/\m.next<ms.length)/\(m.kind=2\/m.kind=3\/m.kind=4->0<=m.next/\m.next<u)/\(m.kind=4->0<=m.a_/\m.a_<u)
theorem y9{k s:Nat}(hk:V.aK[k]? =some s)(hm:M[s]? =some m):(sorted M V)[k]? =some {m with next:=V.num.getD m.next.toNat 0,a_:=V.num.getD m.a_.toNat 0}:=by
 unfold sorted;rw[Bv,hk];simp[Af,hm]
theorem aeJ(M:List MS)(V:VS):(sorted M V).length=V.aK.length:=by unfold sorted;simp
theorem xu{t:Nat}{u:Nat}(h:V.num[t]? =some (u:Int)):V.num.getD t 0=(u:Int):=by rw[Af,h];rfl
theorem anO{x:TX}(hV:jB M R V)(hS:Shut M R)
 (vF:∀t,(∃(s:Nat) (m:MS),s∈V.aK/\M[s]? =some m/\m.kind=1/\t=m.next.toNat)->∃u:Nat,V.num[t]? =some (u:Int)){s:Int}{gs:List Int}{r:iH}(h:cM M x s i gs r):
 ∀k:Nat,V.num[s.toNat]? =some (k:Int)->cM (sorted M V) x (k:Int) i gs r:=by
 have BR:∀{s k:Nat},V.num[s]? =some (k:Int)->V.aK[k]? =some s:=fun{s k} h=>by
  obtain⟨k',e,h'⟩:=hV.has s k h (by omega);have:k'=k:=by omega
  rw[<-this];exact h'
 have Nz:∀{s k:Nat} {m:MS} {t:Int},V.aK[k]? =some s->M[s]? =some m->tG M s t->∃k':Nat,V.num[t.toNat]? =some (k':Int):=fun h1 h2 h3=>by
  obtain⟨k',_,h'⟩:=(hV.next _ _ _ h1 h2).2 _ h3;exact⟨k',h'⟩
 induction h with
 |done s m i gs h hk=>intro k hn;exact cM.done _ _ _ _ (y9 (BR (by simpa using hn)) h) hk
 |jr s m i gs r h hk ht hn ih=>
  intro k rJ;have ho:=BR (s:=s) (by simpa using rJ);obtain⟨u,hu⟩:=vF m.next.toNat ⟨s,m,Ca ho,h,hk,rfl⟩
  exact cM.jr _ _ _ _ _ (y9 ho h) hk ht (by show cM _ _ (V.num.getD m.next.toNat 0) _ _ _;rw[xu hu];exact ih u hu)
 |iX s m i gs h hk ht=>intro k hn;exact cM.iX _ _ _ _ (y9 (BR (by simpa using hn)) h) hk ht
 |Rv s m i gs r h hk he hn ih=>
  intro k rJ;have ho:=BR (s:=s) (by simpa using rJ);obtain⟨u,hu⟩:=Nz (t:=m.next) ho h ⟨s,m,rfl,h,Or.inl ⟨Or.inl hk,rfl⟩⟩;exact cM.Rv _ _ _ _ _ (y9 ho h) hk he (by show cM _ _ (V.num.getD m.next.toNat 0) _ _ _;rw[xu hu];exact ih u hu)
 |Ru s m i gs h hk he=>intro k hn;exact cM.Ru _ _ _ _ (y9 (BR (by simpa using hn)) h) hk he
 |mark s m i gs r h hk hn ih=>
  intro k rJ;have ho:=BR (s:=s) (by simpa using rJ);obtain⟨u,hu⟩:=Nz (t:=m.next) ho h ⟨s,m,rfl,h,Or.inl ⟨Or.inr (Or.inl hk),rfl⟩⟩;exact cM.mark _ _ _ _ _ (y9 ho h) hk (by show cM _ _ (V.num.getD m.next.toNat 0) _ _ _;rw[xu hu];exact ih u hu)
 |zT s m i gs v h hk hn ih=>
  intro k rJ;have ho:=BR (s:=s) (by simpa using rJ);obtain⟨u,hu⟩:=Nz (t:=m.next) ho h ⟨s,m,rfl,h,Or.inl ⟨Or.inr (Or.inr hk),rfl⟩⟩;exact cM.zT _ _ _ _ _ (y9 ho h) hk (by show cM _ _ (V.num.getD m.next.toNat 0) _ _ _;rw[xu hu];exact ih u hu)
 |zS s m i gs r h hk hn AM ih uh=>
  intro k rJ;have ho:=BR (s:=s) (by simpa using rJ);obtain⟨u,hu⟩:=Nz (t:=m.next) ho h ⟨s,m,rfl,h,Or.inl ⟨Or.inr (Or.inr hk),rfl⟩⟩;obtain⟨u',Mt⟩:=Nz (t:=m.a_) ho h ⟨s,m,rfl,h,Or.inr ⟨hk,rfl⟩⟩;exact cM.zS _ _ _ _ _ (y9 ho h) hk (by show cM _ _ (V.num.getD m.next.toNat 0) _ _ _;rw[xu hu];exact ih u hu) (by show cM _ _ (V.num.getD m.a_.toNat 0) _ _ _;rw[xu Mt];exact uh u' Mt)
theorem anN(hV:jB M R V)(hS:Shut M R)(cV:∀m∈M,0<=m.kind/\m.kind<=4)
 (vF:∀t,(∃(s:Nat) (m:MS),s∈V.aK/\M[s]? =some m/\m.kind=1/\t=m.next.toNat)->∃u:Nat,V.num[t]? =some (u:Int)):eR (sorted M V):=by
 intro k m' fR;have aw:k<V.aK.length:=by rw[<-aeJ M V];exact(Ah.1 fR).1
 have ho:V.aK[k]? =some V.aK[k]:=Ae aw;obtain⟨m,hm,_⟩:=hS.cl _ (hV.Qv _ (A5 aw));rw[y9 ho hm]at fR
 cases fR;have bt:=hV.next k _ m ho hm
 refine⟨cV m (Ca hm),fun h1=>?_,fun h1=>?_,fun h1=>?_⟩
 ·obtain⟨u,hu⟩:=vF m.next.toNat ⟨_,m,A5 aw,hm,h1,rfl⟩
  simp only;rw[xu hu,aeJ];obtain⟨k',e,h'⟩:=hV.has _ _ hu (by omega);have:=(Ah.1 h').1;omega
 ·obtain⟨k',h2,h3⟩:=bt.2 m.next ⟨_,m,rfl,hm,Or.inl ⟨h1,rfl⟩⟩
  simp only;rw[xu h3];omega
 ·obtain⟨k',h2,h3⟩:=bt.2 m.a_ ⟨_,m,rfl,hm,Or.inr ⟨h1,rfl⟩⟩;simp only;rw[xu h3];omega
def afF(ms:List MS)(x:TX)(u:Int)(i:Nat):Prop:=∃gs v,cM ms x u i gs (some v)
noncomputable def off(ms:List MS)(x:TX)(u:Int)(i:Nat):Bool:=@decide (afF ms x u i) (Classical.propDecidable _)
open Go.RowKit Go.Maps
structure Sv where
 k:Int
 sa:Option Addr
 sn:Nat
 sc:Nat
 ed:Int
 sl:Int
 nx:Int
 ot:Int
def Sv.cells(q:Sv):Array Value:=#[.int .i64 q.k,.slice q.sa q.sn q.sc,.int .i64 q.ed,.int .i64 q.sl,.int .i64 q.nx,.int .i64 q.ot]
def Sv.val(q:Sv):Value:=.agg q.cells
def jt:List Sv->List Value
 | []=>[]
 |q::qs=>q.cells.toList++jt qs
theorem Sv.DL(q:Sv):q.cells.toList.length=6:=rfl
theorem aaX(a b:List Sv):jt (a++b)=jt a++jt b:=by
 induction a with
 |nil=>rfl
 |cons q qs ih=>simp[jt,ih]
theorem Pa(qs:List Sv)(i:Nat)(h:i<qs.length)(j:Nat)(hj:j<6):(jt qs)[i*6+j]? =(qs[i]).cells[j]? :=by
 induction qs generalizing i with
 |nil=>simp at h
 |cons q qs ih=>
  cases i with
  |zero=>
   simp only[jt,Ai];rw[A6 (by rw[Sv.DL];omega),show 0*6+j=j by omega];simp
  |succ i=>
   have:=ih i (by simpa using h);simp only[jt,Ag];rw[Bt (by rw[Sv.DL];omega),Sv.DL,show(i+1)*6+j-6=i*6+j by omega];exact this
theorem Sv.one(q:Sv):∀u∈q.cells.toList,u.oneCell'=true:=by
 intro u hu;simp[Sv.cells]at hu;rcases hu with rfl|rfl|rfl|rfl|rfl|rfl<;>rfl
structure gw(w:World)(lo hi:Nat)(s:Sv)(m:MS):Prop where
 k:s.k=m.kind
 ed:s.ed=m.eo
 sl:s.sl=m.slot
 nx:s.nx=m.next
 ot:s.ot=m.a_
 kr:0<=m.kind/\m.kind<=4
 set:m.kind=1->∃(S:bD) (bs:Nat),s.sn=S.length/\(S≠ []->s.sa=some ⟨bs,0,none⟩/\lo<=bs/\bs<hi)/\fV w bs S/\uX S m.sp m.fo m.nt/\dy S/\S.length<=6000
theorem gw.kept{s:Sv}(h:gw w lo hi s m)(k:aa K w w')(hs:∀i,lo<=i->i<hi->¬K i)(hle:hi<=w.heap.size):gw w' lo hi s m:=
 ⟨h.k,h.ed,h.sl,h.nx,h.ot,h.kr,fun e=>by
   obtain⟨S,bs,a1,a2,a3,a4⟩:=h.set e;refine⟨S,bs,a1,a2,fun i hi'=>?_,a4⟩;have az:S≠ []:=by intro e;subst e;simp at hi'
   obtain⟨_,b1,b2⟩:=a2 az;exact⟨(k.cell (p:=⟨bs,i*2,none⟩) (by show bs<_;omega) (hs bs b1 b2)).trans (a3 i hi').1,(k.cell (p:=⟨bs,i*2+1,none⟩) (by show bs<_;omega) (hs bs b1 b2)).trans (a3 i hi').2⟩⟩
structure dm(w:World)(b lo hi:Nat)(v:Value)(st:List MS):Prop where
 ak:aq w b #[v] 109
 row:∃vs:List Sv,w.ownsRow (b+1) 113 6 v st.length (jt vs)/\vs.length=st.length/\∀i,(h:i<vs.length)->(h':i<st.length)->gw w lo hi vs[i] st[i]
 dN:hi<=b
 bT:st.length<=10000
def Own(b:Nat)(v:Value):Nat->Prop:=fun i=>i=b\/v.ownBlock=some i
theorem dm.slice(h:dm w b lo hi v st):∃ao c,v=.slice ao st.length c:=by
 obtain⟨vs,h1,_⟩:=h.row;exact cA h1
theorem dm.block(h:dm w b lo hi v st)(hi':v.ownBlock=some i):b+1<=i/\i<w.heap.size:=by
 obtain⟨vs,h1,_⟩:=h.row;exact dw h1 hi'
theorem dm.au(h:dm w b lo hi v st)(hi':Own b v i):b<=i/\i<w.heap.size:=by
 rcases hi' with rfl|hi'
 ·exact⟨Ab _,h.ak.lt⟩
 ·have:=h.block hi';omega
theorem dm.kept(h:dm w b lo hi v st)(k:aa K w w')(hK:∀i,K i->¬Own b v i/\(i<lo\/hi<=i)):dm w' b lo hi v st where
 ak:=h.ak.kept k (fun hx=>(hK b hx).1 (Or.inl rfl))
 row:=by
  obtain⟨vs,h1,h2,h3⟩:=h.row;refine⟨vs,bR h1 k (fun i hi' hx=>(hK i hx).1 (Or.inr hi')),h2,fun i a1 a2=>(h3 i a1 a2).kept k (fun j j1 j2 hx=>by have:=(hK j hx).2;omega) (by have:=h.dN;have:=h.ak.lt;omega)⟩
 dN:=h.dN
 bT:=h.bT
theorem dm.new(h:dm w b lo hi v st)(k:aa af w w'):dm w' b lo hi v st:=h.kept k (fun i hx=>hx.elim)
structure dW(b:Nat)(w w':World)(v v':Value):Prop where
 kept:aa (Own b v) w w'
 ak:∀i,v'.ownBlock=some i->v.ownBlock=some i\/w.heap.size<=i
theorem dW.refl(b:Nat)(w:World)(v:Value):dW b w w v v:=⟨aa.refl _ _,fun i h=>Or.inl h⟩
theorem dW.trans{v2:Value}(h:dW b w w1 v v1)(h':dW b w1 w2 v1 v2):dW b w w2 v v2 where
 kept:=h.kept.bV h'.kept (fun i hi hx=>by
  rcases hx with rfl|hx
  ·exact Or.inl rfl
  ·rcases h.ak i hx with h1|h1
   ·exact Or.inr h1
   ·omega)
 ak i hi:=by
  have hs:=h.kept.size;rcases h'.ak i hi with h1|h1
  ·exact h.ak i h1
  ·right;omega
theorem dW.new(h:dW b w w1 v v1)(k:aa af w1 w2):dW b w w2 v v1:=⟨h.kept.bV k (fun i _ hx=>hx.elim),h.ak⟩
theorem dW.alloc(h:dW b w w1 v v1)(o:Obj):dW b w (w1.alloc o) v v1:=⟨h.kept.alloc o,h.ak⟩
theorem dW.apart(h:dW b w w' v v')(hc:c<w.heap.size)(hn:¬Own b v c):¬Own b v' c:=by
 intro hx;rcases hx with rfl|hx
 ·exact hn (Or.inl rfl)
 ·rcases h.ak c hx with h1|h1
  ·exact hn (Or.inr h1)
  ·omega
theorem dW.cells(h:dW b w w' v v')(hB:aq w c cs t)(hn:¬Own b v c):aq w' c cs t:=hB.kept h.kept hn
theorem Tryz.acg:(prog.info? 113).map (fun i=>(i.zero,i.size,i.bytes))=some (some (.agg #[.int .i64 0,.slice none 0 0,.int .i64 0,.int .i64 0,.int .i64 0,.int .i64 0]),6,64):=by kernel_rfl
theorem Rx{P:Program}{ops:Array Oper}{o:Oper}{K:Act->World->Prop}{Q:Exit->Act->World->Prop}{E:Prop}
 (hg:o.guard=none)(s x:Operand)(t:TypeId)(dY:o.op=.call {callee:=.builtin .append,args:=#[s,x],argTypes:=#[t,t]})
 (base:Nat)(e:TypeId)(i:TypeInfo)(z:Value)(size bytes:Nat)(ht:P.underlying t=some (.slice e))(hi:P.info? e=some i)(hz:i.zero=some z)(xi:i.size=size)(AF:i.bytes=bytes)(AZ:z.cells.size=size)(aS:0<size)
 (v:Value)(n:Nat)(xs:List Value)(hs:a.eval s=v)(bk:w.ownsRow base e size v n xs)
 (ad:Addr)(m c:Nat)(news:List Value)(hx:a.eval x=.slice (some ad) m c)(hl:news.length=m*size)(I1:∀j u,news[j]? =some u->w.cell? (ad.add j)=some u)(h1:∀u∈news,u.oneCell'=true)
 (zY:n+m<=maxLen)(AG:(n+m)*bytes<=140737488355328)(UA:base<=w.heap.size)
 (hK:∀v' w',w'.ownsRow base e size v' (n+m) (xs++news)->w.grownBy w' v.ownBlock->(v'.ownBlock=v.ownBlock\/v'.ownBlock=some w.heap.size)->K (a.put o.dst v') w'):
 if Region.wanted o (yielded ops a.tmps)=true then Oper.wp P o a w K Q else E:=by
 have hw:Region.wanted o (yielded ops a.tmps)=true:=by simp[Region.wanted,hg]
 rw[if_pos hw];obtain⟨v',w',hr,h2,h3,h4,h5⟩:=run_append_own_at (P:=P) w base t o.type e i z size bytes ht hi hz xi AF AZ aS v n xs bk ad m c news hl I1 h1 zY AG UA;unfold Oper.wp;simp[execOp,dY,resolve,invoke,builtin,hs,hx,hr,Result.andThen];exact hK v' w' h2 h3 h5
theorem dm.eN{w7:World}{ao c n:Nat}(h:dm w b lo hi v st){s:Sv}(hs:gw w lo hi s m)(dh:st.length<10000){vs:List Sv}(dL:w.ownsRow (b+1) 113 6 v st.length (jt vs))(cT:vs.length=st.length)
 (pd:∀i,(h:i<vs.length)->(h':i<st.length)->gw w lo hi vs[i] st[i])(k0:aa af w W)
 (bG:w7.ownsRow (b+1) 113 6 v' (st.length+1) (jt vs++s.cells.toList))(bY:W.grownBy w7 v.ownBlock)(cx:v'.ownBlock=v.ownBlock\/v'.ownBlock=some W.heap.size):
 aq w7 b #[v] 109/\dm (w7.setCell ⟨b,0,none⟩ v') b lo hi v' (st++[m])/\dW b w (w7.setCell ⟨b,0,none⟩ v') v v':=by
 have aw:=h.ak.lt;have Vs:=k0.size;have k7:aa (fun i=>v.ownBlock=some i) w w7:=(k0.mono (fun i hx=>hx.elim)).eN bY (fun j hj=>Or.inl hj);have vB:v.ownBlock≠some b:=fun e=>by have:=dw dL e;omega
 have b7:aq w7 b #[v] 109:=h.ak.kept k7 vB;have aqg:=k7.size
 have lM:∀i,v'.ownBlock=some i->v.ownBlock=some i\/w.heap.size<=i:=by
  intro i hi';rcases cx with hl|hl
  ·exact Or.inl (hl▸hi')
  ·rw[hl]at hi';cases hi';right;omega
 have Qp:v'.ownBlock≠some b:=fun e=>by
  rcases lM b e with h1|h1
  ·exact vB h1
  ·omega
 have b8:aq (w7.setCell ⟨b,0,none⟩ v') b #[v'] 109:=b7.setCell 0 v';have k8:aa (Own b v) w (w7.setCell ⟨b,0,none⟩ v'):=aa.setCell (S:=Own b v) (k7.mono (S':=Own b v) (fun i hi'=>Or.inr hi')) (p:=⟨b,0,none⟩) (Or.inl (Or.inl rfl)) _
 have o8:(w7.setCell ⟨b,0,none⟩ v').ownsRow (b+1) 113 6 v' (st++[m]).length (jt (vs++[s])):=by
  have h1:(jt (vs++[s]))=jt vs++s.cells.toList:=by rw[aaX];simp[jt]
  rw[h1,Aj];exact bR bG ((aa.refl (fun i=>i=b) w7).setCell (p:=⟨b,0,none⟩) (Or.inl rfl) v') (fun i hi' e=>Qp (e▸hi'))
 have dN:=h.dN;have abS:∀i,lo<=i->i<hi->¬Own b v i:=fun i h1 h2 hx=>by have:=h.au hx;omega
 refine⟨b7,?_,⟨k8,lM⟩⟩;refine⟨b8,⟨vs++[s],o8,by simp[cT],fun i h1 h2=>?_⟩,dN,by simp;omega⟩;by_cases jH:i<st.length
 ·have e1:(vs++[s])[i]=vs[i]'(by omega):=Cw _;have e2:(st++[m])[i]=st[i]:=Cw _;rw[e1,e2];exact(pd i (by omega) jH).kept k8 abS (by omega)
 ·have e:i=st.length:=by simp at h2;omega
  subst e;have e1:(vs++[s])[st.length]=s:=by simp[<-cT]
  have e2:(st++[m])[st.length]=m:=by simp
  rw[e1,e2];exact hs.kept k8 abS (by omega)
theorem aeZ(q:Sv)(j:Nat)(u:Value)(h:q.cells.toList[j]? =some u):(w.alloc (.cells q.cells 113)).cell? (Addr.add ⟨w.heap.size,0,none⟩ j)=some u:=uy w q.cells 113 j u h
theorem Ik(h:dm w b lo hi v st){s:Sv}(hs:gw w lo hi s m)(dh:st.length<10000):
 Calls prog 43 #[.pointer (some ⟨b,0,none⟩),Sv.val s] w fun e w'=>e=.returned (.int .i64 st.length)/\∃v',dm w' b lo hi v' (st++[m])/\dW b w w' v v':=by
 obtain⟨i0,cP,di,dj,cY⟩:=Bo Tryz.acg;obtain⟨ao,c,hv⟩:=h.slice;have aw:=h.ak.lt;obtain⟨vs,dL,cT,pd⟩:=h.row;have c0:w.cell? ⟨b,0,none⟩=some v:=h.ak.cell 0;have f0:=h.ak.frozen 0;have HR:Hid (∀W,aa af w W->W.ownsRow (b+1) 113 6 v st.length (jt vs)):=fun W k=>bR dL k (fun i _ hx=>hx)
 have GR:Hid (∀W w7 v',aa af w W->w7.ownsRow (b+1) 113 6 v' (st.length+1) (jt vs++s.cells.toList)->W.grownBy w7 v.ownBlock->(v'.ownBlock=v.ownBlock\/v'.ownBlock=some W.heap.size)->aq w7 b #[v] 109/\dm (w7.setCell ⟨b,0,none⟩ v') b lo hi v' (st++[m])/\dW b w (w7.setCell ⟨b,0,none⟩ v') v v'):=
  fun W w7 v' k h1 h2 h3=>h.eN (ao:=0) (c:=0) (n:=0) hs dh dL cT pd k h1 h2 h3
 have NW:Hid (∀j u,s.cells.toList[j]? =some u->(((w.alloc (.cells s.cells 113)).alloc (.cells s.cells 113)).drew).cell? (Addr.add ⟨w.heap.size+1,0,none⟩ j)=some u):=by
  intro j u hu;have:=aeZ (w:=w.alloc (.cells s.cells 113)) s j u hu;simpa using this
 clear h hs pd dL;subst hv;simp only[Sv.val,Sv.cells];go_in;go_wp2_with fail;go_region_law (refine Rx rfl (.tmp 9) (.tmp 11) 71 rfl (b+1) 113 i0 _ 6 64 underlying71 cP di dj cY rfl (by decide) _ _ _ rfl (HR.out _ (by repeat first|exact aa.refl _ _|apply aa.alloc|apply aa.drew|apply aa.drewN)) ⟨w.heap.size+1,0,none⟩ 1 1 s.cells.toList rfl rfl NW.out s.one (by unfold maxLen;omega) (by omega) (by simp;omega) ?_;intro v' w7 ho hg hl;obtain⟨jd,c',rfl⟩:=cA ho;obtain⟨b7,fZ,aY⟩:=GR.out _ _ _ (by repeat first|exact aa.refl _ _|apply aa.alloc|apply aa.drew|apply aa.drewN) ho hg hl;have c7:w7.cell? ⟨b,0,none⟩=some (.slice ao st.length c):=b7.cell 0;have f7:w7.frozen? ⟨b,0,none⟩=false:=b7.frozen 0)
 all_goals
  clear HR GR NW;go_wp2_with fail;go_ret;exact⟨rfl,_,fZ,aY⟩
theorem ib(w:World)(o:Obj):(w.alloc o).heap.size=w.heap.size+1:=by simp
theorem ab{p:Prop}(h:p):Hid p:=h
def cG(x:Ex):Value:=.agg #[.int .i64 x.1,.int .i64 x.2]
def lY(w:World)(b lo hi:Nat)(v:Value)(kX:List MS)(r:Value):Ending->World->Prop:=fun e w'=>e=.returned r/\∃v',dm w' b lo hi v' kX/\dW b w w' v v'
theorem gw.lJ(w:World)(lo hi:Nat)(a b:Int):gw w lo hi ⟨4,none,0,0,0,0,a,b⟩ (j_ a b):=⟨rfl,rfl,rfl,rfl,rfl,by simp[j_],fun e=>by simp[j_]at e⟩
def aI(x:Ex):Array Value:=#[.int .i64 x.1,.int .i64 x.2]
structure bc(w:World)(b:Nat)(v:Value)(c:Nat)(cs:Array Value)(t:TypeId):Prop where
 ak:aq w c cs t
 not:¬Own b v c
theorem bc.aY(h:bc w b v c cs t)(k:dW b w w' v v'):bc w' b v' c cs t:=⟨k.cells h.ak h.not,k.apart h.ak.lt h.not⟩
theorem dm.fresh(h:dm w b lo hi v st)(hc:w.heap.size<=c):¬Own b v c:=fun hx=>by have:=h.au hx;omega
theorem bc.new(h:dm w b lo hi v st)(cs:Array Value)(t:TypeId):bc (w.alloc (.cells cs t)) b v w.heap.size cs t:=⟨aq.new w cs t,h.fresh (Ab _)⟩
theorem bc.alloc(h:bc w b v c cs t)(o:Obj):bc (w.alloc o) b v c cs t:=⟨h.ak.alloc o,h.not⟩
theorem bc.setCell(h:bc w b v c cs t)(i:Nat)(u:Value):bc (w.setCell ⟨c,i,none⟩ u) b v c (cs.setIfInBounds i u) t:=⟨h.ak.setCell i u,h.not⟩
theorem bc.a_(h:bc w b v c cs t){d:Nat}(hd:c≠d)(i:Nat)(u:Value):bc (w.setCell ⟨d,i,none⟩ u) b v c cs t:=⟨h.ak.Ns hd u,h.not⟩
theorem dm.set(h:dm w b lo hi v st)(hc:¬Own b v c)(AB:b<=c)(j:Nat)(u:Value):dm (w.setCell ⟨c,j,none⟩ u) b lo hi v st:=
 h.kept ((aa.refl (fun i=>i=c) w).setCell (p:=⟨c,j,none⟩) (Or.inl rfl) u) (fun i hi'=>by subst hi';exact⟨hc,Or.inr (by have:=h.dN;omega)⟩)
theorem dm.alloc(h:dm w b lo hi v st)(o:Obj):dm (w.alloc o) b lo hi v st:=h.new ((aa.refl _ _).alloc o)
theorem dW.set(h:dW b w w1 v v1)(hc:w.heap.size<=c)(j:Nat)(u:Value):dW b w (w1.setCell ⟨c,j,none⟩ u) v v1:=⟨h.kept.setCell (p:=⟨c,j,none⟩) (Or.inr hc) u,h.ak⟩
theorem aaS{Q:Ending->World->Prop}{x:Ex}(mj:f.results=#[ResultVar.cell i 115])(sY:a.tmps.getD i undef=.pointer (some ⟨c,0,none⟩))(hd:a.defers=[])
 (hb:aq W c (aI x) 115)(hQ:Q (.returned (cG x)) W):bodyPost prog f Q Exit.ret a W:=by
 have r0:W.cell? ⟨c,0,none⟩=some (.int .i64 x.1):=hb.cell 0;have r1:W.cell? ⟨c,1,none⟩=some (.int .i64 x.2):=hb.cell 1;have gi:a.tmps[i]?.getD undef=.pointer (some ⟨c,0,none⟩):=by simpa using sY
 exact Bj (v:=cG x) (by simp[results,mj,go_sem,gi,r0,r1,cG]) hd hQ
theorem TQ(h:dm w b lo hi v st)(x y:Int)(dh:st.length<10000):
 Calls prog 119 #[.pointer (some ⟨b,0,none⟩),.int .i64 x,.int .i64 y] w (lY w b lo hi v (dH st x y).1 (.int .i64 (dH st x y).2)):=by
 unfold lY dH;by_cases hx:x= -1
 ·have hb:(x== -1)=true:=by simp[hx]
  simp only[if_pos hx];clear hx;go_in;go_wp2_with fail;go_ret;exact⟨rfl,v,h.new (aa.refl _ _),dW.refl _ _ _⟩
 ·have hb:(x== -1)=false:=by simp[hx]
  simp only[if_neg hx];by_cases hy:y= -1
  ·have od:(y== -1)=true:=(by simp[hy]);simp only[if_pos hy];clear hy hx;go_in;go_wp2_with fail;go_ret;exact⟨rfl,v,h.new (aa.refl _ _),dW.refl _ _ _⟩
  ·have od:(y== -1)=false:=(by simp[hy]);simp only[if_neg hy];have Sa:=Ik h (gw.lJ w lo hi x y) dh;simp only[Sv.val,Sv.cells]at Sa;have HA:=ab Sa;clear Sa;clear hy hx h;go_in;go_wp2_with fail;refine(HA.out).mono ?_;rintro e w1 ⟨rfl,v1,h1,k1⟩;go_wp2_with fail;go_ret;exact⟨rfl,v1,h1,k1⟩
theorem mI{w4:World}{v4:Value}{Nu:List MS}{r1 r2 z1 z2:Int}(a1:dm w4 b lo hi v4 Nu)(a2:dW b w w4 v v4)(a3:bc w4 b v4 c #[.int .i64 z1,.int .i64 z2] 115)(hc:w.heap.size<=c)(AB:b<=c)
 (mj:f.results=#[ResultVar.cell i 115])(sY:a.tmps.getD i undef=.pointer (some ⟨c,0,none⟩))(hd:a.defers=[]):
 bodyPost prog f (lY w b lo hi v Nu (cG (r1,r2))) Exit.ret a ((w4.setCell ⟨c,0,none⟩ (.int .i64 r1)).setCell ⟨c,1,none⟩ (.int .i64 r2)):=by
 refine aaS mj sY hd (x:=(r1,r2)) ?_ ?_
 ·exact((a3.setCell 0 (.int .i64 r1)).setCell 1 (.int .i64 r2)).ak
 ·exact⟨rfl,v4,(a1.set a3.not AB 0 _).set a3.not AB 1 _,(a2.set hc 0 _).set hc 1 _⟩
theorem bc.cE{p q:Int}(h:bc w b v c #[.int .i64 p,.int .i64 q] t):w.cell? ⟨c,0,none⟩=some (.int .i64 p)/\w.cell? ⟨c,1,none⟩=some (.int .i64 q)/\w.frozen? ⟨c,0,none⟩=false/\w.frozen? ⟨c,1,none⟩=false:=⟨h.ak.cell 0,h.ak.cell 1,h.ak.frozen 0,h.ak.frozen 1⟩
theorem TT(h:dm w b lo hi v st)(x y:Ex)(dh:st.length+2<=10000):
 Calls prog 94 #[.pointer (some ⟨b,0,none⟩),cG x,cG y] w (lY w b lo hi v (gE st x y).1 (cG (gE st x y).2)):=by
 have aw:=h.ak.lt;have g1:=tN st x.2 y.2;obtain⟨x1,x2⟩:=x;obtain⟨y1,y2⟩:=y;simp only at g1;have l1:=((bc.new h (aI (x1,x2)) 115).alloc (.cells (aI (y1,y2)) 115)).alloc (.cells (aI (0,0)) 115);have h1:=h.alloc (.cells (aI (x1,x2)) 115);have l2:=(bc.new h1 (aI (y1,y2)) 115).alloc (.cells (aI (0,0)) 115);have h2:=h1.alloc (.cells (aI (y1,y2)) 115);have l3:=bc.new h2 (aI (0,0)) 115;have h3:=h2.alloc (.cells (aI (0,0)) 115);have W3:=(((dW.refl b w v).alloc (.cells (aI (x1,x2)) 115)).alloc (.cells (aI (y1,y2)) 115)).alloc (.cells (aI (0,0)) 115);have F1:=ab (TQ h3 x2 y2 (by omega));simp only[aI,ib]at l1 l2 l3 h3 W3 F1;clear h h1 h2;simp only[cG];unfold gE;simp only;by_cases c:x1=x2/\y1=y2
 ·have d1:(x1==x2)=true:=by simp[c.1]
  have d2:(y1==y2)=true:=by simp[c.2]
  simp only[if_pos c];clear c;go_in;go_wp2_with fail;refine(F1.out).mono ?_;rintro e w4 ⟨rfl,v4,h4,k4⟩;obtain⟨m1,m2,m3⟩:=And.intro (l1.aY k4) (And.intro (l2.aY k4) (l3.aY k4));have k5:=W3.trans k4;obtain⟨a0,a1,_,_⟩:=m1.cE;obtain⟨b0,b1,_,_⟩:=m2.cE;obtain⟨c0,c1,f0,f1⟩:=m3.cE;have ax:=ab (And.intro h4 (And.intro k5 m3));clear l1 l2 l3 h3 F1 m1 m2 m3 h4 k4 k5 W3;go_wp2_with fail;exact mI ax.out.1 ax.out.2.1 ax.out.2.2 (by omega) (by omega) results94 rfl rfl
 ·simp only[if_neg c];have g2:=tN (dH st x2 y2).1 x1 y1;by_cases e1:x1=x2
  ·have e2:y1≠y2:=(fun e=>c ⟨e1,e⟩);have d1:(x1==x2)=true:=(by simp[e1]);have d2:(y1==y2)=false:=(by simp[e2]);clear c e1 e2;go_in;go_wp2_with fail;refine(F1.out).mono ?_;rintro e w4 ⟨rfl,v4,h4,k4⟩;obtain⟨m1,m2,m3⟩:=And.intro (l1.aY k4) (And.intro (l2.aY k4) (l3.aY k4));have k5:=W3.trans k4;obtain⟨a0,a1,_,_⟩:=m1.cE;obtain⟨b0,b1,_,_⟩:=m2.cE;have F2:=ab (TQ h4 x1 y1 (by omega));have ax:=ab (And.intro k5 m3);clear l1 l2 l3 h3 F1 m1 m2 m3 h4 k4 k5 W3;go_wp2_with fail;refine(F2.out).mono ?_;rintro e w6 ⟨rfl,v6,h6,k6⟩;have m6:=ax.out.2.aY k6;obtain⟨c0,c1,f0,f1⟩:=m6.cE;have uF:=ab (And.intro h6 (And.intro (ax.out.1.trans k6) m6));clear h6 k6 m6 ax F2;go_wp2_with fail;exact mI uF.out.1 uF.out.2.1 uF.out.2.2 (by omega) (by omega) results94 rfl rfl
  ·have d1:(x1==x2)=false:=(by simp[e1]);clear c e1;go_in;go_wp2_with fail;refine(F1.out).mono ?_;rintro e w4 ⟨rfl,v4,h4,k4⟩;obtain⟨m1,m2,m3⟩:=And.intro (l1.aY k4) (And.intro (l2.aY k4) (l3.aY k4));have k5:=W3.trans k4;obtain⟨a0,a1,_,_⟩:=m1.cE;obtain⟨b0,b1,_,_⟩:=m2.cE;have F2:=ab (TQ h4 x1 y1 (by omega));have ax:=ab (And.intro k5 m3);clear l1 l2 l3 h3 F1 m1 m2 m3 h4 k4 k5 W3;go_wp2_with fail;refine(F2.out).mono ?_;rintro e w6 ⟨rfl,v6,h6,k6⟩;have m6:=ax.out.2.aY k6;obtain⟨c0,c1,f0,f1⟩:=m6.cE;have uF:=ab (And.intro h6 (And.intro (ax.out.1.trans k6) m6));clear h6 k6 m6 ax F2;go_wp2_with fail;exact mI uF.out.1 uF.out.2.1 uF.out.2.2 (by omega) (by omega) results94 rfl rfl
theorem aaG(h:dm w b lo hi v st)(lz:Bool)(x y:Ex)(dh:st.length+2<=10000):
 Calls prog 120 #[.pointer (some ⟨b,0,none⟩),.bool lz,cG x,cG y] w (lY w b lo hi v (dg lz st x y).1 (cG (dg lz st x y).2)):=by
 have aw:=h.ak.lt;obtain⟨x1,x2⟩:=x;obtain⟨y1,y2⟩:=y;have l1:=((bc.new h (aI (x1,x2)) 115).alloc (.cells (aI (y1,y2)) 115)).alloc (.cells (aI (0,0)) 115);have h1:=h.alloc (.cells (aI (x1,x2)) 115);have l2:=(bc.new h1 (aI (y1,y2)) 115).alloc (.cells (aI (0,0)) 115);have h2:=h1.alloc (.cells (aI (y1,y2)) 115);have l3:=bc.new h2 (aI (0,0)) 115;have h3:=h2.alloc (.cells (aI (0,0)) 115);have W3:=(((dW.refl b w v).alloc (.cells (aI (x1,x2)) 115)).alloc (.cells (aI (y1,y2)) 115)).alloc (.cells (aI (0,0)) 115);have F1:=TT h3 (x1,x2) (y1,y2) (by omega);have F2:=TT h3 (y1,y2) (x1,x2) (by omega);simp only[aI,cG,ib]at l1 l2 l3 h3 W3 F1 F2;have F1:=ab F1;have F2:=ab F2;clear h h1 h2;simp only[cG];unfold dg
 cases lz
 ·simp only[Aq,if_false];go_in;go_wp2_with fail;refine(F1.out).mono ?_;rintro e w4 ⟨rfl,v4,h4,k4⟩;obtain⟨c0,c1,f0,f1⟩:=(l3.aY k4).cE;have ax:=ab (And.intro h4 (And.intro (W3.trans k4) (l3.aY k4)));clear l1 l2 l3 h3 F1 F2 h4 k4 W3;go_wp2_with fail;exact mI ax.out.1 ax.out.2.1 ax.out.2.2 (by omega) (by omega) results120 rfl rfl
 ·simp only[if_true];go_in;go_wp2_with fail;refine(F2.out).mono ?_;rintro e w4 ⟨rfl,v4,h4,k4⟩;obtain⟨c0,c1,f0,f1⟩:=(l3.aY k4).cE;have ax:=ab (And.intro h4 (And.intro (W3.trans k4) (l3.aY k4)));clear l1 l2 l3 h3 F1 F2 h4 k4 W3;go_wp2_with fail;exact mI ax.out.1 ax.out.2.1 ax.out.2.2 (by omega) (by omega) results120 rfl rfl
def Sv.yO(s:Sv)(n:Int):Sv:={s with nx:=n}
theorem bc.JE{s:Sv}(h:bc w b v c s.cells t):(w.cell? ⟨c,0,none⟩=some (.int .i64 s.k)/\w.cell? ⟨c,1,none⟩=some (.slice s.sa s.sn s.sc)/\w.cell? ⟨c,2,none⟩=some (.int .i64 s.ed)/\w.cell? ⟨c,3,none⟩=some (.int .i64 s.sl)/\w.cell? ⟨c,4,none⟩=some (.int .i64 s.nx)/\w.cell? ⟨c,5,none⟩=some (.int .i64 s.ot))/\w.frozen? ⟨c,4,none⟩=false:=
 ⟨⟨h.ak.cell 0,h.ak.cell 1,h.ak.cell 2,h.ak.cell 3,h.ak.cell 4,h.ak.cell 5⟩,h.ak.frozen 4⟩
theorem VW(h:dm w b lo hi v st)(s:Sv)(mk:Int->MS)(HS:∀W n,gw W lo hi (s.yO n) (mk n))(x:Ex)(dh:st.length+2<=10000):
 Calls prog 65 #[.pointer (some ⟨b,0,none⟩),Sv.val s,cG x] w (lY w b lo hi v (eZ mk st x).1 (cG (eZ mk st x).2)):=by
 have aw:=h.ak.lt;obtain⟨x1,x2⟩:=x;have l1':=(((bc.new h (s.yO x2).cells 113).alloc (.cells (aI (x1,x2)) 115)).alloc (.cells (aI (0,0)) 115));have h1:=h.alloc (.cells (s.yO x2).cells 113);have VP:=(bc.new h1 (aI (x1,x2)) 115).alloc (.cells (aI (0,0)) 115);have h2:=h1.alloc (.cells (aI (x1,x2)) 115);have VQ:=bc.new h2 (aI (0,0)) 115;have yn:=h2.alloc (.cells (aI (0,0)) 115);have ZI:=(((dW.refl b w v).alloc (.cells (s.yO x2).cells 113)).alloc (.cells (aI (x1,x2)) 115)).alloc (.cells (aI (0,0)) 115);have F1:=Ik yn (HS _ x2) (by omega);simp only[aI,ib]at VP VQ;simp only[Sv.val,Sv.cells,Sv.yO,aI]at F1;clear h h1 h2;have F1:=ab F1;have L1:=ab l1';have PK:=ab (And.intro VP (And.intro VQ ZI));clear l1' VP VQ yn ZI;simp only[cG,Sv.val,Sv.cells];unfold eZ;simp only;by_cases c1:x1=x2
 ·have d1:(x1==x2)=true:=by simp[c1]
  simp only[if_pos c1];clear c1;go_in;go_wp2_with fail;refine(F1.out).mono ?_;rintro e w4 ⟨rfl,v4,h4,k4⟩;obtain⟨l2,l3,W3⟩:=PK.out;obtain⟨a0,a1,_,_⟩:=(l2.aY k4).cE;obtain⟨c0,c1,f0,f1⟩:=(l3.aY k4).cE;have ax:=ab (And.intro h4 (And.intro (W3.trans k4) (l3.aY k4)));clear l2 l3 h4 k4 W3 F1 PK L1;go_wp2_with fail;exact mI ax.out.1 ax.out.2.1 ax.out.2.2 (by omega) (by omega) results65 rfl rfl
 ·have d1:(x1==x2)=false:=by simp[c1]
  simp only[if_neg c1];clear c1;by_cases c2:x1= -1
  ·have d2:(x1== -1)=true:=(by simp[c2]);simp only[if_pos c2];clear c2;go_in;go_wp2_with fail;refine(F1.out).mono ?_;rintro e w4 ⟨rfl,v4,h4,k4⟩;obtain⟨l2,l3,W3⟩:=PK.out;obtain⟨a0,a1,_,_⟩:=(l2.aY k4).cE;obtain⟨c0,c1,f0,f1⟩:=(l3.aY k4).cE;have ax:=ab (And.intro h4 (And.intro (W3.trans k4) (l3.aY k4)));clear l2 l3 h4 k4 W3 F1 PK L1;go_wp2_with fail;exact mI ax.out.1 ax.out.2.1 ax.out.2.2 (by omega) (by omega) results65 rfl rfl
  ·have d2:(x1== -1)=false:=(by simp[c2]);simp only[if_neg c2];clear c2;go_in;go_wp2_with fail;refine(F1.out).mono ?_;rintro e w4 ⟨rfl,v4,h4,k4⟩;obtain⟨l2,l3,W3⟩:=PK.out;obtain⟨a0,a1,_,_⟩:=(l2.aY k4).cE;have L4:=L1.out.aY k4;obtain⟨⟨b0,b1,b2,b3,b4,b5⟩,b6⟩:=L4.JE;simp only[Sv.yO]at b0 b1 b2 b3 b4 b5;have h5:=h4.set L4.not (by omega) 4 (.int .i64 x1);have W5:=(W3.trans k4).set (c:=w.heap.size) (Ab _) 4 (.int .i64 x1);have l5:=(l3.aY k4).a_ (d:=w.heap.size) (by omega) 4 (.int .i64 x1);have F2:=Ik h5 (HS _ x1) (by simp;omega);simp only[Sv.val,Sv.cells,Sv.yO]at F2;have F2:=ab F2;have mF:=ab (And.intro W5 l5);clear l2 l3 h4 k4 W3 F1 PK L1 L4 h5 W5 l5;go_wp2_with fail;refine(F2.out).mono ?_;rintro e w6 ⟨rfl,v6,h6,k6⟩;obtain⟨W5,l5⟩:=mF.out;have l6:=l5.aY k6;obtain⟨c0,c1,f0,f1⟩:=l6.cE;have ax:=ab (And.intro h6 (And.intro (W5.trans k6) l6));clear h6 k6 W5 l5 l6 F2 mF;go_wp2_with fail;exact mI ax.out.1 ax.out.2.1 ax.out.2.2 (by omega) (by omega) results65 rfl rfl
def eY(lo hi:Nat)(w0 w:World):Prop:=∀i,lo<=i->i<hi->w.heap[i]? =w0.heap[i]?
theorem eY.refl(lo hi:Nat)(w:World):eY lo hi w w:=fun _ _ _=>rfl
theorem eY.alloc(h:eY lo hi w0 w)(hle:hi<=w.heap.size)(o:Obj):eY lo hi w0 (w.alloc o):=fun i h1 h2=>(Below.heap_alloc w o i (by omega)).trans (h i h1 h2)
theorem eY.aY(h:eY lo hi w0 w)(hB:dm w b lo hi v st)(k:dW b w w' v v'):eY lo hi w0 w':=fun i h1 h2=>by
 have:=hB.dN;have:=hB.ak.lt;exact(k.kept.block i (by omega) (fun hx=>by have:=hB.au hx;omega)).trans (h i h1 h2)
theorem eY.set(h:eY lo hi w0 w)(hc:hi<=c)(j:Nat)(u:Value):eY lo hi w0 (w.setCell ⟨c,j,none⟩ u):=fun i h1 h2=>(Cr w ⟨c,j,none⟩ u i (by show i≠c;omega)).trans (h i h1 h2)
theorem eY.cell(h:eY lo hi w0 w){j:Nat}(h1:lo<=i)(h2:i<hi):w.cell? ⟨i,j,none⟩=w0.cell? ⟨i,j,none⟩:=Bz (w:=w0) (h i h1 h2)
def oM(w:World)(pb i:Nat)(N:Nv):Prop:=∀j,j<8->w.cell? ⟨pb,i*8+j,none⟩=N.cells[j]?
theorem oM.lU(h:oM w0 pb i N)(hs:eY lo hi w0 w)(h1:lo<=pb)(h2:pb<hi):oM w pb i N:=fun j hj=>(hs.cell h1 h2).trans (h j hj)
theorem oM.gZ(h:oM w pb i N):(w.cell? ⟨pb,i*8,none⟩=some (.int .i64 N.k)/\w.cell? ⟨pb,i*8+1,none⟩=some (.slice N.pa N.pn N.pc)/\w.cell? ⟨pb,i*8+2,none⟩=some (.slice N.sa N.sn N.sc)/\w.cell? ⟨pb,i*8+3,none⟩=some (.int .i64 N.ed))/\
 w.cell? ⟨pb,i*8+4,none⟩=some (.int .i64 N.gr)/\w.cell? ⟨pb,i*8+5,none⟩=some (.int .i64 N.lo)/\w.cell? ⟨pb,i*8+6,none⟩=some (.int .i64 N.hi)/\w.cell? ⟨pb,i*8+7,none⟩=some (.bool N.lz):=
 ⟨⟨h 0 (by omega),h 1 (by omega),h 2 (by omega),h 3 (by omega)⟩,h 4 (by omega),h 5 (by omega),h 6 (by omega),h 7 (by omega)⟩
theorem oM.zero(h:oM w pb 0 N):(w.cell? ⟨pb,0,none⟩=some (.int .i64 N.k)/\w.cell? ⟨pb,1,none⟩=some (.slice N.pa N.pn N.pc)/\w.cell? ⟨pb,2,none⟩=some (.slice N.sa N.sn N.sc)/\w.cell? ⟨pb,3,none⟩=some (.int .i64 N.ed))/\
 w.cell? ⟨pb,4,none⟩=some (.int .i64 N.gr)/\w.cell? ⟨pb,5,none⟩=some (.int .i64 N.lo)/\w.cell? ⟨pb,6,none⟩=some (.int .i64 N.hi)/\w.cell? ⟨pb,7,none⟩=some (.bool N.lz):=
 ⟨⟨h 0 (by omega),h 1 (by omega),h 2 (by omega),h 3 (by omega)⟩,h 4 (by omega),h 5 (by omega),h 6 (by omega),h 7 (by omega)⟩
def wH(b lo hi:Nat)(w0:World)(q:Nv)(C:CT):Prop:=∀(W:World) (v:Value) (st:List MS) (x:Ex),dm W b lo hi v st->cZ st.length x->eY lo hi w0 W->st.length+4*C.sz.toNat<=9000->
 Calls prog 44 #[.pointer (some ⟨b,0,none⟩),Nv.val q,cG x] W (lY W b lo hi v (bm C st x).1 (cG (bm C st x).2))
theorem gw.mark(w:World)(lo hi:Nat)(s:Int)(n:Int):gw w lo hi (Sv.yO ⟨3,none,0,0,0,s,0,0⟩ n) (iG s n):=⟨rfl,rfl,rfl,rfl,rfl,by simp[iG],fun e=>by simp[iG]at e⟩
theorem gw.qT(w:World)(lo hi:Nat)(s:Int)(n:Int):gw w lo hi (Sv.yO ⟨2,none,0,0,s,0,0,0⟩ n) (si s n):=⟨rfl,rfl,rfl,rfl,rfl,by simp[si],fun e=>by simp[si]at e⟩
theorem akG{q:Nv}{C:CT}(h:dm w b lo hi v st)(x:Ex)(hx:cZ st.length x)(hS:eY lo hi w0 w)(df:C.ok)(aS:C.sz<=1000)(hP:wH b lo hi w0 N C)
 (mM:q.pa=some ⟨pb,0,none⟩)(iM:q.pn=1)(dS:lo<=pb/\pb<hi)(hK:oM w pb 0 N)(dK:0<=q.gr/\q.gr<=300)(dh:st.length+4+4*C.sz.toNat<=9000):
 Calls prog 66 #[.pointer (some ⟨b,0,none⟩),Nv.val q,cG x] w (lY w b lo hi v
  (if q.gr=0 then bm C st x else eZ (iG (2*(q.gr-1))) (bm C (eZ (iG (2*(q.gr-1)+1)) st x).1 (eZ (iG (2*(q.gr-1)+1)) st x).2).1 (bm C (eZ (iG (2*(q.gr-1)+1)) st x).1 (eZ (iG (2*(q.gr-1)+1)) st x).2).2).1
  (cG (if q.gr=0 then bm C st x else eZ (iG (2*(q.gr-1))) (bm C (eZ (iG (2*(q.gr-1)+1)) st x).1 (eZ (iG (2*(q.gr-1)+1)) st x).2).1 (bm C (eZ (iG (2*(q.gr-1)+1)) st x).1 (eZ (iG (2*(q.gr-1)+1)) st x).2).2).2)):=by
 have aw:=h.ak.lt;have dN:=h.dN;obtain⟨x1,x2⟩:=x;have oo:pb<w.heap.size:=by omega
 obtain⟨qk,gC,eE,fe,bP,b_,bQ,bH,da,dU,dO,eh⟩:=q;simp only at mM iM dK;subst mM iM;have h1:=h.alloc (.cells #[.int .i64 qk,.slice (some ⟨pb,0,none⟩) 1 fe,.slice bP b_ bQ,.int .i64 bH,.int .i64 da,.int .i64 dU,.int .i64 dO,.bool eh] 64);have h2:=h1.alloc (.cells (aI (x1,x2)) 115);have h3:=h2.alloc (.cells (aI (0,0)) 115);have h4:=h3.alloc (.cells N.cells 64);have l1:=((bc.new h1 (aI (x1,x2)) 115).alloc (.cells (aI (0,0)) 115)).alloc (.cells N.cells 64);have l2:=(bc.new h2 (aI (0,0)) 115).alloc (.cells N.cells 64);have l3:=bc.new h3 N.cells 64;have W4:=((((dW.refl b w v).alloc (.cells #[.int .i64 qk,.slice (some ⟨pb,0,none⟩) 1 fe,.slice bP b_ bQ,.int .i64 bH,.int .i64 da,.int .i64 dU,.int .i64 dO,.bool eh] 64)).alloc (.cells (aI (x1,x2)) 115)).alloc (.cells (aI (0,0)) 115)).alloc (.cells N.cells 64);have S4:=(((hS.alloc (by omega) (.cells #[.int .i64 qk,.slice (some ⟨pb,0,none⟩) 1 fe,.slice bP b_ bQ,.int .i64 bH,.int .i64 da,.int .i64 dU,.int .i64 dO,.bool eh] 64)).alloc (by simp;omega) (.cells (aI (x1,x2)) 115)).alloc (by simp;omega) (.cells (aI (0,0)) 115)).alloc (by simp;omega) (.cells N.cells 64);have K3:=(hK.lU ((((eY.refl lo hi w).alloc (by omega) (.cells #[.int .i64 qk,.slice (some ⟨pb,0,none⟩) 1 fe,.slice bP b_ bQ,.int .i64 bH,.int .i64 da,.int .i64 dU,.int .i64 dO,.bool eh] 64)).alloc (by simp;omega) (.cells (aI (x1,x2)) 115)).alloc (by simp;omega) (.cells (aI (0,0)) 115)) dS.1 dS.2).zero;simp only[aI]at K3;obtain⟨⟨k0,k1,k2,k3⟩,k4,k5,k6,k7⟩:=K3;simp only[ib]at l1 l2 l3;simp only[Nv.val,Nv.cells,cG];by_cases g0:da=0
 ·have d1:(da==0)=true:=by simp[g0]
  simp only[if_pos g0];have F1:=hP _ v st (x1,x2) h4 hx S4 (by omega);simp only[Nv.val,Nv.cells,cG,aI]at F1;simp only[aI]at l2 W4;have F1:=ab F1;have PK:=ab (And.intro l2 W4);clear h h1 h2 h3 h4 l1 l2 l3 W4 S4 hS hK g0;go_in;go_wp2_with fail;refine(F1.out).mono ?_;rintro e w4 ⟨rfl,v4,h4,jk⟩;have l2:=PK.out.1.aY jk;obtain⟨c0,c1,f0,f1⟩:=l2.cE;have ax:=ab (And.intro h4 (And.intro (PK.out.2.trans jk) l2));clear l2 h4 jk F1 PK;go_wp2_with fail;exact mI ax.out.1 ax.out.2.1 ax.out.2.2 (by omega) (by omega) results66 rfl rfl
 ·have d1:(da==0)=false:=by simp[g0]
  simp only[if_neg g0];have iC:=nV C df aS;have jD:=BS.mark (2*(da-1)+1);have F1:=VW h4 ⟨3,none,0,0,0,2*(da-1)+1,0,0⟩ (iG (2*(da-1)+1)) (fun W n=>gw.mark W lo hi _ n) (x1,x2) (by omega);have X1:=jD.fG st (x1,x2) hx;have N1:=jD.bT st (x1,x2);generalize Pt:eZ (iG (2*(da-1)+1)) st (x1,x2)=R1 at*;obtain⟨aA,y1,y2⟩:=R1;simp only at X1 N1;have X2:=iC.fG aA (y1,y2) X1;have N2:=iC.bT aA (y1,y2);have G2:=iC.grow aA (y1,y2);simp only[Sv.val,Sv.cells,cG,aI]at F1;simp only[aI]at l1 l2 l3 W4;have F1:=ab F1;have PK:=ab (And.intro (And.intro l1 (And.intro l2 l3)) (And.intro W4 (And.intro h4 S4)));have HP:=ab hP;clear h h1 h2 h3 h4 l1 l2 l3 W4 S4 hS hK g0 hP iC jD Pt;have r1: -9223372036854775808<=2*(da-1)/\2*(da-1)+1<=9223372036854775807:=by omega
  go_in
  go_wp2_with fail
  refine(F1.out).mono ?_;rintro e w5 ⟨rfl,v5,h5,Ji⟩;obtain⟨⟨l1,l2,l3⟩,W4,h4,S4⟩:=PK.out;have S5:=S4.aY h4 Ji;have m1:=l1.aY Ji;have m2:=l2.aY Ji;have m3:=l3.aY Ji;have W5:=W4.trans Ji;have m1':=(m1.setCell 0 (.int .i64 y1)).setCell 1 (.int .i64 y2);have BK:=(m2.a_ (d:=w.heap.size+1) (by omega) 0 (.int .i64 y1)).a_ (d:=w.heap.size+1) (by omega) 1 (.int .i64 y2);have m3':=(m3.a_ (d:=w.heap.size+1) (by omega) 0 (.int .i64 y1)).a_ (d:=w.heap.size+1) (by omega) 1 (.int .i64 y2);have Lw:=(h5.set m1.not (by omega) 0 (.int .i64 y1)).set m1.not (by omega) 1 (.int .i64 y2);have ZJ:=(W5.set (c:=w.heap.size+1) (by omega) 0 (.int .i64 y1)).set (c:=w.heap.size+1) (by omega) 1 (.int .i64 y2);have Zt:=(S5.set (c:=w.heap.size+1) (by omega) 0 (.int .i64 y1)).set (c:=w.heap.size+1) (by omega) 1 (.int .i64 y2);obtain⟨c0,c1,f0,f1⟩:=m1.cE;obtain⟨e0,e1,e2,e3,e4,e5,e6,e7⟩:=m3.ak.gZ;have F2:=HP.out _ v5 aA (y1,y2) Lw X1 Zt (by omega);simp only[Nv.val,Nv.cells,cG]at F2;have F2:=ab F2;have mF:=ab (And.intro BK (And.intro ZJ Lw));clear l1 l2 l3 W4 h4 S4 Ji S5 m1 m2 m3 W5 m1' BK m3' Lw ZJ Zt h5 F1 PK HP;go_wp2_with fail;refine(F2.out).mono ?_;rintro e w6 ⟨rfl,v6,h6,VM⟩;obtain⟨m2,W5,h5⟩:=mF.out;have m6:=m2.aY VM;have W6:=W5.trans VM;have F3:=VW h6 ⟨3,none,0,0,0,2*(da-1),0,0⟩ (iG (2*(da-1))) (fun W n=>gw.mark W lo hi _ n) (bm C aA (y1,y2)).2 (by omega);simp only[Sv.val,Sv.cells,cG]at F3;have F3:=ab F3;have jY:=ab (And.intro m6 W6);clear m2 W5 h5 m6 W6 h6 VM F2 mF;go_wp2_with fail;refine(F3.out).mono ?_;rintro e w7 ⟨rfl,v7,h7,Gz⟩;obtain⟨m6,W6⟩:=jY.out;have m7:=m6.aY Gz;obtain⟨c0,c1,f0,f1⟩:=m7.cE;have ax:=ab (And.intro h7 (And.intro (W6.trans Gz) m7));clear m6 W6 m7 h7 Gz F3 jY;go_wp2_with fail;exact mI ax.out.1 ax.out.2.1 ax.out.2.2 (by omega) (by omega) results66 rfl rfl
end Go.Proofs.YtpdnofhackjfdaaGreatDoor
