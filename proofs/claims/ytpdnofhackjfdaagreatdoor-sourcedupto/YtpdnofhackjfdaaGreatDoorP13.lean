/- What the states  -/
import Derived.Test.YtpdnofhackjfdaaGreatDoorP12
set_option linter.all false
set_option maxRecDepth 100000
set_option maxHeartbeats 1000000
namespace Go.Proofs.YtpdnofhackjfdaaGreatDoor
open Go.Proofs.Tryz
variable {a:Act} {cs:Array Value} {f:Func} {M st:List MS} {m:MS} {b c hi i lo pb:Nat} {K R:Nat->Prop} {N:Nv} {t:TypeId} {V:VS} {v v' v1:Value} {W w w' w0 w1 w2:World}
def fg(ms:List MS):Prop:=∀(u:Nat) (m:MS),ms[u]? =some m->(0<=m.kind/\m.kind<=4)/\(m.kind=1->0<=m.next/\m.next<ms.length)/\(m.kind=2\/m.kind=3\/m.kind=4->0<=m.next/\m.next<u)/\(m.kind=4->0<=m.bj/\m.bj<u)
theorem zS{k s:Nat}(hk:V.aP[k]? =some s)(hm:M[s]? =some m):(sorted M V)[k]? =some {m with next:=V.num.getD m.next.toNat 0,bj:=V.num.getD m.bj.toNat 0}:=by
 unfold sorted;rw[Cb,hk];simp[Af,hm]
theorem afs(M:List MS)(V:VS):(sorted M V).length=V.aP.length:=by unfold sorted;simp
theorem x9{t:Nat}{u:Nat}(h:V.num[t]? =some (u:Int)):V.num.getD t 0=(u:Int):=by rw[Af,h];rfl
theorem aoS{x:TX}(hV:jK M R V)(hS:Shut M R)
 (wk:∀t,(∃(s:Nat) (m:MS),s∈V.aP/\M[s]? =some m/\m.kind=1/\t=m.next.toNat)->∃u:Nat,V.num[t]? =some (u:Int)){s:Int}{gs:List Int}{r:iT}(h:cT M x s i gs r):
 ∀k:Nat,V.num[s.toNat]? =some (k:Int)->cT (sorted M V) x (k:Int) i gs r:=by
 have DQ:∀{s k:Nat},V.num[s]? =some (k:Int)->V.aP[k]? =some s:=fun{s k} h=>by
  obtain⟨k',e,h'⟩:=hV.has s k h (by omega);have:k'=k:=by omega
  rw[<-this];exact h'
 have OP:∀{s k:Nat} {m:MS} {t:Int},V.aP[k]? =some s->M[s]? =some m->t_ M s t->∃k':Nat,V.num[t.toNat]? =some (k':Int):=fun h1 h2 h3=>by
  obtain⟨k',_,h'⟩:=(hV.next _ _ _ h1 h2).2 _ h3;exact⟨k',h'⟩
 induction h with
 |done s m i gs h hk=>intro k hn;exact cT.done _ _ _ _ (zS (DQ (by simpa using hn)) h) hk
 |jz s m i gs r h hk ht hn ih=>
  intro k si;have ho:=DQ (s:=s) (by simpa using si);obtain⟨u,hu⟩:=wk m.next.toNat ⟨s,m,Ce ho,h,hk,rfl⟩
  exact cT.jz _ _ _ _ _ (zS ho h) hk ht (by show cT _ _ (V.num.getD m.next.toNat 0) _ _ _;rw[x9 hu];exact ih u hu)
 |jf s m i gs h hk ht=>intro k hn;exact cT.jf _ _ _ _ (zS (DQ (by simpa using hn)) h) hk ht
 |SV s m i gs r h hk he hn ih=>
  intro k si;have ho:=DQ (s:=s) (by simpa using si);obtain⟨u,hu⟩:=OP (t:=m.next) ho h ⟨s,m,rfl,h,Or.inl ⟨Or.inl hk,rfl⟩⟩;exact cT.SV _ _ _ _ _ (zS ho h) hk he (by show cT _ _ (V.num.getD m.next.toNat 0) _ _ _;rw[x9 hu];exact ih u hu)
 |SU s m i gs h hk he=>intro k hn;exact cT.SU _ _ _ _ (zS (DQ (by simpa using hn)) h) hk he
 |mark s m i gs r h hk hn ih=>
  intro k si;have ho:=DQ (s:=s) (by simpa using si);obtain⟨u,hu⟩:=OP (t:=m.next) ho h ⟨s,m,rfl,h,Or.inl ⟨Or.inr (Or.inl hk),rfl⟩⟩;exact cT.mark _ _ _ _ _ (zS ho h) hk (by show cT _ _ (V.num.getD m.next.toNat 0) _ _ _;rw[x9 hu];exact ih u hu)
 |BJ s m i gs v h hk hn ih=>
  intro k si;have ho:=DQ (s:=s) (by simpa using si);obtain⟨u,hu⟩:=OP (t:=m.next) ho h ⟨s,m,rfl,h,Or.inl ⟨Or.inr (Or.inr hk),rfl⟩⟩;exact cT.BJ _ _ _ _ _ (zS ho h) hk (by show cT _ _ (V.num.getD m.next.toNat 0) _ _ _;rw[x9 hu];exact ih u hu)
 |BH s m i gs r h hk hn CP ih uK=>
  intro k si;have ho:=DQ (s:=s) (by simpa using si);obtain⟨u,hu⟩:=OP (t:=m.next) ho h ⟨s,m,rfl,h,Or.inl ⟨Or.inr (Or.inr hk),rfl⟩⟩;obtain⟨u',NH⟩:=OP (t:=m.bj) ho h ⟨s,m,rfl,h,Or.inr ⟨hk,rfl⟩⟩;exact cT.BH _ _ _ _ _ (zS ho h) hk (by show cT _ _ (V.num.getD m.next.toNat 0) _ _ _;rw[x9 hu];exact ih u hu) (by show cT _ _ (V.num.getD m.bj.toNat 0) _ _ _;rw[x9 NH];exact uK u' NH)
theorem aoR(hV:jK M R V)(hS:Shut M R)(cS:∀m∈M,0<=m.kind/\m.kind<=4)
 (wk:∀t,(∃(s:Nat) (m:MS),s∈V.aP/\M[s]? =some m/\m.kind=1/\t=m.next.toNat)->∃u:Nat,V.num[t]? =some (u:Int)):fg (sorted M V):=by
 intro k m' f_;have az:k<V.aP.length:=by rw[<-afs M V];exact(Ai.1 f_).1
 have ho:V.aP[k]? =some V.aP[k]:=Ae az;obtain⟨m,hm,_⟩:=hS.cl _ (hV.RO _ (A6 az));rw[zS ho hm]at f_
 cases f_;have bD:=hV.next k _ m ho hm
 refine⟨cS m (Ce hm),fun h1=>?_,fun h1=>?_,fun h1=>?_⟩
 ·obtain⟨u,hu⟩:=wk m.next.toNat ⟨_,m,A6 az,hm,h1,rfl⟩
  simp only;rw[x9 hu,afs];obtain⟨k',e,h'⟩:=hV.has _ _ hu (by omega);have:=(Ai.1 h').1;omega
 ·obtain⟨k',h2,h3⟩:=bD.2 m.next ⟨_,m,rfl,hm,Or.inl ⟨h1,rfl⟩⟩
  simp only;rw[x9 h3];omega
 ·obtain⟨k',h2,h3⟩:=bD.2 m.bj ⟨_,m,rfl,hm,Or.inr ⟨h1,rfl⟩⟩;simp only;rw[x9 h3];omega
def agp(ms:List MS)(x:TX)(u:Int)(i:Nat):Prop:=∃gs v,cT ms x u i gs (some v)
noncomputable def off(ms:List MS)(x:TX)(u:Int)(i:Nat):Bool:=@decide (agp ms x u i) (Classical.propDecidable _)
open Go.RowKit Go.Maps
structure Sv where
 k:Int
 sa:Option Addr
 sn:Nat
 sc:Nat
 ed:Int
 sl:Int
 nx:Int
 ot:Int
def Sv.cells(q:Sv):Array Value:=#[GW q.k,.slice q.sa q.sn q.sc,GW q.ed,GW q.sl,GW q.nx,GW q.ot]
def Sv.val(q:Sv):Value:=.agg q.cells
def jB:List Sv->List Value
 | []=>[]
 |q::qs=>q.cells.toList++jB qs
theorem Sv.F_(q:Sv):q.cells.toList.length=6:=rfl
theorem abD(a b:List Sv):jB (a++b)=jB a++jB b:=by
 induction a with
 |nil=>rfl
 |cons q qs ih=>simp[jB,ih]
theorem QF(qs:List Sv)(i:Nat)(h:i<qs.length)(j:Nat)(hj:j<6):(jB qs)[i*6+j]? =(qs[i]).cells[j]? :=by
 induction qs generalizing i with
 |nil=>simp at h
 |cons q qs ih=>
  cases i with
  |zero=>
   simp only[jB,Ah];rw[Ay (by rw[Sv.F_];omega),show 0*6+j=j by omega];simp
  |succ i=>
   have:=ih i (by simpa using h);simp only[jB,Ag];rw[Br (by rw[Sv.F_];omega),Sv.F_,show(i+1)*6+j-6=i*6+j by omega];exact this
theorem Sv.one(q:Sv):∀u∈q.cells.toList,u.oneCell'=true:=by
 intro u hu;simp[Sv.cells]at hu;rcases hu with rfl|rfl|rfl|rfl|rfl|rfl<;>rfl
structure gG(w:World)(lo hi:Nat)(s:Sv)(m:MS):Prop where
 k:s.k=m.kind
 ed:s.ed=m.eM
 sl:s.sl=m.slot
 nx:s.nx=m.next
 ot:s.ot=m.bj
 kr:0<=m.kind/\m.kind<=4
 set:m.kind=1->∃(S:bI) (bs:Nat),s.sn=S.length/\(S≠ []->s.sa=some (GB bs 0)/\lo<=bs/\bs<hi)/\gj w bs S/\vA S m.sp m.fo m.nt/\dH S/\S.length<=6000
theorem gG.kept{s:Sv}(h:gG w lo hi s m)(k:aa K w w')(hs:∀i,lo<=i->i<hi->¬K i)(hle:hi<=w.heap.size):gG w' lo hi s m:=
 ⟨h.k,h.ed,h.sl,h.nx,h.ot,h.kr,fun e=>by
   obtain⟨S,bs,a1,a2,a3,a4⟩:=h.set e;refine⟨S,bs,a1,a2,fun i hi'=>?_,a4⟩;have aB:S≠ []:=by intro e;subst e;simp at hi'
   obtain⟨_,b1,b2⟩:=a2 aB;exact⟨(k.cell (p:=⟨bs,i*2,none⟩) (by show bs<_;omega) (hs bs b1 b2)).trans (a3 i hi').1,(k.cell (p:=⟨bs,i*2+1,none⟩) (by show bs<_;omega) (hs bs b1 b2)).trans (a3 i hi').2⟩⟩
structure dz(w:World)(b lo hi:Nat)(v:Value)(st:List MS):Prop where
 aq:au w b #[v] 109
 row:∃vs:List Sv,w.ownsRow (b+1) 113 6 v st.length (jB vs)/\vs.length=st.length/\∀i,(h:i<vs.length)->(h':i<st.length)->gG w lo hi vs[i] st[i]
 dW:hi<=b
 bN:st.length<=10000
def Own(b:Nat)(v:Value):Nat->Prop:=fun i=>i=b\/v.ownBlock=some i
theorem dz.slice(h:dz w b lo hi v st):∃ao c,v=.slice ao st.length c:=by
 obtain⟨vs,h1,_⟩:=h.row;exact cw h1
theorem dz.block(h:dz w b lo hi v st)(hi':v.ownBlock=some i):b+1<=i/\i<w.heap.size:=by
 obtain⟨vs,h1,_⟩:=h.row;exact dw h1 hi'
theorem dz.ay(h:dz w b lo hi v st)(hi':Own b v i):b<=i/\i<w.heap.size:=by
 rcases hi' with rfl|hi'
 ·exact⟨Ab _,h.aq.lt⟩
 ·have:=h.block hi';omega
theorem dz.kept(h:dz w b lo hi v st)(k:aa K w w')(hK:∀i,K i->¬Own b v i/\(i<lo\/hi<=i)):dz w' b lo hi v st where
 aq:=h.aq.kept k (fun hx=>(hK b hx).1 (Or.inl rfl))
 row:=by
  obtain⟨vs,h1,h2,h3⟩:=h.row;refine⟨vs,bU h1 k (fun i hi' hx=>(hK i hx).1 (Or.inr hi')),h2,fun i a1 a2=>(h3 i a1 a2).kept k (fun j j1 j2 hx=>by have:=(hK j hx).2;omega) (by have:=h.dW;have:=h.aq.lt;omega)⟩
 dW:=h.dW
 bN:=h.bN
theorem dz.new(h:dz w b lo hi v st)(k:aa ai w w'):dz w' b lo hi v st:=h.kept k (fun i hx=>hx.elim)
structure ey(b:Nat)(w w':World)(v v':Value):Prop where
 kept:aa (Own b v) w w'
 aq:∀i,v'.ownBlock=some i->v.ownBlock=some i\/w.heap.size<=i
theorem ey.refl(b:Nat)(w:World)(v:Value):ey b w w v v:=⟨aa.refl _ _,fun i h=>Or.inl h⟩
theorem ey.trans{v2:Value}(h:ey b w w1 v v1)(h':ey b w1 w2 v1 v2):ey b w w2 v v2 where
 kept:=h.kept.b_ h'.kept (fun i hi hx=>by
  rcases hx with rfl|hx
  ·exact Or.inl rfl
  ·rcases h.aq i hx with h1|h1
   ·exact Or.inr h1
   ·omega)
 aq i hi:=by
  have hs:=h.kept.size;rcases h'.aq i hi with h1|h1
  ·exact h.aq i h1
  ·right;omega
theorem ey.new(h:ey b w w1 v v1)(k:aa ai w1 w2):ey b w w2 v v1:=⟨h.kept.b_ k (fun i _ hx=>hx.elim),h.aq⟩
theorem ey.alloc(h:ey b w w1 v v1)(o:Obj):ey b w (w1.alloc o) v v1:=⟨h.kept.alloc o,h.aq⟩
theorem ey.apart(h:ey b w w' v v')(hc:c<w.heap.size)(hn:¬Own b v c):¬Own b v' c:=by
 intro hx;rcases hx with rfl|hx
 ·exact hn (Or.inl rfl)
 ·rcases h.aq c hx with h1|h1
  ·exact hn (Or.inr h1)
  ·omega
theorem ey.cells(h:ey b w w' v v')(hB:au w c cs t)(hn:¬Own b v c):au w' c cs t:=hB.kept h.kept hn
theorem Tryz.acX:(prog.info? 113).map (fun i=>(i.zero,i.size,i.bytes))=some (some (.agg #[GW 0,.slice none 0 0,GW 0,GW 0,GW 0,GW 0]),6,64):=by kernel_rfl
theorem SY{P:Program}{ops:Array Oper}{o:Oper}{K:Act->World->Prop}{Q:Exit->Act->World->Prop}{E:Prop}
 (hg:o.guard=none)(s x:Operand)(t:TypeId)(eG:o.op=.call {callee:=.builtin .append,args:=#[s,x],argTypes:=#[t,t]})
 (base:Nat)(e:TypeId)(i:TypeInfo)(z:Value)(size bytes:Nat)(ht:P.underlying t=some (.slice e))(hi:P.info? e=some i)(hz:i.zero=some z)(xQ:i.size=size)(CE:i.bytes=bytes)(DC:z.cells.size=size)(aW:0<size)
 (v:Value)(n:Nat)(xs:List Value)(hs:a.eval s=v)(bC:w.ownsRow base e size v n xs)
 (ad:Addr)(m c:Nat)(news:List Value)(hx:a.eval x=.slice (some ad) m c)(hl:news.length=m*size)(JS:∀j u,news[j]? =some u->w.cell? (ad.add j)=some u)(h1:∀u∈news,u.oneCell'=true)
 (BR:n+m<=maxLen)(CF:(n+m)*bytes<=140737488355328)(V0:base<=w.heap.size)
 (hK:∀v' w',w'.ownsRow base e size v' (n+m) (xs++news)->w.grownBy w' v.ownBlock->(v'.ownBlock=v.ownBlock\/v'.ownBlock=some w.heap.size)->K (a.put o.dst v') w'):
 if Region.wanted o (yielded ops a.tmps)=true then Oper.wp P o a w K Q else E:=by
 have hw:Region.wanted o (yielded ops a.tmps)=true:=by simp[Region.wanted,hg]
 rw[if_pos hw];obtain⟨v',w',hr,h2,h3,h4,h5⟩:=run_append_own_at (P:=P) w base t o.type e i z size bytes ht hi hz xQ CE DC aW v n xs bC ad m c news hl JS h1 BR CF V0;unfold Oper.wp;simp[execOp,eG,resolve,invoke,builtin,hs,hx,hr,Result.andThen];exact hK v' w' h2 h3 h5
theorem dz.eP{w7:World}{ao c n:Nat}(h:dz w b lo hi v st){s:Sv}(hs:gG w lo hi s m)(dy:st.length<10000){vs:List Sv}(dU:w.ownsRow (b+1) 113 6 v st.length (jB vs))(dc:vs.length=st.length)
 (pH:∀i,(h:i<vs.length)->(h':i<st.length)->gG w lo hi vs[i] st[i])(k0:aa ai w W)
 (bL:w7.ownsRow (b+1) 113 6 v' (st.length+1) (jB vs++s.cells.toList))(cy:W.grownBy w7 v.ownBlock)(cI:v'.ownBlock=v.ownBlock\/v'.ownBlock=some W.heap.size):
 au w7 b #[v] 109/\dz (w7.setCell (GB b 0) v') b lo hi v' (st++[m])/\ey b w (w7.setCell (GB b 0) v') v v':=by
 have az:=h.aq.lt;have WX:=k0.size;have k7:aa (fun i=>v.ownBlock=some i) w w7:=(k0.mono (fun i hx=>hx.elim)).eP cy (fun j hj=>Or.inl hj);have vZ:v.ownBlock≠some b:=fun e=>by have:=dw dU e;omega
 have b7:au w7 b #[v] 109:=h.aq.kept k7 vZ;have are:=k7.size
 have lZ:∀i,v'.ownBlock=some i->v.ownBlock=some i\/w.heap.size<=i:=by
  intro i hi';rcases cI with hl|hl
  ·exact Or.inl (hl▸hi')
  ·rw[hl]at hi';cases hi';right;omega
 have hvb:v'.ownBlock≠some b:=fun e=>by
  rcases lZ b e with h1|h1
  ·exact vZ h1
  ·omega
 have b8:au (w7.setCell (GB b 0) v') b #[v'] 109:=b7.setCell 0 v';have k8:aa (Own b v) w (w7.setCell (GB b 0) v'):=aa.setCell (S:=Own b v) (k7.mono (S':=Own b v) (fun i hi'=>Or.inr hi')) (p:=(GB b 0)) (Or.inl (Or.inl rfl)) _
 have o8:(w7.setCell (GB b 0) v').ownsRow (b+1) 113 6 v' (st++[m]).length (jB (vs++[s])):=by
  have h1:(jB (vs++[s]))=jB vs++s.cells.toList:=by rw[abD];simp[jB]
  rw[h1,Aj];exact bU bL ((aa.refl (fun i=>i=b) w7).setCell (p:=(GB b 0)) (Or.inl rfl) v') (fun i hi' e=>hvb (e▸hi'))
 have dW:=h.dW;have acz:∀i,lo<=i->i<hi->¬Own b v i:=fun i h1 h2 hx=>by have:=h.ay hx;omega
 refine⟨b7,?_,⟨k8,lZ⟩⟩;refine⟨b8,⟨vs++[s],o8,by simp[dc],fun i h1 h2=>?_⟩,dW,by simp;omega⟩;by_cases jP:i<st.length
 ·have e1:(vs++[s])[i]=vs[i]'(by omega):=C1 _;have e2:(st++[m])[i]=st[i]:=C1 _;rw[e1,e2];exact(pH i (by omega) jP).kept k8 acz (by omega)
 ·have e:i=st.length:=by simp at h2;omega
  subst e;have e1:(vs++[s])[st.length]=s:=by simp[<-dc]
  have e2:(st++[m])[st.length]=m:=by simp
  rw[e1,e2];exact hs.kept k8 acz (by omega)
theorem afG(q:Sv)(j:Nat)(u:Value)(h:q.cells.toList[j]? =some u):(w.alloc (.cells q.cells 113)).cell? (Addr.add (GB w.heap.size 0) j)=some u:=uT w q.cells 113 j u h
theorem Jd(h:dz w b lo hi v st){s:Sv}(hs:gG w lo hi s m)(dy:st.length<10000):
 Calls prog 43 #[BT b 0,Sv.val s] w fun e w'=>e=.returned (GW st.length)/\∃v',dz w' b lo hi v' (st++[m])/\ey b w w' v v':=by
 obtain⟨i0,cW,dm,du,de⟩:=Bo Tryz.acX;obtain⟨ao,c,hv⟩:=h.slice;have az:=h.aq.lt;obtain⟨vs,dU,dc,pH⟩:=h.row;have c0:w.cell? (GB b 0)=some v:=h.aq.cell 0;have f0:=h.aq.frozen 0;have HR:Hid (∀W,aa ai w W->W.ownsRow (b+1) 113 6 v st.length (jB vs)):=fun W k=>bU dU k (fun i _ hx=>hx)
 have GR:Hid (∀W w7 v',aa ai w W->w7.ownsRow (b+1) 113 6 v' (st.length+1) (jB vs++s.cells.toList)->W.grownBy w7 v.ownBlock->(v'.ownBlock=v.ownBlock\/v'.ownBlock=some W.heap.size)->au w7 b #[v] 109/\dz (w7.setCell (GB b 0) v') b lo hi v' (st++[m])/\ey b w (w7.setCell (GB b 0) v') v v'):=
  fun W w7 v' k h1 h2 h3=>h.eP (ao:=0) (c:=0) (n:=0) hs dy dU dc pH k h1 h2 h3
 have NW:Hid (∀j u,s.cells.toList[j]? =some u->(((w.alloc (.cells s.cells 113)).alloc (.cells s.cells 113)).drew).cell? (Addr.add ⟨w.heap.size+1,0,none⟩ j)=some u):=by
  intro j u hu;have:=afG (w:=w.alloc (.cells s.cells 113)) s j u hu;simpa using this
 clear h hs pH dU;subst hv;simp only[Sv.val,Sv.cells];go_in;go_wp2_with fail;go_region_law (refine SY rfl (.tmp 9) (.tmp 11) 71 rfl (b+1) 113 i0 _ 6 64 underlying71 cW dm du de rfl (by decide) _ _ _ rfl (HR.o _ (by repeat first|exact aa.refl _ _|apply aa.alloc|apply aa.drew|apply aa.drewN)) ⟨w.heap.size+1,0,none⟩ 1 1 s.cells.toList rfl rfl NW.o s.one (by unfold maxLen;omega) (by omega) (by simp;omega) ?_;intro v' w7 ho hg hl;obtain⟨jl,c',rfl⟩:=cw ho;obtain⟨b7,gw,a_⟩:=GR.o _ _ _ (by repeat first|exact aa.refl _ _|apply aa.alloc|apply aa.drew|apply aa.drewN) ho hg hl;have c7:w7.cell? (GB b 0)=some (.slice ao st.length c):=b7.cell 0;have f7:w7.frozen? (GB b 0)=false:=b7.frozen 0)
 all_goals
  clear HR GR NW;go_wp2_with fail;go_ret;exact⟨rfl,_,gw,a_⟩
theorem iy(w:World)(o:Obj):(w.alloc o).heap.size=w.heap.size+1:=by simp
theorem ab{p:Prop}(h:p):Hid p:=h
def cO(x:Ex):Value:=.agg #[GW x.1,GW x.2]
def ml(w:World)(b lo hi:Nat)(v:Value)(ln:List MS)(r:Value):Ending->World->Prop:=fun e w'=>e=.returned r/\∃v',dz w' b lo hi v' ln/\ey b w w' v v'
theorem gG.lW(w:World)(lo hi:Nat)(a b:Int):gG w lo hi ⟨4,none,0,0,0,0,a,b⟩ (ku a b):=⟨rfl,rfl,rfl,rfl,rfl,by simp[ku],fun e=>by simp[ku]at e⟩
def aM(x:Ex):Array Value:=#[GW x.1,GW x.2]
structure bk(w:World)(b:Nat)(v:Value)(c:Nat)(cs:Array Value)(t:TypeId):Prop where
 aq:au w c cs t
 not:¬Own b v c
theorem bk.a_(h:bk w b v c cs t)(k:ey b w w' v v'):bk w' b v' c cs t:=⟨k.cells h.aq h.not,k.apart h.aq.lt h.not⟩
theorem dz.fresh(h:dz w b lo hi v st)(hc:w.heap.size<=c):¬Own b v c:=fun hx=>by have:=h.ay hx;omega
theorem bk.new(h:dz w b lo hi v st)(cs:Array Value)(t:TypeId):bk (w.alloc (.cells cs t)) b v w.heap.size cs t:=⟨au.new w cs t,h.fresh (Ab _)⟩
theorem bk.alloc(h:bk w b v c cs t)(o:Obj):bk (w.alloc o) b v c cs t:=⟨h.aq.alloc o,h.not⟩
theorem bk.setCell(h:bk w b v c cs t)(i:Nat)(u:Value):bk (w.setCell (GB c i) u) b v c (cs.setIfInBounds i u) t:=⟨h.aq.setCell i u,h.not⟩
theorem bk.bj(h:bk w b v c cs t){d:Nat}(hd:c≠d)(i:Nat)(u:Value):bk (w.setCell (GB d i) u) b v c cs t:=⟨h.aq.qw hd u,h.not⟩
theorem dz.set(h:dz w b lo hi v st)(hc:¬Own b v c)(CC:b<=c)(j:Nat)(u:Value):dz (w.setCell (GB c j) u) b lo hi v st:=
 h.kept ((aa.refl (fun i=>i=c) w).setCell (p:=(GB c j)) (Or.inl rfl) u) (fun i hi'=>by subst hi';exact⟨hc,Or.inr (by have:=h.dW;omega)⟩)
theorem dz.alloc(h:dz w b lo hi v st)(o:Obj):dz (w.alloc o) b lo hi v st:=h.new ((aa.refl _ _).alloc o)
theorem ey.set(h:ey b w w1 v v1)(hc:w.heap.size<=c)(j:Nat)(u:Value):ey b w (w1.setCell (GB c j) u) v v1:=⟨h.kept.setCell (p:=(GB c j)) (Or.inr hc) u,h.aq⟩
theorem abA{Q:Ending->World->Prop}{x:Ex}(mH:f.results=#[ResultVar.cell i 115])(tz:a.tmps.getD i undef=BT c 0)(hd:a.defers=[])
 (hb:au W c (aM x) 115)(hQ:Q (.returned (cO x)) W):bodyPost prog f Q Exit.ret a W:=by
 have r0:W.cell? (GB c 0)=some (GW x.1):=hb.cell 0;have r1:W.cell? (GB c 1)=some (GW x.2):=hb.cell 1;have gg:a.tmps[i]?.getD undef=BT c 0:=by simpa using tz
 exact Bm (v:=cO x) (by simp[results,mH,go_sem,gg,r0,r1,cO]) hd hQ
theorem Ve(h:dz w b lo hi v st)(x y:Int)(dy:st.length<10000):
 Calls prog 119 #[BT b 0,GW x,GW y] w (ml w b lo hi v (dQ st x y).1 (GW (dQ st x y).2)):=by
 unfold ml dQ;by_cases hx:x= -1
 ·have hb:(x== -1)=true:=by simp[hx]
  simp only[if_pos hx];clear hx;go_in;go_wp2_with fail;go_ret;exact⟨rfl,v,h.new (aa.refl _ _),ey.refl _ _ _⟩
 ·have hb:(x== -1)=false:=by simp[hx]
  simp only[if_neg hx];by_cases hy:y= -1
  ·have oB:(y== -1)=true:=(by simp[hy]);simp only[if_pos hy];clear hy hx;go_in;go_wp2_with fail;go_ret;exact⟨rfl,v,h.new (aa.refl _ _),ey.refl _ _ _⟩
  ·have oB:(y== -1)=false:=(by simp[hy]);simp only[if_neg hy];have TF:=Jd h (gG.lW w lo hi x y) dy;simp only[Sv.val,Sv.cells]at TF;have HA:=ab TF;clear TF;clear hy hx h;go_in;go_wp2_with fail;refine(HA.o).mono ?_;rintro e w1 ⟨rfl,v1,h1,k1⟩;go_wp2_with fail;go_ret;exact⟨rfl,v1,h1,k1⟩
theorem mZ{w4:World}{v4:Value}{OL:List MS}{r1 r2 z1 z2:Int}(a1:dz w4 b lo hi v4 OL)(a2:ey b w w4 v v4)(a3:bk w4 b v4 c #[GW z1,GW z2] 115)(hc:w.heap.size<=c)(CC:b<=c)
 (mH:f.results=#[ResultVar.cell i 115])(tz:a.tmps.getD i undef=BT c 0)(hd:a.defers=[]):
 bodyPost prog f (ml w b lo hi v OL (cO (r1,r2))) Exit.ret a ((w4.setCell (GB c 0) (GW r1)).setCell (GB c 1) (GW r2)):=by
 refine abA mH tz hd (x:=(r1,r2)) ?_ ?_
 ·exact((a3.setCell 0 (GW r1)).setCell 1 (GW r2)).aq
 ·exact⟨rfl,v4,(a1.set a3.not CC 0 _).set a3.not CC 1 _,(a2.set hc 0 _).set hc 1 _⟩
theorem bk.cM{p q:Int}(h:bk w b v c #[GW p,GW q] t):w.cell? (GB c 0)=some (GW p)/\w.cell? (GB c 1)=some (GW q)/\w.frozen? (GB c 0)=false/\w.frozen? (GB c 1)=false:=⟨h.aq.cell 0,h.aq.cell 1,h.aq.frozen 0,h.aq.frozen 1⟩
theorem Vg(h:dz w b lo hi v st)(x y:Ex)(dy:st.length+2<=10000):
 Calls prog 94 #[BT b 0,cO x,cO y] w (ml w b lo hi v (gP st x y).1 (cO (gP st x y).2)):=by
 have az:=h.aq.lt;have g1:=uh st x.2 y.2;obtain⟨x1,x2⟩:=x;obtain⟨y1,y2⟩:=y;simp only at g1;have l1:=((bk.new h (aM (x1,x2)) 115).alloc (.cells (aM (y1,y2)) 115)).alloc (.cells (aM (0,0)) 115);have h1:=h.alloc (.cells (aM (x1,x2)) 115);have l2:=(bk.new h1 (aM (y1,y2)) 115).alloc (.cells (aM (0,0)) 115);have h2:=h1.alloc (.cells (aM (y1,y2)) 115);have l3:=bk.new h2 (aM (0,0)) 115;have h3:=h2.alloc (.cells (aM (0,0)) 115);have W3:=(((ey.refl b w v).alloc (.cells (aM (x1,x2)) 115)).alloc (.cells (aM (y1,y2)) 115)).alloc (.cells (aM (0,0)) 115);have F1:=ab (Ve h3 x2 y2 (by omega));simp only[aM,iy]at l1 l2 l3 h3 W3 F1;clear h h1 h2;simp only[cO];unfold gP;simp only;by_cases c:x1=x2/\y1=y2
 ·have d1:(x1==x2)=true:=by simp[c.1]
  have d2:(y1==y2)=true:=by simp[c.2]
  simp only[if_pos c];clear c;go_in;go_wp2_with fail;refine(F1.o).mono ?_;rintro e w4 ⟨rfl,v4,h4,k4⟩;obtain⟨m1,m2,m3⟩:=And.intro (l1.a_ k4) (And.intro (l2.a_ k4) (l3.a_ k4));have k5:=W3.trans k4;obtain⟨a0,a1,_,_⟩:=m1.cM;obtain⟨b0,b1,_,_⟩:=m2.cM;obtain⟨c0,c1,f0,f1⟩:=m3.cM;have aA:=ab (And.intro h4 (And.intro k5 m3));clear l1 l2 l3 h3 F1 m1 m2 m3 h4 k4 k5 W3;go_wp2_with fail;exact mZ aA.o.1 aA.o.2.1 aA.o.2.2 (by omega) (by omega) results94 rfl rfl
 ·simp only[if_neg c];have g2:=uh (dQ st x2 y2).1 x1 y1;by_cases e1:x1=x2
  ·have e2:y1≠y2:=(fun e=>c ⟨e1,e⟩);have d1:(x1==x2)=true:=(by simp[e1]);have d2:(y1==y2)=false:=(by simp[e2]);clear c e1 e2;go_in;go_wp2_with fail;refine(F1.o).mono ?_;rintro e w4 ⟨rfl,v4,h4,k4⟩;obtain⟨m1,m2,m3⟩:=And.intro (l1.a_ k4) (And.intro (l2.a_ k4) (l3.a_ k4));have k5:=W3.trans k4;obtain⟨a0,a1,_,_⟩:=m1.cM;obtain⟨b0,b1,_,_⟩:=m2.cM;have F2:=ab (Ve h4 x1 y1 (by omega));have aA:=ab (And.intro k5 m3);clear l1 l2 l3 h3 F1 m1 m2 m3 h4 k4 k5 W3;go_wp2_with fail;refine(F2.o).mono ?_;rintro e w6 ⟨rfl,v6,h6,k6⟩;have m6:=aA.o.2.a_ k6;obtain⟨c0,c1,f0,f1⟩:=m6.cM;have u_:=ab (And.intro h6 (And.intro (aA.o.1.trans k6) m6));clear h6 k6 m6 aA F2;go_wp2_with fail;exact mZ u_.o.1 u_.o.2.1 u_.o.2.2 (by omega) (by omega) results94 rfl rfl
  ·have d1:(x1==x2)=false:=(by simp[e1]);clear c e1;go_in;go_wp2_with fail;refine(F1.o).mono ?_;rintro e w4 ⟨rfl,v4,h4,k4⟩;obtain⟨m1,m2,m3⟩:=And.intro (l1.a_ k4) (And.intro (l2.a_ k4) (l3.a_ k4));have k5:=W3.trans k4;obtain⟨a0,a1,_,_⟩:=m1.cM;obtain⟨b0,b1,_,_⟩:=m2.cM;have F2:=ab (Ve h4 x1 y1 (by omega));have aA:=ab (And.intro k5 m3);clear l1 l2 l3 h3 F1 m1 m2 m3 h4 k4 k5 W3;go_wp2_with fail;refine(F2.o).mono ?_;rintro e w6 ⟨rfl,v6,h6,k6⟩;have m6:=aA.o.2.a_ k6;obtain⟨c0,c1,f0,f1⟩:=m6.cM;have u_:=ab (And.intro h6 (And.intro (aA.o.1.trans k6) m6));clear h6 k6 m6 aA F2;go_wp2_with fail;exact mZ u_.o.1 u_.o.2.1 u_.o.2.2 (by omega) (by omega) results94 rfl rfl
theorem abk(h:dz w b lo hi v st)(lz:Bool)(x y:Ex)(dy:st.length+2<=10000):
 Calls prog 120 #[BT b 0,.bool lz,cO x,cO y] w (ml w b lo hi v (dx lz st x y).1 (cO (dx lz st x y).2)):=by
 have az:=h.aq.lt;obtain⟨x1,x2⟩:=x;obtain⟨y1,y2⟩:=y;have l1:=((bk.new h (aM (x1,x2)) 115).alloc (.cells (aM (y1,y2)) 115)).alloc (.cells (aM (0,0)) 115);have h1:=h.alloc (.cells (aM (x1,x2)) 115);have l2:=(bk.new h1 (aM (y1,y2)) 115).alloc (.cells (aM (0,0)) 115);have h2:=h1.alloc (.cells (aM (y1,y2)) 115);have l3:=bk.new h2 (aM (0,0)) 115;have h3:=h2.alloc (.cells (aM (0,0)) 115);have W3:=(((ey.refl b w v).alloc (.cells (aM (x1,x2)) 115)).alloc (.cells (aM (y1,y2)) 115)).alloc (.cells (aM (0,0)) 115);have F1:=Vg h3 (x1,x2) (y1,y2) (by omega);have F2:=Vg h3 (y1,y2) (x1,x2) (by omega);simp only[aM,cO,iy]at l1 l2 l3 h3 W3 F1 F2;have F1:=ab F1;have F2:=ab F2;clear h h1 h2;simp only[cO];unfold dx
 cases lz
 ·simp only[Aq,if_false];go_in;go_wp2_with fail;refine(F1.o).mono ?_;rintro e w4 ⟨rfl,v4,h4,k4⟩;obtain⟨c0,c1,f0,f1⟩:=(l3.a_ k4).cM;have aA:=ab (And.intro h4 (And.intro (W3.trans k4) (l3.a_ k4)));clear l1 l2 l3 h3 F1 F2 h4 k4 W3;go_wp2_with fail;exact mZ aA.o.1 aA.o.2.1 aA.o.2.2 (by omega) (by omega) results120 rfl rfl
 ·simp only[if_true];go_in;go_wp2_with fail;refine(F2.o).mono ?_;rintro e w4 ⟨rfl,v4,h4,k4⟩;obtain⟨c0,c1,f0,f1⟩:=(l3.a_ k4).cM;have aA:=ab (And.intro h4 (And.intro (W3.trans k4) (l3.a_ k4)));clear l1 l2 l3 h3 F1 F2 h4 k4 W3;go_wp2_with fail;exact mZ aA.o.1 aA.o.2.1 aA.o.2.2 (by omega) (by omega) results120 rfl rfl
def Sv.zE(s:Sv)(n:Int):Sv:={s with nx:=n}
theorem bk.Kv{s:Sv}(h:bk w b v c s.cells t):(w.cell? (GB c 0)=some (GW s.k)/\w.cell? (GB c 1)=some (.slice s.sa s.sn s.sc)/\w.cell? (GB c 2)=some (GW s.ed)/\w.cell? (GB c 3)=some (GW s.sl)/\w.cell? (GB c 4)=some (GW s.nx)/\w.cell? (GB c 5)=some (GW s.ot))/\w.frozen? (GB c 4)=false:=
 ⟨⟨h.aq.cell 0,h.aq.cell 1,h.aq.cell 2,h.aq.cell 3,h.aq.cell 4,h.aq.cell 5⟩,h.aq.frozen 4⟩
theorem Xx(h:dz w b lo hi v st)(s:Sv)(mk:Int->MS)(HS:∀W n,gG W lo hi (s.zE n) (mk n))(x:Ex)(dy:st.length+2<=10000):
 Calls prog 65 #[BT b 0,Sv.val s,cO x] w (ml w b lo hi v (fu mk st x).1 (cO (fu mk st x).2)):=by
 have az:=h.aq.lt;obtain⟨x1,x2⟩:=x;have l1':=(((bk.new h (s.zE x2).cells 113).alloc (.cells (aM (x1,x2)) 115)).alloc (.cells (aM (0,0)) 115));have h1:=h.alloc (.cells (s.zE x2).cells 113);have Xr:=(bk.new h1 (aM (x1,x2)) 115).alloc (.cells (aM (0,0)) 115);have h2:=h1.alloc (.cells (aM (x1,x2)) 115);have Xs:=bk.new h2 (aM (0,0)) 115;have yW:=h2.alloc (.cells (aM (0,0)) 115);have W3':=(((ey.refl b w v).alloc (.cells (s.zE x2).cells 113)).alloc (.cells (aM (x1,x2)) 115)).alloc (.cells (aM (0,0)) 115);have F1:=Jd yW (HS _ x2) (by omega);simp only[aM,iy]at Xr Xs;simp only[Sv.val,Sv.cells,Sv.zE,aM]at F1;clear h h1 h2;have F1:=ab F1;have L1:=ab l1';have PK:=ab (And.intro Xr (And.intro Xs W3'));clear l1' Xr Xs yW W3';simp only[cO,Sv.val,Sv.cells];unfold fu;simp only;by_cases c1:x1=x2
 ·have d1:(x1==x2)=true:=by simp[c1]
  simp only[if_pos c1];clear c1;go_in;go_wp2_with fail;refine(F1.o).mono ?_;rintro e w4 ⟨rfl,v4,h4,k4⟩;obtain⟨l2,l3,W3⟩:=PK.o;obtain⟨a0,a1,_,_⟩:=(l2.a_ k4).cM;obtain⟨c0,c1,f0,f1⟩:=(l3.a_ k4).cM;have aA:=ab (And.intro h4 (And.intro (W3.trans k4) (l3.a_ k4)));clear l2 l3 h4 k4 W3 F1 PK L1;go_wp2_with fail;exact mZ aA.o.1 aA.o.2.1 aA.o.2.2 (by omega) (by omega) results65 rfl rfl
 ·have d1:(x1==x2)=false:=by simp[c1]
  simp only[if_neg c1];clear c1;by_cases c2:x1= -1
  ·have d2:(x1== -1)=true:=(by simp[c2]);simp only[if_pos c2];clear c2;go_in;go_wp2_with fail;refine(F1.o).mono ?_;rintro e w4 ⟨rfl,v4,h4,k4⟩;obtain⟨l2,l3,W3⟩:=PK.o;obtain⟨a0,a1,_,_⟩:=(l2.a_ k4).cM;obtain⟨c0,c1,f0,f1⟩:=(l3.a_ k4).cM;have aA:=ab (And.intro h4 (And.intro (W3.trans k4) (l3.a_ k4)));clear l2 l3 h4 k4 W3 F1 PK L1;go_wp2_with fail;exact mZ aA.o.1 aA.o.2.1 aA.o.2.2 (by omega) (by omega) results65 rfl rfl
  ·have d2:(x1== -1)=false:=(by simp[c2]);simp only[if_neg c2];clear c2;go_in;go_wp2_with fail;refine(F1.o).mono ?_;rintro e w4 ⟨rfl,v4,h4,k4⟩;obtain⟨l2,l3,W3⟩:=PK.o;obtain⟨a0,a1,_,_⟩:=(l2.a_ k4).cM;have L4:=L1.o.a_ k4;obtain⟨⟨b0,b1,b2,b3,b4,b5⟩,b6⟩:=L4.Kv;simp only[Sv.zE]at b0 b1 b2 b3 b4 b5;have h5:=h4.set L4.not (by omega) 4 (GW x1);have W5:=(W3.trans k4).set (c:=w.heap.size) (Ab _) 4 (GW x1);have l5:=(l3.a_ k4).bj (d:=w.heap.size) (by omega) 4 (GW x1);have F2:=Jd h5 (HS _ x1) (by simp;omega);simp only[Sv.val,Sv.cells,Sv.zE]at F2;have F2:=ab F2;have mV:=ab (And.intro W5 l5);clear l2 l3 h4 k4 W3 F1 PK L1 L4 h5 W5 l5;go_wp2_with fail;refine(F2.o).mono ?_;rintro e w6 ⟨rfl,v6,h6,k6⟩;obtain⟨W5,l5⟩:=mV.o;have l6:=l5.a_ k6;obtain⟨c0,c1,f0,f1⟩:=l6.cM;have aA:=ab (And.intro h6 (And.intro (W5.trans k6) l6));clear h6 k6 W5 l5 l6 F2 mV;go_wp2_with fail;exact mZ aA.o.1 aA.o.2.1 aA.o.2.2 (by omega) (by omega) results65 rfl rfl
def ft(lo hi:Nat)(w0 w:World):Prop:=∀i,lo<=i->i<hi->w.heap[i]? =w0.heap[i]?
theorem ft.refl(lo hi:Nat)(w:World):ft lo hi w w:=fun _ _ _=>rfl
theorem ft.alloc(h:ft lo hi w0 w)(hle:hi<=w.heap.size)(o:Obj):ft lo hi w0 (w.alloc o):=fun i h1 h2=>(Below.heap_alloc w o i (by omega)).trans (h i h1 h2)
theorem ft.a_(h:ft lo hi w0 w)(hB:dz w b lo hi v st)(k:ey b w w' v v'):ft lo hi w0 w':=fun i h1 h2=>by
 have:=hB.dW;have:=hB.aq.lt;exact(k.kept.block i (by omega) (fun hx=>by have:=hB.ay hx;omega)).trans (h i h1 h2)
theorem ft.set(h:ft lo hi w0 w)(hc:hi<=c)(j:Nat)(u:Value):ft lo hi w0 (w.setCell (GB c j) u):=fun i h1 h2=>(Cx w (GB c j) u i (by show i≠c;omega)).trans (h i h1 h2)
theorem ft.cell(h:ft lo hi w0 w){j:Nat}(h1:lo<=i)(h2:i<hi):w.cell? (GB i j)=w0.cell? (GB i j):=Cc (w:=w0) (h i h1 h2)
def o9(w:World)(pb i:Nat)(N:Nv):Prop:=∀j,j<8->w.cell? ⟨pb,i*8+j,none⟩=N.cells[j]?
theorem o9.mh(h:o9 w0 pb i N)(hs:ft lo hi w0 w)(h1:lo<=pb)(h2:pb<hi):o9 w pb i N:=fun j hj=>(hs.cell h1 h2).trans (h j hj)
theorem o9.iq(h:o9 w pb i N):(w.cell? ⟨pb,i*8,none⟩=some (GW N.k)/\w.cell? ⟨pb,i*8+1,none⟩=some (.slice N.pa N.pn N.pc)/\w.cell? ⟨pb,i*8+2,none⟩=some (.slice N.sa N.sn N.sc)/\w.cell? ⟨pb,i*8+3,none⟩=some (GW N.ed))/\
 w.cell? ⟨pb,i*8+4,none⟩=some (GW N.gr)/\w.cell? ⟨pb,i*8+5,none⟩=some (GW N.lo)/\w.cell? ⟨pb,i*8+6,none⟩=some (GW N.hi)/\w.cell? ⟨pb,i*8+7,none⟩=some (.bool N.lz):=
 ⟨⟨h 0 (by omega),h 1 (by omega),h 2 (by omega),h 3 (by omega)⟩,h 4 (by omega),h 5 (by omega),h 6 (by omega),h 7 (by omega)⟩
theorem o9.zero(h:o9 w pb 0 N):(w.cell? (GB pb 0)=some (GW N.k)/\w.cell? (GB pb 1)=some (.slice N.pa N.pn N.pc)/\w.cell? (GB pb 2)=some (.slice N.sa N.sn N.sc)/\w.cell? (GB pb 3)=some (GW N.ed))/\
 w.cell? (GB pb 4)=some (GW N.gr)/\w.cell? (GB pb 5)=some (GW N.lo)/\w.cell? (GB pb 6)=some (GW N.hi)/\w.cell? (GB pb 7)=some (.bool N.lz):=
 ⟨⟨h 0 (by omega),h 1 (by omega),h 2 (by omega),h 3 (by omega)⟩,h 4 (by omega),h 5 (by omega),h 6 (by omega),h 7 (by omega)⟩
def xo(b lo hi:Nat)(w0:World)(q:Nv)(C:CT):Prop:=∀(W:World) (v:Value) (st:List MS) (x:Ex),dz W b lo hi v st->df st.length x->ft lo hi w0 W->st.length+4*C.sz.toNat<=9000->
 Calls prog 44 #[BT b 0,Nv.val q,cO x] W (ml W b lo hi v (bB C st x).1 (cO (bB C st x).2))
theorem gG.mark(w:World)(lo hi:Nat)(s:Int)(n:Int):gG w lo hi (Sv.zE ⟨3,none,0,0,0,s,0,0⟩ n) (iS s n):=⟨rfl,rfl,rfl,rfl,rfl,by simp[iS],fun e=>by simp[iS]at e⟩
theorem gG.rF(w:World)(lo hi:Nat)(s:Int)(n:Int):gG w lo hi (Sv.zE ⟨2,none,0,0,s,0,0,0⟩ n) (sH s n):=⟨rfl,rfl,rfl,rfl,rfl,by simp[sH],fun e=>by simp[sH]at e⟩
theorem alA{q:Nv}{C:CT}(h:dz w b lo hi v st)(x:Ex)(hx:df st.length x)(hS:ft lo hi w0 w)(dB:C.ok)(aW:C.sz<=1000)(hP:xo b lo hi w0 N C)
 (nd:q.pa=some (GB pb 0))(iY:q.pn=1)(ee:lo<=pb/\pb<hi)(hK:o9 w pb 0 N)(dM:0<=q.gr/\q.gr<=300)(dy:st.length+4+4*C.sz.toNat<=9000):
 Calls prog 66 #[BT b 0,Nv.val q,cO x] w (ml w b lo hi v
  (if q.gr=0 then bB C st x else fu (iS (2*(q.gr-1))) (bB C (fu (iS (2*(q.gr-1)+1)) st x).1 (fu (iS (2*(q.gr-1)+1)) st x).2).1 (bB C (fu (iS (2*(q.gr-1)+1)) st x).1 (fu (iS (2*(q.gr-1)+1)) st x).2).2).1
  (cO (if q.gr=0 then bB C st x else fu (iS (2*(q.gr-1))) (bB C (fu (iS (2*(q.gr-1)+1)) st x).1 (fu (iS (2*(q.gr-1)+1)) st x).2).1 (bB C (fu (iS (2*(q.gr-1)+1)) st x).1 (fu (iS (2*(q.gr-1)+1)) st x).2).2).2)):=by
 have az:=h.aq.lt;have dW:=h.dW;obtain⟨x1,x2⟩:=x;have oH:pb<w.heap.size:=by omega
 obtain⟨qk,gN,eT,fE,bV,cA,bY,bM,di,eh,dX,eL⟩:=q;simp only at nd iY dM;subst nd iY;have h1:=h.alloc (.cells #[GW qk,.slice (some (GB pb 0)) 1 fE,.slice bV cA bY,GW bM,GW di,GW eh,GW dX,.bool eL] 64);have h2:=h1.alloc (.cells (aM (x1,x2)) 115);have h3:=h2.alloc (.cells (aM (0,0)) 115);have h4:=h3.alloc (.cells N.cells 64);have l1:=((bk.new h1 (aM (x1,x2)) 115).alloc (.cells (aM (0,0)) 115)).alloc (.cells N.cells 64);have l2:=(bk.new h2 (aM (0,0)) 115).alloc (.cells N.cells 64);have l3:=bk.new h3 N.cells 64;have W4:=((((ey.refl b w v).alloc (.cells #[GW qk,.slice (some (GB pb 0)) 1 fE,.slice bV cA bY,GW bM,GW di,GW eh,GW dX,.bool eL] 64)).alloc (.cells (aM (x1,x2)) 115)).alloc (.cells (aM (0,0)) 115)).alloc (.cells N.cells 64);have S4:=(((hS.alloc (by omega) (.cells #[GW qk,.slice (some (GB pb 0)) 1 fE,.slice bV cA bY,GW bM,GW di,GW eh,GW dX,.bool eL] 64)).alloc (by simp;omega) (.cells (aM (x1,x2)) 115)).alloc (by simp;omega) (.cells (aM (0,0)) 115)).alloc (by simp;omega) (.cells N.cells 64);have K3:=(hK.mh ((((ft.refl lo hi w).alloc (by omega) (.cells #[GW qk,.slice (some (GB pb 0)) 1 fE,.slice bV cA bY,GW bM,GW di,GW eh,GW dX,.bool eL] 64)).alloc (by simp;omega) (.cells (aM (x1,x2)) 115)).alloc (by simp;omega) (.cells (aM (0,0)) 115)) ee.1 ee.2).zero;simp only[aM]at K3;obtain⟨⟨k0,k1,k2,k3⟩,k4,k5,k6,k7⟩:=K3;simp only[iy]at l1 l2 l3;simp only[Nv.val,Nv.cells,cO];by_cases g0:di=0
 ·have d1:(di==0)=true:=by simp[g0]
  simp only[if_pos g0];have F1:=hP _ v st (x1,x2) h4 hx S4 (by omega);simp only[Nv.val,Nv.cells,cO,aM]at F1;simp only[aM]at l2 W4;have F1:=ab F1;have PK:=ab (And.intro l2 W4);clear h h1 h2 h3 h4 l1 l2 l3 W4 S4 hS hK g0;go_in;go_wp2_with fail;refine(F1.o).mono ?_;rintro e w4 ⟨rfl,v4,h4,jt⟩;have l2:=PK.o.1.a_ jt;obtain⟨c0,c1,f0,f1⟩:=l2.cM;have aA:=ab (And.intro h4 (And.intro (PK.o.2.trans jt) l2));clear l2 h4 jt F1 PK;go_wp2_with fail;exact mZ aA.o.1 aA.o.2.1 aA.o.2.2 (by omega) (by omega) results66 rfl rfl
 ·have d1:(di==0)=false:=by simp[g0]
  simp only[if_neg g0];have iO:=oo C dB aW;have jM:=BS.mark (2*(di-1)+1);have F1:=Xx h4 ⟨3,none,0,0,0,2*(di-1)+1,0,0⟩ (iS (2*(di-1)+1)) (fun W n=>gG.mark W lo hi _ n) (x1,x2) (by omega);have X1:=jM.fQ st (x1,x2) hx;have N1:=jM.bN st (x1,x2);generalize QX:fu (iS (2*(di-1)+1)) st (x1,x2)=R1 at*;obtain⟨aD,y1,y2⟩:=R1;simp only at X1 N1;have X2:=iO.fQ aD (y1,y2) X1;have N2:=iO.bN aD (y1,y2);have G2:=iO.grow aD (y1,y2);simp only[Sv.val,Sv.cells,cO,aM]at F1;simp only[aM]at l1 l2 l3 W4;have F1:=ab F1;have PK:=ab (And.intro (And.intro l1 (And.intro l2 l3)) (And.intro W4 (And.intro h4 S4)));have HP:=ab hP;clear h h1 h2 h3 h4 l1 l2 l3 W4 S4 hS hK g0 hP iO jM QX;have r1: -9223372036854775808<=2*(di-1)/\2*(di-1)+1<=9223372036854775807:=by omega
  go_in
  go_wp2_with fail
  refine(F1.o).mono ?_;rintro e w5 ⟨rfl,v5,h5,J_⟩;obtain⟨⟨l1,l2,l3⟩,W4,h4,S4⟩:=PK.o;have S5:=S4.a_ h4 J_;have m1:=l1.a_ J_;have m2:=l2.a_ J_;have m3:=l3.a_ J_;have W5:=W4.trans J_;have m1':=(m1.setCell 0 (GW y1)).setCell 1 (GW y2);have DM:=(m2.bj (d:=w.heap.size+1) (by omega) 0 (GW y1)).bj (d:=w.heap.size+1) (by omega) 1 (GW y2);have m3':=(m3.bj (d:=w.heap.size+1) (by omega) 0 (GW y1)).bj (d:=w.heap.size+1) (by omega) 1 (GW y2);have ME:=(h5.set m1.not (by omega) 0 (GW y1)).set m1.not (by omega) 1 (GW y2);have W5':=(W5.set (c:=w.heap.size+1) (by omega) 0 (GW y1)).set (c:=w.heap.size+1) (by omega) 1 (GW y2);have S5':=(S5.set (c:=w.heap.size+1) (by omega) 0 (GW y1)).set (c:=w.heap.size+1) (by omega) 1 (GW y2);obtain⟨c0,c1,f0,f1⟩:=m1.cM;obtain⟨e0,e1,e2,e3,e4,e5,e6,e7⟩:=m3.aq.iq;have F2:=HP.o _ v5 aD (y1,y2) ME X1 S5' (by omega);simp only[Nv.val,Nv.cells,cO]at F2;have F2:=ab F2;have mV:=ab (And.intro DM (And.intro W5' ME));clear l1 l2 l3 W4 h4 S4 J_ S5 m1 m2 m3 W5 m1' DM m3' ME W5' S5' h5 F1 PK HP;go_wp2_with fail;refine(F2.o).mono ?_;rintro e w6 ⟨rfl,v6,h6,Xo⟩;obtain⟨m2,W5,h5⟩:=mV.o;have m6:=m2.a_ Xo;have W6:=W5.trans Xo;have F3:=Xx h6 ⟨3,none,0,0,0,2*(di-1),0,0⟩ (iS (2*(di-1))) (fun W n=>gG.mark W lo hi _ n) (bB C aD (y1,y2)).2 (by omega);simp only[Sv.val,Sv.cells,cO]at F3;have F3:=ab F3;have kh:=ab (And.intro m6 W6);clear m2 W5 h5 m6 W6 h6 Xo F2 mV;go_wp2_with fail;refine(F3.o).mono ?_;rintro e w7 ⟨rfl,v7,h7,Ij⟩;obtain⟨m6,W6⟩:=kh.o;have m7:=m6.a_ Ij;obtain⟨c0,c1,f0,f1⟩:=m7.cM;have aA:=ab (And.intro h7 (And.intro (W6.trans Ij) m7));clear m6 W6 m7 h7 Ij F3 kh;go_wp2_with fail;exact mZ aA.o.1 aA.o.2.1 aA.o.2.2 (by omega) (by omega) results66 rfl rfl
