/- A node of the program in memory -/
import Derived.Test.YtmbpfhlnifdhgaaGreatDoorP02
set_option linter.unusedVariables false
set_option linter.unusedSimpArgs false
set_option maxRecDepth 100000
set_option maxHeartbeats 16000000
namespace Go.Proofs.YtmbpfhlnifdhgaaGreatDoor
open Go.Proofs.Tryz
open Go.RowKit Go.Maps
variable {a:Act} {fo wE lz:Bool} {C CA:CT} {Q:Ending->World->Prop} {f:Func} {gr:Int} {cs:List CT} {ts:List PT} {xs:List Value} {b b2 base cap e hi i lo n size:Nat} {S:Nat->Prop} {A T:PT} {g:RG} {st iL:RS} {l sp:bN} {t:TypeId} {v:Value} {W w w' w0 w1 wz:World}
theorem cA(h:w.ownsRow base e size v n xs)(hb:v.ownBlock=some b):base<=b/\b<w.heap.size:=vI h hb
theorem dh(h:w.ownsRow base e size v n xs)(k:I S w w')(hs:∀b,v.ownBlock=some b->¬S b):w'.ownsRow base e size v n xs:=Xe h k hs
theorem dY(h:w.ownsRow base e size v n xs):∃ao c,v=.slice ao n c:=RC h
structure Nv where
 k:Int
 pa:Option Addr
 pn:Nat
 pc:Nat
 sa:Option Addr
 sn:Nat
 sc:Nat
 ed:Int
 gr:Int
 lo:Int
 hi:Int
 lz:Bool
def Nv.cells(q:Nv):Array Value:=#[.int .i64 q.k,.slice q.pa q.pn q.pc,.slice q.sa q.sn q.sc,.int .i64 q.ed,.int .i64 q.gr,.int .i64 q.lo,.int .i64 q.hi,.bool q.lz]
def Nv.val(q:Nv):Value:=.agg q.cells
def bZ:Nv:=⟨0,none,0,0,none,0,0,0,0,0,0,false⟩
def vP(sa:Option Addr)(sn sc:Nat):Nv:=⟨0,none,0,0,sa,sn,sc,0,0,0,0,false⟩
def CJ(e:Int):Nv:=⟨1,none,0,0,none,0,0,e,0,0,0,false⟩
inductive c_(w:World)(lo hi:Nat):Nv->PT->CT->Prop where
 |mk (q:Nv) (tk:Int) (b bs:Nat) (ts:List PT) (cs:List CT) (V:Nat->Nv) (S sp:bN) (fo nt:Bool)
  (hn:q.pn=ts.length/\cs.length=ts.length/\q.sn=S.length)
  (hb:ts≠ []->q.pa=some ⟨b,0,none⟩/\lo<=b/\b<hi)
  (hc:∀i,i<ts.length->∀j,j<8->w.cell? ⟨b,i*8+j,none⟩=(V i).cells[j]?)
  (hk:∀i,(h:i<ts.length)->(h':i<cs.length)->c_ w lo hi (V i) ts[i] cs[i])
  (hs:S≠ []->q.sa=some ⟨bs,0,none⟩/\lo<=bs/\bs<hi)
  (td:gF w bs S)
  (hr:(-1<=q.lo/\q.lo<=99)/\(-1<=q.hi/\q.hi<=99)/\ts.length<=400/\(0<=q.gr/\q.gr<=300)/\(0<=q.ed/\q.ed<=3)/\eh S/\S.length<=6000)
  (qh:(q.k=0/\tk=0/\wk S sp fo nt)\/(q.k=1/\tk=0)\/(q.k=2/\tk=1)\/(q.k=3/\tk=2)\/(q.k=4/\tk=3/\ts≠ [])\/(q.k=5/\tk=4)):
  c_ w lo hi q (.node tk ts q.lo q.hi) (.node q.k sp fo nt q.ed q.gr q.lo q.hi q.lz cs)
theorem gF.nil(w:World)(b:Nat):gF w b []:=fun i h=>by simp at h
theorem c_.kept{q:Nv}(h:c_ w lo hi q T C)(k:I S w w')(hs:∀i,lo<=i->i<hi->¬S i)(hle:hi<=w.heap.size):c_ w' lo hi q T C:=by
 induction h with
 |mk q tk b bs ts cs V Sp sp fo nt hn hb hc hk ew td hr qh ih=>
  refine c_.mk q tk b bs ts cs V Sp sp fo nt hn hb (fun i aS j hj=>?_) (fun i h1 h2=>ih i h1 h2) ew (fun i aS=>?_) hr qh
  ·have aF:ts≠ []:=by intro e;subst e;simp at aS
   obtain⟨_,b1,b2⟩:=hb aF;exact(k.cell (p:=⟨b,i*8+j,none⟩) (by show b<_;omega) (hs b b1 b2)).trans (hc i aS j hj)
  ·have aF:Sp≠ []:=by intro e;subst e;simp at aS
   obtain⟨_,b1,b2⟩:=ew aF;exact⟨(k.cell (p:=⟨bs,i*2,none⟩) (by show bs<_;omega) (hs bs b1 b2)).trans (td i aS).1,(k.cell (p:=⟨bs,i*2+1,none⟩) (by show bs<_;omega) (hs bs b1 b2)).trans (td i aS).2⟩
theorem c_.np{Ng aS:Nat}{q:Nv}(h:c_ w lo hi q T C)(h1:Ng<=lo)(h2:hi<=aS):c_ w Ng aS q T C:=by
 induction h with
 |mk q tk b bs ts cs V Sp sp fo nt hn hb hc hk ew td hr qh ih=>
  exact c_.mk q tk b bs ts cs V Sp sp fo nt hn (fun aF=>by obtain⟨a,b1,b2⟩:=hb aF;exact⟨a,by omega,by omega⟩) hc (fun i a1 a2=>ih i a1 a2) (fun aF=>by obtain⟨a,b1,b2⟩:=ew aF;exact⟨a,by omega,by omega⟩) td hr qh
theorem c_.kN(w:World)(lo hi:Nat)(e:Int)(he:0<=e/\e<=3):c_ w lo hi (CJ e) gX (sJ e):=
 c_.mk (CJ e) 0 0 0 [] [] (fun _=>bZ) [] [] false false ⟨rfl,rfl,rfl⟩ (fun h=>absurd rfl h) (fun i h=>by simp at h) (fun i h=>by simp at h) (fun h=>absurd rfl h) (gF.nil _ _)
  ⟨by simp[CJ],by simp[CJ],by simp,by simp[CJ],he,fun s h=>by simp at h,by simp⟩ (Or.inr (Or.inl ⟨rfl,rfl⟩))
theorem c_.uA{S:bN}{nt:Bool}(h:w.ownsRow lo 181 2 v S.length (dF S))(hS:wk S sp fo nt)(hr:eh sp)(hl:sp.length<=1900):
 ∃sa sc,v=.slice sa S.length sc/\c_ w lo w.heap.size (vP sa S.length sc) gX (kM sp fo nt):=by
 have MB:=hS.anm hr;by_cases aF:S=[]
 ·obtain⟨sa,sc,rfl⟩:=RC h
  refine⟨sa,sc,rfl,c_.mk (vP sa S.length sc) 0 0 0 [] [] (fun _=>bZ) S sp fo nt ⟨rfl,rfl,rfl⟩ (fun h=>absurd rfl h) (fun i h=>by simp at h) (fun i h=>by simp at h) (fun h=>absurd aF h) (by rw[aF];exact gF.nil _ _)
   ⟨by simp[vP],by simp[vP],by simp,by simp[vP],by simp[vP],MB.1,by omega⟩ (Or.inl ⟨rfl,rfl,hS⟩)⟩
 ·obtain⟨g,sc,rfl,h1,h2,h3,_⟩:=CF h aF
  exact⟨some ⟨g,0,none⟩,sc,rfl,c_.mk (vP (some ⟨g,0,none⟩) S.length sc) 0 0 g [] [] (fun _=>bZ) S sp fo nt ⟨rfl,rfl,rfl⟩ (fun h=>absurd rfl h) (fun i h=>by simp at h) (fun i h=>by simp at h) (fun _=>⟨rfl,h1,h2⟩) h3
   ⟨by simp[vP],by simp[vP],by simp,by simp[vP],by simp[vP],MB.1,by omega⟩ (Or.inl ⟨rfl,rfl,hS⟩)⟩
def wD:List Nv->List Value
 | []=>[]
 |q::qs=>q.cells.toList++wD qs
theorem Nv.FQ(q:Nv):q.cells.toList.length=8:=rfl
theorem air(a b:List Nv):wD (a++b)=wD a++wD b:=by
 induction a with
 |nil=>rfl
 |cons q qs ih=>simp[wD,ih]
theorem ais(qs:List Nv)(i:Nat)(h:i<qs.length)(j:Nat)(hj:j<8):(wD qs)[i*8+j]? =(qs[i]).cells[j]? :=by
 induction qs generalizing i with
 |nil=>simp at h
 |cons q qs ih=>
  cases i with
  |zero=>
   simp only[wD,Ap];rw[Au (by rw[Nv.FQ];omega),show 0*8+j=j by omega];simp
  |succ i=>
   have:=ih i (by simpa using h);simp only[wD,Am];rw[Be (by rw[Nv.FQ];omega),Nv.FQ,show(i+1)*8+j-8=i*8+j by omega];exact this
theorem Nv.one(q:Nv):∀u∈q.cells.toList,u.oneCell'=true:=by
 intro u hu;simp[Nv.cells]at hu;rcases hu with rfl|rfl|rfl|rfl|rfl|rfl|rfl|rfl<;>rfl
structure om(w:World)(base:Nat)(v:Value)(qs:List Nv)(ts:List PT)(cs:List CT):Prop where
 aN:w.ownsRow base 43 8 v ts.length (wD qs)
 len:qs.length=ts.length
 It:cs.length=ts.length
 cB:ts.length<=400
 sh:∀i,(h:i<ts.length)->(h':i<qs.length)->(h'':i<cs.length)->∃lo hi,base<=lo/\hi<=w.heap.size/\c_ w lo hi qs[i] ts[i] cs[i]/\∀b,v.ownBlock=some b->¬(lo<=b/\b<hi)
theorem om.nil(w:World)(base:Nat):om w base (.slice none 0 0) [] [] []:=⟨At _ _ _ _,rfl,rfl,by simp,fun i h=>by simp at h⟩
theorem om.kept{qs:List Nv}(h:om w base v qs ts cs)(k:I S w w')(hs:∀i,S i->i<base):om w' base v qs ts cs where
 aN:=Xe h.aN k (fun b hb hx=>by have:=vI h.aN hb;have:=hs b hx;omega)
 len:=h.len
 It:=h.It
 cB:=h.cB
 sh i h1 h2 h3:=by
  obtain⟨lo,gz,a1,a2,a3,a4⟩:=h.sh i h1 h2 h3;exact⟨lo,gz,a1,Bf a2 k.size,a3.kept k (fun j hj _ hx=>by have:=hs j hx;omega) a2,a4⟩
theorem om.lg{v':Value}{qs:List Nv}{q:Nv}(h:om w base v qs ts cs)
 (hq:c_ w lo hi q T C)(d_:base<=lo)(MI:∀b,v.ownBlock=some b->b<lo)(fX:hi<=w.heap.size)
 (k1:I aq w w1)(a8:w'.ownsRow base 43 8 v' (ts.length+1) (wD qs++q.cells.toList))(hg:w1.grownBy w' v.ownBlock)(bH:v'.ownBlock=v.ownBlock\/v'.ownBlock=some w1.heap.size)(dg:ts.length+1<=400):om w' base v' (qs++[q]) (ts++[T]) (cs++[C]):=by
 have kk:I (fun i=>v.ownBlock=some i) w w':=(k1.mono (fun _ hx=>hx.elim)).dn hg (fun j hj=>Or.inl hj);have bm:w.heap.size<=w1.heap.size:=k1.size;have gU:=h.It;have GK:=h.len;refine⟨by rw[air];simpa[wD]using a8,by simp[h.len],by simp[h.It],by simpa using dg,fun i ue gz Qh=>?_⟩;by_cases ar:i<ts.length
 ·obtain⟨lo2,aje,a1,a2,a3,a4⟩:=h.sh i ar (by omega) (by omega);refine⟨lo2,aje,a1,Bf a2 kk.size,?_,fun b hb=>?_⟩
  ·have e1:(qs++[q])[i]=qs[i]'(by omega):=A6 _;have e2:(ts++[T])[i]=ts[i]:=A6 _;have e3:(cs++[C])[i]=cs[i]'(by omega):=A6 _;rw[e1,e2,e3];exact a3.kept kk (fun j vo ko hx=>a4 j hx ⟨vo,ko⟩) a2
  ·rcases bH with hl|hl
   ·exact a4 b (hl▸hb)
   ·rw[hl]at hb;cases hb;omega
 ·have aS:i=ts.length:=by simp at ue;omega
  subst aS;refine⟨lo,hi,d_,Bf fX kk.size,?_,fun b hb=>?_⟩
  ·have e1:(qs++[q])[ts.length]=q:=(by simp[<-h.len]);have e2:(ts++[T])[ts.length]=T:=(by simp);have e3:(cs++[C])[ts.length]=C:=(by simp[<-h.It]);rw[e1,e2,e3];exact hq.kept kk (fun j vo _ hx=>by have:=MI j hx;omega) fX
  ·rcases bH with hl|hl
   ·have:=MI b (hl▸hb);omega
   ·rw[hl]at hb;cases hb;omega
def jC(k:Int)(pa:Option Addr)(pn pc:Nat):Nv:=⟨k,pa,pn,pc,none,0,0,0,0,0,0,false⟩
theorem om.node{qs:List Nv}(h:om w base v qs ts cs)(k tk:Int)(hk:(k=3/\tk=2)\/(k=4/\tk=3/\ts≠ [])):
 ∃pa pc,v=.slice pa ts.length pc/\c_ w base w.heap.size (jC k pa ts.length pc) (.node tk ts 0 0) (.node k [] false false 0 0 0 0 false cs):=by
 have gU:=h.It;have GK:=h.len
 have aJ:∀i,(h1:i<ts.length)->(h2:i<cs.length)->c_ w base w.heap.size (qs.getD i bZ) ts[i] cs[i]:=by
  intro i h1 h2;have gz:i<qs.length:=by omega
  obtain⟨lo,Qh,a1,a2,a3,_⟩:=h.sh i h1 gz h2;have e:qs.getD i bZ=qs[i]:=by simp[List.getD,Ab gz]
  rw[e];exact a3.np a1 a2
 have qh:((jC k none 0 0).k=0/\tk=0/\wk [] [] false false)\/(k=1/\tk=0)\/(k=2/\tk=1)\/(k=3/\tk=2)\/(k=4/\tk=3/\ts≠ [])\/(k=5/\tk=4):=by
  rcases hk with hk|hk
  ·exact Or.inr (Or.inr (Or.inr (Or.inl hk)))
  ·exact Or.inr (Or.inr (Or.inr (Or.inr (Or.inl hk))))
 rcases h.aN.2 with⟨rfl,hn⟩|⟨g,cap,aU,rfl,a1,a2,a3,a4,a5,a6⟩
 ·have e:ts=[]:=Az.1 hn;subst e
  refine⟨none,0,rfl,c_.mk (jC k none 0 0) tk 0 0 [] cs (fun _=>bZ) [] [] false false ⟨rfl,gU,rfl⟩ (fun h=>absurd rfl h) (fun i h=>by simp at h) (fun i h=>by simp at h) (fun h=>absurd rfl h) (gF.nil _ _)
   ⟨by simp[jC],by simp[jC],by simp,by simp[jC],by simp[jC],fun s h=>by simp at h,by simp⟩ qh⟩
 ·refine⟨_,cap,rfl,c_.mk (jC k (some ⟨g,0,none⟩) ts.length cap) tk g 0 ts cs (fun i=>qs.getD i bZ) [] [] false false ⟨rfl,gU,rfl⟩ (fun _=>⟨rfl,a1,(Ah.1 a2).1⟩) (fun i hi j hj=>?_) aJ (fun h=>absurd rfl h) (gF.nil _ _)
   ⟨by simp[jC],by simp[jC],h.cB,by simp[jC],by simp[jC],fun s h=>by simp at h,by simp⟩ qh⟩
  have gz:i<qs.length:=by omega
  have e:qs.getD i bZ=qs[i]:=by simp[List.getD,Ab gz]
  have hf:=ais qs i gz j hj;rw[e,<-hf,<-a6,Al (by omega)];simp only[World.cell?,a2];simp
def qX(k:Int)(b cap:Nat)(gr lo hi:Int)(lz:Bool):Nv:=⟨k,some ⟨b,0,none⟩,1,cap,none,0,0,0,gr,lo,hi,lz⟩
theorem c_.wrap{WO b_:Nat}{q:Nv}{k tk l h:Int}(hp:c_ w lo hi q T C)(fX:hi<=w.heap.size)(kk:I S w W)(hS:∀i,S i->i<lo\/hi<=i)
 (hb:ay W b q.cells 43)(d_:WO<=lo)(ajd:hi<=b_)(sS:WO<=b/\b<b_)(hr:(-1<=l/\l<=99)/\(-1<=h/\h<=99)/\(0<=gr/\gr<=300))(hk:(k=2/\tk=1)\/(k=5/\tk=4)):
 c_ W WO b_ (qX k b cap gr l h lz) (.node tk [T] l h) (.node k [] false false 0 gr l h lz [C]):=by
 refine c_.mk (qX k b cap gr l h lz) tk b 0 [T] [C] (fun _=>q) [] [] false false ⟨rfl,rfl,rfl⟩ (fun _=>⟨rfl,sS.1,sS.2⟩) (fun i aS j hj=>?_) (fun i h1 h2=>?_) (fun h=>absurd rfl h) (gF.nil _ _)
  ⟨hr.1,hr.2.1,by simp,hr.2.2,by simp[qX],fun s h=>by simp at h,by simp⟩ ?_
 ·have e:i=0:=by simp at aS;omega
  subst e;rw[hb.cell (0*8+j),show 0*8+j=j by omega]
 ·have e:i=0:=by simp at h1;omega
  subst e;exact(hp.kept kk (fun j h1 h2 hx=>by rcases hS j hx with h3|h3<;>omega) fX).np d_ ajd
 ·rcases hk with hk|hk
  ·exact Or.inr (Or.inr (Or.inl hk))
  ·exact Or.inr (Or.inr (Or.inr (Or.inr (Or.inr hk))))
def gq(w:World)(b:Nat)(q:Nv):World:=
 (((((((w.setCell ⟨b,0,none⟩ (.int .i64 q.k)).setCell ⟨b,1,none⟩ (.slice q.pa q.pn q.pc)).setCell ⟨b,2,none⟩ (.slice q.sa q.sn q.sc)).setCell ⟨b,3,none⟩ (.int .i64 q.ed)).setCell ⟨b,4,none⟩ (.int .i64 q.gr)).setCell ⟨b,5,none⟩ (.int .i64 q.lo)).setCell ⟨b,6,none⟩ (.int .i64 q.hi)).setCell ⟨b,7,none⟩ (.bool q.lz)
theorem JN(w:World)(b:Nat)(q:Nv):I (fun i=>i=b) w (gq w b q):=
 ((((((((I.refl (fun i=>i=b) w).setCell (p:=⟨b,0,none⟩) (Or.inl rfl) _).setCell (p:=⟨b,1,none⟩) (Or.inl rfl) _).setCell (p:=⟨b,2,none⟩) (Or.inl rfl) _).setCell (p:=⟨b,3,none⟩) (Or.inl rfl) _).setCell (p:=⟨b,4,none⟩) (Or.inl rfl) _).setCell (p:=⟨b,5,none⟩) (Or.inl rfl) _).setCell (p:=⟨b,6,none⟩) (Or.inl rfl) _).setCell (p:=⟨b,7,none⟩) (Or.inl rfl) _
theorem NJ(w:World)(b:Nat)(q:Nv):(gq w b q).heap.size=w.heap.size:=by simp[gq,World.setCell]
theorem AE{p:Nv}(h:ay w b p.cells t)(q:Nv):ay (gq w b q) b q.cells t:=by
 have h8:=(((((((h.setCell 0 (.int .i64 q.k)).setCell 1 (.slice q.pa q.pn q.pc)).setCell 2 (.slice q.sa q.sn q.sc)).setCell 3 (.int .i64 q.ed)).setCell 4 (.int .i64 q.gr)).setCell 5 (.int .i64 q.lo)).setCell 6 (.int .i64 q.hi)).setCell 7 (.bool q.lz);have e:(((((((p.cells.setIfInBounds 0 (.int .i64 q.k)).setIfInBounds 1 (.slice q.pa q.pn q.pc)).setIfInBounds 2 (.slice q.sa q.sn q.sc)).setIfInBounds 3 (.int .i64 q.ed)).setIfInBounds 4 (.int .i64 q.gr)).setIfInBounds 5 (.int .i64 q.lo)).setIfInBounds 6 (.int .i64 q.hi)).setIfInBounds 7 (.bool q.lz)=q.cells:=by simp[Nv.cells]
 rw[e]at h8;exact h8
theorem ay.ib{q:Nv}(h:ay w b q.cells t):
 w.cell? ⟨b,0,none⟩=some (.int .i64 q.k)/\w.cell? ⟨b,1,none⟩=some (.slice q.pa q.pn q.pc)/\w.cell? ⟨b,2,none⟩=some (.slice q.sa q.sn q.sc)/\w.cell? ⟨b,3,none⟩=some (.int .i64 q.ed)/\w.cell? ⟨b,4,none⟩=some (.int .i64 q.gr)/\w.cell? ⟨b,5,none⟩=some (.int .i64 q.lo)/\w.cell? ⟨b,6,none⟩=some (.int .i64 q.hi)/\w.cell? ⟨b,7,none⟩=some (.bool q.lz):=
 ⟨h.cell 0,h.cell 1,h.cell 2,h.cell 3,h.cell 4,h.cell 5,h.cell 6,h.cell 7⟩
theorem ay.o7{cs:Array Value}(h:ay w b cs t):
 w.frozen? ⟨b,0,none⟩=false/\w.frozen? ⟨b,1,none⟩=false/\w.frozen? ⟨b,2,none⟩=false/\w.frozen? ⟨b,3,none⟩=false/\w.frozen? ⟨b,4,none⟩=false/\w.frozen? ⟨b,5,none⟩=false/\w.frozen? ⟨b,6,none⟩=false/\w.frozen? ⟨b,7,none⟩=false:=
 ⟨h.frozen 0,h.frozen 1,h.frozen 2,h.frozen 3,h.frozen 4,h.frozen 5,h.frozen 6,h.frozen 7⟩
theorem zY{q:Nv}(mZ:f.results=#[ResultVar.cell i 43])(zE:a.tmps.getD i undef=.pointer (some ⟨b,0,none⟩))(hd:a.defers=[])
 (hb:ay W b q.cells 43)(hQ:Q (.returned q.val) W):bodyPost prog f Q Exit.ret a W:=by
 obtain⟨r0,r1,r2,r3,r4,r5,r6,r7⟩:=hb.ib;have oJ:a.tmps[i]?.getD undef=.pointer (some ⟨b,0,none⟩):=by simpa using zE
 exact Ct (v:=q.val) (by simp[results,mZ,go_sem,oJ,r0,r1,r2,r3,r4,r5,r6,r7,Nv.val,Nv.cells]) hd hQ
theorem adA(q:Nv)(j:Nat)(u:Value)(h:q.cells.toList[j]? =some u):(w.alloc (.cells q.cells 43)).cell? (Addr.add ⟨w.heap.size,0,none⟩ j)=some u:=vE w q.cells 43 j u h
theorem aZ.anJ(h:aZ w g fo st)(m:Nat)(hm:m<=st.next)(hg:st.aC<=m):aZ (w.setCell ⟨g.b,5,none⟩ (.int .i64 m)) g fo {st with aC:=m} where
 ae:=h.ae.setCell 5 _
 isSome:=h.isSome
 gC i hi:=by
  rw[Bm (w:=w) (Ca w _ _ g.br (fun e=>h.eD.1 e.symm))];exact h.gC i hi
 places i hi:=by
  rw[Bm (w:=w) (Ca w _ _ g.bp (fun e=>h.eD.2.1 e.symm))];exact h.places i hi
 ph:=by have:=h.ph;simpa[World.setCell]using this
 pg:=by have:=h.pg;simpa[World.setCell]using this
 oc:=h.oc
 su:=h.su
 fm:=by obtain⟨D,hD,hF⟩:=h.fm;exact⟨D,hD.setCell (a:=⟨g.b,5,none⟩) (fun e=>h.eD.2.2.1 e.symm) _,hF⟩
 nm:=by obtain⟨D,hD,hF⟩:=h.nm;exact⟨D,hD.setCell (a:=⟨g.b,5,none⟩) (fun e=>h.eD.2.2.2.1 e.symm) _,hF⟩
 len:=h.len
 oA:=h.oA
 next:=h.next
 aC:=hm
 names:=by have:=h.names;simp;omega
 eD:=h.eD
theorem aZ.afq(h:aZ w g fo st)(hi:g.use i):i<w.heap.size:=by
 obtain⟨D,hD,_⟩:=h.fm;obtain⟨D',hD',_⟩:=h.nm;rcases hi with rfl|rfl|rfl|rfl|rfl
 ·exact h.gR
 ·exact hD.lt
 ·exact hD'.lt
 ·exact h.ph
 ·exact h.pg
theorem aZ.mH(h:aZ w g fo st)(hi:g.aN i):i<w.heap.size:=h.afq (by rcases hi with h|h|h<;>simp[RG.use,h])
theorem aZ.new{fo0:Bool}{bP:RS}(h:aZ w g fo st)(h0:aZ w0 g fo0 bP)(k:I S w w')(hs:∀i,S i->w0.heap.size<=i):aZ w' g fo st:=
 h.kept k (fun i hi hx=>by have:=h0.afq hi;have:=hs i hx;omega)
theorem cR(w:World)(o:Obj):(w.alloc o).heap.size=w.heap.size+1:=by simp
theorem Np{q:Nv}(h:aZ w g fo st)(h2:aZ wz g wE iL)(hp:c_ wz lo hi q T C)(d_:w.heap.size<lo)(fX:hi<=wz.heap.size)(k1:I g.aN w wz):
 aZ (gq wz w.heap.size q) g wE iL/\c_ (gq wz w.heap.size q) w.heap.size (gq wz w.heap.size q).heap.size q T C/\I g.aN w (gq wz w.heap.size q):=by
 have sz:=NJ wz w.heap.size q;have kq:=JN wz w.heap.size q;refine⟨h2.new h kq (fun i hi=>by omega),?_,k1.bY kq (fun i hi he=>by omega)⟩;exact(hp.kept kq (fun i h1 _ he=>by omega) fX).np (by omega) (by omega)
theorem Hd{q:Nv}(h:aZ w g fo st)(h2:aZ wz g wE iL)(hp:c_ wz lo hi q T C)(d_:w.heap.size<lo)(fX:hi<=wz.heap.size)(k1:I g.aN w wz){p:Nv}(b:ay wz w.heap.size p.cells 43)
 (mZ:f.results=#[ResultVar.cell i 43])(zE:a.tmps.getD i undef=.pointer (some ⟨w.heap.size,0,none⟩))(hd:a.defers=[])
 (hQ:∀e w',(∃q,e=.returned (Nv.val q)/\aZ w' g wE iL/\c_ w' w.heap.size w'.heap.size q T C/\I g.aN w w')->Q e w'):bodyPost prog f Q Exit.ret a (gq wz w.heap.size q):=
 zY (i:=i) (b:=w.heap.size) (q:=q) mZ zE hd (AE b q) (hQ _ _ ⟨_,rfl,Np h h2 hp d_ fX k1⟩)
theorem alM(h:w.ownsRow base 181 2 v l.length (dF l)):∃ao b cap,v=.slice ao l.length cap/\(l≠ []->ao=some ⟨b,0,none⟩)/\gF w b l/\(l≠ []->b<w.heap.size):=by
 by_cases aF:l=[]
 ·subst aF;obtain⟨ao,cap,rfl⟩:=RC h;exact⟨ao,0,cap,rfl,fun h=>absurd rfl h,gF.nil _ _,fun h=>absurd rfl h⟩
 ·obtain⟨g,cap,rfl,_,h2,h3,_⟩:=CF h aF;exact⟨_,g,cap,rfl,fun _=>rfl,h3,fun _=>h2⟩
theorem aak(h:l≠ []):qC l≠ []:=by
 have:∀(l aA:bN),aA.length<=(l.foldl iw aA).length:=by
  intro l;induction l with
  |nil=>intro aA;exact Aa _
  |cons s l ih=>
   intro aA;have h1:=ih (iw aA s);have h2:=(X4 aA s).1;have h3:=(abA (mL aA s) s).1;have h4:aA.length<=(iw aA s).length:=by unfold iw;omega
   rw[Cu];omega
 have h1:=this l l;intro e;have h2:(l.foldl iw l).length=0:=by rw[show l.foldl iw l=[]from e];rfl
 have:l.length=0:=by omega
 exact h (Az.1 this)
theorem c_.ac_{S:bN}(_:aZ w0 g fo st)(nt:Bool)(h:w.ownsRow lo 181 2 v S.length (dF S))(hS:wk S sp fo nt)(hr:eh sp)(hl:sp.length<=1900):
 ∃sa sc,v=.slice sa S.length sc/\c_ w lo w.heap.size (vP sa S.length sc) gX (kM sp fo nt):=c_.uA h hS hr hl
theorem FA(h:aZ w g fo st)(nt:Bool)(hc:gF w b l)(hr:eh l)(hl:l.length<=1900)(aF:l≠ [])(hb:b<w.heap.size):
 Calls prog 116 #[.pointer (some ⟨g.b,0,none⟩),.slice (some ⟨b,0,none⟩) l.length cap,.bool nt] w fun e w'=>∃q,e=.returned (Nv.val q)/\aZ w' g fo st/\c_ w' w.heap.size w'.heap.size q gX (kM l fo nt)/\I g.aN w w':=by
 have ha:=h.nil ((I.refl aq w).alloc (.cells bZ.cells 43));have c4:(w.alloc (.cells bZ.cells 43)).cell? ⟨g.b,4,none⟩=some (.bool fo):=ha.ae.cell 4;have b0:=ay.new w bZ.cells 43;have ka:I aq w (w.alloc (.cells bZ.cells 43)):=(I.refl aq w).alloc _;have LX:=hc.kept ka hb (fun hx=>hx);have s0:(w.alloc (.cells bZ.cells 43)).heap.size=w.heap.size+1:=cR _ _;simp only[Nv.cells,bZ]at c4;go_in
 cases fo
 case' false=>
  go_wp2_with fail
  have lR:=And.intro hr hl;have aI:I aq w (w.alloc (.cells bZ.cells 43)):=ka;have bz:=b0;refine(adn (w:=w.alloc (.cells bZ.cells 43)) (cap:=cap) LX hr (by omega) aF (by omega)).mono ?_;rintro e w2 ⟨l',v2,hp,hs,rfl,tf,aG⟩;have rR:l'.length<=5700:=by have:=hp.length_eq;omega
  have ew:w.heap.size+1<=(w.alloc (.cells bZ.cells 43)).heap.size:=by omega
 case' true=>
  go_wp2_with fail
  refine(agJ (w:=w.alloc (.cells bZ.cells 43)) (cap:=cap) LX hr (by omega) aF (by omega)).mono ?_;rintro e w1 ⟨v1,rfl,ur,vu⟩;have lR:=TI l l hr hr;obtain⟨b1,xS,ajR,U3,aiW,yf,_⟩:=CF ur (aak aF);have aI:=ka.trans vu;have bz:=b0.kept vu (fun hx=>hx);rw[ajR];go_wp2_with fail;refine(adn (cap:=xS) yf lR.1 (by show(qC l).length<=_;unfold qC;omega) (aak aF) aiW).mono ?_;rintro e w2 ⟨l',v2,hp,hs,rfl,tf,aG⟩;have rR:l'.length<=5700:=by have:=hp.length_eq;have:=lR.2;simp only[qC]at*;omega
  have ew:w.heap.size+1<=w1.heap.size:=by have:=aI.size;have:=vu.size;omega
 all_goals
  have mB:eh l':=fun s h=>(lR.1) s (hp.mem_iff.1 h)
  have hml:=WR l' mB;have kz:=aI.trans aG;have bz:=bz.kept aG (fun hx=>hx)
  cases nt
  case' true=>
   obtain⟨ao2,b2',FM,ajS,x1,x2,x3⟩:=alM tf;rw[ajS];go_wp2_with fail;refine(alL (cap:=FM) x1 x2 hml.1 (by omega) x3).mono ?_;rintro e w3 ⟨v3,rfl,lB,aQ⟩;have kz:=kz.trans aQ;have bz:=bz.kept aQ (fun hx=>hx);have oJ:w.heap.size+1<=w2.heap.size:=by have:=aG.size;omega
   obtain⟨sa,sc,acu,Jj⟩:=c_.ac_ (sp:=l) h true (Hj lB oJ) ⟨l',by simpa using hp,hs,rfl⟩ hr hl
  case' false=>
   obtain⟨sa,sc,acu,Jj⟩:=c_.ac_ (sp:=l) h false (Hj tf ew) ⟨l',by simpa using hp,hs,rfl⟩ hr hl
  all_goals
   rw[acu];obtain⟨e0,e1,e2,e3,e4,e5,e6,e7⟩:=bz.ib;obtain⟨g0,g1,g2,g3,g4,g5,g6,g7⟩:=bz.o7;simp only[bZ]at e0 e1 e2 e3 e4 e5 e6 e7;have pA:=bz.lt;go_wp2_with fail;exact Hd (i:=6) (q:=vP sa _ sc) h (h.nil kz) Jj (by omega) (Aa _) (kz.mono (fun _ hx=>hx.elim)) bz results116 rfl rfl (fun _ _ h=>h)
theorem JB(k:I S w wz)(x y:Int):(wz.alloc (.cells #[.int .i32 x,.int .i32 y] 181)).ownsRow w.heap.size 181 2 (.slice (some ⟨wz.heap.size,0,none⟩) 1 1) 1 (dF [(x,y)]):=
 Hj (Nw wz [(x,y)] (by simp)) k.size
theorem akq(h:aZ w g fo st)(hb:ak dC (aa g st)=true)(hs:ak fc (aa g {st with next:=st.next+1})=true):
 Calls prog 132 #[.pointer (some ⟨g.b,0,none⟩)] w fun e w'=>∃v,e=.returned v/\aZ w' g fo (cK g st)/\w'.ownsRow w.heap.size 181 2 v (gS g st).length (dF (gS g st))/\I g.aN w w':=by
 have e1:cK g st={st with next:=st.next+2}:=by unfold cK;rw[if_pos ⟨hb,hs⟩]
 have e2:gS g st=k_ (aa g {st with next:=st.next+1}):=by unfold gS;rw[if_pos ⟨hb,hs⟩]
 rw[e1,e2];clear e1 e2;go_in;go_wp2_with fail;refine(RN h).mono ?_;rintro e w1 ⟨rfl,h1,aI⟩;go_wp2_with fail;refine(iq h1 _ dC (by rfl) (by decide) hb).mono ?_;rintro e w2 ⟨rfl,h2,aG⟩;go_wp2_with fail;refine(oY h2).mono ?_;rintro e w3 ⟨rfl,h3,aQ⟩;go_wp2_with fail;refine(iq h3 _ fc (by rfl) (by decide) hs).mono ?_;rintro e w4 ⟨rfl,h4,cQ⟩;go_wp2_with fail;refine(XX _ w4).mono ?_;rintro e w5 ⟨v,rfl,hv,bI⟩;go_wp2_with fail;go_ret;have kk:=((aI.trans aG).trans aQ).trans cQ;exact⟨v,rfl,h4.nil bI,Hj hv kk.size,kk.trans (bI.mono (fun _ hx=>hx.elim))⟩
theorem akp(h:aZ w g fo st)(hb:ak dC (aa g st)=false):
 Calls prog 132 #[.pointer (some ⟨g.b,0,none⟩)] w fun e w'=>∃v,e=.returned v/\aZ w' g fo (cK g st)/\w'.ownsRow w.heap.size 181 2 v (gS g st).length (dF (gS g st))/\I g.aN w w':=by
 have hp:0<=cx g st/\cx g st<=300:=h.oc st.next
 have vX:Hid (¬(ak dC (aa g st)=true/\ak fc (aa g {st with next:=st.next+1})=true)):=by show¬_;rw[hb];simp
 have ex:a_ g st=je g false (bT g dC st):=by simp[a_,hb]
 have et:bT g dC st=st:=by simp[bT,hb]
 rw[et]at ex;clear et;have EX:Hid (a_ g st=je g false st):=ex;clear ex;go_in;go_wp2_with fail;refine(RN h).mono ?_;rintro e w1 ⟨rfl,h1,aI⟩;go_wp2_with fail;refine(gE h1 _ dC (by rfl) (by decide) hb).mono ?_;rintro e w2 ⟨rfl,h2,aG⟩;go_wp2_with fail;refine(oY h2).mono ?_;rintro e w3 ⟨rfl,h3,aQ⟩;go_wp2_with fail;refine(Xc false h3).mono ?_;rintro e w4 ⟨rfl,h4,cQ⟩;rw[<-EX.out]at h4⊢;go_wp2_with fail
 cases hd:ak qV (aa g (a_ g st).1)
 ·have EC:Hid (gS g st=[((a_ g st).2,(a_ g st).2)]):=by show _=_;unfold gS;rw[if_neg vX.out,if_neg (by rw[hd];simp)]
  refine(gE h4 _ qV (by rfl) (by decide) hd).mono ?_;rintro e w5 ⟨rfl,h5,bI⟩;go_wp2_with fail;go_ret;have kk:=(((aI.trans aG).trans aQ).trans cQ).trans bI;refine⟨_,rfl,?_,by rw[EC.out];exact JB kk _ _,kk.alloc _⟩;rw[show cK g st=(a_ g st).1 by unfold cK;rw[if_neg vX.out];unfold jT;rw[if_neg (by simp[hd])]];exact h5.nil ((I.refl _ _).alloc _)
 ·have EC:Hid (gS g st=[((a_ g st).2,(a_ g {(a_ g st).1 with next:=(a_ g st).1.next+1}).2)]):=by show _=_;unfold gS;rw[if_neg vX.out,if_pos hd]
  refine(iq h4 _ qV (by rfl) (by decide) hd).mono ?_;rintro e w5 ⟨rfl,h5,bI⟩;go_wp2_with fail;refine(Sf h5 _ dC (by rfl) (by decide)).mono ?_;rintro e w6 ⟨rfl,h6,bU⟩;go_wp2_with fail;refine(adD h6).mono ?_;rintro e w7 ⟨rfl,h7,fA⟩;by_cases ar:(a_ g {(a_ g st).1 with next:=(a_ g st).1.next+1}).2<(a_ g st).2
  ·go_wp2_with fail
   refine(He h7 5 _ (by omega) hp).mono ?_;rintro e w8 ⟨rfl,h8,ly⟩;go_wp2_with fail;go_ret;have kk:=((((((aI.trans aG).trans aQ).trans cQ).trans bI).trans bU).trans fA).trans ly;refine⟨_,rfl,?_,by rw[EC.out];exact JB kk _ _,kk.alloc _⟩;rw[show cK g st=(a_ g {(a_ g st).1 with next:=(a_ g st).1.next+1}).1.bG 5 (cx g st) by unfold cK;rw[if_neg vX.out];unfold jT;rw[if_pos hd,if_pos ar]];exact h8.nil ((I.refl _ _).alloc _)
  ·go_wp2_with fail
   go_ret
   have kk:=(((((aI.trans aG).trans aQ).trans cQ).trans bI).trans bU).trans fA;refine⟨_,rfl,?_,by rw[EC.out];exact JB kk _ _,kk.alloc _⟩;rw[show cK g st=(a_ g {(a_ g st).1 with next:=(a_ g st).1.next+1}).1 by unfold cK;rw[if_neg vX.out];unfold jT;rw[if_pos hd,if_neg (Int.not_lt.2 ar)]];exact h7.nil ((I.refl _ _).alloc _)
end Go.Proofs.YtmbpfhlnifdhgaaGreatDoor
