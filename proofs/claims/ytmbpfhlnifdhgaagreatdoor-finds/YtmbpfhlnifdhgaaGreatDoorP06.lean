/- The reference's events -/
import Derived.Test.YtmbpfhlnifdhgaaGreatDoorP05
set_option linter.unusedVariables false
set_option linter.unusedSimpArgs false
set_option maxRecDepth 100000
set_option maxHeartbeats 16000000
namespace Go.Proofs.YtmbpfhlnifdhgaaGreatDoor
open Go.Proofs.Tryz
open Go.RowKit
variable {op:ByteArray} {c:CI} {L M ax:Int} {nl:List (List UInt8)} {S:List CI} {b cap k nb:Nat} {U X:Nat->Prop} {A T:PT} {g:RG} {st iL ab:RS} {RA n:RT} {t:TG} {v vm vn dQ vt:Value} {w w' w1:World}
structure GH where
 T:Nat->Option (List CI)
 O:Nat->Option (Nat×Nat)
 N:Nat->Nat->List Nat
def GH.mu(G:GH)(k:Nat):Prop:=G.T k≠none\/G.O k≠none
structure EG where
 U:Nat->Prop
 x:TX
 xb:Nat
 bl:Nat
 ao:Option Addr
 cap:Nat
 D:Nat
 K:Nat
def uY(vn:Value)(c:CI)(vm vt dQ:Value):Array Value:=#[vn,.int .i64 c.bB,.int .i64 c.aY,.int .i64 c.bK,.bool c.bR,vm,vt,dQ]
def gQ(G:GH)(v:Value)(S:List CI):Prop:=(v=.pointer none/\S=[])\/∃b,v=.pointer (some ⟨b,0,none⟩)/\G.T b=some S
def Fw(w:World)(U:Nat->Prop)(v:Value)(o:Option RT):Prop:=match o with
 |none=>v=.pointer none
 |some n=>∃nb T,v=.pointer (some ⟨nb,0,none⟩)/\eV w U nb T n
structure lJ(w:World)(G:GH)(n:RT)(c:CI)(S:List CI)(tb:Nat)(zs:List Value):Prop where
 pos:0<zs.length
 cB:zs.length<=400
 lt:tb<w.heap.size
 mu:¬G.mu tb
 len:zs.length=(cF n c S).length
 cell:∀k,(h:k<zs.length)->w.cell? ⟨tb,k,none⟩=some zs[k]
 st:∀k,(h:k<zs.length)->(h':k<(cF n c S).length)->gQ G zs[k] (cF n c S)[k]
 ty:∃aU,ay w tb aU 66
def OS(w:World)(G:GH)(c:CI)(S:List CI)(vt:Value):Prop:=vt=.slice none 0 0\/∃n tb cap zs,c.n=some n/\vt=.slice (some ⟨tb,0,none⟩) zs.length cap/\lJ w G n c S tb zs
def wc(w:World)(G:GH)(E:EG)(b:Nat)(S:List CI)(i:Nat)(v:Value):Prop:=
 w.ownsRow 0 3 1 v (G.N b i).length ((G.N b i).map fun m:Nat=>.int .i64 (m:Int))/\(∀k,v.ownBlock=some k->G.O k=some (b,i))/\(G.N b i).Nodup/\∀m∈G.N b i,m<=E.D/\AZ E.x S i m
structure KH(w:World)(G:GH)(E:EG)(b:Nat)(S:List CI)(tb:Nat)(rows:Array Value):Prop where
 aN:G.O tb=some (b,E.x.l.length+1)
 ae:ay w tb rows 65
 size:rows.size=E.x.l.length+1
 row:∀i,i<=E.x.l.length->∃v,rows[i]? =some v/\wc w G E b S i v
def ON(w:World)(G:GH)(E:EG)(b:Nat)(S:List CI)(v:Value):Prop:=(v=.slice none 0 0/\∀i,G.N b i=[])\/∃tb rows,v=.slice (some ⟨tb,0,none⟩) (E.x.l.length+1) (E.x.l.length+1)/\KH w G E b S tb rows
structure tH(w:World)(G:GH)(E:EG)(b:Nat)(c:CI)(S:List CI)(vn vm vt dQ:Value):Prop where
 ae:ay w b (uY vn c vm vt dQ) 118
 node:Fw w E.U vn c.n
 more:gQ G vm S
 next:OS w G c S vt
 no:ON w G E b (c::S) dQ
structure du(w:World)(G:GH)(E:EG):Prop where
 ct:∀b S,G.T b=some S->∃c S' vn vm vt dQ,S=c::S'/\mg E.K S/\Deep E.D S/\tH w G E b c S' vn vm vt dQ
 lt:∀k,G.mu k->k<w.heap.size
 po:∀k,G.T k≠none->G.O k=none
 um:∀k,E.U k->¬G.mu k
 ul:∀k,E.U k->k<w.heap.size
 tx:wm w E.xb E.bl E.ao E.cap E.x
 sC:¬G.mu E.xb/\(E.x.l≠ []->¬G.mu E.bl)
def Ext(w:World)(G G':GH):Prop:=∀k,k<w.heap.size->G'.T k=G.T k/\G'.O k=G.O k/\G'.N k=G.N k
def ef(w:World)(G G':GH):Prop:=∀k,k<w.heap.size->G'.T k=G.T k/\G'.O k=G.O k
theorem Ext.jt{G G':GH}(h:Ext w G G'):ef w G G':=fun k hk=>⟨(h k hk).1,(h k hk).2.1⟩
theorem Ext.refl(w:World)(G:GH):Ext w G G:=fun _ _=>⟨rfl,rfl,rfl⟩
theorem ef.refl(w:World)(G:GH):ef w G G:=fun _ _=>⟨rfl,rfl⟩
theorem ef.mu{G G':GH}(h:ef w G G')(hk:k<w.heap.size):G'.mu k↔G.mu k:=by
 unfold GH.mu;rw[(h k hk).1,(h k hk).2]
theorem Ext.mu{G G':GH}(h:Ext w G G')(hk:k<w.heap.size):G'.mu k↔G.mu k:=h.jt.mu hk
theorem Ext.trans{G G' Ke:GH}(h:Ext w G G')(h':Ext w' G' Ke)(hs:w.heap.size<=w'.heap.size):Ext w G Ke:=fun k hk=>⟨((h' k (by omega)).1).trans (h k hk).1,((h' k (by omega)).2.1).trans (h k hk).2.1,((h' k (by omega)).2.2).trans (h k hk).2.2⟩
theorem ef.trans{G G' Ke:GH}(h:ef w G G')(h':ef w' G' Ke)(hs:w.heap.size<=w'.heap.size):ef w G Ke:=fun k hk=>⟨((h' k (by omega)).1).trans (h k hk).1,((h' k (by omega)).2).trans (h k hk).2⟩
theorem Fw.kept{o:Option RT}{S:Nat->Prop}(h:Fw w U v o)(k:I S w w')(hs:∀i,U i->¬S i):Fw w' U v o:=by
 cases o with
 |none=>exact h
 |some n=>
  obtain⟨nb,T,h1,h2⟩:=h;exact⟨nb,T,h1,h2.kept k hs⟩
theorem gQ.ext{G G':GH}(h:gQ G v S)(he:ef w G G')(ar:∀k,G.mu k->k<w.heap.size):gQ G' v S:=by
 rcases h with h|⟨b,h1,h2⟩
 ·exact Or.inl h
 ·exact Or.inr ⟨b,h1,by rw[(he b (ar b (Or.inl (by rw[h2];simp)))).1];exact h2⟩
theorem lJ.ext{G G':GH}{tb:Nat}{zs:List Value}(h:lJ w G n c S tb zs)(he:ef w G G')(ar:∀k,G.mu k->k<w.heap.size)(k:I X w w')(hx:∀j,X j->G.mu j):lJ w' G' n c S tb zs where
 pos:=h.pos
 cB:=h.cB
 lt:=A3 h.lt k.size
 mu:=fun q=>h.mu ((he.mu h.lt).1 q)
 len:=h.len
 cell j hj:=by rw[k.cell (p:=⟨tb,j,none⟩) h.lt (fun q=>h.mu (hx _ q))];exact h.cell j hj
 st j hj DC:=(h.st j hj DC).ext he ar
 ty:=by
  obtain⟨aU,hc⟩:=h.ty;exact⟨aU,hc.kept k (fun q=>h.mu (hx _ q))⟩
theorem OS.ext{G G':GH}(h:OS w G c S vt)(he:ef w G G')(ar:∀k,G.mu k->k<w.heap.size)(k:I X w w')(hx:∀j,X j->G.mu j):OS w' G' c S vt:=by
 rcases h with h|⟨n,tb,cap,zs,h1,h2,h3⟩
 ·exact Or.inl h
 ·exact Or.inr ⟨n,tb,cap,zs,h1,h2,h3.ext he ar k hx⟩
theorem wc.ext{G G':GH}{E:EG}{i:Nat}(h:wc w G E b S i v)(he:ef w G G')(hN:G'.N b=G.N b)(ar:∀k,G.mu k->k<w.heap.size)(k:I X w w')(hx:∀j,v.ownBlock=some j->¬X j):wc w' G' E b S i v:=by
 obtain⟨h1,h2,h3,h4⟩:=h;unfold wc;rw[hN]
 exact⟨dh h1 k hx,fun j hj=>by
  have:=h2 j hj;rw[(he j (ar j (Or.inr (by rw[this];simp)))).2];exact this,h3,h4⟩
theorem ON.ext{G G':GH}{E:EG}(h:ON w G E b S v)(he:ef w G G')(hN:G'.N b=G.N b)(ar:∀k,G.mu k->k<w.heap.size)(k:I X w w')(hx:∀j i,G.O j=some (b,i)->¬X j):ON w' G' E b S v:=by
 rcases h with h|⟨tb,rows,h1,h2⟩
 ·exact Or.inl ⟨h.1,by rw[hN];exact h.2⟩
 ·refine Or.inr ⟨tb,rows,h1,⟨?_,h2.ae.kept k (hx tb _ h2.aN),h2.size,fun i hi=>?_⟩⟩
  ·rw[(he tb h2.ae.lt).2];exact h2.aN
  ·obtain⟨v,q1,q2⟩:=h2.row i hi;refine⟨v,q1,q2.ext he hN ar k (fun j hj=>?_)⟩;obtain⟨r1,r2,r3,r4⟩:=q2;exact hx j i (r2 j hj)
theorem tH.ext{G G':GH}{E:EG}(h:tH w G E b c S vn vm vt dQ)(he:ef w G G')(hN:G'.N b=G.N b)(ar:∀k,G.mu k->k<w.heap.size)(hum:∀k,E.U k->¬G.mu k)(k:I X w w')(hx:∀j,X j->G.mu j)(hb:¬X b)(ho:∀j i,G.O j=some (b,i)->¬X j):tH w' G' E b c S vn vm vt dQ where
 ae:=h.ae.kept k hb
 node:=h.node.kept k (fun i hi q=>hum i hi (hx i q))
 more:=h.more.ext he ar
 next:=h.next.ext he ar k hx
 no:=h.no.ext he hN ar k ho
theorem du.kept{G:GH}{E:EG}(h:du w G E)(k:I aq w w'):du w' G E where
 ct b S hb:=by
  obtain⟨c,S',vn,vm,vt,dQ,e,h1,h2,h3⟩:=h.ct b S hb;exact⟨c,S',vn,vm,vt,dQ,e,h1,h2,h3.ext (ef.refl w G) rfl h.lt h.um k (fun _ q=>q.elim) (fun q=>q) (fun _ _ _ q=>q)⟩
 lt j hj:=A3 (h.lt j hj) k.size
 po:=h.po
 um:=h.um
 ul j hj:=A3 (h.ul j hj) k.size
 tx:=h.tx.kept k (fun q=>q) (fun _ q=>q)
 sC:=h.sC
def GH.put(G:GH)(b:Nat)(S:List CI):GH:=⟨fun k=>if k=b then some S else G.T k,G.O,fun k=>if k=b then fun _=>[]else G.N k⟩
theorem Ext.put(w:World)(G:GH)(S:List CI):Ext w G (G.put w.heap.size S):=fun k hk=>⟨by show(if k=w.heap.size then _ else _)=_;rw[if_neg (by omega)],rfl,by show(if k=w.heap.size then _ else _)=_;rw[if_neg (by omega)]⟩
theorem du.add{G:GH}{E:EG}(h:du w G E)(hS:mg E.K (c::S))(hd:Deep E.D (c::S))(hn:Fw w E.U vn c.n)(hm:gQ G vm S):
 du (w.alloc (.cells (uY vn c vm (.slice none 0 0) (.slice none 0 0)) 118)) (G.put w.heap.size (c::S)) E:=by
 have hk:I aq w (w.alloc (.cells (uY vn c vm (.slice none 0 0) (.slice none 0 0)) 118)):=(I.refl _ _).alloc _;have he:=Ext.put w G (c::S)
 have gA:∀k,(G.put w.heap.size (c::S)).mu k->k=w.heap.size\/G.mu k:=fun k hk=>by
  rcases hk with hk|hk
  ·by_cases e:k=w.heap.size
   ·exact Or.inl e
   ·refine Or.inr (Or.inl ?_);have:(G.put w.heap.size (c::S)).T k=G.T k:=if_neg e;rw[this]at hk;exact hk
  ·exact Or.inr (Or.inr hk)
 have Jb:¬G.mu w.heap.size:=fun q=>by have:=h.lt _ q;omega
 refine⟨fun b Z hb=>?_,fun k dL=>?_,fun k dL=>?_,fun k hu q=>?_,fun k hu=>by rw[cR];have:=h.ul k hu;omega,h.tx.kept hk (fun q=>q) (fun _ q=>q),?_,fun hl q=>?_⟩
 ·by_cases e:b=w.heap.size
  ·subst e;have:(G.put w.heap.size (c::S)).T w.heap.size=some (c::S):=if_pos rfl;rw[this]at hb
   cases hb;exact⟨c,S,vn,vm,.slice none 0 0,.slice none 0 0,rfl,hS,hd,ay.new w _ _,hn.kept hk (fun _ _ q=>q),hm.ext he.jt h.lt,Or.inl rfl,Or.inl ⟨rfl,fun i=>by have e:(G.put w.heap.size (c::S)).N w.heap.size=fun _=>[]:=if_pos rfl;rw[e]⟩⟩
  ·have:(G.put w.heap.size (c::S)).T b=G.T b:=if_neg e;rw[this]at hb;obtain⟨c1,S1,eU,mN,rj,AU,e1,h1,h2,h3⟩:=h.ct b Z hb;exact⟨c1,S1,eU,mN,rj,AU,e1,h1,h2,h3.ext he.jt (by show(if b=w.heap.size then _ else _)=_;rw[if_neg e]) h.lt h.um hk (fun _ q=>q.elim) (fun q=>q) (fun _ _ _ q=>q)⟩
 ·rw[cR];rcases gA k dL with e|q
  ·omega
  ·have:=h.lt k q;omega
 ·show G.O k=none
  by_cases e:k=w.heap.size
  ·subst e
   cases ho:G.O w.heap.size with
   |none=>rfl
   |some p=>exact absurd (Or.inr (by rw[ho];simp)) Jb
  ·refine h.po k ?_;have:(G.put w.heap.size (c::S)).T k=G.T k:=if_neg e;rw[this]at dL;exact dL
 ·rcases gA k q with e|q
  ·subst e;have:=h.ul _ hu;omega
  ·exact h.um k hu q
 ·intro q;rcases gA _ q with e|q
  ·have:=h.tx.ae.lt;omega
  ·exact h.sC.1 q
 ·rcases gA _ q with e|q
  ·have:=(h.tx.gl.isSome hl).2.2;omega
  ·exact h.sC.2 hl q
theorem du.Sm{G G':GH}{E:EG}(h:du w G E)(hb:G.T b=some (c::S))(he:ef w G G')(hT:∀k,G'.T k=G.T k)(hN:∀k,k≠b->G'.N k=G.N k)(hO:∀k,w.heap.size<=k->G'.O k≠none->k<w'.heap.size)
 (k:I X w w')(hX:∀j,X j->j=b\/∃i,G.O j=some (b,i))(aM:tH w' G' E b c S vn vm vt dQ):du w' G' E:=by
 have xd:∀j,X j->G.mu j:=fun j hj=>by
  rcases hX j hj with e|⟨i,e⟩
  ·subst e;exact Or.inl (by rw[hb];simp)
  ·exact Or.inr (by rw[e];simp)
 have gA:∀j,G'.mu j->G.mu j\/(w.heap.size<=j/\G'.O j≠none):=fun j hj=>by
  by_cases ar:j<w.heap.size
  ·exact Or.inl ((he.mu ar).1 hj)
  ·rcases hj with q|q
   ·rw[hT j]at q;exact Or.inl (Or.inl q)
   ·exact Or.inr ⟨by omega,q⟩
 have hs:=k.size;refine⟨fun b' Z fg=>?_,fun j hj=>?_,fun j hj=>?_,fun j hu q=>?_,fun j hu=>by have:=h.ul j hu;omega,h.tx.kept k (fun q=>h.sC.1 (xd _ q)) (fun hl q=>h.sC.2 hl (xd _ q)),fun q=>?_,fun hl q=>?_⟩
 ·rw[hT b']at fg;obtain⟨c1,S1,eU,mN,rj,AU,e1,h1,h2,h3⟩:=h.ct b' Z fg;by_cases e:b'=b
  ·subst e;rw[hb]at fg
   cases fg;exact⟨c,S,vn,vm,vt,dQ,rfl,h1,h2,aM⟩
  ·refine⟨c1,S1,eU,mN,rj,AU,e1,h1,h2,h3.ext he (hN b' e) h.lt h.um k xd (fun q=>?_) (fun j i hj q=>?_)⟩
   ·rcases hX b' q with q|⟨i,q⟩
    ·exact e q
    ·have:=h.po b' (by rw[fg];simp);rw[q]at this;simp at this
   ·rcases hX j q with q|⟨i',q⟩
    ·subst q;have:=h.po j (by rw[hb];simp);rw[hj]at this;simp at this
    ·rw[hj]at q;cases q;exact e rfl
 ·rcases gA j hj with q|⟨q1,q2⟩
  ·have:=h.lt j q;omega
  ·exact hO j q1 q2
 ·rw[hT j]at hj;rw[(he j (h.lt j (Or.inl hj))).2];exact h.po j hj
 ·rw[he.mu (h.ul j hu)]at q;exact h.um j hu q
 ·rw[he.mu h.tx.ae.lt]at q;exact h.sC.1 q
 ·rw[he.mu (h.tx.gl.isSome hl).2.2]at q;exact h.sC.2 hl q
theorem aez(h:eV w U nb T n)(vm:Value)(qQ:∃a,vm=.pointer a):
 Calls prog 19 #[.pointer (some ⟨nb,0,none⟩),vm] w fun e w'=>∃wd,e=.returned (.pointer (some ⟨wd.heap.size,0,none⟩))/\I aq w wd/\wd.heap.size=w.heap.size/\w'=wd.alloc (.cells (uY (.pointer (some ⟨nb,0,none⟩)) (bo n) vm (.slice none 0 0) (.slice none 0 0)) 118):=by
 obtain⟨a,rfl⟩:=qQ
 cases h with
 |mk b op sp nG p_ bs nt fd lz bK bB aY kk l hh ao cap bk ts rs P dq d_ bS pz hb hc hl hk hr i_=>
  have c6:w.cell? ⟨nb,6,none⟩=some (.int .i64 bB):=dq.cell 6;have c7:w.cell? ⟨nb,7,none⟩=some (.int .i64 aY):=dq.cell 7;have ar:=dq.lt;clear dq hc hk hl hb bS pz d_ hr i_;go_in;go_wp2_with fail;go_region;all_goals go_wp2_with fail
  all_goals go_ret
  all_goals exact⟨w.drew,rfl,(I.refl _ _).drew,rfl,rfl⟩
theorem JL{G:GH}{E:EG}{k:RT}(h:du w G E)(dM:eV w E.U nb T k)(hm:gQ G vm S)(bC:mg E.K (bo k::S))(hd:Deep E.D (bo k::S)):
 ∀w1,I aq w w1->Calls prog 19 #[.pointer (some ⟨nb,0,none⟩),vm] w1 fun e w'=>∃G' pb,e=.returned (.pointer (some ⟨pb,0,none⟩))/\G'.T pb=some (bo k::S)/\du w' G' E/\Ext w G G'/\I aq w w':=by
 intro w1 aI
 have qQ:∃a,vm=.pointer a:=by
  rcases hm with⟨h,_⟩|⟨b,h,_⟩
  ·exact⟨_,h⟩
  ·exact⟨_,h⟩
 refine(aez (dM.kept aI (fun _ _ q=>q)) vm qQ).mono ?_;rintro e w' ⟨wd,rfl,aG,hs,rfl⟩;have ng:=aI.trans aG;have hI:=(h.kept ng).add (c:=bo k) (S:=S) (vn:=.pointer (some ⟨nb,0,none⟩)) (vm:=vm) bC hd ⟨nb,T,rfl,dM.kept ng (fun _ _ q=>q)⟩ hm;refine⟨_,wd.heap.size,rfl,if_pos rfl,hI,fun j hj=>Ext.put wd G _ j (by have:=ng.size;omega),ng.alloc _⟩
structure Ic(w:World)(U:Nat->Prop)(nb:Nat)(n:RT)(ao:Option Addr)(bk cap:Nat)(P:Nat->Nat):Prop where
 lt:nb<w.heap.size
 u:U nb
 op:w.cell? ⟨nb,0,none⟩=some (.string n.op)
 aJ:w.cell? ⟨nb,4,none⟩=some (.slice ao n.aJ.length cap)
 bK:w.cell? ⟨nb,5,none⟩=some (.int .i64 n.bK)
 bB:w.cell? ⟨nb,6,none⟩=some (.int .i64 n.bB)
 aY:w.cell? ⟨nb,7,none⟩=some (.int .i64 n.aY)
 lz:w.cell? ⟨nb,8,none⟩=some (.bool n.lz)
 ig:n.aJ≠ []->ao=some ⟨bk,0,none⟩/\U bk/\bk<w.heap.size
 cB:n.aJ.length<=400
 sh:∀i,(h:i<n.aJ.length)->w.cell? ⟨bk,i,none⟩=some (.pointer (some ⟨P i,0,none⟩))/\∃T,eV w U (P i) T n.aJ[i]
theorem eV.parts(h:eV w U nb T n):∃ao bk cap P,Ic w U nb n ao bk cap P:=by
 cases h with
 |mk nb op sp nG p_ bs nt fd lz bK bB aY kk l hh ao cap bk ts rs P dq d_ bS pz hb hc hl hk hr i_=>
  have e4:w.cell? ⟨nb,4,none⟩=some (.slice ao ts.length cap):=dq.cell 4;refine⟨ao,bk,cap,P,⟨dq.lt,d_,dq.cell 0,by rw[<-hl]at e4;exact e4,dq.cell 5,dq.cell 6,dq.cell 7,dq.cell 8,fun aF=>?_,by show rs.length<=400;have:=hr.2.2.1;omega,fun i hi=>?_⟩⟩
  ·have hp:0<rs.length:=Bu.2 aF;obtain⟨h1,h2⟩:=hb (by intro e;subst e;simp at hl;rw[hl]at hp;simp at hp);exact⟨h1,h2,xT (hc 0 (by omega))⟩
  ·have aS:i<rs.length:=hi;exact⟨hc i (by omega),ts[i]'(by omega),hk i (by omega) aS⟩
theorem du.open{G:GH}{E:EG}(h:du w G E)(hb:G.T b=some (c::S))(hn:c.n=some n):
 ∃vm vt dQ nb ao bk cap P,mg E.K (c::S)/\Deep E.D (c::S)/\tH w G E b c S (.pointer (some ⟨nb,0,none⟩)) vm vt dQ/\Ic w E.U nb n ao bk cap P:=by
 obtain⟨c',S',vn,vm,vt,dQ,e,bC,iX,aM⟩:=h.ct b _ hb
 cases e;have DK:=aM.node
 rw[hn]at DK;obtain⟨nb,T,fK,dM⟩:=DK;obtain⟨ao,bk,cap,P,hF⟩:=dM.parts;rw[fK]at aM;exact⟨vm,vt,dQ,nb,ao,bk,cap,P,bC,iX,aM,hF⟩
theorem Tryz.G7:(prog.info? 66).map (fun i=>(i.zero,i.size,i.bytes))=some (some (.pointer none),1,8):=by kernel_rfl
theorem gQ.kG{G:GH}(h:gQ G v S):∃a,v=.pointer a:=by
 rcases h with⟨h,_⟩|⟨b,h,_⟩
 ·exact⟨_,h⟩
 ·exact⟨_,h⟩
def xL(w:World)(G:GH)(E:EG)(b:Nat)(n:RT)(c:CI)(S:List CI)(e:Ending)(w':World):Prop:=
 ∃G',du w' G' E/\Ext w G G'/\I (fun j=>j=b) w w'/\∃v,e=.returned v/\((cF n c S=[]/\v=.slice none 0 0)\/∃tb cap zs,v=.slice (some ⟨tb,0,none⟩) zs.length cap/\lJ w' G' n c S tb zs)
theorem lJ.one{G:GH}{Z:List CI}{base:Nat}{v' p:Value}(hl:cF n c S=[Z])(a8:w.ownsRow base 66 1 v' 1 [p])(cS:gQ G p Z)(gA:∀k,v'.ownBlock=some k->¬G.mu k):
 ∃tb cap zs,v'=.slice (some ⟨tb,0,none⟩) zs.length cap/\lJ w G n c S tb zs:=by
 rcases a8.2 with⟨_,h0⟩|⟨g,cap,aU,rfl,a1,a2,a3,a4,a5,a6⟩
 ·omega
 ·refine⟨g,cap,[p],rfl,⟨by simp,by simp,(Ah.1 a2).1,gA g rfl,by rw[hl];rfl,fun k hk=>?_,fun k hk dL=>?_,⟨aU,a2⟩⟩⟩
  ·have:k=0:=by simp at hk;omega
   subst this;have hx:([p]:List Value)[0]? =some p:=rfl;rw[<-a6,Al (by omega)]at hx;simp only[World.cell?,a2];simpa using hx
  ·have:k=0:=by simp at hk;omega
   subst this;simp only[hl];exact cS
theorem MV{ao:Option Addr}{bk:Nat}{P:Nat->Nat}(hF:Ic w U nb n ao bk cap P)(h1:n.aJ.length=1):
 ∃kd T,n.aJ=[kd]/\ao=some ⟨bk,0,none⟩/\bk<w.heap.size/\w.cell? ⟨nb,4,none⟩=some (.slice (some ⟨bk,0,none⟩) 1 cap)/\w.cell? ⟨bk,0,none⟩=some (.pointer (some ⟨P 0,0,none⟩))/\eV w U (P 0) T kd:=by
 obtain⟨kd,jA⟩:=Db.1 h1;obtain⟨h2,T,h3⟩:=hF.sh 0 (by omega);obtain⟨h4,h5,h6⟩:=hF.ig (by rw[jA];simp);refine⟨kd,T,jA,h4,h6,?_,h2,?_⟩
 ·have:=hF.aJ;rw[h4,h1]at this;exact this
 ·have e:n.aJ[0]'(by omega)=kd:=by simp[jA]
  rw[e]at h3;exact h3
theorem kD(b:UInt8)(r:Int):ak [b] r=(r==(b.toNat:Int)):=by
 unfold ak;simp only[Ch,Cn,Br];rw[Av];simp only[Ai];exact⟨fun h=>h.symm,fun h=>h.symm⟩
theorem anP(r:Int):ak uz r=(r==46||r==94||r==36):=by
 unfold ak uz;simp only[Ch,Cn,Br];rw[Av];simp only[Ai,Bo];constructor
 ·rintro(h|h|h)<;>simp at h<;>omega
 ·rintro((h|h)|h)<;>simp<;>omega
theorem Nt(h1:(op.data.toList== [115,101,113])=false)(h2:(op.data.toList== [97,108,116])=false)(h3:(op.data.toList== [116,105,109,101,115])=false):xN op 0:=
 Or.inr (Or.inr (Or.inr ⟨Or.inl rfl,by rw[A0];exact h1,by rw[A0];exact h2,by rw[A0];exact h3⟩))
theorem uD(hT:bc w t g st ax vn nl)(h':bc w' t g iL ax vn nl){sp:List (Int×Int)}{nG:Option Addr}{p_ bs:Nat}{nt fd:Bool}
 (dq:ay w' b (gJ op (.slice nG sp.length p_) nt fd (.slice none 0 0) 0 0 0 false) 114)(d_:w.heap.size<=b)(bS:xN op 0)(i_:g_ w' (fun i=>w.heap.size<=i) nG bs sp)(k:I (fun i=>i=t.b) w w'):gP w t g ax vn (iL,gX) (gB op sp nt fd) (.returned (.pointer (some ⟨b,0,none⟩))) w':=
 ⟨b,vn,nl,rfl,h',eV.gX dq ⟨d_,dq.lt,fun hb=>by have:=(cA hT.names hb).2;omega⟩ bS (i_.np (fun i hi ar=>⟨hi,ar,fun hb=>by have:=(cA hT.names hb).2;omega⟩)),k.mono (fun i hi=>Or.inl hi),fun i hi=>Or.inl hi⟩
theorem ay.jF(cs:Array Value)(t:TypeId)(h:b=w.heap.size):ay (w.alloc (.cells cs t (0,0))) b cs t:=by subst h;exact ay.new w cs t
theorem fx(w:World)(p:Addr)(v:Value):(w.setCell p v).heap.size=w.heap.size:=by simp[World.setCell]
theorem AA:xN eR 0:=Nt (by decide) (by decide) (by decide)
theorem ago(hT:bc w t g st ax vn nl)(hs:ak uz (aa g st)=true):
 Calls prog 62 #[.pointer (some ⟨t.b,0,none⟩)] w (gP w t g ax vn ({st with next:=st.next+1},gX) (AF (aa g st))):=by
 have hl:=hT.len;have oG:=hT.nZ;have ar:=fj hs;have c1:w.cell? ⟨t.b,1,none⟩=some (.int .i64 st.next):=hT.ae.cell 1;rw[anP]at hs;have aqr:(aa g st==40)=false:=by simp at hs⊢;omega
 have aqs:(aa g st==91)=false:=by simp at hs⊢;omega
 go_in
 go_wp2_with fail
 refine(dI hT).mono ?_;rintro e w1 ⟨rfl,h1,aI⟩;have d1:w1.cell? ⟨t.b,1,none⟩=some (.int .i64 st.next):=h1.ae.cell 1;have f1:=h1.ae.frozen 1;have s1:=aI.size;have h2:=h1.step (by omega);have k2:=aI.trans (dr (w:=w1) (t:=t) 1 (.int .i64 ((st.next:Int)+1)));by_cases xZ:aa g st=46
 ·have hb:(aa g st==46)=true:=by simp[xZ]
  have HE:Hid (AF (aa g st)=gB eR [(10,10)] true false):=by show _=_;unfold AF;rw[if_pos xZ]
  clear xZ hs;go_wp2_with fail;go_ret;rw[HE.out];exact uD (b:=w1.heap.size+1) (op:=eR) (sp:=[(10,10)]) hT (h2.nil (((I.refl _ _).alloc _).alloc _)) (ay.jF _ _ (by simp[World.setCell])) (by omega) AA (g_.yC (b:=w1.heap.size) ((ay.jF _ _ (by simp[World.setCell])).alloc _) s1 (by simp)) ((k2.alloc _).alloc _)
 ·by_cases F7:aa g st=94
  ·have sS:(aa g st==46)=false:=(by simp[xZ]);have hb:(aa g st==94)=true:=(by simp[F7]);have HE:Hid (AF (aa g st)=gB pM [] false false):=by show _=_;unfold AF;rw[if_neg xZ,if_pos F7]
   clear xZ hs F7;go_wp2_with fail;go_ret;rw[HE.out];exact uD (b:=w1.heap.size) (op:=pM) (sp:=[]) hT (h2.nil ((I.refl _ _).alloc _)) (ay.jF _ _ (by simp[World.setCell])) (by omega) (Nt (by decide) (by decide) (by decide)) (g_.nil _ _) (k2.alloc _)
  ·have sS:(aa g st==46)=false:=(by simp[xZ]);have iP:(aa g st==94)=false:=(by simp[F7]);have hb:(aa g st==36)=true:=by simp[xZ,F7]at hs⊢;exact hs
   have HE:Hid (AF (aa g st)=gB oX [] false false):=by show _=_;unfold AF;rw[if_neg xZ,if_neg F7]
   clear xZ hs F7;go_wp2_with fail;go_ret;rw[HE.out];exact uD (b:=w1.heap.size) (op:=oX) (sp:=[]) hT (h2.nil ((I.refl _ _).alloc _)) (ay.jF _ _ (by simp[World.setCell])) (by omega) (Nt (by decide) (by decide) (by decide)) (g_.nil _ _) (k2.alloc _)
theorem agl(hT:bc w t g st ax vn nl)(aF:aa g st≠ -1)(hs:ak Jz (aa g st)=false):
 Calls prog 62 #[.pointer (some ⟨t.b,0,none⟩)] w (gP w t g ax vn ({st with next:=st.next+1},gX) (gB eR [(aa g st,aa g st)] false (decide (0<ax)))):=by
 have hl:=hT.len;have oG:=hT.nZ;have ar:=gI aF
 have dt:aa g st≠40/\aa g st≠91/\aa g st≠46/\aa g st≠94/\aa g st≠36/\aa g st≠92:=by
  refine⟨?_,?_,?_,?_,?_,?_⟩<;>(intro e;rw[e]at hs;revert hs;decide)
 have n1:(aa g st==40)=false:=by simp[dt]
 have n2:(aa g st==91)=false:=by simp[dt]
 have n3:(aa g st==46)=false:=by simp[dt]
 have n4:(aa g st==94)=false:=by simp[dt]
 have n5:(aa g st==36)=false:=by simp[dt]
 have n6:(aa g st==92)=false:=by simp[dt]
 go_in
 go_wp2_with fail
 refine(dI hT).mono ?_;rintro e w1 ⟨rfl,h1,aI⟩;go_wp2_with fail;refine(aeB h1 (by omega) dt.2.2.2.2.2).mono ?_;rintro e w2 ⟨rfl,h2,aG⟩;have c2:w2.cell? ⟨t.b,2,none⟩=some (.int .i64 ax):=h2.ae.cell 2;have k2:=aI.trans aG;have s2:=k2.size;have Vl:=h2.kO;have iW:=h2.gR;go_wp2_with fail;go_ret;exact uD (b:=w2.heap.size+1) (op:=eR) (sp:=[(aa g st,aa g st)]) hT (h2.nil (((I.refl _ _).alloc _).alloc _)) (ay.jF _ _ (by simp)) (by omega) AA (g_.yC (b:=w2.heap.size) ((ay.new _ _ _).alloc _) s2 (by simp)) ((k2.alloc _).alloc _)
def uy:List UInt8:=[68,87,83]
theorem ah2{r:Int}(h:ak oQ r=true):r=100\/r=119\/r=115\/r=68\/r=87\/r=83\/r=98\/r=66\/(ak fc r=false/\ak uy r=false/\r≠98/\r≠66):=by
 unfold ak oQ at h;simp only[Ch,Cn,Br,Bo,Ai]at h;rcases h with h|h|h|h|h|h|h|h|h|h|h|h|h|h|h|h|h|h|h|h|h|h|h|h|h|h|h<;>rw[<-h]<;>decide
theorem agj(hT:bc w t g st ax vn nl)(mq:aa g st=92)(hs:ak oQ (aa g {st with next:=st.next+1})=true):
 Calls prog 62 #[.pointer (some ⟨t.b,0,none⟩)] w (gP w t g ax vn ({st with next:=st.next+2},gX) (qp ax (aa g {st with next:=st.next+1}))):=by
 have hl:=hT.len;have oG:=hT.nZ;have ar:=fj hs;simp only at ar;have n1:(aa g st==40)=false:=by rw[mq];rfl
 have n2:(aa g st==91)=false:=by rw[mq];rfl
 have n3:(aa g st==46)=false:=by rw[mq];rfl
 have n4:(aa g st==94)=false:=by rw[mq];rfl
 have n5:(aa g st==36)=false:=by rw[mq];rfl
 have n6:(aa g st==92)=true:=by rw[mq];rfl
 go_in
 go_wp2_with fail
 refine(dI hT).mono ?_;rintro e w1 ⟨rfl,h1,aI⟩;go_wp2_with fail;refine(ZI h1).mono ?_;rintro e w2 ⟨rfl,h2,aG⟩;have k2:=aI.trans aG;have iW:=h2.gR;have d1:w2.cell? ⟨t.b,1,none⟩=some (.int .i64 st.next):=h2.ae.cell 1;have f1:=h2.ae.frozen 1
 have h4:bc (w2.setCell ⟨t.b,1,none⟩ (.int .i64 ((st.next:Int)+2))) t g {st with next:=st.next+2} ax vn nl:=by
  have:=h2.oZ (st.next+2) (by omega) (by simp);simpa using this
 have k4:=k2.trans (dr (w:=w2) (t:=t) 1 (.int .i64 ((st.next:Int)+2)));have s4:=k4.size;have s2:=k2.size;obtain⟨q,hq⟩:∃q,aa g {st with next:=st.next+1}=q:=⟨_,rfl⟩
 have HQ:Hid (aa g {st with next:=st.next+1}=q):=hq;rw[hq]at hs⊢;clear hq;go_wp2_with fail;refine(kK _ fc _ _ (by rfl) (by decide)).mono ?_;rintro e w2 ⟨rfl,rfl⟩;rcases ah2 hs with rfl|rfl|rfl|rfl|rfl|rfl|rfl|rfl|⟨e1,e2,e3,e4⟩
 ·rw[show ak fc 100=true from by decide];go_wp2_with fail;refine(EE _ _).mono ?_;rintro e w5 ⟨rfl,GC,qd,bI⟩;have s5:=bI.size;rw[fx]at s5 qd;rw[show∀p v,(w2.setCell p v).heap.size=w2.heap.size from fun p v=>fx w2 p v];go_wp2_with fail;go_ret;rw[HQ.out,show qp ax 100=gB eR (iF 100) false false from rfl];exact uD (b:=w5.heap.size) (op:=eR) hT (h4.nil (bI.alloc _)) (ay.jF _ _ rfl) (by omega) AA (g_.yC (qd.alloc _) (by omega) (by omega)) (k4.trans ((bI.mono (fun _ hx=>hx.elim)).alloc _))
 ·rw[show ak fc 119=true from by decide];go_wp2_with fail;refine(EE _ _).mono ?_;rintro e w5 ⟨rfl,GC,qd,bI⟩;have s5:=bI.size;rw[fx]at s5 qd;rw[show∀p v,(w2.setCell p v).heap.size=w2.heap.size from fun p v=>fx w2 p v];go_wp2_with fail;go_ret;rw[HQ.out,show qp ax 119=gB eR (iF 119) false false from rfl];exact uD (b:=w5.heap.size) (op:=eR) hT (h4.nil (bI.alloc _)) (ay.jF _ _ rfl) (by omega) AA (g_.yC (qd.alloc _) (by omega) (by omega)) (k4.trans ((bI.mono (fun _ hx=>hx.elim)).alloc _))
 ·rw[show ak fc 115=true from by decide];go_wp2_with fail;refine(EE _ _).mono ?_;rintro e w5 ⟨rfl,GC,qd,bI⟩;have s5:=bI.size;rw[fx]at s5 qd;rw[show∀p v,(w2.setCell p v).heap.size=w2.heap.size from fun p v=>fx w2 p v];go_wp2_with fail;go_ret;rw[HQ.out,show qp ax 115=gB eR (iF 115) false false from rfl];exact uD (b:=w5.heap.size) (op:=eR) hT (h4.nil (bI.alloc _)) (ay.jF _ _ rfl) (by omega) AA (g_.yC (qd.alloc _) (by omega) (by omega)) (k4.trans ((bI.mono (fun _ hx=>hx.elim)).alloc _))
 ·rw[show ak fc 68=false from by decide];go_wp2_with fail;refine(kK _ uy _ _ (by rfl) (by decide)).mono ?_;rintro e w2 ⟨rfl,rfl⟩;rw[show ak uy 68=true from by decide];go_wp2_with fail;refine(EE _ _).mono ?_;rintro e w5 ⟨rfl,GC,qd,bI⟩;have s5:=bI.size;rw[fx]at s5 qd;rw[show∀p v,(w2.setCell p v).heap.size=w2.heap.size from fun p v=>fx w2 p v];go_wp2_with fail;go_ret;rw[HQ.out,show qp ax 68=gB eR (iF 68) true false from rfl];exact uD (b:=w5.heap.size) (op:=eR) hT (h4.nil (bI.alloc _)) (ay.jF _ _ rfl) (by omega) AA (g_.yC (qd.alloc _) (by omega) (by omega)) (k4.trans ((bI.mono (fun _ hx=>hx.elim)).alloc _))
 ·rw[show ak fc 87=false from by decide];go_wp2_with fail;refine(kK _ uy _ _ (by rfl) (by decide)).mono ?_;rintro e w2 ⟨rfl,rfl⟩;rw[show ak uy 87=true from by decide];go_wp2_with fail;refine(EE _ _).mono ?_;rintro e w5 ⟨rfl,GC,qd,bI⟩;have s5:=bI.size;rw[fx]at s5 qd;rw[show∀p v,(w2.setCell p v).heap.size=w2.heap.size from fun p v=>fx w2 p v];go_wp2_with fail;go_ret;rw[HQ.out,show qp ax 87=gB eR (iF 87) true false from rfl];exact uD (b:=w5.heap.size) (op:=eR) hT (h4.nil (bI.alloc _)) (ay.jF _ _ rfl) (by omega) AA (g_.yC (qd.alloc _) (by omega) (by omega)) (k4.trans ((bI.mono (fun _ hx=>hx.elim)).alloc _))
 ·rw[show ak fc 83=false from by decide];go_wp2_with fail;refine(kK _ uy _ _ (by rfl) (by decide)).mono ?_;rintro e w2 ⟨rfl,rfl⟩;rw[show ak uy 83=true from by decide];go_wp2_with fail;refine(EE _ _).mono ?_;rintro e w5 ⟨rfl,GC,qd,bI⟩;have s5:=bI.size;rw[fx]at s5 qd;rw[show∀p v,(w2.setCell p v).heap.size=w2.heap.size from fun p v=>fx w2 p v];go_wp2_with fail;go_ret;rw[HQ.out,show qp ax 83=gB eR (iF 83) true false from rfl];exact uD (b:=w5.heap.size) (op:=eR) hT (h4.nil (bI.alloc _)) (ay.jF _ _ rfl) (by omega) AA (g_.yC (qd.alloc _) (by omega) (by omega)) (k4.trans ((bI.mono (fun _ hx=>hx.elim)).alloc _))
 ·rw[show ak fc 98=false from by decide];go_wp2_with fail;refine(kK _ uy _ _ (by rfl) (by decide)).mono ?_;rintro e w2 ⟨rfl,rfl⟩;rw[show ak uy 98=false from by decide];go_wp2_with fail;go_ret;rw[HQ.out,show qp ax 98=gB od [] false false from rfl];exact uD (b:=w2.heap.size) (op:=od) (sp:=[]) hT (h4.nil ((I.refl _ _).alloc _)) (ay.jF _ _ (by rw[fx])) (by omega) (Nt (by decide) (by decide) (by decide)) (g_.nil _ _) (k4.alloc _)
 ·rw[show ak fc 66=false from by decide];go_wp2_with fail;refine(kK _ uy _ _ (by rfl) (by decide)).mono ?_;rintro e w2 ⟨rfl,rfl⟩;rw[show ak uy 66=false from by decide];go_wp2_with fail;go_ret;rw[HQ.out,show qp ax 66=gB oW [] false false from rfl];exact uD (b:=w2.heap.size) (op:=oW) (sp:=[]) hT (h4.nil ((I.refl _ _).alloc _)) (ay.jF _ _ (by rw[fx])) (by omega) (Nt (by decide) (by decide) (by decide)) (g_.nil _ _) (k4.alloc _)
 ·have b98:(q==98)=false:=by simp[e3]
  have b66:(q==66)=false:=by simp[e4]
  have HE:Hid (qp ax (aa g {st with next:=st.next+1})=gB eR [(lr (aa g {st with next:=st.next+1}),lr (aa g {st with next:=st.next+1}))] false (decide (0<ax))):=by
   show _=_
   rw[HQ.out];unfold qp;rw[if_neg,if_neg,if_neg e3,if_neg e4]
   ·rintro(rfl|rfl|rfl)<;>revert e2<;>decide
   ·rintro(rfl|rfl|rfl)<;>revert e1<;>decide
  rw[e1];go_wp2_with fail;refine(kK _ uy _ _ (by rfl) (by decide)).mono ?_;rintro e w2 ⟨rfl,rfl⟩;rw[show ak uy q=false from e2];go_wp2_with fail;refine(aeC h2 (by omega) mq).mono ?_;rintro e w5 ⟨rfl,h5,bI⟩;have c2:w5.cell? ⟨t.b,2,none⟩=some (.int .i64 ax):=h5.ae.cell 2;have k5:=k2.trans bI;have s5:=k5.size;have Vl:=h5.kO;have eY:=h5.gR;go_wp2_with fail;go_ret;rw[HE.out];exact uD (b:=w5.heap.size+1) (op:=eR) (sp:=[(lr (aa g {st with next:=st.next+1}),lr (aa g {st with next:=st.next+1}))]) hT (h5.nil (((I.refl _ _).alloc _).alloc _)) (ay.jF _ _ (by rw[cR])) (by omega) AA (g_.yC (b:=w5.heap.size) ((ay.new _ _ _).alloc _) s5 (by simp)) ((k5.alloc _).alloc _)
theorem gP.from{x:RS×PT}{R:RT}{e:Ending}(k:I (fun i=>i=t.b) w w1)(h:gP w1 t g ax vn x R e w'):gP w t g ax vn x R e w':=by
 obtain⟨b,q_,Hb,rfl,h1,h2,h3,h4⟩:=h;have hs:=k.size;exact⟨b,q_,Hb,rfl,h1,h2.np (fun i hi _=>⟨by have:=hi.1;omega,hi.2⟩),(k.mono (fun i hi=>Or.inl hi)).trans h3,fun i hi=>(h4 i hi).imp id (fun h=>by omega)⟩
theorem agp{aw:RS->RS×PT}{dZ:Int->RS->RT}(hT:bc w t g st ax vn nl)(hf:(bD g aw st).1.au.form=none)
 (hB:aa g st=40->∀w,bc w t g st ax vn nl->Calls prog 88 #[.pointer (some ⟨t.b,0,none⟩)] w (gP w t g ax vn (jr g aw {st with next:=st.next+1}) (pK g dZ ax {st with next:=st.next+1})))
 (hC:aa g st=91->∀w,bc w t g st ax vn nl->Calls prog 89 #[.pointer (some ⟨t.b,0,none⟩)] w (gP w t g ax vn (iT g {st with next:=st.next+1},gX) (xx g ax {st with next:=st.next+1}))):
 Calls prog 62 #[.pointer (some ⟨t.b,0,none⟩)] w (gP w t g ax vn (bD g aw st) (xw g dZ ax st)):=by
 unfold bD at hf⊢;unfold xw;by_cases tV:ak vC (aa g st)=true
 ·rw[if_pos tV]at hf;rw[if_pos tV,if_pos tV];have hb:(aa g st==40)=true:=by rw[show vC=[40]from rfl,kD]at tV;simpa using tV
  have HB:=hB (Ai.1 hb);generalize jr g aw {st with next:=st.next+1}=X at*;generalize pK g dZ ax {st with next:=st.next+1}=Y at*;clear tV hB hC;go_in;go_wp2_with fail;refine(dI hT).mono ?_;rintro e w1 ⟨rfl,h1,aI⟩;go_wp2_with fail;refine(HB w1 h1).mono ?_;rintro e w2 hN;have hM:=hN.from aI
  clear hN;obtain⟨b,q_,Hb,rfl,q1,q2,q3,q4⟩:=hM;go_wp2_with fail;go_ret;exact⟨b,q_,Hb,rfl,q1,q2,q3,q4⟩
 ·rw[if_neg tV]at hf;rw[if_neg tV,if_neg tV];by_cases wH:ak zS (aa g st)=true
  ·rw[if_pos wH]at hf;rw[if_pos wH,if_pos wH];have hb:(aa g st==91)=true:=by rw[show zS=[91]from rfl,kD]at wH;simpa using wH
   have sS:(aa g st==40)=false:=by rw[Ai.1 hb];rfl
   have HB:=hC (Ai.1 hb);generalize(iT g {st with next:=st.next+1},gX)=X at*;generalize xx g ax {st with next:=st.next+1}=Y at*;clear tV wH hB hC;go_in;go_wp2_with fail;refine(dI hT).mono ?_;rintro e w1 ⟨rfl,h1,aI⟩;go_wp2_with fail;refine(HB w1 h1).mono ?_;rintro e w2 hN;have hM:=(hN.from aI);clear hN;obtain⟨b,q_,Hb,rfl,q1,q2,q3,q4⟩:=hM;go_wp2_with fail;go_ret;exact⟨b,q_,Hb,rfl,q1,q2,q3,q4⟩
  ·rw[if_neg wH]at hf;rw[if_neg wH,if_neg wH];by_cases mq:ak dC (aa g st)=true
   ·rw[if_pos mq]at hf;rw[if_pos mq,if_pos mq];obtain⟨a1,a2,a3⟩:=jE hf;rw[a3];exact agj hT (by rw[show dC=[92]from rfl,kD]at mq;simpa using mq) a1
   ·rw[if_neg mq]at hf;rw[if_neg mq,if_neg mq];by_cases hs:ak uz (aa g st)=true
    ·rw[if_pos hs]at hf;rw[if_pos hs,if_pos hs];exact ago hT hs
    ·rw[if_neg hs]at hf;rw[if_neg hs,if_neg hs];obtain⟨a1,a2,a3,a4⟩:=Rl hf;rw[a4];exact agl hT a1 a2
theorem E_{eU:Value}{iH:List (List UInt8)}{b1 kb:Nat}{l h:Int}{lz:Bool}
 (h1:bc w1 t g ab ax eU iH)(q2:eV w1 (Fr w.heap.size w1.heap.size eU) b1 A RA)(q3:I (fun i=>i=t.b\/vn.ownBlock=some i) w w1)(q4:∀i,eU.ownBlock=some i->vn.ownBlock=some i\/w.heap.size<=i)
 (h':bc w' t g iL ax eU iH)(k:I (fun i=>i=t.b) w1 w')(hb:t.b<w.heap.size)
 (mz:w'.cell? ⟨kb,0,none⟩=some (.pointer (some ⟨b1,0,none⟩)))(DE:w1.heap.size<=kb)
 (dq:ay w' nb (gJ ec (.slice none 0 0) false false (.slice (some ⟨kb,0,none⟩) 1 cap) 0 l h lz) 114)(jO:w1.heap.size<=nb)(hl: -1<=l/\l<=99)(hh: -1<=h/\h<=99):
 gP w t g ax vn (iL,.node 4 [A] l h) (ss RA l h lz) (.returned (.pointer (some ⟨nb,0,none⟩))) w':=by
 have ew:=q3.size;have oJ:=k.size;have hv:∀i,eU.ownBlock=some i->i<w1.heap.size:=fun i hi=>(cA h1.names hi).2
 have fr:∀i,w1.heap.size<=i->i<w'.heap.size->Fr w.heap.size w'.heap.size eU i:=fun i h1 h2=>⟨by omega,h2,fun e=>by have:=hv i e;omega⟩
 refine⟨nb,eU,iH,rfl,h',?_,?_,q4⟩
 ·refine eV.mk nb ec [] none 0 0 false false lz 0 l h 4 l h (some ⟨kb,0,none⟩) cap kb [A] [RA] (fun _=>b1) dq (fr nb jO dq.lt) (Or.inr (Or.inr (Or.inl ⟨rfl,rfl⟩))) (fun _=>⟨rfl,rfl⟩) (fun _=>⟨rfl,fr kb DE (xT mz)⟩) (fun i hi=>?_) rfl (fun i hi gz=>?_) ⟨hl,hh,by simp,by omega⟩ (g_.nil _ _)
  ·have:i=0:=by simp at hi;omega
   subst this;exact mz
  ·have:i=0:=by simp at hi;omega
   subst this;exact(q2.kept k (fun i hi e=>by have:=hi.1;omega)).np (fun i hi _=>⟨hi.1,by have:=hi.2.1;omega,hi.2.2⟩)
 ·exact q3.trans (k.mono (fun i hi=>Or.inl hi))
theorem vB(r:Int):ak dG r=(r==63):=kD 63 r
theorem Sh(h:(aa g st==63)=true):bT g dG st={st with next:=st.next+1}:=by
 unfold bT;rw[if_pos (by rw[show dG=[63]from rfl,kD];exact h)]
theorem Sg(h:(aa g st==63)=false):bT g dG st=st:=by
 unfold bT;rw[if_neg (by rw[show dG=[63]from rfl,kD,show((63:UInt8).toNat:Int)=63 from rfl,h];simp)]
abbrev og(w1:World)(b1:Nat):World:=(w1.alloc (.cells #[.pointer (some ⟨b1,0,none⟩)] 30)).alloc (.cells (gJ ec (.slice none 0 0) false false (.slice (some ⟨w1.heap.size,0,none⟩) 1 1) 0 0 (-1) false) 114)
theorem aoi(hT:bc w t g st ax vn nl)(qb:Calls prog 62 #[.pointer (some ⟨t.b,0,none⟩)] w (gP w t g ax vn (ab,A) RA))
 (n1:(aa g ab==42)=false)(n2:(aa g ab==43)=false)(n3:(aa g ab==63)=false)(n4:(aa g ab==123)=false):
 Calls prog 36 #[.pointer (some ⟨t.b,0,none⟩)] w (gP w t g ax vn (ab,A) RA):=by
 have oM:=hT.gR;go_in;go_wp2_with fail;refine qb.mono ?_;rintro e w1 ⟨b1,eU,iH,rfl,h1,q2,q3,q4⟩;have hl:=h1.len;have oG:=h1.nZ;have ew:=q3.size;have ka:I (fun i=>i=t.b) w1 (og w1 b1):=((I.refl _ _).alloc _).alloc _;have ha:bc (og w1 b1) t g ab ax eU iH:=h1.nil (((I.refl _ _).alloc _).alloc _);have ba:ay (og w1 b1) (w1.heap.size+1) (gJ ec (.slice none 0 0) false false (.slice (some ⟨w1.heap.size,0,none⟩) 1 1) 0 0 (-1) false) 114:=ay.jF _ _ (by rw[cR]);have bk:ay (og w1 b1) w1.heap.size #[.pointer (some ⟨b1,0,none⟩)] 30:=(ay.new w1 _ _).alloc _;go_wp2_with fail;refine(dI ha).mono ?_;rintro e w3 ⟨rfl,h3,aQ⟩;have b3:=ba.kept aQ (by omega);have wu:=bk.kept aQ (by omega);have k3:=ka.trans aQ;have s3:=k3.size;go_wp2_with fail;go_ret;exact⟨b1,eU,iH,rfl,h3,(q2.kept k3 (fun i hi e=>by have:=hi.1;omega)).np (fun i hi _=>⟨hi.1,by have:=hi.2.1;omega,hi.2.2⟩),q3.trans (k3.mono (fun i hi=>Or.inl hi)),q4⟩
theorem Yb(hT:bc w t g st ax vn nl)(qb:Calls prog 62 #[.pointer (some ⟨t.b,0,none⟩)] w (gP w t g ax vn (ab,A) RA))
 (H:((aa g ab==42)=true/\L=0/\M= -1)\/((aa g ab==43)=true/\(aa g ab==42)=false/\L=1/\M= -1)\/((aa g ab==63)=true/\(aa g ab==42)=false/\(aa g ab==43)=false/\L=0/\M=1)):
 Calls prog 36 #[.pointer (some ⟨t.b,0,none⟩)] w (gP w t g ax vn (bT g dG {ab with next:=ab.next+1},.node 4 [A] L M) (ss RA L M (ak dG (aa g {ab with next:=ab.next+1})))):=by
 have Gz:ab.next<g.rs.length:=by rcases H with⟨HS,_⟩|⟨HS,_⟩|⟨HS,_⟩<;>exact gI (by intro e;rw[e]at HS;exact absurd HS (by decide))
 have oM:=hT.gR;go_in;go_wp2_with fail;refine qb.mono ?_;rintro e w1 ⟨b1,eU,iH,rfl,h1,q2,q3,q4⟩;have hl:=h1.len;have oG:=h1.nZ;have ew:=q3.size;have ka:I (fun i=>i=t.b) w1 (og w1 b1):=((I.refl _ _).alloc _).alloc _;have ha:bc (og w1 b1) t g ab ax eU iH:=h1.nil (((I.refl _ _).alloc _).alloc _);have ba:ay (og w1 b1) (w1.heap.size+1) (gJ ec (.slice none 0 0) false false (.slice (some ⟨w1.heap.size,0,none⟩) 1 1) 0 0 (-1) false) 114:=ay.jF _ _ (by rw[cR]);have bk:ay (og w1 b1) w1.heap.size #[.pointer (some ⟨b1,0,none⟩)] 30:=(ay.new w1 _ _).alloc _;go_wp2_with fail;refine(dI ha).mono ?_;rintro e w3 ⟨rfl,h3,aQ⟩;have b3:=ba.kept aQ (by omega);have wu:=bk.kept aQ (by omega);have k3:=ka.trans aQ;have s3:=k3.size;have Iq:w3.cell? ⟨t.b,1,none⟩=some (.int .i64 ab.next):=h3.ae.cell 1;have f31:=h3.ae.frozen 1;have h4:=h3.step (by omega);have k4:=k3.trans (dr (w:=w3) (t:=t) 1 (.int .i64 ((ab.next:Int)+1)));have b4:=b3.dD (p:=⟨t.b,1,none⟩) (show w1.heap.size+1≠t.b by omega) (.int .i64 ((ab.next:Int)+1));have uW:=wu.dD (p:=⟨t.b,1,none⟩) (show w1.heap.size≠t.b by omega) (.int .i64 ((ab.next:Int)+1));rcases H with⟨HS,rfl,rfl⟩|⟨HS,n1,rfl,rfl⟩|⟨HS,n1,n2,rfl,rfl⟩
 case' inl=>
  have h5:=h4;have k5:=k4;have b5:=b4;have uX:=uW
 case' inr.inl=>
  have c3n:w3.cell? ⟨w1.heap.size+1,6,none⟩=some (.int .i64 0):=b3.cell 6;have f3n:=b3.frozen 6;have kn:I (fun i=>i=w1.heap.size+1) (w3.setCell ⟨t.b,1,none⟩ (.int .i64 ((ab.next:Int)+1))) ((w3.setCell ⟨t.b,1,none⟩ (.int .i64 ((ab.next:Int)+1))).setCell ⟨w1.heap.size+1,6,none⟩ (.int .i64 1)):=(I.refl (fun i=>i=w1.heap.size+1) _).setCell (p:=⟨w1.heap.size+1,6,none⟩) (Or.inl rfl) _;have h5:=h4.new h1 kn (fun i hi=>by omega) (fun b hb hx=>by have:=(cA h1.names hb).2;omega);have k5:=k4.bY kn (fun i hi he=>by omega);have b5:=b4.setCell 6 (.int .i64 1);have uX:=uW.dD (p:=⟨w1.heap.size+1,6,none⟩) (show w1.heap.size≠w1.heap.size+1 by omega) (.int .i64 1)
 case' inr.inr=>
  have c3n:w3.cell? ⟨w1.heap.size+1,7,none⟩=some (.int .i64 (-1)):=b3.cell 7;have f3n:=b3.frozen 7;have kn:I (fun i=>i=w1.heap.size+1) (w3.setCell ⟨t.b,1,none⟩ (.int .i64 ((ab.next:Int)+1))) ((w3.setCell ⟨t.b,1,none⟩ (.int .i64 ((ab.next:Int)+1))).setCell ⟨w1.heap.size+1,7,none⟩ (.int .i64 1)):=(I.refl (fun i=>i=w1.heap.size+1) _).setCell (p:=⟨w1.heap.size+1,7,none⟩) (Or.inl rfl) _;have h5:=h4.new h1 kn (fun i hi=>by omega) (fun b hb hx=>by have:=(cA h1.names hb).2;omega);have k5:=k4.bY kn (fun i hi he=>by omega);have b5:=b4.setCell 7 (.int .i64 1);have uX:=uW.dD (p:=⟨w1.heap.size+1,7,none⟩) (show w1.heap.size≠w1.heap.size+1 by omega) (.int .i64 1)
 all_goals
  clear aQ ha ba bk;go_wp2_with fail;refine(dI h5).mono ?_;rintro e w6 ⟨rfl,h6,bU⟩;have k6:=k5.trans bU;have b6:=b5.kept bU (by omega);have oy:=uX.kept bU (by omega)
  cases hq:(aa g {ab with next:=ab.next+1}==63)
  ·go_wp2_with fail
   go_ret
   rw[Sg hq,vB,hq];exact E_ h1 q2 q3 q4 h6 k6 oM (oy.cell 0) (Aa _) b6 (by omega) (by omega) (by omega)
  ·have Qr:=gI (g:=g) (st:={ab with next:=ab.next+1}) (by rw[Ai.1 hq];omega);simp only at Qr;have TU:w6.cell? ⟨t.b,1,none⟩=some (.int .i64 ((ab.next:Int)+1)):=by have:=h6.ae.cell 1;simpa using this
   have f61:=h6.ae.frozen 1;have TV:w6.cell? ⟨w1.heap.size+1,8,none⟩=some (.bool false):=b6.cell 8;have f68:=b6.frozen 8
   have h7:bc (w6.setCell ⟨t.b,1,none⟩ (.int .i64 ((ab.next:Int)+2))) t g {ab with next:=ab.next+2} ax eU iH:=by
    have:=h6.oZ (ab.next+2) (by omega) (by simp);simpa using this
   have xk:I (fun i=>i=w1.heap.size+1) (w6.setCell ⟨t.b,1,none⟩ (.int .i64 ((ab.next:Int)+2))) ((w6.setCell ⟨t.b,1,none⟩ (.int .i64 ((ab.next:Int)+2))).setCell ⟨w1.heap.size+1,8,none⟩ (.bool true)):=(I.refl (fun i=>i=w1.heap.size+1) _).setCell (p:=⟨w1.heap.size+1,8,none⟩) (Or.inl rfl) _;have h8:=h7.new h1 xk (fun i hi=>by omega) (fun b hb hx=>by have:=(cA h1.names hb).2;omega);have k8:=(k6.trans (dr (w:=w6) (t:=t) 1 (.int .i64 ((ab.next:Int)+2)))).bY xk (fun i hi he=>by omega);have b8:=(b6.dD (p:=⟨t.b,1,none⟩) (show w1.heap.size+1≠t.b by omega) (.int .i64 ((ab.next:Int)+2))).setCell 8 (.bool true);have rG:=(oy.dD (p:=⟨t.b,1,none⟩) (show w1.heap.size≠t.b by omega) (.int .i64 ((ab.next:Int)+2))).dD (p:=⟨w1.heap.size+1,8,none⟩) (show w1.heap.size≠w1.heap.size+1 by omega) (.bool true);go_wp2_with fail;go_ret;rw[Sh hq,vB,hq];exact E_ h1 q2 q3 q4 h8 k8 oM (rG.cell 0) (Aa _) b8 (by omega) (by omega) (by omega)
theorem bc.XY(h:bc w t g st ax vn nl)(p:Int)(hp:0<=p)(hn:st.au.rep=none):bc (w.setCell ⟨t.b,4,none⟩ (.int .i64 p)) t g (st.bG 4 p) ax vn nl:=by
 have e:st.bG 4 p={st with au:={st.au with rep:=some p}}:=by simp[RS.bG,bu.bG,bu.get,hn,bu.put]
 have k:I (fun i=>i=t.b) w (w.setCell ⟨t.b,4,none⟩ (.int .i64 p)):=dr 4 _;rw[e]
 exact{h with
  ae:=h.ae.setCell 4 _
  gl:=h.gl.kept k (fun hl=>h.ne hl)
  names:=dh h.names k (fun b hb he=>by have:=(cA h.names hb).1;omega)
  l8:=h.l8
  aC:=h.aC
  kO:=h.kO
  mj:=⟨fun q hq=>by simp at hq;omega,h.mj.2.1,h.mj.2.2⟩}
theorem bc.Wy(h:bc w t g st ax vn nl)(p:Int)(hn:st.au.rep≠none):bc w t g (st.bG 4 p) ax vn nl:=by
 have e:st.bG 4 p=st:=by
  cases hc:st.au.rep with
  |none=>exact absurd hc hn
  |some q=>simp[RS.bG,bu.bG,bu.get,hc]
 rw[e];exact h
def fa(st:RS)(L M p:Int):RS:=if L>20\/M>20\/(M≠ -1/\M<L)then st.bG 4 p else st
theorem am3(st:RS)(L M p:Int):(fa st L M p).next=st.next:=by unfold fa;split<;>rfl
theorem XF(p:Int)(h:L>20\/M>20\/(M≠ -1/\M<L)):fa st L M p=st.bG 4 p:=by unfold fa;rw[if_pos h]
theorem XE(p:Int)(h:¬(L>20\/M>20\/(M≠ -1/\M<L))):fa st L M p=st:=by unfold fa;rw[if_neg h]
theorem ay.drewN{cs:Array Value}{t:TypeId}(h:ay w b cs t)(m:Nat):ay (w.drewN m) b cs t:=h
theorem ahD(r:Int):ak zQ r=(r==44):=kD 44 r
theorem Pb(r:Int):ak qU r=(r==125):=kD 125 r
theorem aoj(hT:bc w t g st ax vn nl)(qb:Calls prog 62 #[.pointer (some ⟨t.b,0,none⟩)] w (gP w t g ax vn (ab,A) RA))
 (HS:(aa g ab==123)=true)(n1:(aa g ab==42)=false)(n2:(aa g ab==43)=false)(n3:(aa g ab==63)=false)
 (rP:(aK g {ab with next:=ab.next+1}).1.au.form=none)(dM:ak kF (aa g (aK g {ab with next:=ab.next+1}).1)=false)(lR:aa g (aK g {ab with next:=ab.next+1}).1=125):
 Calls prog 36 #[.pointer (some ⟨t.b,0,none⟩)] w (gP w t g ax vn (bT g dG (fa {(aK g {ab with next:=ab.next+1}).1 with next:=(aK g {ab with next:=ab.next+1}).1.next+1} (aK g {ab with next:=ab.next+1}).2 (aK g {ab with next:=ab.next+1}).2 (cx g ab)),.node 4 [A] (aK g {ab with next:=ab.next+1}).2 (aK g {ab with next:=ab.next+1}).2) (ss RA (aK g {ab with next:=ab.next+1}).2 (aK g {ab with next:=ab.next+1}).2 (ak dG (aa g (fa {(aK g {ab with next:=ab.next+1}).1 with next:=(aK g {ab with next:=ab.next+1}).1.next+1} (aK g {ab with next:=ab.next+1}).2 (aK g {ab with next:=ab.next+1}).2 (cx g ab)))))):=by
 have oM:=hT.gR;have Gz:ab.next<g.rs.length:=gI (by intro e;rw[e]at HS;exact absurd HS (by decide))
 obtain⟨n,hn⟩:∃n,n=aK g {ab with next:=ab.next+1}:=⟨_,rfl⟩
 have yq:0<=n.2/\n.2<=99:=by rw[hn];exact ER g _
 have ic:=Hm g {ab with next:=ab.next+1} (by simp;omega);rw[<-hn]at ic;simp only at ic;rw[<-hn]at rP dM lR⊢;have HN:Hid (aK g {ab with next:=ab.next+1}=n):=hn.symm;clear hn;have nc:(aa g n.1==44)=false:=by rw[lR];rfl
 have xc:n.1.next<g.rs.length:=gI (by rw[lR];omega)
 go_in
 go_wp2_with fail
 refine qb.mono ?_;rintro e w1 ⟨b1,eU,iH,rfl,h1,q2,q3,q4⟩;have hl:=h1.len;have oG:=h1.nZ;have ew:=q3.size;have ka:I (fun i=>i=t.b) w1 (og w1 b1):=((I.refl _ _).alloc _).alloc _;have ha:bc (og w1 b1) t g ab ax eU iH:=h1.nil (((I.refl _ _).alloc _).alloc _);have ba:ay (og w1 b1) (w1.heap.size+1) (gJ ec (.slice none 0 0) false false (.slice (some ⟨w1.heap.size,0,none⟩) 1 1) 0 0 (-1) false) 114:=ay.jF _ _ (by rw[cR]);have bk:ay (og w1 b1) w1.heap.size #[.pointer (some ⟨b1,0,none⟩)] 30:=(ay.new w1 _ _).alloc _;go_wp2_with fail;refine(dI ha).mono ?_;rintro e w3 ⟨rfl,h3,aQ⟩;have b3:=ba.kept aQ (by omega);have wu:=bk.kept aQ (by omega);have k3:=ka.trans aQ;have s3:=k3.size;have aF:t.l≠ []:=by intro e;have h0:t.l.length=0:=(by rw[e];rfl);omega
 obtain⟨eu,_,_⟩:=h3.gl.isSome aF;have K9:w3.cell? ⟨t.b,0,none⟩=some (.slice (some ⟨t.bl,0,none⟩) t.l.length t.cap):=by rw[<-eu];exact h3.ae.cell 0
 have Iq:w3.cell? ⟨t.b,1,none⟩=some (.int .i64 ab.next):=h3.ae.cell 1;have f31:=h3.ae.frozen 1;have mU:=(h3.gl.cells ab.next (by omega)).2;rw[<-h3.ps ab.next (by omega)]at mU;change w3.cell? ⟨t.bl,ab.next*3+1,none⟩=some (.int .i64 (cx g ab))at mU;have qM:0<=cx g ab/\cx g ab<=300:=h3.pr ab.next
 have Qo:(ab.next:Int)<(t.l.length:Int):=by omega
 go_wp2_with fail
 go_region
 all_goals go_wp2_with fail
 have h4:=(h3.nil (I.refl aq w3).drew).step (by omega);have k4:I (fun i=>i=t.b) w1 (w3.drew.setCell ⟨t.b,1,none⟩ (.int .i64 ((ab.next:Int)+1))):=(k3.drew).trans (dr (w:=w3.drew) (t:=t) 1 (.int .i64 ((ab.next:Int)+1)));have b4:ay (w3.drew.setCell ⟨t.b,1,none⟩ (.int .i64 ((ab.next:Int)+1))) _ _ _:=(ay.drew b3).dD (p:=⟨t.b,1,none⟩) (show w1.heap.size+1≠t.b by omega) (.int .i64 ((ab.next:Int)+1));have uW:ay (w3.drew.setCell ⟨t.b,1,none⟩ (.int .i64 ((ab.next:Int)+1))) _ _ _:=(ay.drew wu).dD (p:=⟨t.b,1,none⟩) (show w1.heap.size≠t.b by omega) (.int .i64 ((ab.next:Int)+1));have oH:=Ru h4 (by rw[HN.out];exact rP) (by rw[HN.out];exact dM);rw[HN.out]at oH;refine oH.mono ?_;rintro e w5 ⟨rfl,h5,bI⟩;have k5:=k4.trans bI;have b5:=b4.kept bI (by omega);have uX:=uW.kept bI (by omega);clear oH h4 b4 uW h3 b3 wu K9 Iq f31 mU ha ba bk aQ;have Lb:w5.cell? ⟨w1.heap.size+1,6,none⟩=some (.int .i64 0):=b5.cell 6;have f56:=b5.frozen 6;have Lc:w5.cell? ⟨w1.heap.size+1,7,none⟩=some (.int .i64 (-1)):=b5.cell 7;have f57:=b5.frozen 7;have kn:I (fun i=>i=w1.heap.size+1) w5 ((w5.setCell ⟨w1.heap.size+1,6,none⟩ (.int .i64 n.2)).setCell ⟨w1.heap.size+1,7,none⟩ (.int .i64 n.2)):=((I.refl (fun i=>i=w1.heap.size+1) _).setCell (p:=⟨w1.heap.size+1,6,none⟩) (Or.inl rfl) _).setCell (p:=⟨w1.heap.size+1,7,none⟩) (Or.inl rfl) _;have h7:=h5.new h1 kn (fun i hi=>by omega) (fun b hb hx=>by have:=(cA h1.names hb).2;omega);have k7:=k5.bY kn (fun i hi he=>by omega);have b7:=(b5.setCell 6 (.int .i64 n.2)).setCell 7 (.int .i64 n.2);have CD:=uX.kept kn (by omega);go_wp2_with fail;refine(dI h7).mono ?_;rintro e w8 ⟨rfl,h8,ly⟩;have k8:=k7.trans ly;have b8:=b7.kept ly (by omega);have rG:=CD.kept ly (by omega);clear h7 b7 CD kn h5 b5 uX Lb f56 Lc f57 bI k4 k5 k7;obtain⟨sx,ja⟩:∃sx,sx=n.1:=⟨_,rfl⟩
 have ht:bc w8 t g sx ax eU iH:=by rw[ja];exact h8
 have acC:sx.next<g.rs.length:=by rw[ja];exact xc
 have c1:w8.cell? ⟨t.b,1,none⟩=some (.int .i64 sx.next):=ht.ae.cell 1;have f1:=ht.ae.frozen 1;have h9:=fun m=>(ht.step (by omega)).nil ((I.refl aq _).drewN m)
 have k9:=fun m=>(k8.trans (dr (w:=w8) (t:=t) 1 (.int .i64 ((sx.next:Int)+1)))).drewN m
 have b9:=fun m=>ay.drewN (b8.dD (p:=⟨t.b,1,none⟩) (show w1.heap.size+1≠t.b by omega) (.int .i64 ((sx.next:Int)+1))) m
 have oz:=fun m=>ay.drewN (rG.dD (p:=⟨t.b,1,none⟩) (show w1.heap.size≠t.b by omega) (.int .i64 ((sx.next:Int)+1))) m
 have d4:w8.cell? ⟨t.b,4,none⟩=some (.int .i64 (jR sx.au.rep)):=ht.ae.cell 4;have g4:=ht.ae.frozen 4;have d6:w8.cell? ⟨w1.heap.size+1,6,none⟩=some (.int .i64 n.2):=b8.cell 6;have d7:w8.cell? ⟨w1.heap.size+1,7,none⟩=some (.int .i64 n.2):=b8.cell 7;have lX:sx.next<=300:=by omega
 have hLr:0<=n.2/\n.2<=99:=yq;have hMr: -1<=n.2/\n.2<=99:=(by omega)
 cases jm:sx.au.rep
 case' some pq=>
  have pB:decide (pq<0)=false:=by have:=ht.mj.1 pq jm;exact A9 (by omega)
  rw[jm,show jR (some pq)=pq from rfl]at d4
  have gy:∀m,bc ((w8.setCell ⟨t.b,1,none⟩ (.int .i64 ((sx.next:Int)+1))).drewN m) t g (fa {sx with next:=sx.next+1} n.2 n.2 (cx g ab)) ax eU iH:=by
   intro m;unfold fa;split
   ·exact(h9 m).Wy _ (by simp[jm])
   ·exact h9 m
  obtain⟨sz,bm⟩:∃sz,sz=fa {sx with next:=sx.next+1} n.2 n.2 (cx g ab):=⟨_,rfl⟩
  have HZ:Hid (fa {n.1 with next:=(n.1).next+1} n.2 n.2 (cx g ab)=sz):=by show _=_;rw[bm,ja]
  have hz:=gy;rw[<-bm]at hz;clear bm ja h9;go_wp2_with fail;go_quiet (fail);go_wp2_with fail;refine(dI (hz _)).mono ?_;rintro e w6 ⟨rfl,h6,bU⟩;have k6:=(k9 _).trans bU;have b6:=(b9 _).kept bU (by omega);have oy:=(oz _).kept bU (by omega)
 case' none=>
  rw[jm,show jR none= -1 from rfl]at d4;by_cases hc:n.2>20\/n.2>20\/(n.2≠ -1/\n.2<n.2)
  case' pos=>
   have gy:∀m,bc (((w8.setCell ⟨t.b,1,none⟩ (.int .i64 ((sx.next:Int)+1))).drewN m).setCell ⟨t.b,4,none⟩ (.int .i64 (cx g ab))) t g (fa {sx with next:=sx.next+1} n.2 n.2 (cx g ab)) ax eU iH:=by
    intro m;rw[XF _ hc];exact(h9 m).XY _ qM.1 jm
   have pG:=(fun m=>(k9 m).trans (dr (w:=((w8.setCell ⟨t.b,1,none⟩ (.int .i64 ((sx.next:Int)+1))).drewN m)) (t:=t) 4 (.int .i64 (cx g ab))));have jJ:=(fun m=>(b9 m).dD (p:=⟨t.b,4,none⟩) (show w1.heap.size+1≠t.b by omega) (.int .i64 (cx g ab)));have FH:=(fun m=>(oz m).dD (p:=⟨t.b,4,none⟩) (show w1.heap.size≠t.b by omega) (.int .i64 (cx g ab)));by_cases IK:20<n.2
   case' pos=>
    clear hc;obtain⟨sz,bm⟩:∃sz,sz=fa {sx with next:=sx.next+1} n.2 n.2 (cx g ab):=⟨_,rfl⟩
    have HZ:Hid (fa {n.1 with next:=(n.1).next+1} n.2 n.2 (cx g ab)=sz):=by show _=_;rw[bm,ja]
    have hz:=gy;rw[<-bm]at hz;clear bm ja h9;go_wp2_with fail;go_quiet (fail);go_wp2_with fail;refine(dI (hz _)).mono ?_;rintro e w6 ⟨rfl,h6,bU⟩;have k6:=(pG _).trans bU;have b6:=(jJ _).kept bU (by omega);have oy:=(FH _).kept bU (by omega)
   case' neg=>
    by_cases UV:20<n.2
    case' pos=>
     have gL:decide (20<n.2)=false:=A9 (by omega);clear hc IK;exfalso;simp at gL;omega
    case' neg=>
     have IM:0<=n.2:=(by omega);have PR:n.2<n.2:=(by omega);exfalso;omega
  case' neg=>
   have gy:∀m,bc ((w8.setCell ⟨t.b,1,none⟩ (.int .i64 ((sx.next:Int)+1))).drewN m) t g (fa {sx with next:=sx.next+1} n.2 n.2 (cx g ab)) ax eU iH:=by
    intro m;rw[XE _ hc];exact h9 m
   have gL:decide (20<n.2)=false:=A9 (by omega);have gM:decide (20<n.2)=false:=A9 (by omega);by_cases IM:0<=n.2
   case' pos=>
    have PR:decide (n.2<n.2)=false:=A9 (by omega);clear hc;obtain⟨sz,bm⟩:∃sz,sz=fa {sx with next:=sx.next+1} n.2 n.2 (cx g ab):=⟨_,rfl⟩
    have HZ:Hid (fa {n.1 with next:=(n.1).next+1} n.2 n.2 (cx g ab)=sz):=by show _=_;rw[bm,ja]
    have hz:=gy;rw[<-bm]at hz;clear bm ja h9;go_wp2_with fail;go_quiet (fail);go_wp2_with fail;refine(dI (hz _)).mono ?_;rintro e w6 ⟨rfl,h6,bU⟩;have k6:=(k9 _).trans bU;have b6:=(b9 _).kept bU (by omega);have oy:=(oz _).kept bU (by omega)
   case neg=>exfalso;omega
 all_goals
  cases hq:(aa g sz==63)
  ·go_wp2_with fail
   go_ret
   rw[HZ.out,Sg hq,vB,hq];exact E_ h1 q2 q3 q4 h6 k6 oM (oy.cell 0) (Aa _) b6 (by omega) (by omega) (by omega)
  ·have Qr:=gI (g:=g) (st:=sz) (by rw[Ai.1 hq];omega);have TU:w6.cell? ⟨t.b,1,none⟩=some (.int .i64 sz.next):=h6.ae.cell 1;have f61:=h6.ae.frozen 1;have TV:w6.cell? ⟨w1.heap.size+1,8,none⟩=some (.bool false):=b6.cell 8;have f68:=b6.frozen 8;have h7:=h6.step (by omega);have xk:I (fun i=>i=w1.heap.size+1) (w6.setCell ⟨t.b,1,none⟩ (.int .i64 ((sz.next:Int)+1))) ((w6.setCell ⟨t.b,1,none⟩ (.int .i64 ((sz.next:Int)+1))).setCell ⟨w1.heap.size+1,8,none⟩ (.bool true)):=(I.refl (fun i=>i=w1.heap.size+1) _).setCell (p:=⟨w1.heap.size+1,8,none⟩) (Or.inl rfl) _;have h8:=h7.new h1 xk (fun i hi=>by omega) (fun b hb hx=>by have:=(cA h1.names hb).2;omega);have k8:=(k6.trans (dr (w:=w6) (t:=t) 1 (.int .i64 ((sz.next:Int)+1)))).bY xk (fun i hi he=>by omega);have b8:=(b6.dD (p:=⟨t.b,1,none⟩) (show w1.heap.size+1≠t.b by omega) (.int .i64 ((sz.next:Int)+1))).setCell 8 (.bool true);have rG:=(oy.dD (p:=⟨t.b,1,none⟩) (show w1.heap.size≠t.b by omega) (.int .i64 ((sz.next:Int)+1))).dD (p:=⟨w1.heap.size+1,8,none⟩) (show w1.heap.size≠w1.heap.size+1 by omega) (.bool true);go_wp2_with fail;go_ret;rw[HZ.out,Sh hq,vB,hq];exact E_ h1 q2 q3 q4 h8 k8 oM (rG.cell 0) (Aa _) b8 (by omega) (by omega) (by omega)
theorem aom(hT:bc w t g st ax vn nl)(qb:Calls prog 62 #[.pointer (some ⟨t.b,0,none⟩)] w (gP w t g ax vn (ab,A) RA))
 (HS:(aa g ab==123)=true)(n1:(aa g ab==42)=false)(n2:(aa g ab==43)=false)(n3:(aa g ab==63)=false)
 (rP:(aK g {ab with next:=ab.next+1}).1.au.form=none)(dM:ak kF (aa g (aK g {ab with next:=ab.next+1}).1)=false)(lR:aa g (aK g {ab with next:=ab.next+1}).1=44)(iW:aa g (⟨(aK g {ab with next:=ab.next+1}).1.next+1,(aK g {ab with next:=ab.next+1}).1.au,(aK g {ab with next:=ab.next+1}).1.aC,(aK g {ab with next:=ab.next+1}).1.names⟩:RS)=125):
 Calls prog 36 #[.pointer (some ⟨t.b,0,none⟩)] w (gP w t g ax vn (bT g dG (fa {(⟨(aK g {ab with next:=ab.next+1}).1.next+1,(aK g {ab with next:=ab.next+1}).1.au,(aK g {ab with next:=ab.next+1}).1.aC,(aK g {ab with next:=ab.next+1}).1.names⟩:RS)with next:=((⟨(aK g {ab with next:=ab.next+1}).1.next+1,(aK g {ab with next:=ab.next+1}).1.au,(aK g {ab with next:=ab.next+1}).1.aC,(aK g {ab with next:=ab.next+1}).1.names⟩:RS)).next+1} (aK g {ab with next:=ab.next+1}).2 (-1) (cx g ab)),.node 4 [A] (aK g {ab with next:=ab.next+1}).2 (-1)) (ss RA (aK g {ab with next:=ab.next+1}).2 (-1) (ak dG (aa g (fa {(⟨(aK g {ab with next:=ab.next+1}).1.next+1,(aK g {ab with next:=ab.next+1}).1.au,(aK g {ab with next:=ab.next+1}).1.aC,(aK g {ab with next:=ab.next+1}).1.names⟩:RS)with next:=((⟨(aK g {ab with next:=ab.next+1}).1.next+1,(aK g {ab with next:=ab.next+1}).1.au,(aK g {ab with next:=ab.next+1}).1.aC,(aK g {ab with next:=ab.next+1}).1.names⟩:RS)).next+1} (aK g {ab with next:=ab.next+1}).2 (-1) (cx g ab)))))):=by
 have oM:=hT.gR;have Gz:ab.next<g.rs.length:=gI (by intro e;rw[e]at HS;exact absurd HS (by decide))
 obtain⟨n,hn⟩:∃n,n=aK g {ab with next:=ab.next+1}:=⟨_,rfl⟩
 have yq:0<=n.2/\n.2<=99:=by rw[hn];exact ER g _
 have ic:=Hm g {ab with next:=ab.next+1} (by simp;omega);rw[<-hn]at ic;simp only at ic;rw[<-hn]at rP dM lR iW⊢;have HN:Hid (aK g {ab with next:=ab.next+1}=n):=hn.symm;clear hn;have nc:(aa g n.1==44)=true:=by rw[lR];rfl
 have ajW:n.1.next<g.rs.length:=gI (by rw[lR];omega)
 have nb:(aa g (⟨n.1.next+1,n.1.au,n.1.aC,n.1.names⟩:RS) !=125)=false:=by rw[iW];rfl
 have xc:(⟨n.1.next+1,n.1.au,n.1.aC,n.1.names⟩:RS).next<g.rs.length:=gI (by rw[iW];omega)
 go_in
 go_wp2_with fail
 refine qb.mono ?_;rintro e w1 ⟨b1,eU,iH,rfl,h1,q2,q3,q4⟩;have hl:=h1.len;have oG:=h1.nZ;have ew:=q3.size;have ka:I (fun i=>i=t.b) w1 (og w1 b1):=((I.refl _ _).alloc _).alloc _;have ha:bc (og w1 b1) t g ab ax eU iH:=h1.nil (((I.refl _ _).alloc _).alloc _);have ba:ay (og w1 b1) (w1.heap.size+1) (gJ ec (.slice none 0 0) false false (.slice (some ⟨w1.heap.size,0,none⟩) 1 1) 0 0 (-1) false) 114:=ay.jF _ _ (by rw[cR]);have bk:ay (og w1 b1) w1.heap.size #[.pointer (some ⟨b1,0,none⟩)] 30:=(ay.new w1 _ _).alloc _;go_wp2_with fail;refine(dI ha).mono ?_;rintro e w3 ⟨rfl,h3,aQ⟩;have b3:=ba.kept aQ (by omega);have wu:=bk.kept aQ (by omega);have k3:=ka.trans aQ;have s3:=k3.size;have aF:t.l≠ []:=by intro e;have h0:t.l.length=0:=(by rw[e];rfl);omega
 obtain⟨eu,_,_⟩:=h3.gl.isSome aF;have K9:w3.cell? ⟨t.b,0,none⟩=some (.slice (some ⟨t.bl,0,none⟩) t.l.length t.cap):=by rw[<-eu];exact h3.ae.cell 0
 have Iq:w3.cell? ⟨t.b,1,none⟩=some (.int .i64 ab.next):=h3.ae.cell 1;have f31:=h3.ae.frozen 1;have mU:=(h3.gl.cells ab.next (by omega)).2;rw[<-h3.ps ab.next (by omega)]at mU;change w3.cell? ⟨t.bl,ab.next*3+1,none⟩=some (.int .i64 (cx g ab))at mU;have qM:0<=cx g ab/\cx g ab<=300:=h3.pr ab.next
 have Qo:(ab.next:Int)<(t.l.length:Int):=by omega
 go_wp2_with fail
 go_region
 all_goals go_wp2_with fail
 have h4:=(h3.nil (I.refl aq w3).drew).step (by omega);have k4:I (fun i=>i=t.b) w1 (w3.drew.setCell ⟨t.b,1,none⟩ (.int .i64 ((ab.next:Int)+1))):=(k3.drew).trans (dr (w:=w3.drew) (t:=t) 1 (.int .i64 ((ab.next:Int)+1)));have b4:ay (w3.drew.setCell ⟨t.b,1,none⟩ (.int .i64 ((ab.next:Int)+1))) _ _ _:=(ay.drew b3).dD (p:=⟨t.b,1,none⟩) (show w1.heap.size+1≠t.b by omega) (.int .i64 ((ab.next:Int)+1));have uW:ay (w3.drew.setCell ⟨t.b,1,none⟩ (.int .i64 ((ab.next:Int)+1))) _ _ _:=(ay.drew wu).dD (p:=⟨t.b,1,none⟩) (show w1.heap.size≠t.b by omega) (.int .i64 ((ab.next:Int)+1));have oH:=Ru h4 (by rw[HN.out];exact rP) (by rw[HN.out];exact dM);rw[HN.out]at oH;refine oH.mono ?_;rintro e w5 ⟨rfl,h5,bI⟩;have k5:=k4.trans bI;have b5:=b4.kept bI (by omega);have uX:=uW.kept bI (by omega);clear oH h4 b4 uW h3 b3 wu K9 Iq f31 mU ha ba bk aQ;have Lb:w5.cell? ⟨w1.heap.size+1,6,none⟩=some (.int .i64 0):=b5.cell 6;have f56:=b5.frozen 6;have Lc:w5.cell? ⟨w1.heap.size+1,7,none⟩=some (.int .i64 (-1)):=b5.cell 7;have f57:=b5.frozen 7;have kn:I (fun i=>i=w1.heap.size+1) w5 ((w5.setCell ⟨w1.heap.size+1,6,none⟩ (.int .i64 n.2)).setCell ⟨w1.heap.size+1,7,none⟩ (.int .i64 n.2)):=((I.refl (fun i=>i=w1.heap.size+1) _).setCell (p:=⟨w1.heap.size+1,6,none⟩) (Or.inl rfl) _).setCell (p:=⟨w1.heap.size+1,7,none⟩) (Or.inl rfl) _;have h7:=h5.new h1 kn (fun i hi=>by omega) (fun b hb hx=>by have:=(cA h1.names hb).2;omega);have k7:=k5.bY kn (fun i hi he=>by omega);have b7:=(b5.setCell 6 (.int .i64 n.2)).setCell 7 (.int .i64 n.2);have CD:=uX.kept kn (by omega);go_wp2_with fail;refine(dI h7).mono ?_;rintro e w8 ⟨rfl,h8,ly⟩;have k8:=k7.trans ly;have b8:=b7.kept ly (by omega);have rG:=CD.kept ly (by omega);clear h7 b7 CD kn h5 b5 uX Lb f56 Lc f57 bI k4 k5 k7;have FL:w8.cell? ⟨t.b,1,none⟩=some (.int .i64 n.1.next):=h8.ae.cell 1;have f81:=h8.ae.frozen 1;have Pd:w8.cell? ⟨w1.heap.size+1,7,none⟩=some (.int .i64 n.2):=b8.cell 7;have f87:=b8.frozen 7;have mA:n.1.next<=300:=by omega
 have LH:=h8.step (by omega);have MR:=k8.trans (dr (w:=w8) (t:=t) 1 (.int .i64 ((n.1.next:Int)+1)));have KQ:=b8.dD (p:=⟨t.b,1,none⟩) (show w1.heap.size+1≠t.b by omega) (.int .i64 ((n.1.next:Int)+1));have KX:=rG.dD (p:=⟨t.b,1,none⟩) (show w1.heap.size≠t.b by omega) (.int .i64 ((n.1.next:Int)+1));have zO:I (fun i=>i=w1.heap.size+1) (w8.setCell ⟨t.b,1,none⟩ (.int .i64 ((n.1.next:Int)+1))) ((w8.setCell ⟨t.b,1,none⟩ (.int .i64 ((n.1.next:Int)+1))).setCell ⟨w1.heap.size+1,7,none⟩ (.int .i64 (-1))):=(I.refl (fun i=>i=w1.heap.size+1) _).setCell (p:=⟨w1.heap.size+1,7,none⟩) (Or.inl rfl) _;have LI:=LH.new h1 zO (fun i hi=>by omega) (fun b hb hx=>by have:=(cA h1.names hb).2;omega);have MT:=MR.bY zO (fun i hi he=>by omega);have KR:=KQ.setCell 7 (.int .i64 (-1));have KY:=KX.kept zO (by omega);clear LH KQ KX MR;go_wp2_with fail;refine(dI LI).mono ?_;rintro e w9 ⟨rfl,PD,my⟩;have QV:=MT.trans my;have Im:=KR.kept my (by omega);have O_:=KY.kept my (by omega);clear LI KR KY MT my h8 b8 rG k8 FL f81 Pd f87 zO;obtain⟨sx,ja⟩:∃sx,sx=(⟨n.1.next+1,n.1.au,n.1.aC,n.1.names⟩:RS):=⟨_,rfl⟩
 have ht:bc w9 t g sx ax eU iH:=by rw[ja];exact PD
 have acC:sx.next<g.rs.length:=by rw[ja];exact xc
 have c1:w9.cell? ⟨t.b,1,none⟩=some (.int .i64 sx.next):=ht.ae.cell 1;have f1:=ht.ae.frozen 1;have h9:=fun m=>(ht.step (by omega)).nil ((I.refl aq _).drewN m)
 have k9:=fun m=>(QV.trans (dr (w:=w9) (t:=t) 1 (.int .i64 ((sx.next:Int)+1)))).drewN m
 have b9:=fun m=>ay.drewN (Im.dD (p:=⟨t.b,1,none⟩) (show w1.heap.size+1≠t.b by omega) (.int .i64 ((sx.next:Int)+1))) m
 have oz:=fun m=>ay.drewN (O_.dD (p:=⟨t.b,1,none⟩) (show w1.heap.size≠t.b by omega) (.int .i64 ((sx.next:Int)+1))) m
 have d4:w9.cell? ⟨t.b,4,none⟩=some (.int .i64 (jR sx.au.rep)):=ht.ae.cell 4;have g4:=ht.ae.frozen 4;have d6:w9.cell? ⟨w1.heap.size+1,6,none⟩=some (.int .i64 n.2):=Im.cell 6;have d7:w9.cell? ⟨w1.heap.size+1,7,none⟩=some (.int .i64 (-1)):=Im.cell 7;have lX:sx.next<=300:=by omega
 have hLr:0<=n.2/\n.2<=99:=yq;have hMr: -1<=(-1)/\(-1)<=99:=(by omega)
 cases jm:sx.au.rep
 case' some pq=>
  have pB:decide (pq<0)=false:=by have:=ht.mj.1 pq jm;exact A9 (by omega)
  rw[jm,show jR (some pq)=pq from rfl]at d4
  have gy:∀m,bc ((w9.setCell ⟨t.b,1,none⟩ (.int .i64 ((sx.next:Int)+1))).drewN m) t g (fa {sx with next:=sx.next+1} n.2 (-1) (cx g ab)) ax eU iH:=by
   intro m;unfold fa;split
   ·exact(h9 m).Wy _ (by simp[jm])
   ·exact h9 m
  obtain⟨sz,bm⟩:∃sz,sz=fa {sx with next:=sx.next+1} n.2 (-1) (cx g ab):=⟨_,rfl⟩
  have HZ:Hid (fa {(⟨n.1.next+1,n.1.au,n.1.aC,n.1.names⟩:RS)with next:=((⟨n.1.next+1,n.1.au,n.1.aC,n.1.names⟩:RS)).next+1} n.2 (-1) (cx g ab)=sz):=by show _=_;rw[bm,ja]
  have hz:=gy;rw[<-bm]at hz;clear bm ja h9;go_wp2_with fail;go_quiet (fail);go_wp2_with fail;refine(dI (hz _)).mono ?_;rintro e w6 ⟨rfl,h6,bU⟩;have k6:=(k9 _).trans bU;have b6:=(b9 _).kept bU (by omega);have oy:=(oz _).kept bU (by omega)
 case' none=>
  rw[jm,show jR none= -1 from rfl]at d4;by_cases hc:n.2>20\/(-1)>20\/((-1)≠ -1/\(-1)<n.2)
  case' pos=>
   have gy:∀m,bc (((w9.setCell ⟨t.b,1,none⟩ (.int .i64 ((sx.next:Int)+1))).drewN m).setCell ⟨t.b,4,none⟩ (.int .i64 (cx g ab))) t g (fa {sx with next:=sx.next+1} n.2 (-1) (cx g ab)) ax eU iH:=by
    intro m;rw[XF _ hc];exact(h9 m).XY _ qM.1 jm
   have pG:=(fun m=>(k9 m).trans (dr (w:=((w9.setCell ⟨t.b,1,none⟩ (.int .i64 ((sx.next:Int)+1))).drewN m)) (t:=t) 4 (.int .i64 (cx g ab))));have jJ:=(fun m=>(b9 m).dD (p:=⟨t.b,4,none⟩) (show w1.heap.size+1≠t.b by omega) (.int .i64 (cx g ab)));have FH:=(fun m=>(oz m).dD (p:=⟨t.b,4,none⟩) (show w1.heap.size≠t.b by omega) (.int .i64 (cx g ab)));by_cases IK:20<n.2
   case' pos=>
    clear hc;obtain⟨sz,bm⟩:∃sz,sz=fa {sx with next:=sx.next+1} n.2 (-1) (cx g ab):=⟨_,rfl⟩
    have HZ:Hid (fa {(⟨n.1.next+1,n.1.au,n.1.aC,n.1.names⟩:RS)with next:=((⟨n.1.next+1,n.1.au,n.1.aC,n.1.names⟩:RS)).next+1} n.2 (-1) (cx g ab)=sz):=by show _=_;rw[bm,ja]
    have hz:=gy;rw[<-bm]at hz;clear bm ja h9;go_wp2_with fail;go_quiet (fail);go_wp2_with fail;refine(dI (hz _)).mono ?_;rintro e w6 ⟨rfl,h6,bU⟩;have k6:=(pG _).trans bU;have b6:=(jJ _).kept bU (by omega);have oy:=(FH _).kept bU (by omega)
   case' neg=>
    by_cases UV:20<(-1)
    case' pos=>
     have gL:decide (20<n.2)=false:=A9 (by omega);clear hc IK;exfalso;simp at gL;omega
    case' neg=>
     have IM:0<=(-1):=(by omega);have PR:(-1)<n.2:=(by omega);exfalso;omega
  case' neg=>
   have gy:∀m,bc ((w9.setCell ⟨t.b,1,none⟩ (.int .i64 ((sx.next:Int)+1))).drewN m) t g (fa {sx with next:=sx.next+1} n.2 (-1) (cx g ab)) ax eU iH:=by
    intro m;rw[XE _ hc];exact h9 m
   have gL:decide (20<n.2)=false:=A9 (by omega);have gM:decide (20<(-1))=false:=A9 (by omega);by_cases IM:0<=(-1)
   case pos=>exfalso;omega
   case' neg=>
    have gM0:decide (0<=(-1))=false:=A9 (by omega);clear hc IM;obtain⟨sz,bm⟩:∃sz,sz=fa {sx with next:=sx.next+1} n.2 (-1) (cx g ab):=⟨_,rfl⟩
    have HZ:Hid (fa {(⟨n.1.next+1,n.1.au,n.1.aC,n.1.names⟩:RS)with next:=((⟨n.1.next+1,n.1.au,n.1.aC,n.1.names⟩:RS)).next+1} n.2 (-1) (cx g ab)=sz):=by show _=_;rw[bm,ja]
    have hz:=gy;rw[<-bm]at hz;clear bm ja h9;go_wp2_with fail;go_quiet (fail);go_wp2_with fail;refine(dI (hz _)).mono ?_;rintro e w6 ⟨rfl,h6,bU⟩;have k6:=(k9 _).trans bU;have b6:=(b9 _).kept bU (by omega);have oy:=(oz _).kept bU (by omega)
 all_goals
  cases hq:(aa g sz==63)
  ·go_wp2_with fail
   go_ret
   rw[HZ.out,Sg hq,vB,hq];exact E_ h1 q2 q3 q4 h6 k6 oM (oy.cell 0) (Aa _) b6 (by omega) (by omega) (by omega)
  ·have Qr:=gI (g:=g) (st:=sz) (by rw[Ai.1 hq];omega);have TU:w6.cell? ⟨t.b,1,none⟩=some (.int .i64 sz.next):=h6.ae.cell 1;have f61:=h6.ae.frozen 1;have TV:w6.cell? ⟨w1.heap.size+1,8,none⟩=some (.bool false):=b6.cell 8;have f68:=b6.frozen 8;have h7:=h6.step (by omega);have xk:I (fun i=>i=w1.heap.size+1) (w6.setCell ⟨t.b,1,none⟩ (.int .i64 ((sz.next:Int)+1))) ((w6.setCell ⟨t.b,1,none⟩ (.int .i64 ((sz.next:Int)+1))).setCell ⟨w1.heap.size+1,8,none⟩ (.bool true)):=(I.refl (fun i=>i=w1.heap.size+1) _).setCell (p:=⟨w1.heap.size+1,8,none⟩) (Or.inl rfl) _;have h8:=h7.new h1 xk (fun i hi=>by omega) (fun b hb hx=>by have:=(cA h1.names hb).2;omega);have k8:=(k6.trans (dr (w:=w6) (t:=t) 1 (.int .i64 ((sz.next:Int)+1)))).bY xk (fun i hi he=>by omega);have b8:=(b6.dD (p:=⟨t.b,1,none⟩) (show w1.heap.size+1≠t.b by omega) (.int .i64 ((sz.next:Int)+1))).setCell 8 (.bool true);have rG:=(oy.dD (p:=⟨t.b,1,none⟩) (show w1.heap.size≠t.b by omega) (.int .i64 ((sz.next:Int)+1))).dD (p:=⟨w1.heap.size+1,8,none⟩) (show w1.heap.size≠w1.heap.size+1 by omega) (.bool true);go_wp2_with fail;go_ret;rw[HZ.out,Sh hq,vB,hq];exact E_ h1 q2 q3 q4 h8 k8 oM (rG.cell 0) (Aa _) b8 (by omega) (by omega) (by omega)
theorem aoy(hT:bc w t g st ax vn nl)(qb:Calls prog 62 #[.pointer (some ⟨t.b,0,none⟩)] w (gP w t g ax vn (ab,A) RA))
 (HS:(aa g ab==123)=true)(n1:(aa g ab==42)=false)(n2:(aa g ab==43)=false)(n3:(aa g ab==63)=false)
 (rP:(aK g {ab with next:=ab.next+1}).1.au.form=none)(dM:ak kF (aa g (aK g {ab with next:=ab.next+1}).1)=false)(lR:aa g (aK g {ab with next:=ab.next+1}).1=44)(iW:aa g (⟨(aK g {ab with next:=ab.next+1}).1.next+1,(aK g {ab with next:=ab.next+1}).1.au,(aK g {ab with next:=ab.next+1}).1.aC,(aK g {ab with next:=ab.next+1}).1.names⟩:RS)≠125)(Vj:(aK g (⟨(aK g {ab with next:=ab.next+1}).1.next+1,(aK g {ab with next:=ab.next+1}).1.au,(aK g {ab with next:=ab.next+1}).1.aC,(aK g {ab with next:=ab.next+1}).1.names⟩:RS)).1.au.form=none)(VH:ak kF (aa g (aK g (⟨(aK g {ab with next:=ab.next+1}).1.next+1,(aK g {ab with next:=ab.next+1}).1.au,(aK g {ab with next:=ab.next+1}).1.aC,(aK g {ab with next:=ab.next+1}).1.names⟩:RS)).1)=false)(wL:aa g (aK g (⟨(aK g {ab with next:=ab.next+1}).1.next+1,(aK g {ab with next:=ab.next+1}).1.au,(aK g {ab with next:=ab.next+1}).1.aC,(aK g {ab with next:=ab.next+1}).1.names⟩:RS)).1=125):
 Calls prog 36 #[.pointer (some ⟨t.b,0,none⟩)] w (gP w t g ax vn (bT g dG (fa {(aK g (⟨(aK g {ab with next:=ab.next+1}).1.next+1,(aK g {ab with next:=ab.next+1}).1.au,(aK g {ab with next:=ab.next+1}).1.aC,(aK g {ab with next:=ab.next+1}).1.names⟩:RS)).1 with next:=((aK g (⟨(aK g {ab with next:=ab.next+1}).1.next+1,(aK g {ab with next:=ab.next+1}).1.au,(aK g {ab with next:=ab.next+1}).1.aC,(aK g {ab with next:=ab.next+1}).1.names⟩:RS)).1).next+1} (aK g {ab with next:=ab.next+1}).2 (aK g (⟨(aK g {ab with next:=ab.next+1}).1.next+1,(aK g {ab with next:=ab.next+1}).1.au,(aK g {ab with next:=ab.next+1}).1.aC,(aK g {ab with next:=ab.next+1}).1.names⟩:RS)).2 (cx g ab)),.node 4 [A] (aK g {ab with next:=ab.next+1}).2 (aK g (⟨(aK g {ab with next:=ab.next+1}).1.next+1,(aK g {ab with next:=ab.next+1}).1.au,(aK g {ab with next:=ab.next+1}).1.aC,(aK g {ab with next:=ab.next+1}).1.names⟩:RS)).2) (ss RA (aK g {ab with next:=ab.next+1}).2 (aK g (⟨(aK g {ab with next:=ab.next+1}).1.next+1,(aK g {ab with next:=ab.next+1}).1.au,(aK g {ab with next:=ab.next+1}).1.aC,(aK g {ab with next:=ab.next+1}).1.names⟩:RS)).2 (ak dG (aa g (fa {(aK g (⟨(aK g {ab with next:=ab.next+1}).1.next+1,(aK g {ab with next:=ab.next+1}).1.au,(aK g {ab with next:=ab.next+1}).1.aC,(aK g {ab with next:=ab.next+1}).1.names⟩:RS)).1 with next:=((aK g (⟨(aK g {ab with next:=ab.next+1}).1.next+1,(aK g {ab with next:=ab.next+1}).1.au,(aK g {ab with next:=ab.next+1}).1.aC,(aK g {ab with next:=ab.next+1}).1.names⟩:RS)).1).next+1} (aK g {ab with next:=ab.next+1}).2 (aK g (⟨(aK g {ab with next:=ab.next+1}).1.next+1,(aK g {ab with next:=ab.next+1}).1.au,(aK g {ab with next:=ab.next+1}).1.aC,(aK g {ab with next:=ab.next+1}).1.names⟩:RS)).2 (cx g ab)))))):=by
 have oM:=hT.gR;have Gz:ab.next<g.rs.length:=gI (by intro e;rw[e]at HS;exact absurd HS (by decide))
 obtain⟨n,hn⟩:∃n,n=aK g {ab with next:=ab.next+1}:=⟨_,rfl⟩
 have yq:0<=n.2/\n.2<=99:=by rw[hn];exact ER g _
 have ic:=Hm g {ab with next:=ab.next+1} (by simp;omega);rw[<-hn]at ic;simp only at ic;rw[<-hn]at rP dM lR iW Vj VH wL⊢;have HN:Hid (aK g {ab with next:=ab.next+1}=n):=hn.symm;clear hn;have nc:(aa g n.1==44)=true:=by rw[lR];rfl
 have ajW:n.1.next<g.rs.length:=gI (by rw[lR];omega)
 have nb:(aa g (⟨n.1.next+1,n.1.au,n.1.aC,n.1.names⟩:RS) !=125)=true:=by simp[iW]
 obtain⟨n',nU⟩:∃n',n'=aK g (⟨n.1.next+1,n.1.au,n.1.aC,n.1.names⟩:RS):=⟨_,rfl⟩
 have kC:0<=n'.2/\n'.2<=99:=by rw[nU];exact ER g _
 rw[<-nU]at Vj VH wL⊢;have S_:Hid (aK g (⟨n.1.next+1,n.1.au,n.1.aC,n.1.names⟩:RS)=n'):=nU.symm;clear nU;have xc:n'.1.next<g.rs.length:=gI (by rw[wL];omega)
 go_in
 go_wp2_with fail
 refine qb.mono ?_;rintro e w1 ⟨b1,eU,iH,rfl,h1,q2,q3,q4⟩;have hl:=h1.len;have oG:=h1.nZ;have ew:=q3.size;have ka:I (fun i=>i=t.b) w1 (og w1 b1):=((I.refl _ _).alloc _).alloc _;have ha:bc (og w1 b1) t g ab ax eU iH:=h1.nil (((I.refl _ _).alloc _).alloc _);have ba:ay (og w1 b1) (w1.heap.size+1) (gJ ec (.slice none 0 0) false false (.slice (some ⟨w1.heap.size,0,none⟩) 1 1) 0 0 (-1) false) 114:=ay.jF _ _ (by rw[cR]);have bk:ay (og w1 b1) w1.heap.size #[.pointer (some ⟨b1,0,none⟩)] 30:=(ay.new w1 _ _).alloc _;go_wp2_with fail;refine(dI ha).mono ?_;rintro e w3 ⟨rfl,h3,aQ⟩;have b3:=ba.kept aQ (by omega);have wu:=bk.kept aQ (by omega);have k3:=ka.trans aQ;have s3:=k3.size;have aF:t.l≠ []:=by intro e;have h0:t.l.length=0:=(by rw[e];rfl);omega
 obtain⟨eu,_,_⟩:=h3.gl.isSome aF;have K9:w3.cell? ⟨t.b,0,none⟩=some (.slice (some ⟨t.bl,0,none⟩) t.l.length t.cap):=by rw[<-eu];exact h3.ae.cell 0
 have Iq:w3.cell? ⟨t.b,1,none⟩=some (.int .i64 ab.next):=h3.ae.cell 1;have f31:=h3.ae.frozen 1;have mU:=(h3.gl.cells ab.next (by omega)).2;rw[<-h3.ps ab.next (by omega)]at mU;change w3.cell? ⟨t.bl,ab.next*3+1,none⟩=some (.int .i64 (cx g ab))at mU;have qM:0<=cx g ab/\cx g ab<=300:=h3.pr ab.next
 have Qo:(ab.next:Int)<(t.l.length:Int):=by omega
 go_wp2_with fail
 go_region
 all_goals go_wp2_with fail
 have h4:=(h3.nil (I.refl aq w3).drew).step (by omega);have k4:I (fun i=>i=t.b) w1 (w3.drew.setCell ⟨t.b,1,none⟩ (.int .i64 ((ab.next:Int)+1))):=(k3.drew).trans (dr (w:=w3.drew) (t:=t) 1 (.int .i64 ((ab.next:Int)+1)));have b4:ay (w3.drew.setCell ⟨t.b,1,none⟩ (.int .i64 ((ab.next:Int)+1))) _ _ _:=(ay.drew b3).dD (p:=⟨t.b,1,none⟩) (show w1.heap.size+1≠t.b by omega) (.int .i64 ((ab.next:Int)+1));have uW:ay (w3.drew.setCell ⟨t.b,1,none⟩ (.int .i64 ((ab.next:Int)+1))) _ _ _:=(ay.drew wu).dD (p:=⟨t.b,1,none⟩) (show w1.heap.size≠t.b by omega) (.int .i64 ((ab.next:Int)+1));have oH:=Ru h4 (by rw[HN.out];exact rP) (by rw[HN.out];exact dM);rw[HN.out]at oH;refine oH.mono ?_;rintro e w5 ⟨rfl,h5,bI⟩;have k5:=k4.trans bI;have b5:=b4.kept bI (by omega);have uX:=uW.kept bI (by omega);clear oH h4 b4 uW h3 b3 wu K9 Iq f31 mU ha ba bk aQ;have Lb:w5.cell? ⟨w1.heap.size+1,6,none⟩=some (.int .i64 0):=b5.cell 6;have f56:=b5.frozen 6;have Lc:w5.cell? ⟨w1.heap.size+1,7,none⟩=some (.int .i64 (-1)):=b5.cell 7;have f57:=b5.frozen 7;have kn:I (fun i=>i=w1.heap.size+1) w5 ((w5.setCell ⟨w1.heap.size+1,6,none⟩ (.int .i64 n.2)).setCell ⟨w1.heap.size+1,7,none⟩ (.int .i64 n.2)):=((I.refl (fun i=>i=w1.heap.size+1) _).setCell (p:=⟨w1.heap.size+1,6,none⟩) (Or.inl rfl) _).setCell (p:=⟨w1.heap.size+1,7,none⟩) (Or.inl rfl) _;have h7:=h5.new h1 kn (fun i hi=>by omega) (fun b hb hx=>by have:=(cA h1.names hb).2;omega);have k7:=k5.bY kn (fun i hi he=>by omega);have b7:=(b5.setCell 6 (.int .i64 n.2)).setCell 7 (.int .i64 n.2);have CD:=uX.kept kn (by omega);go_wp2_with fail;refine(dI h7).mono ?_;rintro e w8 ⟨rfl,h8,ly⟩;have k8:=k7.trans ly;have b8:=b7.kept ly (by omega);have rG:=CD.kept ly (by omega);clear h7 b7 CD kn h5 b5 uX Lb f56 Lc f57 bI k4 k5 k7;have FL:w8.cell? ⟨t.b,1,none⟩=some (.int .i64 n.1.next):=h8.ae.cell 1;have f81:=h8.ae.frozen 1;have Pd:w8.cell? ⟨w1.heap.size+1,7,none⟩=some (.int .i64 n.2):=b8.cell 7;have f87:=b8.frozen 7;have mA:n.1.next<=300:=by omega
 have LH:=h8.step (by omega);have MR:=k8.trans (dr (w:=w8) (t:=t) 1 (.int .i64 ((n.1.next:Int)+1)));have KQ:=b8.dD (p:=⟨t.b,1,none⟩) (show w1.heap.size+1≠t.b by omega) (.int .i64 ((n.1.next:Int)+1));have KX:=rG.dD (p:=⟨t.b,1,none⟩) (show w1.heap.size≠t.b by omega) (.int .i64 ((n.1.next:Int)+1));have zO:I (fun i=>i=w1.heap.size+1) (w8.setCell ⟨t.b,1,none⟩ (.int .i64 ((n.1.next:Int)+1))) ((w8.setCell ⟨t.b,1,none⟩ (.int .i64 ((n.1.next:Int)+1))).setCell ⟨w1.heap.size+1,7,none⟩ (.int .i64 (-1))):=(I.refl (fun i=>i=w1.heap.size+1) _).setCell (p:=⟨w1.heap.size+1,7,none⟩) (Or.inl rfl) _;have LI:=LH.new h1 zO (fun i hi=>by omega) (fun b hb hx=>by have:=(cA h1.names hb).2;omega);have MT:=MR.bY zO (fun i hi he=>by omega);have KR:=KQ.setCell 7 (.int .i64 (-1));have KY:=KX.kept zO (by omega);clear LH KQ KX MR;go_wp2_with fail;refine(dI LI).mono ?_;rintro e w9 ⟨rfl,PD,my⟩;have QV:=MT.trans my;have Im:=KR.kept my (by omega);have O_:=KY.kept my (by omega);clear LI KR KY MT my h8 b8 rG k8 FL f81 Pd f87 zO;go_wp2_with fail;have VL:=Ru PD (by rw[S_.out];exact Vj) (by rw[S_.out];exact VH);rw[S_.out]at VL;refine VL.mono ?_;rintro e gZ ⟨rfl,Pz,Gv⟩;have ac0:=QV.trans Gv;have O0:=Im.kept Gv (by omega);have aai:=O_.kept Gv (by omega);have apH:gZ.cell? ⟨w1.heap.size+1,7,none⟩=some (.int .i64 (-1)):=O0.cell 7;have f107:=O0.frozen 7;have QY:I (fun i=>i=w1.heap.size+1) gZ (gZ.setCell ⟨w1.heap.size+1,7,none⟩ (.int .i64 n'.2)):=(I.refl (fun i=>i=w1.heap.size+1) _).setCell (p:=⟨w1.heap.size+1,7,none⟩) (Or.inl rfl) _;have vd:=Pz.new h1 QY (fun i hi=>by omega) (fun b hb hx=>by have:=(cA h1.names hb).2;omega);have MO:=ac0.bY QY (fun i hi he=>by omega);have rB:=O0.setCell 7 (.int .i64 n'.2);have agF:=aai.kept QY (by omega);have apG:gZ.cell? ⟨t.b,1,none⟩=some (.int .i64 n'.1.next):=Pz.ae.cell 1;have f101:=Pz.ae.frozen 1;clear VL PD Im O_ QV Gv Pz ac0 O0 aai QY;obtain⟨sx,ja⟩:∃sx,sx=n'.1:=⟨_,rfl⟩
 have ht:bc (gZ.setCell ⟨w1.heap.size+1,7,none⟩ (.int .i64 n'.2)) t g sx ax eU iH:=by rw[ja];exact vd
 have acC:sx.next<g.rs.length:=by rw[ja];exact xc
 have c1:(gZ.setCell ⟨w1.heap.size+1,7,none⟩ (.int .i64 n'.2)).cell? ⟨t.b,1,none⟩=some (.int .i64 sx.next):=ht.ae.cell 1;have f1:(gZ.setCell ⟨w1.heap.size+1,7,none⟩ (.int .i64 n'.2)).frozen? ⟨t.b,1,none⟩=false:=ht.ae.frozen 1;have h9:=fun m=>(ht.step (by omega)).nil ((I.refl aq _).drewN m)
 have k9:=fun m=>(MO.trans (dr (w:=(gZ.setCell ⟨w1.heap.size+1,7,none⟩ (.int .i64 n'.2))) (t:=t) 1 (.int .i64 ((sx.next:Int)+1)))).drewN m
 have b9:=fun m=>ay.drewN (rB.dD (p:=⟨t.b,1,none⟩) (show w1.heap.size+1≠t.b by omega) (.int .i64 ((sx.next:Int)+1))) m
 have oz:=fun m=>ay.drewN (agF.dD (p:=⟨t.b,1,none⟩) (show w1.heap.size≠t.b by omega) (.int .i64 ((sx.next:Int)+1))) m
 have d4:(gZ.setCell ⟨w1.heap.size+1,7,none⟩ (.int .i64 n'.2)).cell? ⟨t.b,4,none⟩=some (.int .i64 (jR sx.au.rep)):=ht.ae.cell 4;have g4:(gZ.setCell ⟨w1.heap.size+1,7,none⟩ (.int .i64 n'.2)).frozen? ⟨t.b,4,none⟩=false:=ht.ae.frozen 4;have d6:(gZ.setCell ⟨w1.heap.size+1,7,none⟩ (.int .i64 n'.2)).cell? ⟨w1.heap.size+1,6,none⟩=some (.int .i64 n.2):=rB.cell 6;have d7:(gZ.setCell ⟨w1.heap.size+1,7,none⟩ (.int .i64 n'.2)).cell? ⟨w1.heap.size+1,7,none⟩=some (.int .i64 n'.2):=rB.cell 7;have lX:sx.next<=300:=by omega
 have hLr:0<=n.2/\n.2<=99:=yq;have hMr: -1<=n'.2/\n'.2<=99:=(by omega)
 cases jm:sx.au.rep
 case' some pq=>
  have pB:decide (pq<0)=false:=by have:=ht.mj.1 pq jm;exact A9 (by omega)
  rw[jm,show jR (some pq)=pq from rfl]at d4
  have gy:∀m,bc (((gZ.setCell ⟨w1.heap.size+1,7,none⟩ (.int .i64 n'.2)).setCell ⟨t.b,1,none⟩ (.int .i64 ((sx.next:Int)+1))).drewN m) t g (fa {sx with next:=sx.next+1} n.2 n'.2 (cx g ab)) ax eU iH:=by
   intro m;unfold fa;split
   ·exact(h9 m).Wy _ (by simp[jm])
   ·exact h9 m
  obtain⟨sz,bm⟩:∃sz,sz=fa {sx with next:=sx.next+1} n.2 n'.2 (cx g ab):=⟨_,rfl⟩
  have HZ:Hid (fa {n'.1 with next:=(n'.1).next+1} n.2 n'.2 (cx g ab)=sz):=by show _=_;rw[bm,ja]
  have hz:=gy;rw[<-bm]at hz;clear bm ja h9;go_wp2_with fail;go_quiet (fail);go_wp2_with fail;refine(dI (hz _)).mono ?_;rintro e w6 ⟨rfl,h6,bU⟩;have k6:=(k9 _).trans bU;have b6:=(b9 _).kept bU (by omega);have oy:=(oz _).kept bU (by omega)
 case' none=>
  rw[jm,show jR none= -1 from rfl]at d4;by_cases hc:n.2>20\/n'.2>20\/(n'.2≠ -1/\n'.2<n.2)
  case' neg=>
   have gy:∀m,bc (((gZ.setCell ⟨w1.heap.size+1,7,none⟩ (.int .i64 n'.2)).setCell ⟨t.b,1,none⟩ (.int .i64 ((sx.next:Int)+1))).drewN m) t g (fa {sx with next:=sx.next+1} n.2 n'.2 (cx g ab)) ax eU iH:=by
    intro m;rw[XE _ hc];exact h9 m
   have gL:decide (20<n.2)=false:=A9 (by omega);have gM:decide (20<n'.2)=false:=A9 (by omega);by_cases IM:0<=n'.2
   case' pos=>
    have PR:decide (n'.2<n.2)=false:=A9 (by omega);clear hc;obtain⟨sz,bm⟩:∃sz,sz=fa {sx with next:=sx.next+1} n.2 n'.2 (cx g ab):=⟨_,rfl⟩
    have HZ:Hid (fa {n'.1 with next:=(n'.1).next+1} n.2 n'.2 (cx g ab)=sz):=by show _=_;rw[bm,ja]
    have hz:=gy;rw[<-bm]at hz;clear bm ja h9;go_wp2_with fail;go_quiet (fail);go_wp2_with fail;refine(dI (hz _)).mono ?_;rintro e w6 ⟨rfl,h6,bU⟩;have k6:=(k9 _).trans bU;have b6:=(b9 _).kept bU (by omega);have oy:=(oz _).kept bU (by omega)
   case neg=>exfalso;omega
  case' pos=>
   have gy:∀m,bc ((((gZ.setCell ⟨w1.heap.size+1,7,none⟩ (.int .i64 n'.2)).setCell ⟨t.b,1,none⟩ (.int .i64 ((sx.next:Int)+1))).drewN m).setCell ⟨t.b,4,none⟩ (.int .i64 (cx g ab))) t g (fa {sx with next:=sx.next+1} n.2 n'.2 (cx g ab)) ax eU iH:=by
    intro m;rw[XF _ hc];exact(h9 m).XY _ qM.1 jm
   have pG:=(fun m=>(k9 m).trans (dr (w:=(((gZ.setCell ⟨w1.heap.size+1,7,none⟩ (.int .i64 n'.2)).setCell ⟨t.b,1,none⟩ (.int .i64 ((sx.next:Int)+1))).drewN m)) (t:=t) 4 (.int .i64 (cx g ab))));have jJ:=(fun m=>(b9 m).dD (p:=⟨t.b,4,none⟩) (show w1.heap.size+1≠t.b by omega) (.int .i64 (cx g ab)));have FH:=(fun m=>(oz m).dD (p:=⟨t.b,4,none⟩) (show w1.heap.size≠t.b by omega) (.int .i64 (cx g ab)));by_cases IK:20<n.2
   case' pos=>
    clear hc;obtain⟨sz,bm⟩:∃sz,sz=fa {sx with next:=sx.next+1} n.2 n'.2 (cx g ab):=⟨_,rfl⟩
    have HZ:Hid (fa {n'.1 with next:=(n'.1).next+1} n.2 n'.2 (cx g ab)=sz):=by show _=_;rw[bm,ja]
    have hz:=gy;rw[<-bm]at hz;clear bm ja h9;go_wp2_with fail;go_quiet (fail);go_wp2_with fail;refine(dI (hz _)).mono ?_;rintro e w6 ⟨rfl,h6,bU⟩;have k6:=(pG _).trans bU;have b6:=(jJ _).kept bU (by omega);have oy:=(FH _).kept bU (by omega)
   case' neg=>
    by_cases UV:20<n'.2
    case' pos=>
     have gL:decide (20<n.2)=false:=A9 (by omega);clear hc IK;obtain⟨sz,bm⟩:∃sz,sz=fa {sx with next:=sx.next+1} n.2 n'.2 (cx g ab):=⟨_,rfl⟩
     have HZ:Hid (fa {n'.1 with next:=(n'.1).next+1} n.2 n'.2 (cx g ab)=sz):=by show _=_;rw[bm,ja]
     have hz:=gy;rw[<-bm]at hz;clear bm ja h9;go_wp2_with fail;go_quiet (fail);go_wp2_with fail;refine(dI (hz _)).mono ?_;rintro e w6 ⟨rfl,h6,bU⟩;have k6:=(pG _).trans bU;have b6:=(jJ _).kept bU (by omega);have oy:=(FH _).kept bU (by omega)
    case' neg=>
     have IM:0<=n'.2:=(by omega);have PR:n'.2<n.2:=(by omega);have gL:decide (20<n.2)=false:=A9 (by omega);have gM:decide (20<n'.2)=false:=A9 (by omega);clear hc IK UV;obtain⟨sz,bm⟩:∃sz,sz=fa {sx with next:=sx.next+1} n.2 n'.2 (cx g ab):=⟨_,rfl⟩
     have HZ:Hid (fa {n'.1 with next:=(n'.1).next+1} n.2 n'.2 (cx g ab)=sz):=by show _=_;rw[bm,ja]
     have hz:=gy;rw[<-bm]at hz;clear bm ja h9;go_wp2_with fail;go_quiet (fail);go_wp2_with fail;refine(dI (hz _)).mono ?_;rintro e w6 ⟨rfl,h6,bU⟩;have k6:=(pG _).trans bU;have b6:=(jJ _).kept bU (by omega);have oy:=(FH _).kept bU (by omega)
 all_goals
  cases hq:(aa g sz==63)
  ·go_wp2_with fail
   go_ret
   rw[HZ.out,Sg hq,vB,hq];exact E_ h1 q2 q3 q4 h6 k6 oM (oy.cell 0) (Aa _) b6 (by omega) (by omega) (by omega)
  ·have Qr:=gI (g:=g) (st:=sz) (by rw[Ai.1 hq];omega);have TU:w6.cell? ⟨t.b,1,none⟩=some (.int .i64 sz.next):=h6.ae.cell 1;have f61:=h6.ae.frozen 1;have TV:w6.cell? ⟨w1.heap.size+1,8,none⟩=some (.bool false):=b6.cell 8;have f68:=b6.frozen 8;have h7:=h6.step (by omega);have xk:I (fun i=>i=w1.heap.size+1) (w6.setCell ⟨t.b,1,none⟩ (.int .i64 ((sz.next:Int)+1))) ((w6.setCell ⟨t.b,1,none⟩ (.int .i64 ((sz.next:Int)+1))).setCell ⟨w1.heap.size+1,8,none⟩ (.bool true)):=(I.refl (fun i=>i=w1.heap.size+1) _).setCell (p:=⟨w1.heap.size+1,8,none⟩) (Or.inl rfl) _;have h8:=h7.new h1 xk (fun i hi=>by omega) (fun b hb hx=>by have:=(cA h1.names hb).2;omega);have k8:=(k6.trans (dr (w:=w6) (t:=t) 1 (.int .i64 ((sz.next:Int)+1)))).bY xk (fun i hi he=>by omega);have b8:=(b6.dD (p:=⟨t.b,1,none⟩) (show w1.heap.size+1≠t.b by omega) (.int .i64 ((sz.next:Int)+1))).setCell 8 (.bool true);have rG:=(oy.dD (p:=⟨t.b,1,none⟩) (show w1.heap.size≠t.b by omega) (.int .i64 ((sz.next:Int)+1))).dD (p:=⟨w1.heap.size+1,8,none⟩) (show w1.heap.size≠w1.heap.size+1 by omega) (.bool true);go_wp2_with fail;go_ret;rw[HZ.out,Sh hq,vB,hq];exact E_ h1 q2 q3 q4 h8 k8 oM (rG.cell 0) (Aa _) b8 (by omega) (by omega) (by omega)
end Go.Proofs.YtmbpfhlnifdhgaaGreatDoor
